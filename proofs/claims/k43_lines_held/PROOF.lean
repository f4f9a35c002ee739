import PyProof.Rows.All
import Wide.All
import OpenK.AllK
import Wide.FinOn
import Lean
import PyProof.EqAt
import PyProof.EqKinds
import PyProof.TupleCall
import OpenK.KOwn
import PySem.Str
import KE.LcSums
import PyProof.WalksEnum
import PyProof.InstEq
import PyProof.Rows.EnumRows
import PyProof.Rows.SetFrom
import PyProof.SetRoads
import PySem.Challenge.RW_rowmill_k43_lines_held
namespace PySem.W.Fast
theorem tw2404616935438530709:True:=⟨⟩
theorem tw13345975863937724416:True:=⟨⟩
theorem tw10220723296129234976:True:=⟨⟩
theorem tw10374846584582343744:True:=⟨⟩
theorem tw17777641148847747296:True:=⟨⟩
theorem tw14388119026761613632:True:=⟨⟩
theorem tw18369018394016273984:True:=⟨⟩
theorem tw7116345250553683520:True:=⟨⟩
theorem tw16764538805001085632:True:=⟨⟩
theorem tw5524368344467381313:True:=⟨⟩
theorem tw14510361252022643841:True:=⟨⟩
theorem tw2190491462509908161:True:=⟨⟩
theorem tw1967991016345693441:True:=⟨⟩
theorem tw9968184569253030209:True:=⟨⟩
theorem tw4434572462080978273:True:=⟨⟩
theorem tw15257068412683845089:True:=⟨⟩
theorem tw10828325649397110369:True:=⟨⟩
theorem tw9058004943043779169:True:=⟨⟩
theorem tw3277601428066732737:True:=⟨⟩
theorem tw12079257494914624193:True:=⟨⟩
theorem tw699607052520163105:True:=⟨⟩
theorem tw399084395419898657:True:=⟨⟩
theorem tw10815821888216911841:True:=⟨⟩
theorem tw3170063720904306978:True:=⟨⟩
theorem tw15458250622737258946:True:=⟨⟩
theorem tw16284829306737162786:True:=⟨⟩
theorem tw8958919653082148418:True:=⟨⟩
theorem tw280562037762986850:True:=⟨⟩
theorem tw11108019363920978818:True:=⟨⟩
theorem tw17402178434856694690:True:=⟨⟩
theorem tw12742986304586596355:True:=⟨⟩
theorem tw3521715220158362659:True:=⟨⟩
theorem tw14999848152002778243:True:=⟨⟩
theorem tw9018804908149020867:True:=⟨⟩
theorem tw15431392340143655139:True:=⟨⟩
theorem tw116253202764301667:True:=⟨⟩
theorem tw16098036406010413507:True:=⟨⟩
theorem tw9264797178835076707:True:=⟨⟩
theorem tw7348546440385953763:True:=⟨⟩
theorem tw408874705154481188:True:=⟨⟩
theorem tw15480127057182080036:True:=⟨⟩
theorem tw11766646823371690020:True:=⟨⟩
theorem tw17507294127105885284:True:=⟨⟩
theorem tw3955272281471279204:True:=⟨⟩
theorem tw9686888343366583428:True:=⟨⟩
theorem tw14777448764973737092:True:=⟨⟩
theorem tw11646720891614589156:True:=⟨⟩
theorem tw1075896004867477764:True:=⟨⟩
theorem tw11075446636761993540:True:=⟨⟩
theorem tw12432798738675172836:True:=⟨⟩
theorem tw2372463460001810916:True:=⟨⟩
theorem tw16018548833269530084:True:=⟨⟩
theorem tw16588596174169453124:True:=⟨⟩
theorem tw9990043572745162340:True:=⟨⟩
theorem tw16472674272984621668:True:=⟨⟩
theorem tw12628405847460971236:True:=⟨⟩
theorem tw7226391703643331300:True:=⟨⟩
theorem tw14453634369022937860:True:=⟨⟩
theorem tw3876269962433974020:True:=⟨⟩
theorem tw16070266896427063108:True:=⟨⟩
theorem tw15820509373076351812:True:=⟨⟩
theorem tw16875143316907123524:True:=⟨⟩
theorem tw7556644986801645444:True:=⟨⟩
theorem tw18383851445252286372:True:=⟨⟩
theorem tw3625175829771206596:True:=⟨⟩
theorem tw3909695594907143173:True:=⟨⟩
theorem tw16652976514393789509:True:=⟨⟩
theorem tw17055499965794277573:True:=⟨⟩
theorem tw18236685300434310405:True:=⟨⟩
theorem tw4755943097062842661:True:=⟨⟩
theorem tw6909984739441840453:True:=⟨⟩
theorem tw17896303065898922373:True:=⟨⟩
theorem tw9179202644150750629:True:=⟨⟩
theorem tw8128724893930779045:True:=⟨⟩
theorem tw4304996299380974085:True:=⟨⟩
theorem tw10022781371032629765:True:=⟨⟩
theorem tw203521171749743173:True:=⟨⟩
theorem tw16000899363436398181:True:=⟨⟩
theorem tw2585675858598664837:True:=⟨⟩
theorem tw15006460603414324901:True:=⟨⟩
theorem tw16675669955223074565:True:=⟨⟩
theorem tw2709085491999679269:True:=⟨⟩
theorem tw8646510231808003110:True:=⟨⟩
theorem tw5047437503060737062:True:=⟨⟩
theorem tw1116003313552196774:True:=⟨⟩
theorem tw16655825153799835910:True:=⟨⟩
theorem tw15707327528052337990:True:=⟨⟩
theorem tw11526570280561097030:True:=⟨⟩
theorem tw2930006776134651334:True:=⟨⟩
theorem tw1607610523804595942:True:=⟨⟩
theorem tw3982742027464067878:True:=⟨⟩
theorem tw3783741967271216966:True:=⟨⟩
theorem tw17894554962367354726:True:=⟨⟩
theorem tw16640671432836811654:True:=⟨⟩
theorem tw16299629093736505222:True:=⟨⟩
theorem tw12314886620325186470:True:=⟨⟩
theorem tw5195397526782332870:True:=⟨⟩
theorem tw5978642704054095879:True:=⟨⟩
theorem tw15450927262215287143:True:=⟨⟩
theorem tw7604079644181204391:True:=⟨⟩
theorem tw14301987777310724743:True:=⟨⟩
theorem tw5691580641750553383:True:=⟨⟩
theorem tw965057620181678919:True:=⟨⟩
theorem tw16660740376794206055:True:=⟨⟩
theorem tw14817152396490599303:True:=⟨⟩
theorem tw18424840142213744712:True:=⟨⟩
theorem tw2125672208408200360:True:=⟨⟩
theorem tw12225821818657092840:True:=⟨⟩
theorem tw6419324415928460520:True:=⟨⟩
theorem tw5001502076927043816:True:=⟨⟩
theorem tw13567228398274171144:True:=⟨⟩
theorem tw4380476235916284456:True:=⟨⟩
theorem tw16256359980398307880:True:=⟨⟩
theorem tw3703322677022291592:True:=⟨⟩
theorem tw2152931669263005448:True:=⟨⟩
theorem tw7325449332408524648:True:=⟨⟩
theorem tw12938743797507021961:True:=⟨⟩
theorem tw2353633385359632617:True:=⟨⟩
theorem tw12443782327808013609:True:=⟨⟩
theorem tw5614239496552488265:True:=⟨⟩
theorem tw14753719248301083977:True:=⟨⟩
theorem tw13642381979576947017:True:=⟨⟩
theorem tw5081882110743745961:True:=⟨⟩
theorem tw482790747295734217:True:=⟨⟩
theorem tw9335976568683909609:True:=⟨⟩
theorem tw17093351492552534697:True:=⟨⟩
theorem tw12366419368895266505:True:=⟨⟩
theorem tw2379754461208261385:True:=⟨⟩
theorem tw9391267197762017097:True:=⟨⟩
theorem tw18410350532121835562:True:=⟨⟩
theorem tw14581437978996394026:True:=⟨⟩
theorem tw716401841810587722:True:=⟨⟩
theorem tw8603260914059280490:True:=⟨⟩
theorem tw3692181120594102442:True:=⟨⟩
theorem tw14226393569238038826:True:=⟨⟩
theorem tw4053634627817490762:True:=⟨⟩
theorem tw16513126348560214442:True:=⟨⟩
theorem tw11545973086841498058:True:=⟨⟩
theorem tw17676481917580541418:True:=⟨⟩
theorem tw21250645112317482:True:=⟨⟩
theorem tw14451307732507210346:True:=⟨⟩
theorem tw10624097003712669290:True:=⟨⟩
theorem tw12048796355109068458:True:=⟨⟩
theorem tw16086513049223922378:True:=⟨⟩
theorem tw11647381818555586282:True:=⟨⟩
theorem tw16709824704338206570:True:=⟨⟩
theorem tw8227778578490073962:True:=⟨⟩
theorem tw1491544256831309738:True:=⟨⟩
theorem tw12384353309249613802:True:=⟨⟩
theorem tw6052287500245964843:True:=⟨⟩
theorem tw7491863290788039723:True:=⟨⟩
theorem tw13250941380089060459:True:=⟨⟩
theorem tw5734836549117226155:True:=⟨⟩
theorem tw16418840812724217099:True:=⟨⟩
theorem tw1561201297082913195:True:=⟨⟩
theorem tw14417214223372989963:True:=⟨⟩
theorem tw13271655465603773099:True:=⟨⟩
theorem tw9764079967690093227:True:=⟨⟩
theorem tw17059720535204946699:True:=⟨⟩
theorem tw9426965709163720459:True:=⟨⟩
theorem tw11129950223047240780:True:=⟨⟩
theorem tw11074449181122579692:True:=⟨⟩
theorem tw1929915136369410412:True:=⟨⟩
theorem tw10079526512803267052:True:=⟨⟩
theorem tw3611377779338153484:True:=⟨⟩
theorem tw13768926596013705740:True:=⟨⟩
theorem tw5230865477196796460:True:=⟨⟩
theorem tw14914510116214860364:True:=⟨⟩
theorem tw2604930870383816300:True:=⟨⟩
theorem tw13998750083829476044:True:=⟨⟩
theorem tw17492621357674224332:True:=⟨⟩
theorem tw15440030943364118316:True:=⟨⟩
theorem tw8822224172718394252:True:=⟨⟩
theorem tw2370170883882420237:True:=⟨⟩
theorem tw8601012938587652173:True:=⟨⟩
theorem tw10159081547141562477:True:=⟨⟩
theorem tw16862447900557298893:True:=⟨⟩
theorem tw12392671713015392493:True:=⟨⟩
theorem tw2605491283005703437:True:=⟨⟩
theorem tw9752709778223148429:True:=⟨⟩
theorem tw2435158819467497933:True:=⟨⟩
theorem tw11077055770973326797:True:=⟨⟩
theorem tw3575797599990215149:True:=⟨⟩
theorem tw1750774014528819725:True:=⟨⟩
theorem tw17254119294032186029:True:=⟨⟩
theorem tw10672015117590839053:True:=⟨⟩
theorem tw9830290760409254733:True:=⟨⟩
theorem tw7298758300819563437:True:=⟨⟩
theorem tw1290449432288511981:True:=⟨⟩
theorem tw8132320936243498126:True:=⟨⟩
theorem tw12065379561924720942:True:=⟨⟩
theorem tw13680103257031898574:True:=⟨⟩
theorem tw1059320943277905678:True:=⟨⟩
theorem tw8370601392430367598:True:=⟨⟩
theorem tw6648765738667525998:True:=⟨⟩
theorem tw6686682101878453263:True:=⟨⟩
theorem tw3436467029193867343:True:=⟨⟩
theorem tw18232918429078086831:True:=⟨⟩
theorem tw15987209042860165327:True:=⟨⟩
theorem tw13214364259426044175:True:=⟨⟩
theorem tw4059813787864185103:True:=⟨⟩
theorem tw3261446111296433455:True:=⟨⟩
theorem tw7937235608443333999:True:=⟨⟩
theorem tw230008379943356815:True:=⟨⟩
theorem tw5244976051809145231:True:=⟨⟩
theorem tw42707920336156143:True:=⟨⟩
theorem tw13936729745486005839:True:=⟨⟩
theorem tw6779369677503388271:True:=⟨⟩
theorem tw13419394641625418415:True:=⟨⟩
theorem tw11584486458974827279:True:=⟨⟩
theorem tw14275967618919918383:True:=⟨⟩
theorem tw17356692196352089999:True:=⟨⟩
theorem tw2088590708597592015:True:=⟨⟩
theorem tw8581980034138928079:True:=⟨⟩
theorem tw3779781753380778064:True:=⟨⟩
theorem tw12117840876909633648:True:=⟨⟩
theorem tw11844148663502804112:True:=⟨⟩
theorem tw6824208603664108688:True:=⟨⟩
theorem tw5428652224137115952:True:=⟨⟩
theorem tw18235822948645225776:True:=⟨⟩
theorem tw8079345253090565456:True:=⟨⟩
theorem tw903194313653015888:True:=⟨⟩
theorem tw9894826882530339152:True:=⟨⟩
theorem tw17600712962512809296:True:=⟨⟩
theorem tw15931977251215728144:True:=⟨⟩
theorem tw16817942607829930608:True:=⟨⟩
theorem tw14255729932259649264:True:=⟨⟩
theorem tw10292784856106127152:True:=⟨⟩
theorem tw15303115508276464464:True:=⟨⟩
theorem tw7597593535212783472:True:=⟨⟩
theorem tw1912996043978639312:True:=⟨⟩
theorem tw8914817258628525008:True:=⟨⟩
theorem tw1008926782747696080:True:=⟨⟩
theorem tw8457665706373126385:True:=⟨⟩
theorem tw4326962512149651697:True:=⟨⟩
theorem tw13585341649714641169:True:=⟨⟩
theorem tw459197402318607761:True:=⟨⟩
theorem tw14613470838104240625:True:=⟨⟩
theorem tw4198308343819809297:True:=⟨⟩
theorem tw8933116527510749745:True:=⟨⟩
theorem tw2738387014805634641:True:=⟨⟩
theorem tw13981708859548791569:True:=⟨⟩
theorem tw18433587723733963601:True:=⟨⟩
theorem tw15264020468788861937:True:=⟨⟩
theorem tw5612025240559724562:True:=⟨⟩
theorem tw5024454098179356690:True:=⟨⟩
theorem tw18010591366254101554:True:=⟨⟩
theorem tw9759357009581757586:True:=⟨⟩
theorem tw9711637240000060626:True:=⟨⟩
theorem tw14718526989608209714:True:=⟨⟩
theorem tw3846023115672885682:True:=⟨⟩
theorem tw11482052972899942930:True:=⟨⟩
theorem tw9548031169459000978:True:=⟨⟩
theorem tw304061617613630162:True:=⟨⟩
theorem tw16073892800745635538:True:=⟨⟩
theorem tw14032489801455524658:True:=⟨⟩
theorem tw2981737812434254706:True:=⟨⟩
theorem tw11058876030850638867:True:=⟨⟩
theorem tw14495215402846512147:True:=⟨⟩
theorem tw16063977821580308691:True:=⟨⟩
theorem tw11786001072427039059:True:=⟨⟩
theorem tw15120958494270411123:True:=⟨⟩
theorem tw12375284438946570611:True:=⟨⟩
theorem tw10397141098555479603:True:=⟨⟩
theorem tw883194604360285843:True:=⟨⟩
theorem tw4452850450430730035:True:=⟨⟩
theorem tw9773003917170788147:True:=⟨⟩
theorem tw3622983594948238163:True:=⟨⟩
theorem tw15990921524019191763:True:=⟨⟩
theorem tw2984256036445512691:True:=⟨⟩
theorem tw18385090871950588980:True:=⟨⟩
theorem tw3513515618068180244:True:=⟨⟩
theorem tw14142415793826660724:True:=⟨⟩
theorem tw9655915244615855572:True:=⟨⟩
theorem tw962905246458299956:True:=⟨⟩
theorem tw5521602313736251956:True:=⟨⟩
theorem tw2259923947214652020:True:=⟨⟩
theorem tw9027649783835767444:True:=⟨⟩
theorem tw1870262797978961716:True:=⟨⟩
theorem tw18086950131921061780:True:=⟨⟩
theorem tw16841658917021715412:True:=⟨⟩
theorem tw16245152530354892853:True:=⟨⟩
theorem tw12334216200010493077:True:=⟨⟩
theorem tw5975189717597077685:True:=⟨⟩
theorem tw9712121398407559413:True:=⟨⟩
theorem tw10047368328334297429:True:=⟨⟩
theorem tw14150713144219273813:True:=⟨⟩
theorem tw17048752021661816405:True:=⟨⟩
theorem tw6083059172377422453:True:=⟨⟩
theorem tw8483393321750350549:True:=⟨⟩
theorem tw17513808447855383285:True:=⟨⟩
theorem tw10785852994969850645:True:=⟨⟩
theorem tw1870444528499244885:True:=⟨⟩
theorem tw16876978488707639189:True:=⟨⟩
theorem tw11153180701727329205:True:=⟨⟩
theorem tw4789915149155076118:True:=⟨⟩
theorem tw14066936430487413878:True:=⟨⟩
theorem tw7160521056568021302:True:=⟨⟩
theorem tw5719790164657687958:True:=⟨⟩
theorem tw10718982351138771350:True:=⟨⟩
theorem tw11566957860206932502:True:=⟨⟩
theorem tw7611058270881948342:True:=⟨⟩
theorem tw2783623580420354742:True:=⟨⟩
theorem tw10265462393310494390:True:=⟨⟩
theorem tw3450621820248918870:True:=⟨⟩
theorem tw6376832509864289206:True:=⟨⟩
theorem tw17330915235355920407:True:=⟨⟩
theorem tw5736187516554980375:True:=⟨⟩
theorem tw1226533881475697847:True:=⟨⟩
theorem tw15036859275654749367:True:=⟨⟩
theorem tw14375740418596149559:True:=⟨⟩
theorem tw12787134541688439127:True:=⟨⟩
theorem tw14807352388496369015:True:=⟨⟩
theorem tw16285394462618327511:True:=⟨⟩
theorem tw14187498068262090231:True:=⟨⟩
theorem tw14377201485948379063:True:=⟨⟩
theorem tw15365135144927091703:True:=⟨⟩
theorem tw6515604583139154104:True:=⟨⟩
theorem tw10793902669774353720:True:=⟨⟩
theorem tw9474507353275982168:True:=⟨⟩
theorem tw16202253997625090424:True:=⟨⟩
theorem tw857389994849814904:True:=⟨⟩
theorem tw14773647310412720952:True:=⟨⟩
theorem tw1965202477191592985:True:=⟨⟩
theorem tw561765013496520953:True:=⟨⟩
theorem tw10263342587046875417:True:=⟨⟩
theorem tw711531704760764729:True:=⟨⟩
theorem tw2235768063153797433:True:=⟨⟩
theorem tw12075069881624459609:True:=⟨⟩
theorem tw15554263574777234809:True:=⟨⟩
theorem tw5518096399052249529:True:=⟨⟩
theorem tw15943605820925498873:True:=⟨⟩
theorem tw273981368264336953:True:=⟨⟩
theorem tw1476562076713548441:True:=⟨⟩
theorem tw7526268374104992441:True:=⟨⟩
theorem tw13990100958455437017:True:=⟨⟩
theorem tw10763855163251862233:True:=⟨⟩
theorem tw13654024142257987321:True:=⟨⟩
theorem tw6300985108027713401:True:=⟨⟩
theorem tw11043763703381189625:True:=⟨⟩
theorem tw10929760114741702682:True:=⟨⟩
theorem tw3311330086155390010:True:=⟨⟩
theorem tw8073753701137228890:True:=⟨⟩
theorem tw15933272730010839130:True:=⟨⟩
theorem tw5757445948195797114:True:=⟨⟩
theorem tw17412944469175520442:True:=⟨⟩
theorem tw4703458782359742746:True:=⟨⟩
theorem tw13051095197111422298:True:=⟨⟩
theorem tw7827522809836765658:True:=⟨⟩
theorem tw5444986498499480186:True:=⟨⟩
theorem tw15613570754431398682:True:=⟨⟩
theorem tw6449385314371272506:True:=⟨⟩
theorem tw18073147316902902714:True:=⟨⟩
theorem tw6268615586684493851:True:=⟨⟩
theorem tw10615677023549930555:True:=⟨⟩
theorem tw15103960686738890907:True:=⟨⟩
theorem tw12775915153634857147:True:=⟨⟩
theorem tw7523452727033409947:True:=⟨⟩
theorem tw13055457803569810843:True:=⟨⟩
theorem tw16123208406572602843:True:=⟨⟩
theorem tw1980086226352648667:True:=⟨⟩
theorem tw6487515650453991963:True:=⟨⟩
theorem tw2387258999643582331:True:=⟨⟩
theorem tw2588913450081588123:True:=⟨⟩
theorem tw17651171220682622875:True:=⟨⟩
theorem tw17935483701107108827:True:=⟨⟩
theorem tw5825275972476732444:True:=⟨⟩
theorem tw2977395163135030332:True:=⟨⟩
theorem tw5043388096191753276:True:=⟨⟩
theorem tw12601162517450620028:True:=⟨⟩
theorem tw2449256482608380124:True:=⟨⟩
theorem tw16234050808499133756:True:=⟨⟩
theorem tw15771475164425504092:True:=⟨⟩
theorem tw7398077798530869692:True:=⟨⟩
theorem tw17619636777239099868:True:=⟨⟩
theorem tw10481661378485882396:True:=⟨⟩
theorem tw9893033832318389788:True:=⟨⟩
theorem tw3212202965395628732:True:=⟨⟩
theorem tw15429637212579277628:True:=⟨⟩
theorem tw5273808086089498524:True:=⟨⟩
theorem tw17359139763381935068:True:=⟨⟩
theorem tw3097620940704589820:True:=⟨⟩
theorem tw12794570086272290812:True:=⟨⟩
theorem tw2999891864092691485:True:=⟨⟩
theorem tw16158476621840304253:True:=⟨⟩
theorem tw8294718692287311005:True:=⟨⟩
theorem tw14330227725329337757:True:=⟨⟩
theorem tw7018253276247938461:True:=⟨⟩
theorem tw8221585534669986333:True:=⟨⟩
theorem tw18200242414521726525:True:=⟨⟩
theorem tw3196006767536591421:True:=⟨⟩
theorem tw7297714700238988893:True:=⟨⟩
theorem tw2103735010276106941:True:=⟨⟩
theorem tw8920305101987563261:True:=⟨⟩
theorem tw5177019953033794333:True:=⟨⟩
theorem tw15213937223921980253:True:=⟨⟩
theorem tw5065707372921522077:True:=⟨⟩
theorem tw17126113336751745949:True:=⟨⟩
theorem tw537308943153735677:True:=⟨⟩
theorem tw14436233837080120702:True:=⟨⟩
theorem tw10055230296511636894:True:=⟨⟩
theorem tw4612438067158932958:True:=⟨⟩
theorem tw16025211959435182590:True:=⟨⟩
theorem tw4555262357532398078:True:=⟨⟩
theorem tw5864180532818413150:True:=⟨⟩
theorem tw18284463036172504734:True:=⟨⟩
theorem tw7377347292226902718:True:=⟨⟩
theorem tw16321981274153192158:True:=⟨⟩
theorem tw7365214777423376158:True:=⟨⟩
theorem tw8230864407626349502:True:=⟨⟩
theorem tw6525187226435642366:True:=⟨⟩
theorem tw15099844597046595647:True:=⟨⟩
theorem tw1198749442050188415:True:=⟨⟩
theorem tw688722969995005119:True:=⟨⟩
theorem tw10666858749189882175:True:=⟨⟩
theorem tw737621831074734559:True:=⟨⟩
theorem tw3892766652990666463:True:=⟨⟩
theorem tw16321188830540587807:True:=⟨⟩
theorem tw9128283914332935999:True:=⟨⟩
end PySem.W.Fast
set_option Elab.async false
set_option linter.all false
set_option maxRecDepth 100000
namespace L2
open PySem PySem.Spec PyProof.Rows
abbrev Key := Sum Int Str
def keyIs : Key → Value → Bool
  | .inl k, v => Value.isInt k v
  | .inr x, v => Value.isStrOf x v
def keyH (w : World) : Key → Int
  | .inl k => hashInt k
  | .inr x => hashStr w x
theorem keyIs_shape : ∀ {k : Key} {v : Value}, keyIs k v = true → (∃ i t, k = Sum.inl i ∧ v = Value.int i t) ∨ (∃ x t, k = Sum.inr x ∧ v = Value.str x t)
  | .inl i, v, h => by
    obtain ⟨t, e⟩ := Value.isInt_shape (k := i) (v := v) h
    exact .inl ⟨i, t, rfl, e⟩
  | .inr x, v, h => by
    obtain ⟨t, e⟩ := Value.isStrOf_shape (x := x) (v := v) h
    exact .inr ⟨x, t, rfl, e⟩
theorem key_ll (a b : Int) : decide ((Sum.inl a : Key) = Sum.inl b) = (a == b) := by
  by_cases e : a = b
  · subst e; simp
  · have h : ¬ (Sum.inl a : Key) = Sum.inl b := fun q => e (Sum.inl.inj q)
    rw [decide_eq_false h]
    exact (beq_eq_false_iff_ne.mpr e).symm
theorem key_rr (a b : Str) : decide ((Sum.inr a : Key) = Sum.inr b) = decide (a = b) := by
  by_cases e : a = b
  · subst e; simp
  · have h : ¬ (Sum.inr a : Key) = Sum.inr b := fun q => e (Sum.inr.inj q)
    rw [decide_eq_false h, decide_eq_false e]
theorem key_lr (a : Int) (b : Str) : decide ((Sum.inl a : Key) = Sum.inr b) = false := decide_eq_false (fun q => nomatch q)
theorem key_rl (a : Str) (b : Int) : decide ((Sum.inr a : Key) = Sum.inl b) = false := decide_eq_false (fun q => nomatch q)
def mixKind (prog : Program) (w : World) : PySem.KeyKind prog w Key where
  is := keyIs
  hash := keyH w
  inj := fun v a b ha hb => by
    rcases keyIs_shape ha with ⟨i, t, rfl, rfl⟩ | ⟨x, t, rfl, rfl⟩
    · rcases keyIs_shape hb with ⟨j, u, rfl, e⟩ | ⟨y, u, rfl, e⟩
      · injection e with e1 _; rw [e1]
      · exact nomatch e
    · rcases keyIs_shape hb with ⟨j, u, rfl, e⟩ | ⟨y, u, rfl, e⟩
      · exact nomatch e
      · injection e with e1 _; rw [e1]
  byValue := fun k v h => by
    rcases keyIs_shape h with ⟨i, t, rfl, rfl⟩ | ⟨x, t, rfl, rfl⟩ <;> rfl
  pyHash := fun hv h => by
    rcases keyIs_shape hv with ⟨i, t, rfl, rfl⟩ | ⟨x, t, rfl, rfl⟩
    · exact wpAny_pyHash_int h
    · exact wpAny_pyHash_str h
  eqBool := fun hu hv h => by
    rcases keyIs_shape hu with ⟨i, t, rfl, rfl⟩ | ⟨x, t, rfl, rfl⟩
    · rcases keyIs_shape hv with ⟨j, u, rfl, rfl⟩ | ⟨y, u, rfl, rfl⟩
      · rw [key_ll] at h; exact wpAny_eqBool_int h
      · rw [key_lr] at h; exact SeqAt.EqAt.int_str i t y u _ _ _ _ h
    · rcases keyIs_shape hv with ⟨j, u, rfl, rfl⟩ | ⟨y, u, rfl, rfl⟩
      · rw [key_rl] at h; exact SeqAt.EqAt.str_int x t j u _ _ _ _ h
      · rw [key_rr] at h; exact wpAny_eqBool_str h
  «strs» := fun k x t v h => by
    rcases keyIs_shape h with ⟨i, u, rfl, e⟩ | ⟨y, u, rfl, e⟩
    · exact nomatch e
    · injection e with e1 _
      subst e1
      cases v <;> rfl
end L2
namespace L2
open PySem PySem.Spec PyProof.Rows
inductive V where
  | non | bl (b : Bool) | int (i : Int) | str (x : Str) | byt (b : Array UInt8) | flt (b : UInt64) | ref (a : Addr) | ty (n : String)
  deriving DecidableEq
def RelV : V → Value → Prop
  | .non, u => u = Value.none
  | .bl b, u => u = Value.bool b
  | .int i, u => ∃ t, u = Value.int i t
  | .str x, u => ∃ t, u = Value.str x t
  | .byt b, u => ∃ t, u = Value.bytes b t
  | .flt b, u => ∃ t, u = Value.float b t
  | .ref a, u => u = Value.ref a
  | .ty n, u => u = Value.type n
abbrev Vals : List V → List Value → Prop := Paired RelV
theorem Vals.length {xs : List V} {us : List Value} (r : Vals xs us) : xs.length = us.length := Paired.length r
theorem Vals.get : ∀ {xs : List V} {us : List Value} {i : Nat} {x : V}, Vals xs us → xs[i]? = some x → ∃ u, us[i]? = some u ∧ RelV x u
  | _, _, _, _, .nil, e => by simp at e
  | _, _, 0, _, .cons r _, e => by simp at e; subst e; exact ⟨_, rfl, r⟩
  | _, _, i + 1, x, .cons _ t, e => by
    obtain ⟨u, h1, h2⟩ := Vals.get (i := i) (x := x) t (by simpa using e)
    exact ⟨u, by simpa using h1, h2⟩
theorem Vals.set {x : V} {u : Value} (r : RelV x u) : ∀ {xs : List V} {us : List Value} (i : Nat), Vals xs us → Vals (xs.set i x) (us.set i u)
  | _, _, _, .nil => .nil
  | _, _, 0, .cons _ t => .cons r t
  | _, _, i + 1, .cons q t => .cons q (Vals.set r i t)
theorem Vals.append : ∀ {xs ys : List V} {us ws : List Value}, Vals xs us → Vals ys ws → Vals (xs ++ ys) (us ++ ws)
  | _, _, _, _, .nil, s => s
  | _, _, _, _, .cons r t, s => .cons r (Vals.append t s)
theorem Vals.take : ∀ {xs : List V} {us : List Value} (n : Nat), Vals xs us → Vals (xs.take n) (us.take n)
  | _, _, 0, _ => .nil
  | _, _, _ + 1, .nil => .nil
  | _, _, n + 1, .cons r t => .cons r (Vals.take n t)
theorem Vals.drop : ∀ {xs : List V} {us : List Value} (n : Nat), Vals xs us → Vals (xs.drop n) (us.drop n)
  | _, _, 0, r => r
  | _, _, _ + 1, .nil => .nil
  | _, _, n + 1, .cons _ t => Vals.drop n t
theorem Vals.none_of : ∀ {xs : List V} {us : List Value} {i : Nat}, Vals xs us → xs[i]? = none → us[i]? = none := fun {xs us i} r e => by
  have h1 := r.length
  have h2 : xs.length ≤ i := List.getElem?_eq_none_iff.mp e
  exact List.getElem?_eq_none_iff.mpr (by omega)
def RelO : Option V → Option Value → Prop
  | some v, some u => RelV v u
  | none, none => True
  | _, _ => False
def KV {κ : Type} : List (κ × V) → List (κ × Value) → Prop := Paired fun (p : κ × V) (q : κ × Value) => p.1 = q.1 ∧ RelV p.2 q.2
def kV : Key → V
  | .inl i => .int i
  | .inr x => .str x
inductive HO where
  | lst (xs : List V)
  | tup (xs : List V)
  | dK (kvs : List (Key × V)) | dT (kvs : List (List Key × V))
  | set (S : Int → Bool) (n : Nat)
  | ins (C dx : Addr) (fs : List (Str × V))
  | own (x : Addr)
  | xd (fs : List (Str × V))
  | met (f x : Addr)
  | rng (lo hi : Int)
  | frz (o : Obj) (u : HO)
  | tbl (ps : Array Value)
  | exc (C : Addr) (dx : Option Addr) (fs : List (Str × V))
  | ext (φ : Heap → Prop)
abbrev Hp := Addr → Option HO
def upd (H : Hp) (a : Addr) (o : HO) : Hp := fun b => if b = a then some o else H b
theorem upd_same {H : Hp} {a : Addr} {o : HO} : upd H a o a = some o := by unfold upd; rw [if_pos rfl]
theorem upd_ne {H : Hp} {a b : Addr} {o : HO} (h : b ≠ a) : upd H a o b = H b := by unfold upd; rw [if_neg h]
theorem ne_of {H : Hp} {a b : Addr} {o u : HO} (h : H a = some o) (h' : H b = some u) (d : o ≠ u) : a ≠ b := by
  intro e; subst e; rw [h] at h'; exact d (Option.some.inj h')
theorem ne_of_none {H : Hp} {a b : Addr} {o : HO} (h : H a = some o) (h' : H b = none) : a ≠ b := by
  intro e; subst e; rw [h] at h'; cases h'
def NsO (h : Heap) (dx : Option Addr) (mA : Str → Option Value) : Prop := match dx with
  | some d => h.Ns1 d mA
  | none => ∀ n, mA n = none
section
variable (P : Program) (w : World)
def ObjOk (H : Hp) (h : Heap) (a : Addr) : HO → Prop
  | .lst xs => xs.length ≤ sizeLine ∧ ∃ (its : List Value) (n : Nat), Vals xs its ∧ h.get? a = some { cls := .type "list", data := .seq its.toArray n }
  | .tup xs => xs.length ≤ sizeLine ∧ ∃ its : List Value, Vals xs its ∧ IsTup h a its.toArray
  | .dK kvs => kvs.length ≤ sizeLine ∧ (a == sysModules) = false ∧ ∃ vs, KV kvs vs ∧ h.DictOf (mixKind P w) a vs
  | .dT kvs => kvs.length ≤ sizeLine ∧ (a == sysModules) = false ∧ ∃ xs : List (List Key × Addr × Value),
      Paired (fun (p : List Key × V) (q : List Key × Addr × Value) => p.1 = q.1 ∧ H q.2.1 = some (.tup (p.1.map kV)) ∧ RelV p.2 q.2.2) kvs xs ∧
      ∃ o es ep, h.get? a = some o ∧ o.ExactDict ∧ o.data = .dict es ep ∧ es.toList = xs.map (entryOfKey (tupleKind (mixKind P w))) ∧ (xs.map (·.1)).Nodup
  | .set S n => h.SetOf (intKind P w) a S n
  | .ins C dx fs => H dx = some (.own a) ∧ fs.length ≤ 1000 ∧ dx ≠ a ∧ h.get? a = some (PySem.W.instObj C dx) ∧
      ∃ mA, h.Ns1 dx mA ∧ (∀ f, RelO (fs.lookup f) (mA f)) ∧ PySem.Within mA (fs.map (·.1))
  | .own _ => ∃ o, h.get? a = some o
  | .xd fs => ∃ mA, h.Ns1 a mA ∧ ∀ f, RelO (fs.lookup f) (mA f)
  | .rng lo hi => ∃ t u v, h.get? a = some { cls := .type "range", data := .fields #[.int lo t, .int hi u, .int 1 v] }
  | .frz o u => h.get? a = some o ∧ ObjOk H h a u
  | .tbl ps => h.get? a = some { cls := .none, data := .fields ps }
  | .met f x => h.get? a = some (PySem.W.methodObj (.ref f) (.ref x))
  | .exc C dx fs => ∃ o vs, h.get? a = some o ∧ o.cls = .ref C ∧ o.dict = dx ∧ o.data = .fields vs ∧ fs.length ≤ 1000 ∧ (∀ d, dx = some d → H d = some (.own a) ∧ d ≠ a) ∧
      ∃ mA, NsO h dx mA ∧ (∀ f, RelO (fs.lookup f) (mA f)) ∧ PySem.Within mA (fs.map (·.1))
  | .ext φ => φ h ∧ (∃ o, h.get? a = some o) ∧ ∀ h1 h2 : Heap, φ h1 → (∀ o, h1.get? a = some o → h2.get? a = some o) → φ h2
def HOk (H : Hp) (h : Heap) : Prop := ∀ a o, H a = some o → ObjOk P w H h a o
end
section
variable {P : Program} {w : World} {H H' : Hp} {h h' : Heap} {a : Addr} {o : HO}
theorem ObjOk.lt (x : ObjOk P w H h a o) : a < h.objs.size := by
  cases o with
  | lst xs => obtain ⟨_, _, _, _, e⟩ := x; exact Heap.lt_size e
  | tup xs => obtain ⟨_, _, _, p⟩ := x; exact p.lt
  | dK kvs => obtain ⟨_, _, _, _, o, _, _, e, _⟩ := x; exact Heap.lt_size e
  | dT kvs => obtain ⟨_, _, _, _, o, _, _, e, _⟩ := x; exact Heap.lt_size e
  | set S n => obtain ⟨o, _, _, _, e, _⟩ := x; exact Heap.lt_size e
  | ins C dx fs => obtain ⟨_, _, _, e, _⟩ := x; exact Heap.lt_size e
  | own y => obtain ⟨_, e⟩ := x; exact Heap.lt_size e
  | xd fs => obtain ⟨_, ⟨_, _, _, e, _⟩, _⟩ := x; exact Heap.lt_size e
  | rng lo hi => obtain ⟨_, _, _, e⟩ := x; exact Heap.lt_size e
  | frz ob u => obtain ⟨e, _⟩ := x; exact Heap.lt_size e
  | tbl ps => exact Heap.lt_size (show h.get? a = some _ from x)
  | met f y => exact Heap.lt_size (show h.get? a = some _ from x)
  | exc C dx fs => obtain ⟨_, _, e, _⟩ := x; exact Heap.lt_size e
  | ext φ => obtain ⟨_, ⟨_, e⟩, _⟩ := x; exact Heap.lt_size e
theorem Paired.mapP {α β : Type} {F G : α → β → Prop} : ∀ {l₁ : List α} {l₂ : List β}, Paired F l₁ l₂ → (∀ a b, F a b → G a b) → Paired G l₁ l₂
  | _, _, .nil, _ => .nil
  | _, _, .cons r t, f => .cons (f _ _ r) (Paired.mapP t f)
theorem ObjOk.stay (x : ObjOk P w H h a o) (k : ∀ b u, (b = a ∨ H b = some (.own a)) → h.get? b = some u → h'.get? b = some u)
    (ho : ∀ b, H b = some (.own a) → H' b = some (.own a)) (ht : ∀ b xs, H b = some (.tup xs) → H' b = some (.tup xs)) : ObjOk P w H' h' a o := by
  induction o with
  | lst xs => obtain ⟨z, its, n, r, e⟩ := x; exact ⟨z, its, n, r, k _ _ (.inl rfl) e⟩
  | tup xs => obtain ⟨z, its, r, ob, e, c⟩ := x; exact ⟨z, its, r, ob, k _ _ (.inl rfl) e, c⟩
  | dK kvs => obtain ⟨z, y, vs, r, ob, es, ep, e, c⟩ := x; exact ⟨z, y, vs, r, ob, es, ep, k _ _ (.inl rfl) e, c⟩
  | dT kvs =>
    obtain ⟨z, y, xs, r, ob, es, ep, e, c⟩ := x
    exact ⟨z, y, xs, Paired.mapP r fun p q z => ⟨z.1, ht _ _ z.2.1, z.2.2⟩, ob, es, ep, k _ _ (.inl rfl) e, c⟩
  | set S n => obtain ⟨ob, es, ep, t, e, c⟩ := x; exact ⟨ob, es, ep, t, k _ _ (.inl rfl) e, c⟩
  | ins C dx fs =>
    obtain ⟨d, z, ne, e, mA, ⟨od, es, ep, e2, c⟩, r⟩ := x
    exact ⟨ho _ d, z, ne, k _ _ (.inl rfl) e, mA, ⟨od, es, ep, k _ _ (.inr d) e2, c⟩, r⟩
  | own y => obtain ⟨ob, e⟩ := x; exact ⟨ob, k _ _ (.inl rfl) e⟩
  | xd fs => obtain ⟨mA, ⟨od, es, ep, e, c⟩, r⟩ := x; exact ⟨mA, ⟨od, es, ep, k _ _ (.inl rfl) e, c⟩, r⟩
  | rng lo hi => obtain ⟨t, u, v, e⟩ := x; exact ⟨t, u, v, k _ _ (.inl rfl) e⟩
  | frz ob u ih => obtain ⟨e, q⟩ := x; exact ⟨k _ _ (.inl rfl) e, ih q⟩
  | tbl ps =>
    have e : h.get? a = some { cls := .none, data := .fields ps } := x
    show h'.get? a = some { cls := .none, data := .fields ps }
    exact k a _ (.inl rfl) e
  | met f y =>
    have e : h.get? a = some (PySem.W.methodObj (.ref f) (.ref y)) := x
    show h'.get? a = some (PySem.W.methodObj (.ref f) (.ref y))
    exact k a _ (.inl rfl) e
  | exc C dx fs =>
    obtain ⟨ob, vs, e, hc, hd, hv, hl, hw, mA, hm, r⟩ := x
    refine ⟨ob, vs, k _ _ (.inl rfl) e, hc, hd, hv, hl, fun d q => ⟨ho _ (hw d q).1, (hw d q).2⟩, mA, ?_, r⟩
    cases dx with
    | none => exact hm
    | some d =>
      obtain ⟨od, es, ep, e2, c⟩ := hm
      exact ⟨od, es, ep, k _ _ (.inr (hw d rfl).1) e2, c⟩
  | ext φ => obtain ⟨p, ⟨o, e⟩, st⟩ := x; exact ⟨st _ _ p fun o q => k _ _ (.inl rfl) q, ⟨o, k _ _ (.inl rfl) e⟩, st⟩
theorem HOk.lt (x : HOk P w H h) (e : H a = some o) : a < h.objs.size := (x a o e).lt
theorem HOk.fresh (x : HOk P w H h) (e : h.objs.size ≤ a) : H a = none := by
  cases q : H a with
  | none => rfl
  | some u => exact absurd (Nat.lt_of_lt_of_le (x.lt q) e) (Nat.lt_irrefl _)
theorem HOk.kept (x : HOk P w H h) (k : ∀ b u, h.get? b = some u → h'.get? b = some u) : HOk P w H h' := fun a o e =>
  (x a o e).stay (fun b u _ q => k b u q) (fun _ q => q) fun _ _ q => q
theorem HOk.laid (x : HOk P w H h) (k : ∀ b u, h.get? b = some u → h'.get? b = some u) (hp : h.objs.size ≤ a) (new : ObjOk P w (upd H a o) h' a o) : HOk P w (upd H a o) h' := fun b u e => by
  have hn := x.fresh hp
  by_cases hb : b = a
  · subst hb; rw [upd_same] at e; cases e; exact new
  · rw [upd_ne hb] at e
    exact (x b u e).stay (fun c v _ q => k c v q) (fun c q => by rw [upd_ne (ne_of_none q hn)]; exact q) fun c xs q => by rw [upd_ne (ne_of_none q hn)]; exact q
end
def Rd (H : Hp) (a : Addr) (u : HO) : Prop := H a = some u ∨ ∃ o, H a = some (.frz o u)
theorem Rd.of {H : Hp} {a : Addr} {u : HO} (h : H a = some u) : Rd H a u := .inl h
theorem Rd.ok {P : Program} {w : World} {H : Hp} {h : Heap} {a : Addr} {u : HO} (r : Rd H a u) (x : HOk P w H h) : ObjOk P w H h a u := by
  rcases r with r | ⟨o, r⟩
  · exact x a u r
  · obtain ⟨_, q⟩ := x a _ r
    exact q
def Mut : Option HO → Prop
  | some (.lst _) => True
  | some (.dK _) => True
  | some (.dT _) => True
  | some (.set _ _) => True
  | some (.ins _ _ _) => True
  | some (.exc _ _ _) => True
  | some (.ext _) => True
  | _ => False
section
variable {P : Program} {w : World} {H : Hp} {h h' : Heap} {x e : Addr} {o' : HO}
theorem HOk.write (ok : HOk P w H h) (mu : Mut (H x)) (he : e = x ∨ H e = some (.own x)) (k : ∀ b u, b ≠ e → h.get? b = some u → h'.get? b = some u) (heo : ∃ u, h'.get? e = some u)
    (new : ObjOk P w (upd H x o') h' x o') : HOk P w (upd H x o') h' := fun b u q => by
  have nown : ∀ c y, H c = some (.own y) → c ≠ x := fun c y r z => by subst z; rw [r] at mu; exact mu
  have ntup : ∀ c xs, H c = some (.tup xs) → c ≠ x := fun c xs r z => by subst z; rw [r] at mu; exact mu
  by_cases hb : b = x
  · subst hb; rw [upd_same] at q; cases q; exact new
  · rw [upd_ne hb] at q
    by_cases hbe : b = e
    · have q' : H b = some (.own x) := by
        rcases he with z | z
        · exact absurd (hbe.trans z) hb
        · rw [hbe]; exact z
      rw [q] at q'; cases q'
      obtain ⟨v, hv⟩ := heo
      exact ⟨v, by rw [hbe]; exact hv⟩
    · refine (ok b u q).stay (fun c v hc r => k c v ?_ r) (fun c r => by rw [upd_ne (nown c b r)]; exact r) fun c xs r => by rw [upd_ne (ntup c xs r)]; exact r
      rcases hc with rfl | hc
      · exact hbe
      · rintro rfl
        rcases he with z | z
        · exact nown c b hc z
        · rw [hc] at z; cases z; exact hb rfl
end
structure Un (fs ex : List Addr) (H H' : Hp) (h h' : Heap) : Prop where
  keep : ∀ b o, h.get? b = some o → H b = none → b ∉ fs → b ∉ ex → h'.get? b = some o
  slot : ∀ b o, h.get? b = some o → H b = none → b ∈ fs → b ∉ ex → ∃ sl, h'.get? b = some { o with slots := sl }
  free : ∀ b o, h.get? b = some o → H b = none → b ∉ ex → H' b = none
  there : ∀ b o, h.get? b = some o → b ∉ ex → ∃ o', h'.get? b = some o'
  tups : ∀ b xs, H b = some (.tup xs) → H' b = some (.tup xs)
  frzs : ∀ b o u, H b = some (.frz o u) → H' b = some (.frz o u)
  tbls : ∀ b ps, H b = some (.tbl ps) → ∃ more, H' b = some (.tbl (ps ++ more))
section
variable {fs fs' ex ex' : List Addr} {H H1 H2 : Hp} {h h1 h2 h' : Heap} {a x e : Addr} {o : HO}
theorem Un.any (u : Un fs ex H H1 h h1) {b : Addr} {ob : Obj} (q : h.get? b = some ob) (n : H b = none) (hx : b ∉ ex) : ∃ sl, h1.get? b = some { ob with slots := sl } := by
  by_cases hb : b ∈ fs
  · exact u.slot b ob q n hb hx
  · exact ⟨ob.slots, u.keep b ob q n hb hx⟩
theorem Un.trans (a : Un fs ex H H1 h h1) (b : Un fs ex H1 H2 h1 h2) : Un fs ex H H2 h h2 where
  keep := fun c ob q n hc hx => b.keep c ob (a.keep c ob q n hc hx) (a.free c ob q n hx) hc hx
  slot := fun c ob q n hc hx => by
    obtain ⟨sl, e1⟩ := a.slot c ob q n hc hx
    obtain ⟨sl', e2⟩ := b.slot c _ e1 (a.free c ob q n hx) hc hx
    exact ⟨sl', e2⟩
  free := fun c ob q n hx => by
    obtain ⟨o', e1⟩ := a.there c ob q hx
    exact b.free c o' e1 (a.free c ob q n hx) hx
  there := fun c ob q hx => by
    obtain ⟨o', e1⟩ := a.there c ob q hx
    exact b.there c o' e1 hx
  tups := fun c xs q => b.tups c xs (a.tups c xs q)
  frzs := fun c ob xs q => b.frzs c ob xs (a.frzs c ob xs q)
  tbls := fun c ps q => by
    obtain ⟨m1, e1⟩ := a.tbls c ps q
    obtain ⟨m2, e2⟩ := b.tbls c _ e1
    exact ⟨m1 ++ m2, by rw [e2, Array.append_assoc]⟩
theorem Un.kept (k : ∀ b u, h.get? b = some u → h'.get? b = some u) : Un fs ex H H h h' :=
  ⟨fun b ob q _ _ _ => k b ob q, fun b ob q _ _ _ => ⟨ob.slots, k b ob q⟩, fun _ _ _ n _ => n, fun b ob q _ => ⟨ob, k b ob q⟩, fun _ _ q => q, fun _ _ _ q => q, fun _ ps q => ⟨#[], by rw [q]; simp⟩⟩
theorem Un.refl : Un fs ex H H h h := Un.kept fun _ _ q => q
theorem Un.laid (k : ∀ b u, h.get? b = some u → h'.get? b = some u) (hp : h.objs.size ≤ a) (hn : H a = none) : Un fs ex H (upd H a o) h h' where
  keep := fun b u q _ _ _ => k b u q
  slot := fun b u q _ _ _ => ⟨u.slots, k b u q⟩
  free := fun b u q n _ => by rw [upd_ne (Nat.ne_of_lt (Nat.lt_of_lt_of_le (Heap.lt_size q) hp))]; exact n
  there := fun b u q _ => ⟨u, k b u q⟩
  tups := fun b xs q => by rw [upd_ne (ne_of_none q hn)]; exact q
  frzs := fun b u xs q => by rw [upd_ne (ne_of_none q hn)]; exact q
  tbls := fun b ps q => ⟨#[], by rw [upd_ne (ne_of_none q hn), q]; simp⟩
theorem Un.write (mu : Mut (H x)) (he : e = x ∨ H e = some (.own x)) (k : ∀ b u, b ≠ e → h.get? b = some u → h'.get? b = some u) (heo : ∃ u, h'.get? e = some u) : Un fs ex H (upd H x o) h h' := by
  have hx : ∀ b, H b = none → b ≠ x := fun b n z => by subst z; rw [n] at mu; exact mu
  have hb : ∀ b, H b = none → b ≠ e := fun b n z => by
    subst z
    rcases he with r | r
    · exact hx b n r
    · rw [n] at r; cases r
  have hm : ∀ b u, H b = some u → ¬ Mut (some u) → b ≠ x := fun b u q nm z => by subst z; rw [q] at mu; exact nm mu
  refine ⟨fun b u q n _ _ => k b u (hb b n) q, fun b u q n _ _ => ⟨u.slots, k b u (hb b n) q⟩, fun b u q n _ => by rw [upd_ne (hx b n)]; exact n, fun b u q _ => ?_,
    fun b xs q => by rw [upd_ne (hm b _ q fun z => z)]; exact q, fun b u xs q => by rw [upd_ne (hm b _ q fun z => z)]; exact q, fun b ps q => ⟨#[], by rw [upd_ne (hm b _ q fun z => z), q]; simp⟩⟩
  by_cases hbe : b = e
  · subst hbe; exact heo
  · exact ⟨u, k b u hbe q⟩
theorem Un.mono (u : Un fs ex H H1 h h1) (hs : ∀ b ∈ fs, b ∈ fs') (hx : ∀ b ∈ ex, b ∈ ex') : Un fs' ex' H H1 h h1 :=
  ⟨fun b ob q n hb he => u.keep b ob q n (fun z => hb (hs b z)) fun z => he (hx b z), fun _ _ q n _ he => u.any q n fun z => he (hx _ z), fun b ob q n he => u.free b ob q n fun z => he (hx b z), fun b ob q he => u.there b ob q fun z => he (hx b z), u.tups, u.frzs, u.tbls⟩
end
def trk (h : Heap) (H : Hp) : List Addr := (List.range h.objs.size).filter fun a => (H a).isSome
def hidT (h : Heap) (H : Hp) : Heap := PySem.W.hideAll h (trk h H)
theorem hidT_size (h : Heap) (H : Hp) : (hidT h H).objs.size = h.objs.size := PySem.W.hideAll_size _ _
theorem hidT_get {h : Heap} {H : Hp} {b : Addr} {o : Obj} (e : h.get? b = some o) (n : H b = none) : (hidT h H).get? b = some o :=
  PySem.W.hideAll_get _ e fun hm => by
    have q : (H b).isSome = true := (List.mem_filter.mp hm).2
    rw [n] at q; simp at q
theorem of_hidT {h : Heap} {H : Hp} {b : Addr} {o : Obj} (e : (hidT h H).get? b = some o) : h.get? b = some o ∧ H b = none := by
  have e' : h.get? b = some o := PySem.W.of_hideAll (trk h H) e
  refine ⟨e', ?_⟩
  cases q : H b with
  | none => rfl
  | some x =>
    have hm : b ∈ trk h H := List.mem_filter.mpr ⟨List.mem_range.mpr (Heap.lt_size e'), by simp [q]⟩
    have z : (hidT h H).get? b = none := PySem.W.hideAll_none (trk h H) hm
    rw [z] at e; cases e
def allNews (g h : Heap) (L : Addr) : List (Addr × Obj) := (List.range h.objs.size).filterMap fun a => if a = L ∨ (g.get? a).isSome = true then none else (h.get? a).map fun o => (a, o)
def rest (g h : Heap) (L d : Addr) : List (Addr × Obj) := (allNews g h L).filter fun p => decide (p.1 ≠ d)
end L2
namespace L2
open PySem PySem.Spec PyProof.Rows
structure Mod (K : PySem.W.Frag) (mg : Str → Option Value) (base : Heap) : Prop where
  kin : K.In base
  glob : base.Ns mainGlobals mg
  blt : ∃ mb, base.Ns builtinsNs mb ∧ ∀ x : Str, x ≠ "__name__" → mb x = bootBuiltins x
  nolimit : base.NoLimit
structure Cx where
  prog : Program
  w : World
  K : PySem.W.Frag
  mg : Str → Option Value
  base : Heap
  A : Around
  N : List Str
  s₀ : Shared
  H₀ : Hp
  env : Env
  outer : List Env
  stack : List Env
  ex : List Addr
  fn : Str → Bool
  calm : Bool
  pn : List (Addr × Obj)
  xe : Value → Shared → Prop
def frs (l : List Env) : List Addr := l.filterMap (·.frame)
abbrev Cx.fs (X : Cx) : List Addr := frs X.outer
def Vis (sc : Scope) (x : Str) : Prop := sc.names.lookup x = some .local ∨ sc.names.lookup x = some .cell ∨ sc.names.lookup x = some .free
def Loc (sc : Scope) (x : Str) : Prop := sc.names.lookup x = some .local ∨ sc.names.lookup x = some .cell
def Look (env : Env) (h : Heap) (m : Str → Option Value) (x : Str) (u : Value) : Prop :=
  (env.kindOf x = some .local ∧ m x = some u) ∨ ((env.kindOf x = some .cell ∨ env.kindOf x = some .free) ∧ ∃ c, env.cells.lookup x = some c ∧ h.IsCell c (some u))
structure Cx.Ok (X : Cx) : Prop where
  mod : Mod X.K X.mg X.base
  kind : X.env.scope.kind = .function
  glob : X.env.globals = mainGlobals
  blt : X.env.builtins = builtinsNs
  above : X.s₀.heap.objs.size ≤ X.env.locals
  inj : ∀ x y c, X.env.cells.lookup x = some c → X.env.cells.lookup y = some c → x = y
  has : ∀ x, (X.env.kindOf x = some .cell ∨ X.env.kindOf x = some .free) → ∃ c, X.env.cells.lookup x = some c
  cab : ∀ x c, X.fn x = true → X.env.cells.lookup x = some c → X.s₀.heap.objs.size ≤ c
  hd : X.calm = true → X.A.handled = none
  frames : X.A.frames = some X.stack
  stk : X.stack = X.outer ∨ (X.stack = X.env :: X.outer ∧ X.env.frame = some X.env.locals)
  exf : ∀ b ∈ X.ex, b ≠ X.env.locals ∧ ∀ x c, X.env.cells.lookup x = some c → c ≠ b
  bs : ∀ b o, X.base.get? b = some o → X.s₀.heap.get? b = some o ∧ X.H₀ b = none
  bsz : X.base.objs.size ≤ X.s₀.heap.objs.size
  noex : ∀ b o, X.base.get? b = some o → b ∉ X.ex
  exfs : ∀ b ∈ X.ex, b ∉ X.fs
  funs : X.s₀.heap.FunFrames X.base X.outer
  frf : ∀ b ∈ X.fs, X.H₀ b = none
structure Inv (X : Cx) (pins : List (Addr × Obj)) (σ : List (Option V)) (H : Hp) (s : Shared) : Prop where
  ok : X.Ok
  os : s.os = X.s₀.os
  bare : AllBare s.gens
  base : Un X.fs X.ex X.H₀ H X.s₀.heap s.heap
  loc : ∃ m, s.heap.Ns X.env.locals m ∧ ∀ (i : Nat) (x : Str) (v : V), X.N[i]? = some x → σ[i]? = some (some v) → Vis X.env.scope x → ∃ u, RelV v u ∧ Look X.env s.heap m x u
  cell : ∀ x c, X.env.cells.lookup x = some c → ∃ v, s.heap.IsCell c v
  free : H X.env.locals = none
  freeC : ∀ x c, X.env.cells.lookup x = some c → H c = none
  pin : ∀ p ∈ X.pn ++ pins, s.heap.get? p.1 = some p.2 ∧ H p.1 = none ∧ p.1 ≠ X.env.locals ∧ p.1 ∉ X.fs ∧ ∀ v, p.2.data ≠ .cell v
  hok : HOk X.prog X.w H s.heap
  len : σ.length = X.N.length
section
variable {X : Cx} {pins : List (Addr × Obj)} {σ : List (Option V)} {H H' : Hp} {s : Shared} {h' : Heap}
theorem Cx.Ok.nofr (ok : X.Ok) {b : Addr} {o : Obj} (e : X.base.get? b = some o) : b ∉ X.fs := fun hb => by
  have := (ok.funs.mem hb).1
  rw [e] at this; cases this
theorem Inv.bs (I : Inv X pins σ H s) : ∀ b o, X.base.get? b = some o → s.heap.get? b = some o ∧ H b = none := fun b o e =>
  ⟨I.base.keep b o (I.ok.bs b o e).1 (I.ok.bs b o e).2 (I.ok.nofr e) (I.ok.noex b o e), I.base.free b o (I.ok.bs b o e).1 (I.ok.bs b o e).2 (I.ok.noex b o e)⟩
theorem Inv.bk (I : Inv X pins σ H s) : ∀ b o, X.base.get? b = some o → s.heap.get? b = some o := fun b o e => (I.bs b o e).1
theorem Inv.mod (I : Inv X pins σ H s) : Mod X.K X.mg X.base := I.ok.mod
theorem Inv.kIn (I : Inv X pins σ H s) : X.K.In s.heap := I.ok.mod.kin.keeps I.bk
theorem Inv.nolimit (I : Inv X pins σ H s) : s.heap.NoLimit := I.ok.mod.nolimit.keeps I.bk
theorem Inv.fr (I : Inv X pins σ H s) : ∃ m, Fr X.base X.env.locals s.heap m :=
  let ⟨m, hn, _⟩ := I.loc
  ⟨m, hn, I.bk, Nat.le_trans I.ok.bsz I.ok.above⟩
theorem Inv.lt (I : Inv X pins σ H s) : X.env.locals < s.heap.objs.size := let ⟨_, hn, _⟩ := I.loc; hn.lt
theorem Inv.sz (I : Inv X pins σ H s) : X.s₀.heap.objs.size ≤ s.heap.objs.size := Nat.le_trans I.ok.above (Nat.le_of_lt I.lt)
theorem Inv.nofs (I : Inv X pins σ H s) {a : Addr} (h : s.heap.objs.size ≤ a) : a ∉ X.fs := fun hb => by
  obtain ⟨_, o, ho, _⟩ := I.ok.funs.mem hb
  exact absurd (Nat.lt_of_lt_of_le (Heap.lt_size ho) (Nat.le_trans I.sz h)) (Nat.lt_irrefl _)
theorem Inv.cne (I : Inv X pins σ H s) : ∀ x c, X.env.cells.lookup x = some c → c ≠ X.env.locals := fun x c e z => by
  obtain ⟨v, o, ho, hd⟩ := I.cell x c e
  obtain ⟨m, ⟨o', es, ep, ho', hd', _⟩, _⟩ := I.loc
  rw [z, ho'] at ho; cases ho; rw [hd'] at hd; cases hd
theorem Inv.funs (I : Inv X pins σ H s) : s.heap.FunFrames X.base X.outer := by
  have all : ∀ (l : List Env), (∀ b ∈ frs l, b ∈ X.fs) → X.s₀.heap.FunFrames X.base l → s.heap.FunFrames X.base l := by
    intro l
    induction l with
    | nil => intro _ _; trivial
    | cons env r ih =>
      intro hs hl
      obtain ⟨hk, ⟨L, o, hf, hn, ho, hd⟩, hr⟩ := hl
      have hL : L ∈ X.fs := hs L (by unfold frs; rw [List.filterMap_cons, hf]; exact List.mem_cons_self)
      obtain ⟨sl, e⟩ := I.base.slot L o ho (I.ok.frf L hL) hL fun z => I.ok.exfs L z hL
      exact ⟨hk, ⟨L, _, hf, hn, e, hd⟩, ih (fun b hb => hs b (by unfold frs; rw [List.filterMap_cons, hf]; exact List.mem_cons_of_mem _ hb)) hr⟩
  exact all X.outer (fun _ hb => hb) I.ok.funs
theorem Inv.stack (I : Inv X pins σ H s) : s.heap.FunFrames X.base X.stack := by
  rcases I.ok.stk with e | ⟨e, hf⟩
  · rw [e]; exact I.funs
  · rw [e]
    obtain ⟨m, hn, _⟩ := I.loc
    refine .cons (by rw [I.ok.kind]; decide) hf hn ?_ I.funs
    exact Heap.get?_none_of_le (Nat.le_trans I.ok.bsz I.ok.above)
theorem Inv.stkSub (I : Inv X pins σ H s) : ∀ b ∈ frs X.stack, b ∈ X.env.locals :: X.fs := fun b hb => by
  rcases I.ok.stk with e | ⟨e, hf⟩
  · rw [e] at hb; exact List.mem_cons_of_mem _ hb
  · rw [e] at hb
    unfold frs at hb
    rw [List.filterMap_cons, hf] at hb
    exact hb
theorem Inv.stkFree (I : Inv X pins σ H s) : ∀ b ∈ frs X.stack, H b = none := fun b hb => by
  rcases List.mem_cons.mp (I.stkSub b hb) with e | hb
  · rw [e]; exact I.free
  · obtain ⟨_, o, ho, _⟩ := I.ok.funs.mem hb
    exact I.base.free b o ho (I.ok.frf b hb) fun z => I.ok.exfs b z hb
theorem Inv.step {g' : Array GenState} {t' : Nat} {d' : Drawn} {ch : List Addr} (I : Inv X pins σ H s)
    (hch : ∀ b ∈ ch, (b ∈ X.ex ∨ X.s₀.heap.objs.size ≤ b) ∧ b ≠ X.env.locals ∧ (∀ x c, X.env.cells.lookup x = some c → c ≠ b) ∧ ∀ p ∈ X.pn ++ pins, p.1 ≠ b)
    (keep : ∀ b o, b ≠ X.env.locals → b ∉ X.fs → b ∉ ch → s.heap.get? b = some o → H b = none → h'.get? b = some o)
    (slot : ∀ b o, b ≠ X.env.locals → b ∈ X.fs → b ∉ ch → s.heap.get? b = some o → H b = none → ∃ sl, h'.get? b = some { o with slots := sl }) (free : ∀ b o, b ∉ ch → s.heap.get? b = some o → H b = none → H' b = none)
    (there : ∀ b o, b ∉ ch → s.heap.get? b = some o → ∃ o', h'.get? b = some o')
    (tups : ∀ b xs, H b = some (.tup xs) → H' b = some (.tup xs)) (frzs : ∀ b o u, H b = some (.frz o u) → H' b = some (.frz o u)) (tbls : ∀ b ps, H b = some (.tbl ps) → ∃ more, H' b = some (.tbl (ps ++ more)))
    (ns : ∀ m, s.heap.Ns X.env.locals m → h'.Ns X.env.locals m) (hok : HOk X.prog X.w H' h') (hg : AllBare g') :
    Inv X pins σ H' { s with heap := h', gens := g', drawn := d', toks := t' } := by
  have neL : ∀ b o, X.s₀.heap.get? b = some o → b ≠ X.env.locals := fun b o e => Nat.ne_of_lt (Nat.lt_of_lt_of_le (Heap.lt_size e) I.ok.above)
  have neC : ∀ b o, X.s₀.heap.get? b = some o → b ∉ X.ex → b ∉ ch := fun b o e hx hb => by
    rcases (hch b hb).1 with z | z
    · exact hx z
    · exact absurd (Nat.lt_of_lt_of_le (Heap.lt_size e) z) (Nat.lt_irrefl _)
  have cellK : ∀ x c, X.env.cells.lookup x = some c → ∀ v, s.heap.IsCell c v → h'.IsCell c v := fun x c e v ⟨o, ho, hd⟩ => by
    have nch : c ∉ ch := fun z => (hch c z).2.2.1 x c e rfl
    by_cases hc : c ∈ X.fs
    · obtain ⟨sl, q⟩ := slot c o (I.cne x c e) hc nch ho (I.freeC x c e)
      exact ⟨_, q, hd⟩
    · exact ⟨o, keep c o (I.cne x c e) hc nch ho (I.freeC x c e), hd⟩
  refine ⟨I.ok, I.os, hg, ⟨fun b o e n hb hx => ?_, fun b o e n hb hx => ?_, fun b o e n hx => ?_, fun b o e hx => ?_, fun b xs e => tups b xs (I.base.tups b xs e), fun b o xs e => frzs b o xs (I.base.frzs b o xs e), fun b ps e => ?_⟩, ?_, fun x c e => ?_, ?_, fun x c e => ?_, fun p hp => ?_, hok, I.len⟩
  · exact keep b o (neL b o e) hb (neC b o e hx) (I.base.keep b o e n hb hx) (I.base.free b o e n hx)
  · obtain ⟨sl, e1⟩ := I.base.slot b o e n hb hx
    obtain ⟨sl', e2⟩ := slot b _ (neL b o e) hb (neC b o e hx) e1 (I.base.free b o e n hx)
    exact ⟨sl', e2⟩
  · obtain ⟨o', e1⟩ := I.base.there b o e hx
    exact free b o' (neC b o e hx) e1 (I.base.free b o e n hx)
  · obtain ⟨o', e1⟩ := I.base.there b o e hx
    exact there b o' (neC b o e hx) e1
  · obtain ⟨m1, e1⟩ := I.base.tbls b ps e
    obtain ⟨m2, e2⟩ := tbls b _ e1
    exact ⟨m1 ++ m2, by rw [e2, Array.append_assoc]⟩
  · obtain ⟨m, hn, hl⟩ := I.loc
    refine ⟨m, ns m hn, fun i x v e1 e2 e3 => ?_⟩
    obtain ⟨u, r, l⟩ := hl i x v e1 e2 e3
    refine ⟨u, r, ?_⟩
    rcases l with l | ⟨k, c, e, z⟩
    · exact .inl l
    · exact .inr ⟨k, c, e, cellK x c e _ z⟩
  · obtain ⟨v, z⟩ := I.cell x c e
    exact ⟨v, cellK x c e v z⟩
  · obtain ⟨m, ⟨o, _, _, ho, _⟩, _⟩ := I.loc
    exact free _ o (fun z => (hch _ z).2.1 rfl) ho I.free
  · obtain ⟨v, o, ho, hd⟩ := I.cell x c e
    exact free c o (fun z => (hch c z).2.2.1 x c e rfl) ho (I.freeC x c e)
  · obtain ⟨e, n, ne, nf, d⟩ := I.pin p hp
    have nch : p.1 ∉ ch := fun z => (hch p.1 z).2.2.2 p hp rfl
    exact ⟨keep p.1 p.2 ne nf nch e n, free p.1 p.2 nch e n, ne, nf, d⟩
theorem Inv.un {t' : Nat} (I : Inv X pins σ H s) (u : Un X.fs [] H H' s.heap h') (hok : HOk X.prog X.w H' h') : Inv X pins σ H' { s with heap := h', toks := t' } := by
  obtain ⟨m, ⟨o, es, ep, ho, r⟩, _⟩ := id I.loc
  obtain ⟨sl, hL⟩ := u.any ho I.free (by simp)
  exact I.step (g' := s.gens) (d' := s.drawn) (ch := []) (fun _ z => nomatch z) (fun b o _ hb _ e n => u.keep b o e n hb (by simp)) (fun b o _ hb _ e n => u.slot b o e n hb (by simp)) (fun b o _ e n => u.free b o e n (by simp)) (fun b o _ e => u.there b o e (by simp)) u.tups u.frzs u.tbls (fun m' hm => by
    obtain ⟨o', es', ep', ho', r'⟩ := hm
    rw [ho] at ho'; cases ho'
    exact ⟨_, es', ep', hL, r'⟩) hok I.bare
theorem Inv.call {g' : Array GenState} {t' : Nat} {d' : Drawn} {ch : List Addr} (I : Inv X pins σ H s) (u : Un (frs X.stack) ch H H' s.heap h') (hok : HOk X.prog X.w H' h') (hg : AllBare g')
    (hch : ∀ b ∈ ch, (b ∈ X.ex ∨ X.s₀.heap.objs.size ≤ b) ∧ b ≠ X.env.locals ∧ (∀ x c, X.env.cells.lookup x = some c → c ≠ b) ∧ ∀ p ∈ X.pn ++ pins, p.1 ≠ b) :
    Inv X pins σ H' { s with heap := h', gens := g', drawn := d', toks := t' } := by
  obtain ⟨m, ⟨o, es, ep, ho, r⟩, _⟩ := id I.loc
  obtain ⟨sl, hL⟩ := u.any ho I.free fun z => (hch _ z).2.1 rfl
  exact I.step (ch := ch) hch (fun b o hL hb hc e n => u.keep b o e n (fun z => (List.mem_cons.mp (I.stkSub b z)).elim hL hb) hc) (fun b o _ _ hc e n => u.any e n hc) (fun b o hc e n => u.free b o e n hc) (fun b o hc e => u.there b o e hc) u.tups u.frzs u.tbls (fun m' hm => by
    obtain ⟨o', es', ep', ho', r'⟩ := hm
    rw [ho] at ho'; cases ho'
    exact ⟨_, es', ep', hL, r'⟩) hok hg
theorem Inv.turned {t' : Nat} {it : Addr} (I : Inv X pins σ H s) (k : ∀ b o, b ≠ it → s.heap.get? b = some o → h'.get? b = some o) (hn : H it = none) (hL : it ≠ X.env.locals)
    (h1 : it ∈ X.ex ∨ X.s₀.heap.objs.size ≤ it) (h2 : ∀ x c, X.env.cells.lookup x = some c → c ≠ it) (h3 : ∀ p ∈ X.pn ++ pins, p.1 ≠ it) : Inv X pins σ H { s with heap := h', toks := t' } := by
  have nit : ∀ b u, H b = some u → b ≠ it := fun b u e z => by rw [z, hn] at e; cases e
  refine I.step (g' := s.gens) (d' := s.drawn) (ch := [it]) (fun b hb => ?_) (fun b o _ _ hc e _ => k b o (fun z => hc (by simp [z])) e) (fun b o _ _ hc e _ => ⟨o.slots, k b o (fun z => hc (by simp [z])) e⟩) (fun _ _ _ _ n => n)
    (fun b o hc e => ⟨o, k b o (fun z => hc (by simp [z])) e⟩) (fun _ _ e => e) (fun _ _ _ e => e) (fun b ps e => ⟨#[], by rw [e]; simp⟩) (fun m hm => ?_) (fun b u e => ?_) I.bare
  · have e : b = it := by simpa using hb
    subst e
    exact ⟨h1, hL, h2, h3⟩
  · obtain ⟨o, es, ep, ho, r⟩ := hm
    exact ⟨o, es, ep, k _ o (Ne.symm hL) ho, r⟩
  · refine (I.hok b u e).stay (fun c v hc q => k c v ?_ q) (fun _ q => q) fun _ _ q => q
    rcases hc with z | z
    · rw [z]; exact nit b u e
    · exact nit c _ z
theorem Inv.tok (I : Inv X pins σ H s) (t : Nat) : Inv X pins σ H { s with toks := t } := I.un (h' := s.heap) (t' := t) Un.refl I.hok
theorem Inv.kept {t' : Nat} (I : Inv X pins σ H s) (k : ∀ b u, s.heap.get? b = some u → h'.get? b = some u) : Inv X pins σ H { s with heap := h', toks := t' } := I.un (Un.kept k) (I.hok.kept k)
theorem Inv.laid {a : Addr} {o : HO} {t' : Nat} (I : Inv X pins σ H s) (k : ∀ b u, s.heap.get? b = some u → h'.get? b = some u) (hp : s.heap.objs.size ≤ a) (new : ObjOk X.prog X.w (upd H a o) h' a o) :
    Inv X pins σ (upd H a o) { s with heap := h', toks := t' } := I.un (Un.laid k hp (I.hok.fresh hp)) (I.hok.laid k hp new)
theorem Inv.write {x e : Addr} {o : HO} {t' : Nat} (I : Inv X pins σ H s) (mu : Mut (H x)) (he : e = x ∨ H e = some (.own x)) (k : ∀ b u, b ≠ e → s.heap.get? b = some u → h'.get? b = some u) (heo : ∃ u, h'.get? e = some u)
    (new : ObjOk X.prog X.w (upd H x o) h' x o) : Inv X pins σ (upd H x o) { s with heap := h', toks := t' } := I.un (Un.write mu he k heo) (I.hok.write mu he k heo new)
theorem Inv.pins_of {pins' : List (Addr × Obj)} (I : Inv X pins σ H s) (h : ∀ p ∈ pins', s.heap.get? p.1 = some p.2 ∧ H p.1 = none ∧ p.1 ≠ X.env.locals ∧ p.1 ∉ X.fs ∧ ∀ v, p.2.data ≠ .cell v) : Inv X pins' σ H s :=
  ⟨I.ok, I.os, I.bare, I.base, I.loc, I.cell, I.free, I.freeC, fun p hp => (List.mem_append.mp hp).elim (fun z => I.pin p (List.mem_append_left _ z)) (h p), I.hok, I.len⟩
theorem nodup_ix {N : List Str} (hN : N.Nodup) {i j : Nat} {x : Str} (a : N[i]? = some x) (b : N[j]? = some x) : i = j := by
  obtain ⟨h1, e1⟩ := List.getElem?_eq_some_iff.mp a
  obtain ⟨h2, e2⟩ := List.getElem?_eq_some_iff.mp b
  exact (List.getElem_inj hN).mp (e1.trans e2.symm)
theorem store_ok2 {M : Model} {A : Around} {E : Value → Shared → Prop} {i : Nat} {x : Str} {v : V} {u : Value} {Q : Unit → Shared → Prop} (I : Inv X pins σ H s) (hN : X.N.Nodup) (hi : X.N[i]? = some x) (hx : Loc X.env.scope x) (r : RelV v u)
    (h : ∀ s', Inv X pins (σ.set i (some v)) H s' → (∃ a, Heap.SameBut a s.heap s'.heap ∧ (a = X.env.locals ∨ X.env.cells.lookup x = some a)) → Q () s') (hf : X.fn x = true ∨ X.env.scope.names.lookup x = some .local := by first | exact .inl rfl | exact .inr rfl | assumption) : wpAny M A (storeName X.env x u) Q E s := by
  obtain ⟨m, hn, hl⟩ := id I.loc
  have hcls : (X.env.scope.kind == .class || (X.env.scope.kind == .module && X.env.locals != X.env.globals)) = false := by rw [I.ok.kind]; rfl
  have hiσ : i < σ.length := by rw [I.len]; exact (List.getElem?_eq_some_iff.mp hi).1
  have cne := I.cne
  have tracked : ∀ {a : Addr} {h' : Heap}, (∃ o, s.heap.get? a = some o ∧ H a = none) → Heap.SameBut a s.heap h' → HOk X.prog X.w H h' := fun {a h'} ha hs b ob e => by
    obtain ⟨_, _, hfree⟩ := ha
    refine (I.hok b ob e).stay (fun c w' hc q => (hs.2 c ?_).trans q) (fun _ q => q) fun _ _ q => q
    rintro rfl
    rcases hc with rfl | hc
    · rw [hfree] at e; cases e
    · rw [hfree] at hc; cases hc
  rcases hx with hk | hk
  · refine wpAny_storeName_local hk hn (fun h' hn' hs => ?_) hcls
    obtain ⟨oL, _, _, hoL, _⟩ := id hn
    refine h _ ⟨I.ok, I.os, I.bare, ⟨fun b o e n hb hx => ?_, fun b o e n hb hx => ?_, I.base.free, fun b o e hx => ?_, I.base.tups, I.base.frzs, I.base.tbls⟩, ⟨_, hn', fun j y v' e1 e2 e3 => ?_⟩, fun y c e => ?_, I.free, I.freeC, fun p hp => ?_, tracked ⟨oL, hoL, I.free⟩ hs, by simpa using I.len⟩ ⟨_, hs, .inl rfl⟩
    · exact (hs.2 b (Nat.ne_of_lt (Nat.lt_of_lt_of_le (Heap.lt_size e) I.ok.above))).trans (I.base.keep b o e n hb hx)
    · obtain ⟨sl, e1⟩ := I.base.slot b o e n hb hx
      exact ⟨sl, (hs.2 b (Nat.ne_of_lt (Nat.lt_of_lt_of_le (Heap.lt_size e) I.ok.above))).trans e1⟩
    · obtain ⟨o', e1⟩ := I.base.there b o e hx
      exact ⟨o', (hs.2 b (Nat.ne_of_lt (Nat.lt_of_lt_of_le (Heap.lt_size e) I.ok.above))).trans e1⟩
    · by_cases hj : j = i
      · subst hj
        rw [hi] at e1; cases e1
        rw [List.getElem?_set_self hiσ] at e2
        cases e2
        exact ⟨u, r, .inl ⟨hk, by simp⟩⟩
      · rw [List.getElem?_set_ne (Ne.symm hj)] at e2
        obtain ⟨u', r', q⟩ := hl j y v' e1 e2 e3
        refine ⟨u', r', ?_⟩
        rcases q with ⟨k, e⟩ | ⟨k, c, e, z⟩
        · refine .inl ⟨k, ?_⟩
          have : y ≠ x := fun e => hj (nodup_ix hN e1 (e ▸ hi))
          simp [this, e]
        · exact .inr ⟨k, c, e, z.sameBut hs (cne y c e)⟩
    · obtain ⟨w', z⟩ := I.cell y c e
      exact ⟨w', z.sameBut hs (cne y c e)⟩
    · obtain ⟨e, n, ne, nf, d⟩ := I.pin p hp
      exact ⟨(hs.2 p.1 ne).trans e, n, ne, nf, d⟩
  · have hfn : X.fn x = true := by
      rcases hf with z | z
      · exact z
      · rw [z] at hk; cases hk
    obtain ⟨c, hc⟩ := I.ok.has x (.inl hk)
    obtain ⟨w', z⟩ := I.cell x c hc
    refine wpAny_storeName_cell I.ok.kind hk hc z (fun h' hc' hs => ?_)
    obtain ⟨oc, hoc, hocd⟩ := id z
    refine h { s with heap := h' } ⟨I.ok, I.os, I.bare, ⟨fun b o e n hb hx => ?_, fun b o e n hb hx => ?_, I.base.free, fun b o e hx => ?_, I.base.tups, I.base.frzs, I.base.tbls⟩, ⟨m, hn.sameBut hs (Ne.symm (cne x c hc)), fun j y v' e1 e2 e3 => ?_⟩, fun y c' e => ?_, I.free, I.freeC, fun p hp => ?_, tracked ⟨oc, hoc, I.freeC x c hc⟩ hs, by simpa using I.len⟩ ⟨c, hs, .inr hc⟩
    · exact (hs.2 b (Nat.ne_of_lt (Nat.lt_of_lt_of_le (Heap.lt_size e) (I.ok.cab x c hfn hc)))).trans (I.base.keep b o e n hb hx)
    · obtain ⟨sl, e1⟩ := I.base.slot b o e n hb hx
      exact ⟨sl, (hs.2 b (Nat.ne_of_lt (Nat.lt_of_lt_of_le (Heap.lt_size e) (I.ok.cab x c hfn hc)))).trans e1⟩
    · obtain ⟨o', e1⟩ := I.base.there b o e hx
      exact ⟨o', (hs.2 b (Nat.ne_of_lt (Nat.lt_of_lt_of_le (Heap.lt_size e) (I.ok.cab x c hfn hc)))).trans e1⟩
    · by_cases hj : j = i
      · subst hj
        rw [hi] at e1; cases e1
        rw [List.getElem?_set_self hiσ] at e2
        cases e2
        exact ⟨u, r, .inr ⟨.inl hk, c, hc, hc'⟩⟩
      · rw [List.getElem?_set_ne (Ne.symm hj)] at e2
        obtain ⟨u', r', q⟩ := hl j y v' e1 e2 e3
        refine ⟨u', r', ?_⟩
        rcases q with q | ⟨k, c', e, z'⟩
        · exact .inl q
        · refine .inr ⟨k, c', e, z'.sameBut hs ?_⟩
          rintro rfl
          exact hj (nodup_ix hN e1 (I.ok.inj _ _ _ e hc ▸ hi))
    · by_cases hcc : c' = c
      · subst hcc; exact ⟨_, hc'⟩
      · obtain ⟨w2, z2⟩ := I.cell y c' e
        exact ⟨w2, z2.sameBut hs hcc⟩
    · obtain ⟨e, n, ne, nf, d⟩ := I.pin p hp
      refine ⟨(hs.2 p.1 ?_).trans e, n, ne, nf, d⟩
      intro q
      rw [q, hoc] at e
      have q' : oc = p.2 := Option.some.inj e
      exact d w' (by rw [← q']; exact hocd)
theorem store_ok {M : Model} {A : Around} {E : Value → Shared → Prop} {i : Nat} {x : Str} {v : V} {u : Value} {Q : Unit → Shared → Prop} (I : Inv X pins σ H s) (hN : X.N.Nodup) (hi : X.N[i]? = some x) (hx : Loc X.env.scope x) (r : RelV v u)
    (h : ∀ s', Inv X pins (σ.set i (some v)) H s' → Q () s') (hf : X.fn x = true ∨ X.env.scope.names.lookup x = some .local := by first | exact .inl rfl | exact .inr rfl | assumption) : wpAny M A (storeName X.env x u) Q E s :=
  store_ok2 I hN hi hx r (fun s' I' _ => h s' I') hf
theorem Inv.call' {s' : Shared} {ch : List Addr} (I : Inv X pins σ H s) (ho : s'.os = s.os) (u : Un (frs X.stack) ch H H' s.heap s'.heap) (hok : HOk X.prog X.w H' s'.heap) (hg : AllBare s'.gens)
    (hch : ∀ b ∈ ch, (b ∈ X.ex ∨ X.s₀.heap.objs.size ≤ b) ∧ b ≠ X.env.locals ∧ (∀ x c, X.env.cells.lookup x = some c → c ≠ b) ∧ ∀ p ∈ X.pn ++ pins, p.1 ≠ b) : Inv X pins σ H' s' := by
  obtain ⟨h', g', d', t', o'⟩ := s'
  have e : o' = s.os := ho
  subst e
  exact I.call (g' := g') (t' := t') (d' := d') u hok hg hch
end
abbrev XK := Value → Option Addr → Hp → Prop
abbrev St := List (Option V)
abbrev VK := V → Hp → Prop
abbrev TE := St → Hp → VK → Prop
abbrev TT := St → Hp → (Bool → Hp → Prop) → Prop
abbrev TA := St → Hp → (List V → Hp → Prop) → Prop
structure Ends where
  nx : St → Hp → Prop
  rt : VK
  bk : St → Hp → Prop := fun _ _ => False
  ct : St → Hp → Prop := fun _ _ => False
abbrev TS := Ends → St → Hp → Prop
def EP (X : Cx) (pins : List (Addr × Obj)) (σ : St) (Q : VK) (u : Value) (s' : Shared) : Prop := ∃ v H', Inv X pins σ H' s' ∧ RelV v u ∧ Q v H'
def TP (X : Cx) (pins : List (Addr × Obj)) (σ : St) (Q : Bool → Hp → Prop) (b : Bool) (s' : Shared) : Prop := ∃ H', Inv X pins σ H' s' ∧ Q b H'
def AP (X : Cx) (pins : List (Addr × Obj)) (σ : St) (Q : List V → Hp → Prop) (us : List Value) (s' : Shared) : Prop := ∃ vs H', Inv X pins σ H' s' ∧ Vals vs us ∧ Q vs H'
def SP (X : Cx) (pins : List (Addr × Obj)) (D : Ends) (f : Flow) (s' : Shared) : Prop :=
  match f with
  | .next => ∃ σ' H', Inv X pins σ' H' s' ∧ D.nx σ' H'
  | .brk => ∃ σ' H', Inv X pins σ' H' s' ∧ D.bk σ' H'
  | .cont => ∃ σ' H', Inv X pins σ' H' s' ∧ D.ct σ' H'
  | .ret u => ∃ v σ' H', Inv X pins σ' H' s' ∧ RelV v u ∧ D.rt v H'
def PE (X : Cx) (e : Expr) (t : TE) : Prop :=
  ∀ (pins : List (Addr × Obj)) (s : Shared) (σ : St) (H : Hp) (Q : VK), Inv X pins σ H s → t σ H Q → wpAny (model X.prog X.w) X.A (eval e X.env) (EP X pins σ Q) X.xe s
def PT (X : Cx) (e : Expr) (t : TT) : Prop :=
  ∀ (pins : List (Addr × Obj)) (s : Shared) (σ : St) (H : Hp) (Q : Bool → Hp → Prop), Inv X pins σ H s → t σ H Q → wpAny (model X.prog X.w) X.A (isTrue e X.env (eval e X.env)) (TP X pins σ Q) X.xe s
def PW (X : Cx) (e : Expr) (t : TT) : Prop :=
  ∀ (whole : Sem Value) (pins : List (Addr × Obj)) (s : Shared) (σ : St) (H : Hp) (Q : Bool → Hp → Prop), Inv X pins σ H s → t σ H Q → wpAny (model X.prog X.w) X.A (isTrue e X.env whole) (TP X pins σ Q) X.xe s
theorem PW.pt {X : Cx} {e : Expr} {t : TT} (h : PW X e t) : PT X e t := h _
def PA (X : Cx) (es : List Expr) (t : TA) : Prop :=
  ∀ (pos : Pos) (pins : List (Addr × Obj)) (s : Shared) (σ : St) (H : Hp) (Q : List V → Hp → Prop), Inv X pins σ H s → t σ H Q → wpAny (model X.prog X.w) X.A (spliced (backTo pos (starEach es X.env))) (AP X pins σ Q) X.xe s
def PS (X : Cx) (st : Stmt) (t : TS) : Prop :=
  ∀ (pins : List (Addr × Obj)) (s : Shared) (σ : St) (H : Hp) (D : Ends), Inv X pins σ H s → t D σ H → wpAny (model X.prog X.w) X.A (exec st X.env) (SP X pins D) X.xe s
def PSs (X : Cx) (st : List Stmt) (t : TS) : Prop :=
  ∀ (pins : List (Addr × Obj)) (s : Shared) (σ : St) (H : Hp) (D : Ends), Inv X pins σ H s → t D σ H → wpAny (model X.prog X.w) X.A (execs st X.env) (SP X pins D) X.xe s
theorem thn {α : Type} {t : Sem α} {Q Q' : α → Shared → Prop} {M : Model} {A : Around} {E : Value → Shared → Prop} {s : Shared} (h : wpAny M A t Q E s) (hQ : ∀ a s, Q a s → Q' a s) : wpAny M A t Q' E s := wpAny_mono h hQ fun _ _ x => x
end L2
namespace L2
open PySem PySem.Spec PyProof.Rows
section
variable {X : Cx}
def tVar (i : Nat) : TE := fun σ H Q => ∃ v, σ[i]? = some (some v) ∧ Q v H
def tC (v : V) : TE := fun _ H Q => Q v H
theorem pe_var {i : Nat} {x : Str} {pos : Pos} (hN : X.N[i]? = some x) (hv : Vis X.env.scope x) (hd : (x == ("__debug__" : Str)) = false := by decide) (hcd : (x == ("__classdict__" : Str)) = false := by decide) : PE X (.Name x pos) (tVar i) := by
  intro pins s σ H Q I h
  obtain ⟨v, e, h⟩ := h
  obtain ⟨m, hn, hl⟩ := I.loc
  obtain ⟨u, r, l⟩ := hl i x v hN e hv
  have fin : EP X pins σ Q u s := ⟨v, H, I, r, h⟩
  rcases l with ⟨hk, hm⟩ | ⟨hk, c, hc, hcell⟩
  · exact wpAny_Name (wpAny_loadName_local I.ok.kind hk hn hm fin) hd
  · rcases hk with hk | hk
    · exact wpAny_Name (wpAny_loadName_cell I.ok.kind hk hc hcell fin) hd
    · exact wpAny_Name (wpAny_loadName_free I.ok.kind hk hc hcell fin hcd) hd
theorem pe_int {i j pos} : PE X (.Constant (.int i) j pos) (tC (.int i)) := fun _ _ _ H _ I h => wpAny_Constant_int ⟨.int i, H, I.tok _, ⟨_, rfl⟩, h⟩
theorem pe_bl {b j pos} : PE X (.Constant (.bool b) j pos) (tC (.bl b)) := fun _ _ _ H _ I h => Constant_bool ⟨.bl b, H, I, rfl, h⟩
theorem pe_non {j pos} : PE X (.Constant .none j pos) (tC .non) := fun _ _ _ H _ I h => Constant_none ⟨.non, H, I, rfl, h⟩
theorem pe_str {x j pos} : PE X (.Constant (.str x) j pos) (tC (.str x)) := fun _ _ _ H _ I h => Calls.Constant_str ⟨.str x, H, I.tok _, ⟨_, rfl⟩, h⟩
def Gl (X : Cx) (x : Str) : Prop := X.env.kindOf x = some .globalImplicit
theorem ld_glob {E : Value → Shared → Prop} {pins : List (Addr × Obj)} {s : Shared} {σ : St} {H : Hp} {x : Str} {u : Value} {pos : Pos} {Q : Value → Shared → Prop} (I : Inv X pins σ H s) (hg : Gl X x) (hm : X.mg x = some u) (h : Q u s)
    (hd : (x == ("__debug__" : Str)) = false := by decide) : wpAny (model X.prog X.w) X.A (eval (.Name x pos) X.env) Q E s :=
  Calls.Name_function_global I.ok.kind hg (Calls.loadGlobal_global (by rw [I.ok.glob]; exact I.mod.glob.keeps I.bk) hm h) hd
theorem ld_blt {E : Value → Shared → Prop} {pins : List (Addr × Obj)} {s : Shared} {σ : St} {H : Hp} {x : Str} {u : Value} {pos : Pos} {Q : Value → Shared → Prop} (I : Inv X pins σ H s) (hg : Gl X x) (hm : X.mg x = none) (hv : bootBuiltins x = some u) (h : Q u s)
    (hn : x ≠ "__name__" := by decide) (hd : (x == ("__debug__" : Str)) = false := by decide) : wpAny (model X.prog X.w) X.A (eval (.Name x pos) X.env) Q E s := by
  obtain ⟨mb, h1, h2⟩ := I.mod.blt
  exact Calls.Name_function_global I.ok.kind hg (Calls.loadGlobal_builtin (by rw [I.ok.glob]; exact I.mod.glob.keeps I.bk) hm (by rw [I.ok.blt]; exact h1.keeps I.bk) ((h2 x hn).trans hv) h) hd
theorem pe_glob {x : Str} {v : V} {u : Value} {pos : Pos} (hg : Gl X x) (hm : X.mg x = some u) (r : RelV v u) (hd : (x == ("__debug__" : Str)) = false := by decide) : PE X (.Name x pos) (tC v) :=
  fun _ _ _ H _ I h => ld_glob I hg hm ⟨v, H, I, r, h⟩ hd
theorem pe_bltn {x : Str} {v : V} {u : Value} {pos : Pos} (hg : Gl X x) (hm : X.mg x = none) (hv : bootBuiltins x = some u) (r : RelV v u) (hn : x ≠ "__name__" := by decide) (hd : (x == ("__debug__" : Str)) = false := by decide) : PE X (.Name x pos) (tC v) :=
  fun _ _ _ H _ I h => ld_blt I hg hm hv ⟨v, H, I, r, h⟩ hn hd
def t2I (ta tb : TE) (k : Int → Int → Hp → Prop) : St → Hp → Prop := fun σ H => ta σ H fun x H1 => tb σ H1 fun y H2 => ∃ i j, x = .int i ∧ y = .int j ∧ k i j H2
variable {a b : Expr} {ta tb : TE} {pos : Pos}
def tCmp (p : Int → Int → Bool) (ta tb : TE) : TE := fun σ H Q => t2I ta tb (fun i j H2 => Q (.bl (p i j)) H2) σ H
abbrev tLt : TE → TE → TE := tCmp fun i j => decide (i < j)
abbrev tLe : TE → TE → TE := tCmp fun i j => decide (i ≤ j)
abbrev tGt : TE → TE → TE := tCmp fun i j => decide (j < i)
abbrev tGe : TE → TE → TE := tCmp fun i j => decide (j ≤ i)
abbrev tEqI : TE → TE → TE := tCmp fun i j => decide (i = j)
abbrev tNeI : TE → TE → TE := tCmp fun i j => !decide (i = j)
variable {tA tB' : TT} {rest : List Expr}
def tAnd (t u : TT) : TT := fun σ H Q => t σ H fun c H1 => if c = true then u σ H1 Q else Q false H1
def tOr (t u : TT) : TT := fun σ H Q => t σ H fun c H1 => if c = true then Q true H1 else u σ H1 Q
def tNot (t : TT) : TT := fun σ H Q => t σ H fun c H1 => Q (!c) H1
theorem pw_and1 (ha : PT X a tA) : PW X (.BoolOp .And [a] pos) tA := by
  intro wh pins s σ H Q I h
  refine isTrue_and (thn (ha pins s σ H Q I h) fun c s1 e => ?_)
  cases c with
  | true => exact isTrue_and_nil e
  | false => exact e
theorem pw_or1 (ha : PT X a tA) : PW X (.BoolOp .Or [a] pos) tA := by
  intro wh pins s σ H Q I h
  refine isTrue_or (thn (ha pins s σ H Q I h) fun c s1 e => ?_)
  cases c with
  | false => exact isTrue_or_nil e
  | true => exact e
theorem pw_and (ha : PT X a tA) (hb : PW X (.BoolOp .And (b :: rest) pos) tB') : PW X (.BoolOp .And (a :: b :: rest) pos) (tAnd tA tB') := by
  intro wh pins s σ H Q I h
  refine isTrue_and (thn (ha pins s σ H _ I h) fun c s1 ⟨H1, I1, q1⟩ => ?_)
  cases c with
  | true => exact hb wh pins s1 σ H1 Q I1 q1
  | false => exact ⟨H1, I1, q1⟩
theorem pw_or (ha : PT X a tA) (hb : PW X (.BoolOp .Or (b :: rest) pos) tB') : PW X (.BoolOp .Or (a :: b :: rest) pos) (tOr tA tB') := by
  intro wh pins s σ H Q I h
  refine isTrue_or (thn (ha pins s σ H _ I h) fun c s1 ⟨H1, I1, q1⟩ => ?_)
  cases c with
  | true => exact ⟨H1, I1, q1⟩
  | false => exact hb wh pins s1 σ H1 Q I1 q1
theorem pt_not (ha : PT X a tA) : PT X (.UnaryOp .Not a pos) (tNot tA) := by
  intro pins s σ H Q I h
  exact isTrue_not (ha pins s σ H (fun c H1 => Q (!c) H1) I h)
def tAndV (ta tb : TE) : TE := fun σ H Q => ta σ H fun x H1 => ∃ c, x = .bl c ∧ if c = true then tb σ H1 Q else Q (.bl false) H1
def tOrV (ta tb : TE) : TE := fun σ H Q => ta σ H fun x H1 => ∃ c, x = .bl c ∧ if c = true then Q (.bl true) H1 else tb σ H1 Q
def tNotV (ta : TE) : TE := fun σ H Q => ta σ H fun x H1 => ∃ c, x = .bl c ∧ Q (.bl (!c)) H1
theorem pe_one {op} {t : TE} (h : PE X a t) : PE X (.BoolOp op [a] pos) t := fun pins s σ H Q I hw => BoolOp_one (h pins s σ H Q I hw)
theorem pe_and (ha : PE X a ta) (hb : PE X (.BoolOp .And (b :: rest) pos) tb) : PE X (.BoolOp .And (a :: b :: rest) pos) (tAndV ta tb) := by
  intro pins s σ H Q I h
  refine BoolOp_and (thn (ha pins s σ H _ I h) fun v s1 ⟨x, H1, I1, r1, q1⟩ => ?_)
  obtain ⟨c, rfl, q1⟩ := q1
  cases r1
  refine wpAny_truthy_bool ?_
  cases c with
  | true => exact hb pins s1 σ H1 Q I1 q1
  | false => exact ⟨.bl false, H1, I1, rfl, q1⟩
theorem pe_or (ha : PE X a ta) (hb : PE X (.BoolOp .Or (b :: rest) pos) tb) : PE X (.BoolOp .Or (a :: b :: rest) pos) (tOrV ta tb) := by
  intro pins s σ H Q I h
  refine BoolOp_or (thn (ha pins s σ H _ I h) fun v s1 ⟨x, H1, I1, r1, q1⟩ => ?_)
  obtain ⟨c, rfl, q1⟩ := q1
  cases r1
  refine wpAny_truthy_bool ?_
  cases c with
  | false => exact hb pins s1 σ H1 Q I1 q1
  | true => exact ⟨.bl true, H1, I1, rfl, q1⟩
theorem pe_not (ha : PE X a ta) : PE X (.UnaryOp .Not a pos) (tNotV ta) := by
  intro pins s σ H Q I h
  refine UnaryOp_ (thn (ha pins s σ H _ I h) fun v s1 ⟨x, H1, I1, r1, q1⟩ => ?_)
  obtain ⟨c, rfl, q1⟩ := q1
  cases r1
  exact not_of (wpAny_truthy_bool ⟨.bl (!c), H1, I1, rfl, q1⟩)
def tIf (t : TT) (ta tb : TE) : TE := fun σ H Q => t σ H fun c H1 => if c = true then ta σ H1 Q else tb σ H1 Q
theorem pe_ifExp {c : Expr} (hc : PT X c tA) (ha : PE X a ta) (hb : PE X b tb) : PE X (.IfExp c a b pos) (tIf tA ta tb) := by
  intro pins s σ H Q I h
  refine wpAny_IfExp (thn (hc pins s σ H _ I h) fun d s1 ⟨H1, I1, q1⟩ => ?_)
  cases d with
  | true => exact ha pins s1 σ H1 Q I1 q1
  | false => exact hb pins s1 σ H1 Q I1 q1
end
end L2
namespace L2
open PySem PySem.Spec PyProof.Rows
def SqL (K : PySem.W.Frag) (H : Hp) (a : Addr) (xs : List V) : Prop :=
  Rd H a (.lst xs) ∨
    ∃ (o : Obj) (its : Array Value) (n : Nat), K.lookup a = some o ∧ o.cls = .type "list" ∧ o.dict = none ∧ o.data = .seq its n ∧ its.size ≤ sizeLine ∧ Vals xs its.toList
def SqT (K : PySem.W.Frag) (H : Hp) (a : Addr) (xs : List V) : Prop :=
  Rd H a (.tup xs) ∨
    ∃ (o : Obj) (its : Array Value) (n : Nat), K.lookup a = some o ∧ o.cls = .type "tuple" ∧ o.data = .seq its n ∧ its.size ≤ sizeLine ∧ Vals xs its.toList
def absV : Value → Option V
  | .none => some .non
  | .bool b => some (.bl b)
  | .int i _ => some (.int i)
  | .str x _ => some (.str x)
  | .bytes b _ => some (.byt b)
  | .float b _ => some (.flt b)
  | .ref a => some (.ref a)
  | .type n => some (.ty n)
  | _ => none
theorem RelV.abs {x : V} {u : Value} (r : RelV x u) : absV u = some x := by
  cases x with
  | non => cases r; rfl
  | bl _ => cases r; rfl
  | int _ => obtain ⟨t, rfl⟩ := r; rfl
  | str _ => obtain ⟨t, rfl⟩ := r; rfl
  | byt _ => obtain ⟨t, rfl⟩ := r; rfl
  | flt _ => obtain ⟨t, rfl⟩ := r; rfl
  | ref _ => cases r; rfl
  | ty _ => cases r; rfl
theorem RelV.inj {x y : V} {u : Value} (r : RelV x u) (q : RelV y u) : x = y := Option.some.inj (r.abs.symm.trans q.abs)
theorem Vals.inj : ∀ {xs ys : List V} {us : List Value}, Vals xs us → Vals ys us → xs = ys
  | _, _, _, .nil, .nil => rfl
  | _, _, _, .cons r t, .cons r' t' => by rw [r.inj r', Vals.inj t t']
section
variable {X : Cx} {pins : List (Addr × Obj)} {σ : St} {H : Hp} {s : Shared} {a : Addr} {xs ys : List V}
theorem SqL.of {K : PySem.W.Frag} (h : H a = some (.lst xs)) : SqL K H a xs := .inl (.inl h)
theorem SqT.of {K : PySem.W.Frag} (h : H a = some (.tup xs)) : SqT K H a xs := .inl (.inl h)
theorem Inv.list (I : Inv X pins σ H s) (h : SqL X.K H a xs) : ∃ its : List Value, Vals xs its ∧ PlainL s.heap a its.toArray ∧ xs.length ≤ sizeLine := by
  rcases h with h | ⟨o, its, n, hk, hc, hd, hs, hz, r⟩
  · obtain ⟨z, its, n, r, e⟩ := h.ok I.hok
    exact ⟨its, r, ⟨_, n, e, rfl, rfl, rfl⟩, z⟩
  · refine ⟨its.toList, r, ⟨o, n, I.kIn a o hk, hc, hd, by simpa using hs⟩, ?_⟩
    have e := r.length
    simp only [Array.length_toList] at e
    omega
theorem Inv.tuple (I : Inv X pins σ H s) (h : SqT X.K H a xs) : ∃ its : List Value, Vals xs its ∧ IsTup s.heap a its.toArray ∧ xs.length ≤ sizeLine := by
  rcases h with h | ⟨o, its, n, hk, hc, hs, hz, r⟩
  · obtain ⟨z, its, r, p⟩ := h.ok I.hok
    exact ⟨its, r, p, z⟩
  · refine ⟨its.toList, r, ⟨o, I.kIn a o hk, hc, n, by simpa using hs⟩, ?_⟩
    have e := r.length
    simp only [Array.length_toList] at e
    omega
theorem Inv.list_inj (I : Inv X pins σ H s) (h : SqL X.K H a xs) (h' : SqL X.K H a ys) : xs = ys := by
  obtain ⟨its, r, ⟨o, n, e, _, _, d⟩, _⟩ := I.list h
  obtain ⟨its', r', ⟨o', n', e', _, _, d'⟩, _⟩ := I.list h'
  rw [e] at e'; cases e'
  rw [d] at d'
  injection d' with d1 _
  have : its = its' := by simpa using congrArg Array.toList d1
  subst this
  exact r.inj r'
theorem Inv.tuple_inj (I : Inv X pins σ H s) (h : SqT X.K H a xs) (h' : SqT X.K H a ys) : xs = ys := by
  obtain ⟨its, r, ⟨o, e, _, n, d⟩, _⟩ := I.tuple h
  obtain ⟨its', r', ⟨o', e', _, n', d'⟩, _⟩ := I.tuple h'
  rw [e] at e'; cases e'
  rw [d] at d'
  injection d' with d1 _
  have : its = its' := by simpa using congrArg Array.toList d1
  subst this
  exact r.inj r'
end
abbrev Cx.wish (X : Cx) (E : Value → Shared → Prop) : Cx := { X with xe := E }
abbrev Cx.nox (X : Cx) : Cx := X.wish fun _ _ => False
theorem Cx.Ok.wish {X : Cx} (ok : X.Ok) (E : Value → Shared → Prop) : (X.wish E).Ok :=
  ⟨ok.mod, ok.kind, ok.glob, ok.blt, ok.above, ok.inj, ok.has, ok.cab, ok.hd, ok.frames, ok.stk, ok.exf, ok.bs, ok.bsz, ok.noex, ok.exfs, ok.funs, ok.frf⟩
theorem Cx.Ok.unwish {X : Cx} {E : Value → Shared → Prop} (ok : (X.wish E).Ok) : X.Ok :=
  ⟨ok.mod, ok.kind, ok.glob, ok.blt, ok.above, ok.inj, ok.has, ok.cab, ok.hd, ok.frames, ok.stk, ok.exf, ok.bs, ok.bsz, ok.noex, ok.exfs, ok.funs, ok.frf⟩
section
variable {X : Cx} {pins : List (Addr × Obj)} {σ : St} {H : Hp} {s : Shared} {E : Value → Shared → Prop}
theorem Inv.wish (I : Inv X pins σ H s) (E : Value → Shared → Prop) : Inv (X.wish E) pins σ H s := ⟨I.ok.wish E, I.os, I.bare, I.base, I.loc, I.cell, I.free, I.freeC, I.pin, I.hok, I.len⟩
theorem Inv.unwish (I : Inv (X.wish E) pins σ H s) : Inv X pins σ H s := ⟨I.ok.unwish, I.os, I.bare, I.base, I.loc, I.cell, I.free, I.freeC, I.pin, I.hok, I.len⟩
theorem SP.unwish {D : Ends} {f : Flow} {s' : Shared} (h : SP (X.wish E) pins D f s') : SP X pins D f s' := by
  cases f with
  | next => obtain ⟨σ', H', I, q⟩ := h; exact ⟨σ', H', I.unwish, q⟩
  | brk => obtain ⟨σ', H', I, q⟩ := h; exact ⟨σ', H', I.unwish, q⟩
  | cont => obtain ⟨σ', H', I, q⟩ := h; exact ⟨σ', H', I.unwish, q⟩
  | ret u => obtain ⟨v, σ', H', I, r, q⟩ := h; exact ⟨v, σ', H', I.unwish, r, q⟩
theorem PE.nox {e : Expr} {t : TE} (h : PE X.nox e t) : PE X e t := fun pins s σ H Q I hw =>
  wpAny_mono (h pins s σ H Q (I.wish _) hw) (fun _ _ ⟨v, H', I', r, q⟩ => ⟨v, H', I'.unwish, r, q⟩) fun _ _ z => False.elim z
theorem PT.nox {e : Expr} {t : TT} (h : PT X.nox e t) : PT X e t := fun pins s σ H Q I hw =>
  wpAny_mono (h pins s σ H Q (I.wish _) hw) (fun _ _ ⟨H', I', q⟩ => ⟨H', I'.unwish, q⟩) fun _ _ z => False.elim z
theorem PSs.nox {st : List Stmt} {t : TS} (h : PSs X.nox st t) : PSs X st t := fun pins s σ H D I hw =>
  wpAny_mono (h pins s σ H D (I.wish _) hw) (fun _ _ q => q.unwish) fun _ _ z => False.elim z
end
section
variable {X : Cx} {st : Stmt} {rest : List Stmt} {t u : TS} {e : Expr} {te : TE} {pos : Pos}
def tNext : TS := fun D σ H => D.nx σ H
def tSeq (t u : TS) : TS := fun D σ H => t { D with nx := u D } σ H
theorem pss_nil : PSs X [] tNext := fun _ _ σ H _ I h => wpAny_execs_nil ⟨σ, H, I, h⟩
theorem pss_cons (h1 : PS X st t) (h2 : PSs X rest u) : PSs X (st :: rest) (tSeq t u) := by
  intro pins s σ H D I h
  refine wpAny_execs_cons (thn (h1 pins s σ H { D with nx := u D } I h) fun f s1 q => ?_)
  cases f with
  | next =>
    obtain ⟨σ', H', I', q⟩ := q
    exact h2 pins s1 σ' H' D I' q
  | ret v => exact q
  | brk => exact q
  | cont => exact q
theorem pss_one (h1 : PS X st t) : PSs X [st] t := by
  intro pins s σ H D I h
  refine wpAny_execs_cons (thn (h1 pins s σ H D I h) fun f s1 q => ?_)
  cases f with
  | next => exact wpAny_execs_nil q
  | ret v => exact q
  | brk => exact q
  | cont => exact q
theorem Inv.quiet {pins : List (Addr × Obj)} {σ : St} {H : Hp} {s : Shared} (I : Inv X pins σ H s) : interactive X.env = false := by simp [interactive, I.ok.kind]
def tDrop (te : TE) : TS := fun D σ H => te σ H fun _ H1 => D.nx σ H1
theorem ps_expr (he : PE X e te) (hs : swapsWith e none pos.line X.env = pure false := by rfl) : PS X (.Expr e pos) (tDrop te) := by
  intro pins s σ H D I h
  exact wpAny_Expr_any (thn (he pins s σ H _ I h) fun v s1 ⟨x, H1, I1, r1, q1⟩ => ⟨σ, H1, I1, q1⟩) I.quiet hs
def tRet (te : TE) : TS := fun D σ H => te σ H D.rt
theorem ps_ret (he : PE X e te) : PS X (.Return (some e) pos) (tRet te) := by
  intro pins s σ H D I h
  exact wpAny_Return_some (thn (he pins s σ H _ I h) fun v s1 ⟨x, H1, I1, r1, q1⟩ => ⟨x, σ, H1, I1, r1, q1⟩)
def tIfS (c : TT) (t u : TS) : TS := fun D σ H => c σ H fun b H1 => if b = true then t D σ H1 else u D σ H1
theorem ps_if {c : Expr} {a b : List Stmt} {tc : TT} (hc : PT X c tc) (ha : PSs X a t) (hb : PSs X b u) : PS X (.If c a b pos) (tIfS tc t u) := by
  intro pins s σ H D I h
  refine wpAny_If (thn (hc pins s σ H _ I h) fun d s1 ⟨H1, I1, q1⟩ => ?_)
  cases d with
  | true => exact ha pins s1 σ H1 D I1 q1
  | false => exact hb pins s1 σ H1 D I1 q1
def tNever : TS := fun _ _ _ => False
theorem ps_never : PS X st tNever := fun _ _ _ _ _ _ h => h.elim
end
abbrev TG := V → St → Hp → (St → Hp → Prop) → Prop
abbrev TGs := List V → St → Hp → (St → Hp → Prop) → Prop
def PG (X : Cx) (target : Expr) (t : TG) : Prop :=
  ∀ (pins : List (Addr × Obj)) (s : Shared) (σ : St) (H : Hp) (v : V) (u : Value) (Q : St → Hp → Prop), Inv X pins σ H s → RelV v u → t v σ H Q →
    wpAny (model X.prog X.w) X.A (assign target X.env u) (fun _ s' => ∃ σ' H', Inv X pins σ' H' s' ∧ Q σ' H') X.xe s
def PGs (X : Cx) (ts : List Expr) (t : TGs) : Prop :=
  ∀ (pins : List (Addr × Obj)) (s : Shared) (σ : St) (H : Hp) (vs : List V) (us : List Value) (Q : St → Hp → Prop), Inv X pins σ H s → Vals vs us → t vs σ H Q →
    wpAny (model X.prog X.w) X.A (assignInOrder ((assignEach ts X.env).map (·.2)) us) (fun _ s' => ∃ σ' H', Inv X pins σ' H' s' ∧ Q σ' H') X.xe s
abbrev TSet := V → V → V → Hp → (Hp → Prop) → Prop
def PSet (X : Cx) (t : TSet) : Prop :=
  ∀ (pins : List (Addr × Obj)) (s : Shared) (σ : St) (H : Hp) (o i v : V) (ov iv u : Value) (Q : Hp → Prop), Inv X pins σ H s → RelV o ov → RelV i iv → RelV v u → t o i v H Q →
    wpAny (model X.prog X.w) X.A (setItem ov iv u) (fun _ s' => ∃ H', Inv X pins σ H' s' ∧ Q H') X.xe s
abbrev TIp := V → V → Hp → VK → Prop
section
variable {X : Cx} {pos : Pos}
def gName (i : Nat) : TG := fun v σ H Q => Q (σ.set i (some v)) H
theorem pg_name {i : Nat} {x : Str} (hN : X.N.Nodup) (hi : X.N[i]? = some x) (hx : Loc X.env.scope x) (hf : X.fn x = true ∨ X.env.scope.names.lookup x = some .local := by first | exact .inl rfl | exact .inr rfl | assumption) : PG X (.Name x pos) (gName i) := by
  intro pins s σ H v u Q I r h
  exact wpAny_assign_Name (store_ok I hN hi hx r (fun s' I' => ⟨_, H, I', h⟩) hf)
def gNil : TGs := fun vs σ H Q => vs = [] ∧ Q σ H
def gCons (t : TG) (u : TGs) : TGs := fun vs σ H Q => ∃ v r, vs = v :: r ∧ t v σ H fun σ' H' => u r σ' H' Q
theorem pgs_nil : PGs X [] gNil := by
  intro pins s σ H vs us Q I r h
  obtain ⟨e, h⟩ := h
  subst e
  cases r
  exact assignInOrder_nil ⟨σ, H, I, h⟩
theorem pgs_cons {e : Expr} {es : List Expr} {t : TG} {u : TGs} (h1 : PG X e t) (h2 : PGs X es u)
    (hs : (assignEach (e :: es) X.env).map (·.2) = assign e X.env :: (assignEach es X.env).map (·.2) := by rfl) : PGs X (e :: es) (gCons t u) := by
  intro pins s σ H vs us Q I r h
  obtain ⟨v, vr, e1, h⟩ := h
  subst e1
  cases r with
  | cons r rr =>
    rw [hs]
    refine assignInOrder_cons (thn (h1 pins s σ H _ _ _ I r h) fun _ s1 ⟨σ1, H1, I1, q1⟩ => ?_)
    exact h2 pins s1 σ1 H1 _ _ Q I1 rr q1
def gTup (K : PySem.W.Frag) (n : Nat) (t : TGs) : TG := fun v σ H Q => ∃ a xs, v = .ref a ∧ SqT K H a xs ∧ xs.length = n ∧ t xs σ H Q
theorem pg_tup {es : List Expr} {k : Nat} {t : TGs} {n : Nat} (hc : X.calm = true) (h : PGs X es t)
    (hn : (assignEach es X.env).length = n := by rfl) (hst : (assignEach es X.env).findIdx? (·.1) = none := by rfl) : PG X (.Tuple es k pos) (gTup X.K n t) := by
  intro pins s σ H v u Q I r hw
  obtain ⟨a, xs, e1, hq, hl, hw⟩ := hw
  subst e1
  cases r
  obtain ⟨its, rv, ht, hz⟩ := I.tuple hq
  refine assign_Tuple_tuple (I.ok.hd hc) ht (by simp [hn, ← hl, rv.length]) hst fun h' hx => ?_
  have I1 : Inv X pins σ H { s with heap := h' } := I.kept (t' := s.toks) fun b o e => hx b o (Nat.ne_of_lt (Heap.lt_size e)) e
  exact h pins _ σ H xs _ Q I1 (by simpa using rv) hw
def gSub (to ti : TE) (t : TSet) : TG := fun v σ H Q => to σ H fun o H1 => ti σ H1 fun i H2 => t o i v H2 fun H3 => Q σ H3
theorem pg_sub {o i : Expr} {to ti : TE} {t : TSet} (ho : PE X o to) (hi : PE X i ti) (hs : PSet X t)
    (ha : ∀ v, assign (.Subscript o i pos) X.env v = (do
      let ov ← holding [v] (eval o X.env)
      let iv ← holding [v, ov] (eval i X.env)
      standAt pos
      holding [v, ov, iv] (setItem ov iv v)
      release [v, ov, iv] []) := by intro _; rfl) : PG X (.Subscript o i pos) (gSub to ti t) := by
  intro pins s σ H v u Q I r h
  rw [ha]
  refine wpAny_bind (wpAny_holding (thn (ho pins s σ H _ I h) fun ov s1 ⟨x, H1, I1, r1, q1⟩ => ?_))
  refine wpAny_bind (wpAny_holding (thn (hi pins s1 σ H1 _ I1 q1) fun iv s2 ⟨y, H2, I2, r2, q2⟩ => ?_))
  refine wpAny_bind (wpAny_standAt (wpAny_bind (wpAny_holding (thn (hs pins s2 σ H2 x y v ov iv u _ I2 r1 r2 r q2) fun _ s3 ⟨H3, I3, q3⟩ => ?_))))
  exact wpAny_release ⟨σ, H3, I3, q3⟩
def tAsg (te : TE) (g : TG) : TS := fun D σ H => te σ H fun x H1 => g x σ H1 D.nx
theorem ps_asg {tg e : Expr} {te : TE} {g : TG} (he : PE X e te) (hg : PG X tg g) (hs : swapsWithSole [tg] e pos.line X.env = pure false := by rfl) (hw : swappedStores [tg] e X.env = pure none := by rfl)
    (h1 : (assignEach [tg] X.env).map (·.2) = [assign tg X.env] := by rfl) : PS X (.Assign [tg] e pos) (tAsg te g) := by
  intro pins s σ H D I h
  refine wpAny_Assign_stores (thn (he pins s σ H _ I h) fun v s1 ⟨x, H1, I1, r1, q1⟩ => ?_) hs hw
  rw [h1]
  exact thn (hg pins s1 σ H1 x v _ I1 r1 q1) fun _ s2 q => q
theorem ps_set {i : Nat} {x : Str} {e : Expr} {te : TE} {pos' : Pos} (hN : X.N.Nodup) (hi : X.N[i]? = some x) (hx : Loc X.env.scope x) (he : PE X e te) (hs : swapsWith e (some (.Name x pos')) pos.line X.env = pure false := by rfl) (hf : X.fn x = true ∨ X.env.scope.names.lookup x = some .local := by first | exact .inl rfl | exact .inr rfl | assumption) :
    PS X (.Assign [.Name x pos'] e pos) (tAsg te (gName i)) := by
  intro pins s σ H D I h
  refine wpAny_Assign_Name (thn (he pins s σ H _ I h) fun v s1 ⟨y, H1, I1, r1, q1⟩ => ?_) hs
  exact store_ok I1 hN hi hx r1 (fun s2 I2 => ⟨_, H1, I2, q1⟩) hf
end
section
variable {X : Cx} {pos : Pos}
end
structure It where
  go : Nat → Hp → Prop
  yld : Nat → Hp → V → Hp → Prop
  stop : Nat → Hp → Prop
def FpOk (X : Cx) (pins : List (Addr × Obj)) (H : Hp) (b : Addr) : Prop :=
  H b = none ∧ b ≠ X.env.locals ∧ b ∉ X.fs ∧ (b ∈ X.ex ∨ X.s₀.heap.objs.size ≤ b) ∧ (∀ x c, X.env.cells.lookup x = some c → c ≠ b) ∧ ∀ p ∈ X.pn ++ pins, p.1 ≠ b
theorem Inv.fpOk {X : Cx} {pins : List (Addr × Obj)} {σ : St} {H H' : Hp} {s : Shared} {b : Addr} (I : Inv X pins σ H s) (hb : s.heap.objs.size ≤ b) (hn : H' b = none) : FpOk X pins H' b := by
  refine ⟨hn, Nat.ne_of_gt (Nat.lt_of_lt_of_le I.lt hb), I.nofs hb, .inr (Nat.le_trans I.sz hb), fun x c e z => ?_, fun p hp z => ?_⟩
  · obtain ⟨v, q⟩ := I.cell x c e
    exact absurd (Nat.lt_of_lt_of_le q.lt (by rw [z]; exact hb)) (Nat.lt_irrefl _)
  · exact absurd (Nat.lt_of_lt_of_le (Heap.lt_size (I.pin p hp).1) (by rw [z]; exact hb)) (Nat.lt_irrefl _)
structure Turn (P : Program) (w : World) (K : PySem.W.Frag) (tg : Expr) (J : It) (fp : List Addr) (it : Addr) (tn : Nat → Heap → Prop) : Prop where
  mem : it ∈ fp
  obj : ∀ i h, tn i h → ∀ b ∈ fp, ∃ o, h.get? b = some o ∧ ∀ v, o.data ≠ .cell v
  keep : ∀ i h h', tn i h → (∀ b ∈ fp, ∀ o, h.get? b = some o → h'.get? b = some o) → tn i h'
  item : ∀ (X : Cx), X.prog = P → X.w = w → X.K = K → X.calm = true → ∀ (i : Nat) (pins : List (Addr × Obj)) (s : Shared) (σ : St) (H : Hp) (E : Value → Shared → Prop), Inv X pins σ H s → (∀ b ∈ fp, FpOk X pins H b) → tn i s.heap → J.go i H →
    wpAny (model P w) X.A (pyNext (.ref it)) (fun r s1 => ∃ u, r = some u ∧
      wpAny (model P w) X.A (letOwnedTupleGo tg (.ref it) u) (fun _ s2 => ∃ x H', Inv X pins σ H' s2 ∧ RelV x u ∧ J.yld i H x H' ∧ tn (i + 1) s2.heap ∧ ∀ b ∈ fp, H' b = none) E s1) E s
  done : ∀ (X : Cx), X.prog = P → X.w = w → X.K = K → X.calm = true → ∀ (i : Nat) (pins : List (Addr × Obj)) (s : Shared) (σ : St) (H : Hp) (E : Value → Shared → Prop), Inv X pins σ H s → (∀ b ∈ fp, FpOk X pins H b) → tn i s.heap → J.stop i H →
    wpAny (model P w) X.A (pyNext (.ref it)) (fun r s1 => r = none ∧ Inv X pins σ H s1) E s
  self : ∀ (A : Around) (i : Nat) (s : Shared) (Q : Value → Shared → Prop) (E : Value → Shared → Prop), tn i s.heap → Q (.ref it) s → wpAny (model P w) A (pyIter (.ref it)) Q E s
abbrev TI := St → Hp → (It → Hp → Prop) → Prop
def PIE (X : Cx) (pins : List (Addr × Obj)) (σ : St) (tg : Expr) (R : It → Hp → Prop) (itv : Value) (s2 : Shared) : Prop :=
  ∃ (it : Addr) (fp : List Addr) (tn : Nat → Heap → Prop) (J : It) (H' : Hp), itv = .ref it ∧ Inv X pins σ H' s2 ∧ Turn X.prog X.w X.K tg J fp it tn ∧ tn 0 s2.heap ∧ (∀ b ∈ fp, FpOk X pins H' b) ∧ R J H'
def PI (X : Cx) (tg iter : Expr) (wi : TI) : Prop :=
  ∀ (pins : List (Addr × Obj)) (s : Shared) (σ : St) (H : Hp) (R : It → Hp → Prop), Inv X pins σ H s → wi σ H R →
    wpAny (model X.prog X.w) X.A (eval iter X.env) (fun v s1 => wpAny (model X.prog X.w) X.A (pyIter v) (PIE X pins σ tg R) X.xe s1) X.xe s
theorem go_of {M : Model} {A : Around} {E : Value → Shared → Prop} {s : Shared} {tg : Expr} {it : Addr} {u : Value} {o : Obj} {n : String} {vs : Array Value} {Q : Unit → Shared → Prop} (ho : s.heap.get? it = some o) (hc : o.cls = .type n) (hd : o.data = .fields vs)
    (hn : ["enumerate", "zip", "dict_itemiterator", "dict_reverseitemiterator", "odict_iterator", "itertools.zip_longest", "itertools.pairwise"].contains n = false) (hQ : Q () s) : wpAny M A (letOwnedTupleGo tg (.ref it) u) Q E s := by
  unfold letOwnedTupleGo
  cases tg <;> first
    | exact wpAny_pure hQ
    | (cases u <;> first
        | exact wpAny_pure hQ
        | (refine wpAny_bind (wpAny_load ho ?_)
           rw [hc, hd]
           show wpAny M A (if (["enumerate", "zip", "dict_itemiterator", "dict_reverseitemiterator", "odict_iterator", "itertools.zip_longest", "itertools.pairwise"].contains n && vs[0]? == some (rawInt _)) = true then _ else _) Q E s
           rw [if_neg (by intro h; rw [hn, Bool.false_and] at h; cases h)]
           exact wpAny_pure hQ))
def Itl (K : PySem.W.Frag) (a : Addr) : It :=
  ⟨fun i H => ∃ xs x, SqL K H a xs ∧ xs[i]? = some x, fun i H x H' => H' = H ∧ ∀ xs, SqL K H a xs → xs[i]? = some x, fun i H => ∃ xs, SqL K H a xs ∧ xs.length ≤ i⟩
def Itt (K : PySem.W.Frag) (a : Addr) : It :=
  ⟨fun i H => ∃ xs x, SqT K H a xs ∧ xs[i]? = some x, fun i H x H' => H' = H ∧ ∀ xs, SqT K H a xs → xs[i]? = some x, fun i H => ∃ xs, SqT K H a xs ∧ xs.length ≤ i⟩
def Itr (lo : Int) (n : Nat) : It := ⟨fun i _ => i < n, fun i H x H' => H' = H ∧ x = .int (lo + i), fun i _ => n ≤ i⟩
theorem turn_list {P : Program} {w : World} {K : PySem.W.Frag} {tg : Expr} (a it : Addr) : Turn P w K tg (Itl K a) [it] it (fun i h => h.IsListIter it a i) where
  mem := by simp
  obj := fun i h st b hb => by
    have e : b = it := by simpa using hb
    subst e
    obtain ⟨o, e, c, d⟩ := st
    exact ⟨o, e, fun v z => by rw [d] at z; cases z⟩
  keep := fun i h h' st k => st.at fun o e => k it (by simp) o e
  item := by
    intro X hP hw hK hc i pins s σ H E I hf st hg
    subst hP hw hK
    obtain ⟨xs, x, hq, hx⟩ := hg
    obtain ⟨its, rv, p, hz⟩ := I.list hq
    obtain ⟨u, hu, ru⟩ := rv.get hx
    obtain ⟨f0, f1, f2, f3, f4, f5⟩ := hf it (by simp)
    refine wpAny_pyNext_list_item st p.isList (x := u) (by simpa using hu) fun h' st' sb => ?_
    have I1 : Inv X pins σ H { s with heap := h' } := I.turned (t' := s.toks) (fun b o hb e => (sb.2 b hb).trans e) f0 f1 f3 f4 f5
    obtain ⟨o, e, c, d⟩ := id st'
    exact ⟨u, rfl, go_of (s := { s with heap := h' }) e c d (by decide) ⟨x, H, I1, ru, ⟨rfl, fun ys hy => by rw [I.list_inj hy hq]; exact hx⟩, st', fun b hb => (hf b hb).1⟩⟩
  done := by
    intro X hP hw hK hc i pins s σ H E I hf st hg
    subst hP hw hK
    obtain ⟨xs, hq, hx⟩ := hg
    obtain ⟨its, rv, p, hz⟩ := I.list hq
    obtain ⟨f0, f1, f2, f3, f4, f5⟩ := hf it (by simp)
    have hl := rv.length
    exact wpAny_pyNext_list_end (I.ok.hd hc) st p.isList (by simp; omega) fun h' eb => ⟨rfl, I.turned (t' := s.toks) (fun b o hb e => eb b o hb e) f0 f1 f3 f4 f5⟩
  self := fun _ _ _ _ _ st h => wpAny_pyIter_listiter st h
theorem turn_tuple {P : Program} {w : World} {K : PySem.W.Frag} {tg : Expr} (a it : Addr) : Turn P w K tg (Itt K a) [it] it (fun i h => h.IsTupleIter it a i) where
  mem := by simp
  obj := fun i h st b hb => by
    have e : b = it := by simpa using hb
    subst e
    obtain ⟨o, e, c, d⟩ := st
    exact ⟨o, e, fun v z => by rw [d] at z; cases z⟩
  keep := fun i h h' st k => st.at fun o e => k it (by simp) o e
  item := by
    intro X hP hw hK hc i pins s σ H E I hf st hg
    subst hP hw hK
    obtain ⟨xs, x, hq, hx⟩ := hg
    obtain ⟨its, rv, p, hz⟩ := I.tuple hq
    obtain ⟨u, hu, ru⟩ := rv.get hx
    obtain ⟨f0, f1, f2, f3, f4, f5⟩ := hf it (by simp)
    refine wpAny_pyNext_tuple_item st (show s.heap.IsTuple a its.toArray from p) (x := u) (by simpa using hu) fun h' st' sb => ?_
    have I1 : Inv X pins σ H { s with heap := h' } := I.turned (t' := s.toks) (fun b o hb e => (sb.2 b hb).trans e) f0 f1 f3 f4 f5
    obtain ⟨o, e, c, d⟩ := id st'
    exact ⟨u, rfl, go_of (s := { s with heap := h' }) e c d (by decide) ⟨x, H, I1, ru, ⟨rfl, fun ys hy => by rw [I.tuple_inj hy hq]; exact hx⟩, st', fun b hb => (hf b hb).1⟩⟩
  done := by
    intro X hP hw hK hc i pins s σ H E I hf st hg
    subst hP hw hK
    obtain ⟨xs, hq, hx⟩ := hg
    obtain ⟨its, rv, p, hz⟩ := I.tuple hq
    obtain ⟨f0, f1, f2, f3, f4, f5⟩ := hf it (by simp)
    have hl := rv.length
    exact wpAny_pyNext_tuple_end (I.ok.hd hc) st (show s.heap.IsTuple a its.toArray from p) (by simp; omega) fun h' eb => ⟨rfl, I.turned (t' := s.toks) (fun b o hb e => eb b o hb e) f0 f1 f3 f4 f5⟩
  self := fun _ _ _ _ _ st h => wpAny_pyIter_tupleiter st h
theorem turn_range {P : Program} {w : World} {K : PySem.W.Frag} {tg : Expr} (it : Addr) (lo : Int) (n : Nat) : Turn P w K tg (Itr lo n) [it] it (fun i h => IsRangeIter h it (lo + (i : Nat) * 1) ((n : Int) - (i : Nat)) 1) where
  mem := by simp
  obj := fun i h st b hb => by
    have e : b = it := by simpa using hb
    subst e
    exact ⟨_, st, fun v z => by
      have z' : Data.fields _ = Data.cell v := z
      cases z'⟩
  keep := fun i h h' st k => k it (by simp) _ st
  item := by
    intro X hP hw hK hc i pins s σ H E I hf st hg
    subst hP hw hK
    obtain ⟨f0, f1, f2, f3, f4, f5⟩ := hf it (by simp)
    have W := Walks.range (prog := X.prog) (w := X.w) (I.ok.hd hc) it lo 1 n
    refine W.item i s _ _ hg st fun v h' tk hv st' kk => ?_
    obtain ⟨t, rfl⟩ := hv
    have I1 : Inv X pins σ H { s with heap := h', toks := tk } := I.turned (fun b o hb e => kk b o (by simpa using hb) e) f0 f1 f3 f4 f5
    refine ⟨_, rfl, go_of (s := { s with heap := h', toks := tk }) (n := "range_iterator") st' rfl rfl (by decide) ⟨.int (lo + i), H, I1, ⟨t, ?_⟩, ⟨rfl, rfl⟩, st', fun b hb => (hf b hb).1⟩⟩
    rw [Int.mul_one]
  done := by
    intro X hP hw hK hc i pins s σ H E I hf st hg
    subst hP hw hK
    obtain ⟨f0, f1, f2, f3, f4, f5⟩ := hf it (by simp)
    exact wpAny_pyNext_range_end (I.ok.hd hc) st (by have : n ≤ i := hg; omega) fun h' eb => ⟨rfl, I.turned (t' := s.toks) (fun b o hb e => eb b o hb e) f0 f1 f3 f4 f5⟩
  self := fun _ _ _ _ _ st h => wpAny_pyIter_rangeiter st h
end L2
namespace L2
open PySem PySem.Spec PyProof.Rows
section
variable {X : Cx} {tg : Expr}
theorem range_it {pins : List (Addr × Obj)} {σ : St} {H : Hp} {s : Shared} {R : It → Hp → Prop} {E : Value → Shared → Prop} {lo hi : Int} {t u v : Tok} {tk : Nat} (I : Inv X pins σ H s) (h1 : -(2 ^ 62) ≤ lo) (h2 : lo < 2 ^ 62) (h3 : -(2 ^ 62) ≤ hi) (h4 : hi < 2 ^ 62)
    (q : R (Itr lo (hi - lo).toNat) H) : wpAny (model X.prog X.w) X.A (pyIter (.ref s.heap.objs.size)) (PIE X pins σ tg R) E { s with heap := s.heap.push { cls := .type "range", data := .fields #[.int lo t, .int hi u, .int 1 v] }, toks := tk } := by
  refine wpAny_pyIter_range (IsRange.new ..) (small_one h1 h2 h3 h4) ?_
  have I1 : Inv X pins σ H { s with heap := s.heap.push { cls := .type "range", data := .fields #[.int lo t, .int hi u, .int 1 v] }, toks := tk } := I.kept fun b o e => Heap.get?_push_of_some _ e
  refine ⟨(s.heap.push { cls := .type "range", data := .fields #[.int lo t, .int hi u, .int 1 v] }).objs.size, [(s.heap.push { cls := .type "range", data := .fields #[.int lo t, .int hi u, .int 1 v] }).objs.size], _, _, H, rfl,
    I1.kept (t' := tk) fun b o e => Heap.get?_push_of_some _ e, turn_range _ lo (hi - lo).toNat, ?_, fun b hb => ?_, q⟩
  · have e1 : lo + ((0 : Nat) : Int) * 1 = lo := by simp
    have e2 : (((hi - lo).toNat : Nat) : Int) - ((0 : Nat) : Int) = Builtin.Range.rangeSize lo hi 1 := by rw [rangeSize_one]; split <;> omega
    show IsRangeIter _ _ (lo + ((0 : Nat) : Int) * 1) ((((hi - lo).toNat : Nat) : Int) - ((0 : Nat) : Int)) 1
    rw [e1, e2]
    exact Heap.get?_push_size _ rfl
  · have e : b = (s.heap.push { cls := .type "range", data := .fields #[.int lo t, .int hi u, .int 1 v] }).objs.size := by simpa using hb
    subst e
    exact I1.fpOk (Nat.le_refl _) (I1.hok.fresh (Nat.le_refl _))
def iRng1 (ta : TA) : TI := fun σ H R => ta σ H fun vs H1 => ∃ j : Int, vs = [.int j] ∧ -(2 ^ 62) ≤ j ∧ j < 2 ^ 62 ∧ R (Itr 0 j.toNat) H1
theorem pi_range1 {a : Expr} {ta : TA} {p pos : Pos} (hg : Gl X "range") (hm : X.mg "range" = none) (ha : PA X [a] ta) (hs : starEach [a] X.env = [(false, eval a X.env)] := by rfl) : PI X tg (.Call (.Name "range" p) [a] [] pos) (iRng1 ta) := by
  intro pins s σ H R I h
  refine Call_ (ld_blt I hg hm boot_range (PyProof.Rows.callWith_type1 (thn (ha pos pins s σ H _ I h) fun us s1 ⟨vs, H1, I1, r1, q1⟩ => ?_) hs rfl))
  obtain ⟨j, e, q1, q2, q⟩ := q1
  subst e
  cases r1 with
  | cons r rr =>
    cases rr
    obtain ⟨t, rfl⟩ := r
    exact call_range_1 (range_it I1 (by omega) (by omega) q1 q2 (by simpa using q))
def tFor (wi : TI) (g : TG) (tb : TS) : TS := fun D σ H => wi σ H fun J H1 => ∃ W : Nat → Nat → St → Hp → Prop, (∃ m, W 0 m σ H1) ∧ ∀ i m σ H, W i m σ H →
  (J.stop i H ∧ D.nx σ H) ∨ (J.go i H ∧ ∃ N : St → Hp → Prop, (∀ σ' H', N σ' H' → ∃ m', m' < m ∧ W (i + 1) m' σ' H') ∧ ∀ x H', J.yld i H x H' → g x σ H' fun σ2 H2 => tb { D with nx := N, ct := N, bk := D.nx } σ2 H2)
def pinsAt (fp : List Addr) (h : Heap) : List (Addr × Obj) := fp.filterMap fun b => (h.get? b).map fun o => (b, o)
theorem mem_pinsAt {fp : List Addr} {h : Heap} {b : Addr} {o : Obj} (hb : b ∈ fp) (e : h.get? b = some o) : (b, o) ∈ pinsAt fp h := List.mem_filterMap.mpr ⟨b, hb, by rw [e]; rfl⟩
theorem of_pinsAt {fp : List Addr} {h : Heap} {p : Addr × Obj} (hp : p ∈ pinsAt fp h) : p.1 ∈ fp ∧ h.get? p.1 = some p.2 := by
  obtain ⟨b, hb, e⟩ := List.mem_filterMap.mp hp
  cases q : h.get? b with
  | none => rw [q] at e; cases e
  | some o =>
    rw [q] at e
    have e' : (b, o) = p := Option.some.inj e
    subst e'
    exact ⟨hb, q⟩
theorem Inv.pinned {pins : List (Addr × Obj)} {σ : St} {H : Hp} {s : Shared} {fp : List Addr} (I : Inv X pins σ H s) (hf : ∀ b ∈ fp, FpOk X pins H b) (ho : ∀ b ∈ fp, ∃ o, s.heap.get? b = some o ∧ ∀ v, o.data ≠ .cell v) : Inv X (pins ++ pinsAt fp s.heap) σ H s :=
  I.pins_of fun p hp => (List.mem_append.mp hp).elim (fun z => I.pin p (List.mem_append_right _ z)) fun z => by
    obtain ⟨hb, e⟩ := of_pinsAt z
    obtain ⟨f0, f1, f2, _⟩ := hf p.1 hb
    obtain ⟨o, e', d⟩ := ho p.1 hb
    rw [e] at e'; cases e'
    exact ⟨e, f0, f1, f2, d⟩
theorem Inv.unpinned {pins pl : List (Addr × Obj)} {σ : St} {H : Hp} {s : Shared} (I : Inv X (pins ++ pl) σ H s) : Inv X pins σ H s := I.pins_of fun p hp => I.pin p (List.mem_append_right _ (List.mem_append_left _ hp))
theorem ps_for {iter : Expr} {body : List Stmt} {wi : TI} {g : TG} {tb : TS} {pos : Pos} (hp : PassesOwn (model X.prog X.w) X.A X.env X.xe) (hc : X.calm = true) (hi : PI X tg iter wi) (hg : PG X tg g) (hb : PSs X body tb)
    (hs : ∀ x, foldedSetIterable iter X.env x = pure x := by intro _; rfl) : PS X (.For tg iter body [] pos) (tFor wi g tb) := by
  intro pins s σ H D I h
  refine wpAny_For (thn (hi pins s σ H _ I h) fun v s1 h1 => thn h1 fun itv s2 h2 => ?_) hs
  obtain ⟨it, fp, tn, J, H2, e, I2, T, st2, f2, W, ⟨m0, w0⟩, turn⟩ := h2
  subst e
  -- what stays true of the iterator's objects through the loop
  have stat : ∀ {H' : Hp}, (∀ b ∈ fp, H' b = none) → ∀ b ∈ fp, FpOk X pins H' b := fun hn b hb => ⟨hn b hb, (f2 b hb).2⟩
  refine codeAny_forLoop_any (fun n s' => ∃ i σ' H', Inv X pins σ' H' s' ∧ tn i s'.heap ∧ (∀ b ∈ fp, H' b = none) ∧ W i n σ' H') ?_ m0 ⟨0, σ, H2, I2, st2, fun b hb => (f2 b hb).1, w0⟩
  rintro n s3 ⟨i, σ3, H3, I3, st3, fr3, w3⟩
  rcases turn i n σ3 H3 w3 with ⟨stop, qn⟩ | ⟨go, N, hN, step⟩
  · refine wpAny_passesOwn hp (thn (T.done X rfl rfl rfl hc i pins s3 σ3 H3 X.xe I3 (stat fr3) st3 stop) fun r s4 ⟨hr, I4⟩ => ?_)
    subst hr
    exact wpAny_execs_nil ⟨σ3, H3, I4, qn⟩
  · refine wpAny_passesOwn hp (thn (T.item X rfl rfl rfl hc i pins s3 σ3 H3 X.xe I3 (stat fr3) st3 go) fun r s4 ⟨u, hr, h4⟩ => ?_)
    subst hr
    refine wpAny_passesOwn hp (thn h4 fun _ s5 ⟨x, H5, I5, r5, y5, st5, fr5⟩ => ?_)
    have I5' := I5.pinned (stat fr5) (T.obj _ _ st5)
    refine wpAny_passesOwn hp (thn (hg _ s5 σ3 H5 x u _ I5' r5 (step x H5 y5)) fun _ s6 ⟨σ6, H6, I6, q6⟩ => ?_)
    refine wpAny_passesOwn hp (thn (hb _ s6 σ6 H6 _ I6 q6) fun f s7 q7 => ?_)
    have again : ∀ {σ7 : St} {H7 : Hp}, Inv X (pins ++ pinsAt fp s5.heap) σ7 H7 s7 → N σ7 H7 → ∃ m, m < n ∧ ∃ i σ' H', Inv X pins σ' H' s7 ∧ tn i s7.heap ∧ (∀ b ∈ fp, H' b = none) ∧ W i m σ' H' := fun {σ7 H7} I7 n7 => by
      obtain ⟨m', hm, w7⟩ := hN σ7 H7 n7
      refine ⟨m', hm, i + 1, σ7, H7, I7.unpinned, T.keep _ _ _ st5 fun b hb o e => (I7.pin (b, o) (List.mem_append_right _ (List.mem_append_right _ (mem_pinsAt hb e)))).1, fun b hb => ?_, w7⟩
      obtain ⟨o, e, d⟩ := T.obj _ _ st5 b hb
      exact (I7.pin (b, o) (List.mem_append_right _ (List.mem_append_right _ (mem_pinsAt hb e)))).2.1
    cases f with
    | next => obtain ⟨σ7, H7, I7, n7⟩ := q7; exact again I7 n7
    | cont => obtain ⟨σ7, H7, I7, n7⟩ := q7; exact again I7 n7
    | brk => obtain ⟨σ7, H7, I7, q7⟩ := q7; exact ⟨σ7, H7, I7.unpinned, q7⟩
    | ret v => obtain ⟨x7, σ7, H7, I7, r7, q7⟩ := q7; exact ⟨x7, σ7, H7, I7.unpinned, r7, q7⟩
end
end L2
namespace L2
open PySem PySem.Spec PyProof.Rows
abbrev R2 := V → V → Hp → VK → Prop
def OpR (X : Cx) (f : Value → Value → Sem Value) (r : R2) : Prop :=
  ∀ (pins : List (Addr × Obj)) (s : Shared) (σ : St) (H : Hp) (x y : V) (v u : Value) (Q : VK), Inv X pins σ H s → RelV x v → RelV y u → r x y H Q →
    wpAny (model X.prog X.w) X.A (f v u) (EP X pins σ Q) X.xe s
def UnR (X : Cx) (f : Value → Sem Value) (r : V → Hp → VK → Prop) : Prop :=
  ∀ (pins : List (Addr × Obj)) (s : Shared) (σ : St) (H : Hp) (x : V) (v : Value) (Q : VK), Inv X pins σ H s → RelV x v → r x H Q →
    wpAny (model X.prog X.w) X.A (f v) (EP X pins σ Q) X.xe s
def CallR (X : Cx) (f : Value) (r : List V → Hp → VK → Prop) : Prop :=
  ∀ (pins : List (Addr × Obj)) (s : Shared) (σ : St) (H : Hp) (xs : List V) (us : List Value) (Q : VK), Inv X pins σ H s → Vals xs us → r xs H Q →
    wpAny (model X.prog X.w) X.A (call f us) (EP X pins σ Q) X.xe s
def TruR (X : Cx) (r : V → Hp → (Bool → Hp → Prop) → Prop) : Prop :=
  ∀ (pins : List (Addr × Obj)) (s : Shared) (σ : St) (H : Hp) (x : V) (v : Value) (Q : Bool → Hp → Prop), Inv X pins σ H s → RelV x v → r x H Q →
    wpAny (model X.prog X.w) X.A (truthy v) (TP X pins σ Q) X.xe s
def tOp (r : R2) (ta tb : TE) : TE := fun σ H Q => ta σ H fun x H1 => tb σ H1 fun y H2 => r x y H2 Q
def tUn (r : V → Hp → VK → Prop) (ta : TE) : TE := fun σ H Q => ta σ H fun x H1 => r x H1 Q
def rI (C : Int → Int → Prop) (g : Int → Int → V) : R2 := fun x y H Q => ∃ i j, x = .int i ∧ y = .int j ∧ C i j ∧ Q (g i j) H
def rI0 (g : Int → Int → V) : R2 := fun x y H Q => ∃ i j, x = .int i ∧ y = .int j ∧ Q (g i j) H
def rU (g : Int → V) : V → Hp → VK → Prop := fun x H Q => ∃ i, x = .int i ∧ Q (g i) H
section
variable {X : Cx} {a b c : Expr} {ta tb tc : TE} {pos : Pos}
theorem binT (ha : PE X a ta) (hb : PE X b tb) {pins : List (Addr × Obj)} {s : Shared} {σ : St} {H : Hp} {R : V → V → Hp → Prop} (I : Inv X pins σ H s)
    (h : ta σ H fun x H1 => tb σ H1 fun y H2 => R x y H2) {Q : Value → Shared → Prop} {f : Value → Value → Sem Value}
    (hf : ∀ v u s2 x y H2, Inv X pins σ H2 s2 → RelV x v → RelV y u → R x y H2 → wpAny (model X.prog X.w) X.A (f v u) Q X.xe s2) :
    wpAny (model X.prog X.w) X.A (eval a X.env) (fun v s₁ => wpAny (model X.prog X.w) X.A (eval b X.env) (fun u s₂ => wpAny (model X.prog X.w) X.A (f v u) Q X.xe s₂) X.xe s₁) X.xe s := by
  refine thn (ha pins s σ H _ I h) fun v s1 ⟨x, H1, I1, r1, q1⟩ => ?_
  refine thn (hb pins s1 σ H1 _ I1 q1) fun u s2 ⟨y, H2, I2, r2, q2⟩ => ?_
  exact hf v u s2 x y H2 I2 r1 r2 q2
theorem pe_op {op : Operator} {r : R2} (ho : OpR X (binaryOp op) r) (ha : PE X a ta) (hb : PE X b tb) : PE X (.BinOp a op b pos) (tOp r ta tb) := by
  intro pins s σ H Q I h
  exact wpAny_BinOp (binT ha hb I h fun v u s2 x y H2 I2 rx ry q => ho pins s2 σ H2 x y v u Q I2 rx ry q)
theorem pe_un {op : UnaryOp} {r : V → Hp → VK → Prop} (ho : UnR X (unaryOp op) r) (ha : PE X a ta) : PE X (.UnaryOp op a pos) (tUn r ta) := by
  intro pins s σ H Q I h
  exact UnaryOp_ (thn (ha pins s σ H _ I h) fun v s1 ⟨x, H1, I1, r1, q1⟩ => ho pins s1 σ H1 x v Q I1 r1 q1)
theorem opI {f : Value → Value → Sem Value} {C : Int → Int → Prop} {g : Int → Int → Int}
    (rule : ∀ (i j : Int) (t u : Tok) (s : Shared) (Q : Value → Shared → Prop) (E : Value → Shared → Prop), C i j → Q (.int (g i j) s.toks) { s with toks := s.toks + 1 } → wpAny (model X.prog X.w) X.A (f (.int i t) (.int j u)) Q E s) :
    OpR X f (rI C fun i j => .int (g i j)) := by
  intro pins s σ H x y v u Q I rx ry h
  obtain ⟨i, j, rfl, rfl, hc, q⟩ := h
  obtain ⟨t, rfl⟩ := rx
  obtain ⟨t', rfl⟩ := ry
  exact rule i j t t' s _ _ hc ⟨.int (g i j), H, I.tok _, ⟨_, rfl⟩, q⟩
theorem opI0 {f : Value → Value → Sem Value} {g : Int → Int → Int}
    (rule : ∀ (i j : Int) (t u : Tok) (s : Shared) (Q : Value → Shared → Prop) (E : Value → Shared → Prop), Q (.int (g i j) s.toks) { s with toks := s.toks + 1 } → wpAny (model X.prog X.w) X.A (f (.int i t) (.int j u)) Q E s) :
    OpR X f (rI0 fun i j => .int (g i j)) := by
  intro pins s σ H x y v u Q I rx ry h
  obtain ⟨i, j, rfl, rfl, q⟩ := h
  obtain ⟨t, rfl⟩ := rx
  obtain ⟨t', rfl⟩ := ry
  exact rule i j t t' s _ _ ⟨.int (g i j), H, I.tok _, ⟨_, rfl⟩, q⟩
theorem opB0 {f : Value → Value → Sem Value} {g : Int → Int → Bool}
    (rule : ∀ (i j : Int) (t u : Tok) (s : Shared) (Q : Value → Shared → Prop) (E : Value → Shared → Prop), Q (.bool (g i j)) s → wpAny (model X.prog X.w) X.A (f (.int i t) (.int j u)) Q E s) :
    OpR X f (rI0 fun i j => .bl (g i j)) := by
  intro pins s σ H x y v u Q I rx ry h
  obtain ⟨i, j, rfl, rfl, q⟩ := h
  obtain ⟨t, rfl⟩ := rx
  obtain ⟨t', rfl⟩ := ry
  exact rule i j t t' s _ _ ⟨.bl (g i j), H, I, rfl, q⟩
def CDiv (i j : Int) : Prop := 0 < j ∧ j < 1073741824
def CMul (i j : Int) : Prop := (-(2 ^ 64) < i ∧ i < 2 ^ 64) ∨ (-(2 ^ 64) < j ∧ j < 2 ^ 64)
theorem CMul.ok {i j : Int} (h : CMul i j) : IntMulOk i j := by
  rcases h with ⟨h1, h2⟩ | ⟨h1, h2⟩
  · exact .of_left (intBits_le_64 h1 h2)
  · exact .of_right (intBits_le_64 h1 h2)
theorem op_add : OpR X (binaryOp .Add) (rI0 fun i j => .int (i + j)) := opI0 fun _ _ _ _ _ _ _ q => add_int q
theorem op_sub : OpR X (binaryOp .Sub) (rI0 fun i j => .int (i - j)) := opI0 fun _ _ _ _ _ _ _ q => sub_int q
theorem op_mul : OpR X (binaryOp .Mult) (rI CMul fun i j => .int (i * j)) := opI fun _ _ _ _ _ _ _ hc q => mul_int q hc.ok
theorem op_fdiv : OpR X (binaryOp .FloorDiv) (rI CDiv fun i j => .int (i / j)) := opI fun i j _ _ _ _ _ hc q => by
  have h1 : (0 : Int) < j := hc.1
  have h2 : j < 1073741824 := hc.2
  exact floordiv_int (by omega) (by rw [Int.fdiv_eq_ediv_of_nonneg i (by omega)]; exact q) (.inl (PyProof.noPylong_small (by omega)))
theorem op_mod : OpR X (binaryOp .Mod) (rI (fun _ j => 0 < j) fun i j => .int (i % j)) := opI fun i j _ _ _ _ _ hc q => by
  have h1 : (0 : Int) < j := hc
  exact mod_int' (by omega) (by rw [Int.fmod_eq_emod_of_nonneg i (by omega)]; exact q)
theorem unI {f : Value → Sem Value} {g : Int → Int}
    (rule : ∀ (i : Int) (t : Tok) (s : Shared) (Q : Value → Shared → Prop) (E : Value → Shared → Prop), Q (.int (g i) s.toks) { s with toks := s.toks + 1 } → wpAny (model X.prog X.w) X.A (f (.int i t)) Q E s) :
    UnR X f (rU fun i => .int (g i)) := by
  intro pins s σ H x v Q I rx h
  obtain ⟨i, rfl, q⟩ := h
  obtain ⟨t, rfl⟩ := rx
  exact rule i t s _ _ ⟨.int (g i), H, I.tok _, ⟨_, rfl⟩, q⟩
theorem un_neg : UnR X (unaryOp .USub) (rU fun i => .int (-i)) := unI fun _ _ _ _ _ q => neg_int q
end
def scal : V → V → Bool
  | .non, .non => true | .non, .int _ => true | .int _, .non => true | .non, .bl _ => true | .bl _, .non => true | .non, .str _ => true | .str _, .non => true
  | .int _, .int _ => true | .bl _, .bl _ => true | .str _, .str _ => true | .byt _, .byt _ => true
  | .int _, .str _ => true | .str _, .int _ => true | .bl _, .str _ => true | .str _, .bl _ => true
  | _, _ => false
def rEq : R2 := fun x y H Q => scal x y = true ∧ Q (.bl (decide (x = y))) H
def rNe : R2 := fun x y H Q => scal x y = true ∧ Q (.bl (!decide (x = y))) H
theorem dec_int {i j : Int} : decide (V.int i = V.int j) = (i == j) := by
  rw [Bool.eq_iff_iff]
  simp
theorem dec_bl {i j : Bool} : decide (V.bl i = V.bl j) = (i == j) := by
  rw [Bool.eq_iff_iff]
  simp
theorem dec_str {i j : Str} : decide (V.str i = V.str j) = (i == j) := by
  rw [Bool.eq_iff_iff]
  simp
theorem dec_byt {i j : Array UInt8} : decide (V.byt i = V.byt j) = (i.toList == j.toList) := by
  rw [Bool.eq_iff_iff]
  cases i
  cases j
  simp
section
variable {X : Cx} {a b c : Expr} {ta tb tc : TE} {pos : Pos}
theorem fin_bl {pins : List (Addr × Obj)} {σ : St} {H : Hp} {s : Shared} {Q : VK} {k k' : Bool} (I : Inv X pins σ H s) (q : Q (.bl k) H) (e : k = k') : EP X pins σ Q (.bool k') s := by
  subst e
  exact ⟨.bl k, H, I, rfl, q⟩
theorem op_eq : OpR X (compareOp .Eq) rEq := by
  intro pins s σ H x y v u Q I rx ry h
  obtain ⟨hs, q⟩ := h
  cases x with
  | non =>
    cases rx
    cases y with
    | non => cases ry; exact PySem.EqNone.eq_none_none (fin_bl I q (by simp))
    | bl j => cases ry; exact PySem.EqNone.eq_none_bool (fin_bl I q (by simp))
    | int j => obtain ⟨t', rfl⟩ := ry; exact PySem.EqNone.eq_none_int (fin_bl I q (by simp))
    | str j => obtain ⟨t', rfl⟩ := ry; exact PySem.EqNone.eq_none_str (fin_bl I q (by simp))
    | _ => exact absurd (show false = true from hs) Bool.false_ne_true
  | bl i =>
    cases rx
    cases y with
    | non => cases ry; exact PySem.EqNone.eq_bool_none (fin_bl I q (by simp))
    | bl j => cases ry; exact eq_bool (fin_bl I q dec_bl)
    | str j => obtain ⟨t', rfl⟩ := ry; exact PySem.EqMixed.eq_bool_str (fin_bl I q (by simp))
    | _ => exact absurd (show false = true from hs) Bool.false_ne_true
  | int i =>
    obtain ⟨t, rfl⟩ := rx
    cases y with
    | non => cases ry; exact PySem.EqNone.eq_int_none (fin_bl I q (by simp))
    | int j => obtain ⟨t', rfl⟩ := ry; exact eq_int (fin_bl I q dec_int)
    | str j => obtain ⟨t', rfl⟩ := ry; exact PySem.EqMixed.eq_int_str (fin_bl I q (by simp))
    | _ => exact absurd (show false = true from hs) Bool.false_ne_true
  | str i =>
    obtain ⟨t, rfl⟩ := rx
    cases y with
    | non => cases ry; exact PySem.EqNone.eq_str_none (fin_bl I q (by simp))
    | bl j => cases ry; exact PySem.EqMixed.eq_str_bool (fin_bl I q (by simp))
    | int j => obtain ⟨t', rfl⟩ := ry; exact PySem.EqMixed.eq_str_int (fin_bl I q (by simp))
    | str j => obtain ⟨t', rfl⟩ := ry; exact eq_str (fin_bl I q dec_str)
    | _ => exact absurd (show false = true from hs) Bool.false_ne_true
  | byt i =>
    obtain ⟨t, rfl⟩ := rx
    cases y with
    | byt j => obtain ⟨t', rfl⟩ := ry; exact PySem.W.eq_bytes (fin_bl I q dec_byt)
    | _ => exact absurd (show false = true from hs) Bool.false_ne_true
  | _ => cases y <;> exact absurd (show false = true from hs) Bool.false_ne_true
theorem op_ne : OpR X (compareOp .NotEq) rNe := by
  intro pins s σ H x y v u Q I rx ry h
  obtain ⟨hs, q⟩ := h
  cases x with
  | non =>
    cases rx
    cases y with
    | non => cases ry; exact PySem.EqNone.ne_none_none (fin_bl I q (by simp))
    | bl j => cases ry; exact PySem.EqNone.ne_none_bool (fin_bl I q (by simp))
    | int j => obtain ⟨t', rfl⟩ := ry; exact PySem.EqNone.ne_none_int (fin_bl I q (by simp))
    | str j => obtain ⟨t', rfl⟩ := ry; exact PySem.EqNone.ne_none_str (fin_bl I q (by simp))
    | _ => exact absurd (show false = true from hs) Bool.false_ne_true
  | bl i =>
    cases rx
    cases y with
    | non => cases ry; exact PySem.EqNone.ne_bool_none (fin_bl I q (by simp))
    | bl j => cases ry; exact ne_bool (fin_bl I q (congrArg not dec_bl))
    | str j => obtain ⟨t', rfl⟩ := ry; exact PySem.EqMixed.ne_bool_str (fin_bl I q (by simp))
    | _ => exact absurd (show false = true from hs) Bool.false_ne_true
  | int i =>
    obtain ⟨t, rfl⟩ := rx
    cases y with
    | non => cases ry; exact PySem.EqNone.ne_int_none (fin_bl I q (by simp))
    | int j => obtain ⟨t', rfl⟩ := ry; exact ne_int (fin_bl I q (congrArg not dec_int))
    | str j => obtain ⟨t', rfl⟩ := ry; exact PySem.EqMixed.ne_int_str (fin_bl I q (by simp))
    | _ => exact absurd (show false = true from hs) Bool.false_ne_true
  | str i =>
    obtain ⟨t, rfl⟩ := rx
    cases y with
    | non => cases ry; exact PySem.EqNone.ne_str_none (fin_bl I q (by simp))
    | bl j => cases ry; exact PySem.EqMixed.ne_str_bool (fin_bl I q (by simp))
    | int j => obtain ⟨t', rfl⟩ := ry; exact PySem.EqMixed.ne_str_int (fin_bl I q (by simp))
    | str j => obtain ⟨t', rfl⟩ := ry; exact ne_str (fin_bl I q (congrArg not dec_str))
    | _ => exact absurd (show false = true from hs) Bool.false_ne_true
  | byt i =>
    obtain ⟨t, rfl⟩ := rx
    cases y with
    | byt j => obtain ⟨t', rfl⟩ := ry; exact PySem.W.ne_bytes (fin_bl I q (congrArg not dec_byt))
    | _ => exact absurd (show false = true from hs) Bool.false_ne_true
  | _ => cases y <;> exact absurd (show false = true from hs) Bool.false_ne_true
theorem op_le : OpR X (compareOp .LtE) (rI0 fun i j => .bl (decide (i ≤ j))) := opB0 fun _ _ _ _ _ _ _ q => le_int q
theorem op_isN : OpR X (compareOp .Is) (fun x y H Q => y = .non ∧ Q (.bl (decide (x = .non))) H) := by
  intro pins s σ H x y v u Q I rx ry h
  obtain ⟨rfl, q⟩ := h
  cases ry
  refine is_none_gen (fin_bl I q ?_)
  cases x <;> first
    | (cases rx; rfl)
    | (obtain ⟨t, rfl⟩ := rx; rfl)
theorem op_notN : OpR X (compareOp .IsNot) (fun x y H Q => y = .non ∧ Q (.bl (!decide (x = .non))) H) := by
  intro pins s σ H x y v u Q I rx ry h
  obtain ⟨rfl, q⟩ := h
  cases ry
  refine isnot_none_gen (fin_bl I q ?_)
  cases x <;> first
    | (cases rx; rfl)
    | (obtain ⟨t, rfl⟩ := rx; rfl)
theorem OpR.or {f : Value → Value → Sem Value} {r r' : R2} (h : OpR X f r) (h' : OpR X f r') : OpR X f (fun x y H Q => r x y H Q ∨ r' x y H Q) := by
  intro pins s σ H x y v u Q I rx ry q
  rcases q with q | q
  · exact h pins s σ H x y v u Q I rx ry q
  · exact h' pins s σ H x y v u Q I rx ry q
theorem pe_cmpR {op : CmpOp} {r : R2} (ho : OpR X (compareOp op) r) (ha : PE X a ta) (hb : PE X b tb) (hm : behindInMarks op b = false) : PE X (.Compare a [op] [b] pos) (tOp r ta tb) := by
  intro pins s σ H Q I h
  exact wpAny_Compare1 (binT ha hb I h fun v u s2 x y H2 I2 rx ry q => ho pins s2 σ H2 x y v u Q I2 rx ry q) hm
def tTest (t : TE) : TT := fun σ H Q => t σ H fun x H' => ∃ k, x = .bl k ∧ Q k H'
theorem pt_cmpR {op : CmpOp} {r : R2} (ho : OpR X (compareOp op) r) (ha : PE X a ta) (hb : PE X b tb) (hm : behindInMarks op b = false) : PT X (.Compare a [op] [b] pos) (tTest (tOp r ta tb)) := by
  intro pins s σ H Q I h
  refine wpAny_isTrue_Compare1 (thn (ha pins s σ H _ I h) fun v s1 ⟨x, H1, I1, r1, q1⟩ => thn (hb pins s1 σ H1 _ I1 q1) fun u s2 ⟨y, H2, I2, r2, q2⟩ =>
    thn (ho pins s2 σ H2 x y v u _ I2 r1 r2 q2) fun c s3 ⟨z, H3, I3, r3, k, e, q3⟩ => ?_) hm
  subst e
  cases r3
  exact wpAny_truthy_bool ⟨H3, I3, q3⟩
def tChain (r r' : R2) (ta tb tc : TE) : TE := fun σ H Q => ta σ H fun x H1 => tb σ H1 fun y H2 => r x y H2 fun z H3 => ∃ k, z = .bl k ∧
  (if k = true then tc σ H3 fun w' H4 => r' y w' H4 Q else Q (.bl false) H3)
theorem pe_chain {op op' : CmpOp} {r r' : R2} (ho : OpR X (compareOp op) r) (ho' : OpR X (compareOp op') r') (ha : PE X a ta) (hb : PE X b tb) (hc : PE X c tc)
    (hm : lastMarks [op, op'] [b, c] = false := by with_unfolding_all rfl) : PE X (.Compare a [op, op'] [b, c] pos) (tChain r r' ta tb tc) := by
  intro pins s σ H Q I h
  refine Compare_chain (thn (ha pins s σ H _ I h) fun v s1 ⟨x, H1, I1, r1, q1⟩ => chain_link (thn (hb pins s1 σ H1 _ I1 q1) fun u s2 ⟨y, H2, I2, r2, q2⟩ =>
    thn (ho pins s2 σ H2 x y v u _ I2 r1 r2 q2) fun d s3 ⟨z, H3, I3, r3, k, e, q3⟩ => ?_)) hm
  subst e
  cases r3
  refine wpAny_truthy_bool ?_
  cases k with
  | false => exact ite_ff ⟨.bl false, H3, I3, rfl, q3⟩
  | true => exact ite_tt (chain_last (thn (hc pins s3 σ H3 _ I3 q3) fun w' s4 ⟨z', H4, I4, r4, q4⟩ => ho' pins s4 σ H4 y z' u w' Q I4 r2 r4 q4))
def TruV (K : PySem.W.Frag) (x : V) (H : Hp) (k : Bool) : Prop :=
  match x with
  | .non => k = false
  | .bl b => k = b
  | .int i => k = (i != 0)
  | .str y => y.length ≤ sizeLine ∧ k = ((y.length : Int) != 0)
  | .byt y => y.size ≤ sizeLine ∧ k = ((y.size : Int) != 0)
  | .ref p => (∃ xs, SqL K H p xs ∧ k = !xs.isEmpty) ∨ (∃ xs, SqT K H p xs ∧ k = !xs.isEmpty) ∨ ∃ kvs, H p = some (.dK kvs) ∧ k = !kvs.isEmpty
  | _ => False
theorem isEmpty_kv {κ : Type} {kvs : List (κ × V)} {vs : List (κ × Value)} (r : KV kvs vs) : (!vs.isEmpty) = !kvs.isEmpty := by
  cases r <;> rfl
theorem isEmpty_of {xs : List V} {its : List Value} (r : Vals xs its) : (!its.toArray.isEmpty) = !xs.isEmpty := by
  cases r <;> simp
theorem line63 : (sizeLine : Nat) < 2 ^ 63 := by rw [sizeLine_eq]; decide
theorem tru_ok : TruR X (fun x H Q => ∃ k, TruV X.K x H k ∧ Q k H) := by
  intro pins s σ H x v Q I rx h
  obtain ⟨k, e, q⟩ := h
  have hl := line63
  have hs : sizeLine = 16777216 := sizeLine_eq
  cases x with
  | non =>
    cases rx
    have e' : k = false := e
    subst e'
    exact truthy_none ⟨H, I, q⟩
  | bl b =>
    cases rx
    have e' : k = b := e
    subst e'
    exact wpAny_truthy_bool ⟨H, I, q⟩
  | int i =>
    obtain ⟨t, rfl⟩ := rx
    have e' : k = (i != 0) := e
    subst e'
    exact PySem.P.truthy_int ⟨H, I, q⟩
  | str y =>
    obtain ⟨t, rfl⟩ := rx
    obtain ⟨hy, e'⟩ : y.length ≤ sizeLine ∧ k = ((y.length : Int) != 0) := e
    subst e'
    exact PySem.P.truthy_str (by omega) ⟨H, I.tok _, q⟩
  | byt y =>
    obtain ⟨t, rfl⟩ := rx
    obtain ⟨hy, e'⟩ : y.size ≤ sizeLine ∧ k = ((y.size : Int) != 0) := e
    subst e'
    exact PySem.W.truthy_bytes (by omega) ⟨H, I.tok _, q⟩
  | ref p =>
    cases rx
    have e' : (∃ xs, SqL X.K H p xs ∧ k = !xs.isEmpty) ∨ (∃ xs, SqT X.K H p xs ∧ k = !xs.isEmpty) ∨ ∃ kvs, H p = some (.dK kvs) ∧ k = !kvs.isEmpty := e
    rcases e' with ⟨xs, hx, e'⟩ | ⟨xs, hx, e'⟩ | ⟨kvs, hx, e'⟩
    · subst e'
      obtain ⟨its, r, pl, hz⟩ := I.list hx
      have hlen := r.length
      exact wpAny_truthy_list pl.isList (by simp only [List.size_toArray]; omega) ⟨H, I.tok _, by rw [isEmpty_of r]; exact q⟩
    · subst e'
      obtain ⟨its, r, pl, hz⟩ := I.tuple hx
      have hlen := r.length
      exact truthy_tuple pl (by simp only [List.size_toArray]; omega) ⟨H, I.tok _, by rw [isEmpty_of r]; exact q⟩
    · subst e'
      obtain ⟨hz, hS, vs, r, m⟩ : kvs.length ≤ sizeLine ∧ (p == sysModules) = false ∧ ∃ vs, KV kvs vs ∧ s.heap.DictOf (mixKind X.prog X.w) p vs := I.hok p _ hx
      have hlen : kvs.length = vs.length := Paired.length r
      exact wpAny_truthy_dict hS m (by omega) ⟨H, I.tok _, by rw [isEmpty_kv r]; exact q⟩
  | _ => exact (show False from e).elim
theorem pt_truth (ha : PE X a ta) (he : ∀ whole, isTrue a X.env whole = (do let v ← whole; standAt a.pos; holding [v] (truthy v))) :
    PT X a (fun σ H Q => ta σ H fun x H' => ∃ k, TruV X.K x H' k ∧ Q k H') := by
  intro pins s σ H Q I h
  exact isTrue_plain (thn (ha pins s σ H _ I h) fun v s1 ⟨x, H1, I1, r1, q1⟩ => tru_ok pins s1 σ H1 x v Q I1 r1 q1) (he _)
theorem op_add_str : OpR X (binaryOp .Add) (fun x y H Q => ∃ i j, x = .str i ∧ y = .str j ∧ i.length + j.length ≤ sizeLine ∧ Q (.str (i ++ j)) H) := by
  intro pins s σ H x y v u Q I rx ry h
  obtain ⟨i, j, rfl, rfl, hz, q⟩ := h
  obtain ⟨t, rfl⟩ := rx
  obtain ⟨t', rfl⟩ := ry
  exact add_str (fun t' tk => ⟨.str (i ++ j), H, I.tok _, ⟨_, rfl⟩, q⟩) hz
theorem vals1 {x : V} {us : List Value} (r : Vals [x] us) : ∃ u, us = [u] ∧ RelV x u := by
  cases r with
  | cons r1 r2 => cases r2; exact ⟨_, rfl, r1⟩
theorem vals2 {x y : V} {us : List Value} (r : Vals [x, y] us) : ∃ u w', us = [u, w'] ∧ RelV x u ∧ RelV y w' := by
  cases r with
  | cons r1 r2 =>
    cases r2 with
    | cons r3 r4 => cases r4; exact ⟨_, _, rfl, r1, r3⟩
theorem call_min2 (hc : X.calm = true) : CallR X (.builtin "min") (fun xs H Q => ∃ i j, xs = [.int i, .int j] ∧ Q (.int (if j < i then j else i)) H) := by
  intro pins s σ H xs us Q I r h
  obtain ⟨i, j, rfl, q⟩ := h
  obtain ⟨u, w', rfl, ⟨t, rfl⟩, ⟨t', rfl⟩⟩ := vals2 r
  refine min_two_ints (I.ok.hd hc) fun h' tk k => ⟨_, H, I.kept k, ?_, q⟩
  by_cases hj : j < i
  · rw [if_pos hj, if_pos hj]; exact ⟨_, rfl⟩
  · rw [if_neg hj, if_neg hj]; exact ⟨_, rfl⟩
theorem call_int1 : CallR X (.type "int") (fun xs H Q => (∃ i, xs = [.int i] ∧ Q (.int i) H) ∨ ∃ k, xs = [.bl k] ∧ Q (.int (if k then 1 else 0)) H) := by
  intro pins s σ H xs us Q I r h
  rcases h with ⟨i, rfl, q⟩ | ⟨k, rfl, q⟩
  · obtain ⟨u, rfl, t, rfl⟩ := vals1 r
    exact call_int_int ⟨.int i, H, I, ⟨_, rfl⟩, q⟩
  · obtain ⟨u, rfl, r1⟩ := vals1 r
    cases r1
    exact call_int_bool ⟨.int (if k then 1 else 0), H, I.tok _, ⟨_, rfl⟩, q⟩
def LenV (K : PySem.W.Frag) (x : V) (H : Hp) (n : Nat) : Prop :=
  match x with
  | .str y => y.length ≤ sizeLine ∧ n = y.length
  | .byt y => y.size ≤ sizeLine ∧ n = y.size
  | .ref p => (∃ xs, SqL K H p xs ∧ n = xs.length) ∨ ∃ xs, SqT K H p xs ∧ n = xs.length
  | _ => False
theorem call_len : CallR X (.builtin "len") (fun xs H Q => ∃ x n, xs = [x] ∧ LenV X.K x H n ∧ Q (.int n) H) := by
  intro pins s σ H xs us Q I r h
  obtain ⟨x, n, rfl, e, q⟩ := h
  obtain ⟨u, rfl, rx⟩ := vals1 r
  have hl := line63
  have hs : sizeLine = 16777216 := sizeLine_eq
  cases x with
  | str y =>
    obtain ⟨t, rfl⟩ := rx
    obtain ⟨hy, e'⟩ : y.length ≤ sizeLine ∧ n = y.length := e
    subst e'
    exact len_str (by omega) ⟨.int _, H, I.tok _, ⟨_, rfl⟩, q⟩
  | byt y =>
    obtain ⟨t, rfl⟩ := rx
    obtain ⟨hy, e'⟩ : y.size ≤ sizeLine ∧ n = y.size := e
    subst e'
    exact PySem.W.len_bytes (by omega) ⟨.int _, H, I.tok _, ⟨_, rfl⟩, q⟩
  | ref p =>
    cases rx
    have e' : (∃ xs, SqL X.K H p xs ∧ n = xs.length) ∨ ∃ xs, SqT X.K H p xs ∧ n = xs.length := e
    rcases e' with ⟨xs, hx, e'⟩ | ⟨xs, hx, e'⟩
    · subst e'
      obtain ⟨its, r', pl, hz⟩ := I.list hx
      have hlen := r'.length
      exact Calls.call_len_list pl.isList (by simp only [List.size_toArray]; omega) ⟨.int xs.length, H, I.tok _, ⟨_, by simp only [List.size_toArray]; rw [hlen]⟩, q⟩
    · subst e'
      obtain ⟨its, r', pl, hz⟩ := I.tuple hx
      have hlen := r'.length
      exact len_tuple pl (by simp only [List.size_toArray]; omega) ⟨.int xs.length, H, I.tok _, ⟨_, by simp only [List.size_toArray]; rw [hlen]⟩, q⟩
  | _ => exact (show False from e).elim
end
end L2
namespace L2
open PySem PySem.Spec PyProof.Rows
structure ObjM (h : Heap) (x dx C : Addr) (mA : Str → Option Value) : Prop where
  obj : h.get? x = some (PySem.W.instObj C dx)
  ns : h.Ns1 dx mA
  ne : dx ≠ x
theorem lookIn_ns {h : Heap} {dx : Addr} {mA : Str → Option Value} (n : h.Ns1 dx mA) : ∃ od, h.get? dx = some od ∧ ∀ name, PySem.W.lookIn name od = some (mA name) := by
  obtain ⟨o, es, ep, ho, hd, hk, _, hm⟩ := n
  refine ⟨o, ho, fun name => ?_⟩
  have e := hm name
  unfold nsFind findBy at e
  rw [← Array.find?_toList] at e
  unfold PySem.W.lookIn
  rw [hd]
  dsimp only
  split
  · rename_i y q
    rw [q] at e
    exact congrArg some e
  · rename_i q
    rw [q] at e
    have a : es.toList.any (·.refKey) = false := by
      rw [List.any_eq_false]
      intro y hy
      obtain ⟨z, t, hkey⟩ := hk y (Array.mem_toList_iff.mp hy)
      simp [DictEntry.refKey, hkey]
    have a' : ¬ es.toList.any (·.refKey) = true := by rw [a]; exact Bool.false_ne_true
    rw [if_neg a']
    exact congrArg some e
theorem ObjM.look {h : Heap} {x dx C : Addr} {mA : Str → Option Value} (I : ObjM h x dx C mA) : ∃ od, PySem.W.InstAt h x (PySem.W.instObj C dx) C (some od) ∧ ∀ name, PySem.W.lookIn name od = some (mA name) :=
  let ⟨od, ho, hl⟩ := lookIn_ns I.ns
  ⟨od, ⟨I.obj, rfl, rfl, ho⟩, hl⟩
section
variable {prog : Program} {w : World} {A : Around} {E : Value → Shared → Prop} {s : Shared} {K : PySem.W.Frag} {x dx C f : Addr} {mA : Str → Option Value} {name : Str} {v : Value}
theorem get_map {expr : Bool} {Q : Value → Shared → Prop} (X : K.In s.heap) (I : ObjM s.heap x dx C mA) (hg : PySem.W.plainGet K C name = true) (hh : PySem.W.hasDictIn K C = true)
    (ha : PySem.W.findIn K (.ref C) name = some none) (hv : mA name = some v) (hv' : PySem.W.handedIn v = true) (h : Q v { s with toks := s.toks + 1 }) :
    wpAny (model prog w) A (getAttr (.ref x) name expr) Q E s := by
  obtain ⟨od, J, hl⟩ := I.look
  exact PySem.W.get_value X J (PySem.W.plainGet_of hg).1 (PySem.W.findObj_own hh ha rfl (by rw [hl, hv])) hv' h
theorem get_meth {pl : Sem Bool} {Q : Value × List Value → Shared → Prop} (X : K.In s.heap) (I : ObjM s.heap x dx C mA) (hg : PySem.W.plainGet K C name = true)
    (hf : PySem.W.findIn K (.ref C) name = some (some (.ref f))) (ht : PySem.W.isFn K (.ref f) = true) (hv : mA name = none) (h : Q (.ref f, [.ref x]) s) :
    wpAny (model prog w) A (getMethod (.ref x) name pl) Q E s := by
  obtain ⟨od, J, hl⟩ := I.look
  exact PySem.W.method_fn X J (PySem.W.plainGet_of hg).1 (PySem.W.plainGet_of hg).2 hf (beq_iff_eq.mp ht) (by show (PySem.W.lookIn name od).map (·.isSome) = some false; rw [hl, hv]; rfl) h
theorem set_map {ns : List Str} {Q : Unit → Shared → Prop} (X : K.In s.heap) (I : ObjM s.heap x dx C mA)
    (hs : PySem.W.findIn K (.ref C) "__setattr__" = some (some (.builtin "object.__setattr__"))) (hp : PySem.W.plainOver K C = true) (ht : PySem.W.takerIn K C name = some none) (hh : PySem.W.hasDictIn K C = true)
    (hw : PySem.Within mA ns) (hsz : ns.length ≤ sizeLine)
    (h : ∀ h', ObjM h' x dx C (fun y => if y = name then some v else mA y) → Heap.SameBut dx s.heap h' → Q () { s with heap := h', toks := s.toks + 2 }) :
    wpAny (model prog w) A (setAttr (.ref x) name v) Q E s := by
  obtain ⟨od, J, hl⟩ := I.look
  refine PySem.W.set_plain X J hs (PySem.W.osa_open (s := { s with toks := s.toks + 1 }) (r := none) X J hp ht fun b => ?_)
  obtain ⟨cd, hc, hd'⟩ := PySem.W.any_some hh
  have hx : s.heap.get? x = some ⟨.ref C, some dx, .plain, #[]⟩ := I.obj
  refine wpAny_bind (wpAny_pure (wpAny_bind (wpAny_bind (wpAny_loadPart hx (wpAny_bind (PySem.W.Looks.here (s := { s with toks := s.toks + 1 }) (PySem.W.looks_clsIn X hc) ?_))))))
  rw [hd']
  refine wpAny_pure (a := some dx) (wpAny_bind (wpAny_pure (wpAny_bind ?_)))
  refine wpAny_nsSet1 (s := { s with toks := s.toks + 1 }) I.ns fun h' hn2 hs2 => ?_
  obtain ⟨oD, esD, epD, hoD, hdD, hcD⟩ := hn2.count (PySem.Within.cons name v hw)
  refine wpAny_bind (wpAny_lookBehind hoD (by rw [hdD]; exact pastItsLine_dict (Nat.le_trans hcD (by rw [List.length_cons]; omega))) ?_)
  exact wpAny_pure (h _ ⟨(hs2.2 _ (Ne.symm I.ne)).trans I.obj, hn2, I.ne⟩ hs2)
theorem make_map {R : Result → Shared → Prop} {vs : List Value} {kw : List (Str × Value)} (X : K.In s.heap) (hm : PySem.W.makesIn K C = true)
    (hi : PySem.W.findIn K (.ref C) "__init__" = some (some (.ref f))) (hf : PySem.W.typeIn K (.ref f) = some (.type "function"))
    (h : codeAny (model prog w) (A.under (.builtin "type.__call__" ⟨.ref C :: vs, kw⟩)) (.call (.ref f) ⟨.ref (s.heap.objs.size + 1) :: vs, kw⟩) (PySem.W.InitBack (s.heap.objs.size + 1) R)
      { s with heap := (s.heap.push PySem.W.emptyDict).push (PySem.W.instObj C s.heap.objs.size) }) :
    codeAny (model prog w) A (.call (.ref C) ⟨vs, kw⟩) R s := by
  obtain ⟨hh, g, d, t, os⟩ := s
  exact PySem.W.make_core (PySem.W.makes_of X hm) (PySem.W.looks_findIn X hi) (fun self => PySem.W.bind_fn X self hf) (.inl rfl) h
end
def putF (f : Str) (v : V) : List (Str × V) → List (Str × V)
  | [] => [(f, v)]
  | (g, x) :: r => if g = f then (g, v) :: r else (g, x) :: putF f v r
theorem lookup_putF (f g : Str) (v : V) : ∀ fs : List (Str × V), (putF f v fs).lookup g = if g = f then some v else fs.lookup g
  | [] => by
    show List.lookup g [(f, v)] = _
    by_cases h : g = f
    · have hb : (g == f) = true := beq_iff_eq.mpr h
      simp only [List.lookup, hb, if_pos h]
    · have hb : (g == f) = false := beq_eq_false_iff_ne.mpr h
      simp only [List.lookup, hb, if_neg h]
  | (k, x) :: r => by
    have ih := lookup_putF f g v r
    rw [show putF f v ((k, x) :: r) = (if k = f then (k, v) :: r else (k, x) :: putF f v r) from rfl]
    by_cases hk : k = f
    · rw [if_pos hk]
      by_cases h : g = k
      · have hb : (g == k) = true := beq_iff_eq.mpr h
        simp only [List.lookup, hb, if_pos (h.trans hk)]
      · have hb : (g == k) = false := beq_eq_false_iff_ne.mpr h
        simp only [List.lookup, hb, if_neg (fun e : g = f => h (e.trans hk.symm))]
    · rw [if_neg hk]
      by_cases h : g = k
      · have hb : (g == k) = true := beq_iff_eq.mpr h
        simp only [List.lookup, hb, if_neg (fun e : g = f => hk (h.symm.trans e))]
      · have hb : (g == k) = false := beq_eq_false_iff_ne.mpr h
        simp only [List.lookup, hb]
        exact ih
theorem keys_putF (f : Str) (v : V) : ∀ fs : List (Str × V), f ∈ (putF f v fs).map (·.1) ∧ ∀ g, g ∈ fs.map (·.1) → g ∈ (putF f v fs).map (·.1)
  | [] => ⟨by simp [putF], fun g h => by simp at h⟩
  | (k, x) :: r => by
    obtain ⟨i1, i2⟩ := keys_putF f v r
    rw [show putF f v ((k, x) :: r) = (if k = f then (k, v) :: r else (k, x) :: putF f v r) from rfl]
    by_cases hk : k = f
    · rw [if_pos hk]
      subst hk
      exact ⟨by simp, fun g h => by simpa using h⟩
    · rw [if_neg hk]
      refine ⟨?_, fun g h => ?_⟩
      · rw [List.map_cons]
        exact List.mem_cons_of_mem _ i1
      · rw [List.map_cons] at h ⊢
        rcases List.mem_cons.mp h with e | e
        · exact List.mem_cons.mpr (.inl e)
        · exact List.mem_cons_of_mem _ (i2 g e)
theorem length_putF (f : Str) (v : V) : ∀ fs : List (Str × V), (putF f v fs).length ≤ fs.length + 1
  | [] => by simp [putF]
  | (k, x) :: r => by
    have ih := length_putF f v r
    rw [show putF f v ((k, x) :: r) = (if k = f then (k, v) :: r else (k, x) :: putF f v r) from rfl]
    by_cases hk : k = f
    · rw [if_pos hk, List.length_cons, List.length_cons]; omega
    · rw [if_neg hk, List.length_cons, List.length_cons]; omega
theorem RelO.some_of {v : V} {o : Option Value} (r : RelO (some v) o) : ∃ u, o = some u ∧ RelV v u := by
  cases o with
  | none => exact (show False from r).elim
  | some u => exact ⟨u, rfl, r⟩
theorem RelO.none_of {o : Option Value} (r : RelO none o) : o = none := by
  cases o with
  | none => rfl
  | some u => exact (show False from r).elim
theorem handed_of {v : V} {u : Value} (r : RelV v u) : PySem.W.handedIn u = true := by
  cases v with
  | non => cases (show u = Value.none from r); rfl
  | bl b => cases (show u = Value.bool b from r); rfl
  | int i => obtain ⟨t, e⟩ := (show ∃ t, u = Value.int i t from r); cases e; rfl
  | str x => obtain ⟨t, e⟩ := (show ∃ t, u = Value.str x t from r); cases e; rfl
  | byt b => obtain ⟨t, e⟩ := (show ∃ t, u = Value.bytes b t from r); cases e; rfl
  | flt b => obtain ⟨t, e⟩ := (show ∃ t, u = Value.float b t from r); cases e; rfl
  | ref a => cases (show u = Value.ref a from r); rfl
  | ty n => cases (show u = Value.type n from r); rfl
section
variable {P : Program} {w : World} {H H' : Hp} {h h' : Heap} {a C dx : Addr} {fs fs' : List (Str × V)}
theorem ins_get (hok : HOk P w H h) (e : H a = some (.ins C dx fs)) : ∃ mA, ObjM h a dx C mA ∧ (∀ f, RelO (fs.lookup f) (mA f)) ∧ PySem.Within mA (fs.map (·.1)) ∧ fs.length ≤ 1000 ∧ H dx = some (.own a) := by
  obtain ⟨d, z, ne, ob, mA, n, r, q⟩ := (show ObjOk P w H h a (.ins C dx fs) from hok a _ e)
  exact ⟨mA, ⟨ob, n, ne⟩, r, q, z, d⟩
end
structure Cls (K : PySem.W.Frag) (C : Addr) : Prop where
  pg : PySem.W.plainGet K C Str.empty = true
  hd : PySem.W.hasDictIn K C = true
  po : PySem.W.plainOver K C = true
  sa : PySem.W.findIn K (.ref C) "__setattr__" = some (some (.builtin "object.__setattr__"))
theorem Cls.get {K : PySem.W.Frag} {C : Addr} (c : Cls K C) (f : Str) : PySem.W.plainGet K C f = true := c.pg
def NoAttr (K : PySem.W.Frag) (C : Addr) (f : Str) : Prop := PySem.W.findIn K (.ref C) f = some none
theorem NoAttr.taker {K : PySem.W.Frag} {C : Addr} {f : Str} (n : NoAttr K C f) : PySem.W.takerIn K C f = some none := by
  unfold PySem.W.takerIn
  rw [show PySem.W.findIn K (.ref C) f = some none from n]
  rfl
structure Con (K : PySem.W.Frag) (C : Addr) (f : Str) (v : V) (u : Value) : Prop where
  at_ : PySem.W.findIn K (.ref C) f = some (some u)
  rel : RelV v u
  get : PySem.W.specialIn K u "__get__" = some none
  cp : PySem.W.copiedNames.contains f = false
structure Meth (K : PySem.W.Frag) (C : Addr) (m : Str) (f : Addr) : Prop where
  at_ : PySem.W.findIn K (.ref C) m = some (some (.ref f))
  fn : PySem.W.isFn K (.ref f) = true
  kp : PySem.W.keepIn K (.ref f) = true
section
variable {X : Cx} {pins : List (Addr × Obj)} {σ : St} {H : Hp} {s : Shared} {a C dx : Addr} {fs : List (Str × V)} {f : Str} {v : V} {A : Around} {E : Value → Shared → Prop}
theorem getattr_ok {b : Bool} {Q : Value → Shared → Prop} (I : Inv X pins σ H s) (e : H a = some (.ins C dx fs)) (c : Cls X.K C) (n : NoAttr X.K C f) (l : fs.lookup f = some v)
    (h : ∀ u s', Inv X pins σ H s' → RelV v u → Q u s') : wpAny (model X.prog X.w) A (getAttr (.ref a) f b) Q E s := by
  obtain ⟨mA, O, r, _, _, _⟩ := ins_get I.hok e
  obtain ⟨u, hu, ru⟩ := RelO.some_of (v := v) (o := mA f) (by rw [← l]; exact r f)
  exact get_map I.kIn O (c.get f) c.hd n hu (handed_of ru) (h u _ (I.tok _) ru)
theorem getmeth_ok {m : Str} {g : Addr} {pl : Sem Bool} {Q : Value × List Value → Shared → Prop} (I : Inv X pins σ H s) (e : H a = some (.ins C dx fs)) (c : Cls X.K C) (k : Meth X.K C m g) (l : fs.lookup m = none)
    (h : Q (.ref g, [.ref a]) s) : wpAny (model X.prog X.w) A (getMethod (.ref a) m pl) Q E s := by
  obtain ⟨mA, O, r, _, _, _⟩ := ins_get I.hok e
  have hn : mA m = none := RelO.none_of (by rw [← l]; exact r m)
  exact get_meth I.kIn O (c.get m) k.at_ k.fn hn h
theorem setattr_ok {y : V} {u : Value} {Q : Unit → Shared → Prop} (I : Inv X pins σ H s) (e : H a = some (.ins C dx fs)) (c : Cls X.K C) (n : NoAttr X.K C f) (hl : fs.length < 1000) (ry : RelV y u)
    (h : ∀ s', Inv X pins σ (upd H a (.ins C dx (putF f y fs))) s' → Q () s') : wpAny (model X.prog X.w) A (setAttr (.ref a) f u) Q E s := by
  obtain ⟨mA, O, r, wi, _, ho⟩ := ins_get I.hok e
  have hz : (fs.map (·.1)).length ≤ sizeLine := by rw [List.length_map, sizeLine_eq]; omega
  refine set_map I.kIn O c.sa c.po n.taker c.hd wi hz fun h' O' sb => h _ ?_
  have hd : ∃ o, h'.get? dx = some o := let ⟨o, _, _, e', _⟩ := O'.ns; ⟨o, e'⟩
  refine I.write (x := a) (e := dx) (by rw [e]; exact True.intro) (.inr ho) (fun b q hb z => (sb.2 b hb).trans z) hd ?_
  refine ⟨by rw [upd_ne O.ne]; exact ho, ?_, O.ne, O'.obj, _, O'.ns, fun g => ?_, fun g hg => ?_⟩
  · have := length_putF f y fs; omega
  · show RelO ((putF f y fs).lookup g) (if g = f then some u else mA g)
    rw [lookup_putF]
    by_cases q : g = f
    · rw [if_pos q, if_pos q]; exact ry
    · rw [if_neg q, if_neg q]; exact r g
  · by_cases q : g = f
    · rw [q]; exact (keys_putF f y fs).1
    · refine (keys_putF f y fs).2 g (wi g fun z => hg ?_)
      show (if g = f then some u else mA g) = none
      rw [if_neg q]; exact z
theorem Inv.made (I : Inv X pins σ H s) : Inv X pins σ (upd (upd H s.heap.objs.size (.own (s.heap.objs.size + 1))) (s.heap.objs.size + 1) (.ins C s.heap.objs.size []))
    { s with heap := (s.heap.push PySem.W.emptyDict).push (PySem.W.instObj C s.heap.objs.size) } := by
  have e1 : (s.heap.push PySem.W.emptyDict).get? s.heap.objs.size = some PySem.W.emptyDict := Heap.get?_push_size s.heap rfl
  have e2 : ((s.heap.push PySem.W.emptyDict).push (PySem.W.instObj C s.heap.objs.size)).get? (s.heap.objs.size + 1) = some (PySem.W.instObj C s.heap.objs.size) := by
    have := Heap.get?_push_size (s.heap.push PySem.W.emptyDict) (o := PySem.W.instObj C s.heap.objs.size) rfl
    rwa [Heap.size_push] at this
  have e3 : (s.heap.push PySem.W.emptyDict).Ns s.heap.objs.size (fun _ => none) := ⟨PySem.W.emptyDict, #[], _, e1, rfl, (fun e he => absurd he (by simp)), fun _ => rfl⟩
  have I1 := I.laid (a := s.heap.objs.size) (o := .own (s.heap.objs.size + 1)) (h' := s.heap.push PySem.W.emptyDict) (t' := s.toks) (fun b u q => Heap.get?_push_of_some _ q) (Nat.le_refl _) ⟨_, e1⟩
  refine I1.laid (a := s.heap.objs.size + 1) (o := .ins C s.heap.objs.size []) (t' := s.toks) (fun b u q => Heap.get?_push_of_some _ q) (Nat.le_of_eq (Heap.size_push _ _)) ?_
  have ne : s.heap.objs.size ≠ s.heap.objs.size + 1 := Nat.ne_of_lt (Nat.lt_succ_self _)
  refine ⟨by rw [upd_ne ne, upd_same], Nat.zero_le _, ne, e2, fun _ => none, (Heap.Ns1.of_empty e3).at fun o q => Heap.get?_push_of_some _ q, fun _ => True.intro, fun y hy => absurd rfl hy⟩
theorem attr_of {prog : Program} {w : World} {env : Env} {e : Expr} {f : Str} {pos : Pos} {s : Shared} {Q : Value → Shared → Prop} (hb : attributeBase e f env (eval e env) = eval e env)
    (h : wpAny (model prog w) A (eval e env) (fun o s₁ => wpAny (model prog w) A (getAttr o f true) Q E s₁) E s) : wpAny (model prog w) A (eval (.Attribute e f pos) env) Q E s :=
  Attribute_any_ h (by rw [arm_eval_Attribute, hb])
end
def tFld (K : PySem.W.Frag) (ta : TE) (f : Str) : TE := fun σ H Q => ta σ H fun x H1 => ∃ a C dx fs v, x = .ref a ∧ H1 a = some (.ins C dx fs) ∧ Cls K C ∧ NoAttr K C f ∧ fs.lookup f = some v ∧ Q v H1
def sFld (K : PySem.W.Frag) (ta tv : TE) (f : Str) : TS := fun D σ H => tv σ H fun y H1 => ta σ H1 fun x H2 => ∃ a C dx fs, x = .ref a ∧ H2 a = some (.ins C dx fs) ∧ Cls K C ∧ NoAttr K C f ∧ fs.length < 1000 ∧
  D.nx σ (upd H2 a (.ins C dx (putF f y fs)))
section
variable {X : Cx} {o e value : Expr} {f : Str} {pos pos' tpos : Pos} {ta tv : TE}
theorem pe_fld (he : PE X e ta) (hb : attributeBase e f X.env (eval e X.env) = eval e X.env) : PE X (.Attribute e f pos) (tFld X.K ta f) := by
  intro pins s σ H Q I h
  refine attr_of hb (thn (he pins s σ H _ I h) fun u s1 ⟨x, H1, I1, rx, a, C, dx, fs, v, ex, ea, c, n, l, q⟩ => ?_)
  subst ex
  obtain rfl : u = Value.ref a := rx
  exact getattr_ok I1 ea c n l fun u' s2 I2 ru => ⟨v, H1, I2, ru, q⟩
theorem ps_fld (ha : PE X o ta) (hv : PE X value tv) (hs : swapsWith value (some (.Attribute o f pos')) pos.line X.env = pure false) : PS X (.Assign [.Attribute o f pos'] value pos) (sFld X.K ta tv f) := by
  intro pins s σ H D I h
  refine plainObj_wpAny_Assign_Attribute (thn (hv pins s σ H _ I h) fun u s1 ⟨y, H1, I1, ry, q⟩ => thn (ha pins s1 σ H1 _ I1 q) fun ov s2 ⟨x, H2, I2, rx, a, C, dx, fs, ex, ea, c, n, l, q2⟩ => ?_) hs
  subst ex
  obtain rfl : ov = Value.ref a := rx
  exact setattr_ok I2 ea c n l ry fun s3 I3 => ⟨σ, _, I3, q2⟩
end
section
variable {X : Cx} {pins : List (Addr × Obj)} {σ : St} {H : Hp} {s : Shared} {A : Around} {E : Value → Shared → Prop} {Q : Value → Shared → Prop} {c : Value} {b : Bool}
inductive TyOf (K : PySem.W.Frag) (H : Hp) : V → Value → Prop where
  | non : TyOf K H .non (.type "NoneType")
  | bl (x : Bool) : TyOf K H (.bl x) (.type "bool")
  | int (i : Int) : TyOf K H (.int i) (.type "int")
  | str (x : Str) : TyOf K H (.str x) (.type "str")
  | flt (x : UInt64) : TyOf K H (.flt x) (.type "float")
  | lst {a : Addr} {xs : List V} (e : H a = some (.lst xs)) : TyOf K H (.ref a) (.type "list")
  | frz {a : Addr} {o : Obj} {xs : List V} (e : H a = some (.frz o (.lst xs))) : TyOf K H (.ref a) (.type "list")
  | tup {a : Addr} {xs : List V} (e : H a = some (.tup xs)) : TyOf K H (.ref a) (.type "tuple")
  | dK {a : Addr} {kvs : List (Key × V)} (e : H a = some (.dK kvs)) : TyOf K H (.ref a) (.type "dict")
  | dT {a : Addr} {kvs : List (List Key × V)} (e : H a = some (.dT kvs)) : TyOf K H (.ref a) (.type "dict")
  | ins {a C dx : Addr} {fs : List (Str × V)} (e : H a = some (.ins C dx fs)) (cl : Cls K C) (ha : PySem.W.findIn K (.ref C) "__class__" = some (some (.builtin "object.__class__")))
      (hn : PySem.W.specialIn K (.builtin "object.__class__") "__get__" = some (some (.builtin "getset_descriptor.__get__"))) (htk : PySem.W.takesIn K (.builtin "object.__class__") = some true)
      (hm : PySem.W.mroIn K C (.type "object") = some true) : TyOf K H (.ref a) (.ref C)
end
end L2
namespace L2
open PySem PySem.Spec PyProof.Rows
structure Room (k : Nat) (A : Around) : Prop where
  hd : A.handled = none
  dp : A.depth + 3 * k + 5 < recursionLimit
  un : A.units + 16 * k + 200 < cLine
theorem Room.mono {j k : Nat} {A : Around} (r : Room k A) (h : j ≤ k) : Room j A := ⟨r.hd, by have := r.dp; omega, by have := r.un; omega⟩
theorem Room.deeper {k : Nat} {A : Around} (r : Room (k + 1) A) (env : Env) : Room k (A.deeper env) :=
  ⟨r.hd, by have := r.dp; show A.depth + 1 + 3 * k + 5 < _; omega, by have := r.un; show A.units + 3 + 16 * k + 200 < _; omega⟩
theorem Room.in1 {k : Nat} {A : Around} (r : Room (k + 1) A) : Room k A.in1 :=
  ⟨r.hd, by have := r.dp; show A.depth + 3 * k + 5 < _; omega, by have := r.un; show A.units + 1 + 16 * k + 200 < _; omega⟩
theorem make_depth {A : Around} {C : Addr} {us : List Value} {kw : List (Str × Value)} : (A.under (.builtin "type.__call__" ⟨.ref C :: us, kw⟩)).depth = A.depth + 1 := by
  first | rfl | simp [Around.under, Code.weight, Code.isCreation, Code.isGuard, Code.isCaller, Code.frames, Code.isFrame, guardIds]
theorem make_units {A : Around} {C : Addr} {us : List Value} {kw : List (Str × Value)} : (A.under (.builtin "type.__call__" ⟨.ref C :: us, kw⟩)).units = A.units + 1 := by
  first | rfl | simp [Around.under, Code.cUnits, Code.frames, Code.isFrame]
theorem Room.make {k : Nat} {A : Around} (r : Room (k + 1) A) (C : Addr) (us : List Value) (kw : List (Str × Value)) : Room k (A.under (.builtin "type.__call__" ⟨.ref C :: us, kw⟩)) :=
  ⟨r.hd, by have := r.dp; rw [make_depth]; omega, by have := r.un; rw [make_units]; omega⟩
theorem Room.depth {k : Nat} {A : Around} (r : Room k A) : A.depth < recursionLimit := by have := r.dp; omega
theorem Room.units {k : Nat} {A : Around} (r : Room k A) : A.units + 64 < cLine := by have := r.un; omega
def tNil : TA := fun _ H Q => Q [] H
def tCons (ta : TE) (tr : TA) : TA := fun σ H Q => ta σ H fun x H1 => tr σ H1 fun xs H2 => Q (x :: xs) H2
section
variable {X : Cx} {e : Expr} {es : List Expr} {te : TE} {t : TA} {pos : Pos}
theorem pa_nil : PA X [] tNil := fun _ _ _ _ H Q I h => Calls.spliced_nil ⟨[], H, I, .nil, h⟩
theorem pa_cons (ha : PE X e te) (hr : PA X es t) (hs : starEach (e :: es) X.env = (false, eval e X.env) :: starEach es X.env := by rfl) : PA X (e :: es) (tCons te t) := by
  intro pos pins s σ H Q I h
  rw [hs]
  show wpAny _ _ (spliced ((false, eval e X.env) :: backTo pos (starEach es X.env))) _ _ s
  refine Calls.spliced_cons (thn (ha pins s σ H _ I h) fun u s1 ⟨x, H1, I1, r1, q1⟩ => ?_)
  exact thn (hr pos pins s1 σ H1 _ I1 q1) fun us s2 ⟨xs, H2, I2, r2, q2⟩ => ⟨x :: xs, H2, I2, .cons r1 r2, q2⟩
def tTup (t : TA) : TE := fun σ H Q => t σ H fun xs H1 => xs.length ≤ sizeLine ∧ ∀ p, H1 p = none → Q (.ref p) (upd H1 p (.tup xs))
def tLst (t : TA) : TE := fun σ H Q => t σ H fun xs H1 => xs.length ≤ sizeLine ∧ ∀ p, H1 p = none → Q (.ref p) (upd H1 p (.lst xs))
theorem pe_tup {x1} (h : PA X es t) : PE X (.Tuple es x1 pos) (tTup t) := by
  intro pins s σ H Q I hq
  refine wpAny_Tuple_spliced (thn (h pos pins s σ H _ I hq) fun us s1 ⟨xs, H1, I1, r, z, q⟩ => ⟨by rw [← r.length]; exact z, ?_⟩)
  have hf : H1 s1.heap.objs.size = none := I1.hok.fresh (Nat.le_refl _)
  refine ⟨.ref s1.heap.objs.size, upd H1 s1.heap.objs.size (.tup xs), I1.laid (t' := s1.toks) (fun b u e => Heap.get?_push_of_some _ e) (Nat.le_refl _) ?_, rfl, q _ hf⟩
  exact ⟨z, us, r, ⟨_, Heap.get?_push_size _ rfl, rfl, _, rfl⟩⟩
theorem pe_lst (h : PA X es t) : PE X (.List es pos) (tLst t) := by
  intro pins s σ H Q I hq
  refine wpAny_List_spliced (thn (h pos pins s σ H _ I hq) fun us s1 ⟨xs, H1, I1, r, z, q⟩ => ⟨by rw [← r.length]; exact z, ?_⟩)
  have hf : H1 s1.heap.objs.size = none := I1.hok.fresh (Nat.le_refl _)
  refine ⟨.ref s1.heap.objs.size, upd H1 s1.heap.objs.size (.lst xs), I1.laid (t' := s1.toks) (fun b u e => Heap.get?_push_of_some _ e) (Nat.le_refl _) ?_, rfl, q _ hf⟩
  exact ⟨z, us, 0, r, Heap.get?_push_size _ rfl⟩
end
abbrev Sp := List V → Hp → VK → XK → Prop
abbrev CXT := List Env → Hp → Shared → XK → Value → Shared → Prop
structure Env0 (P : Program) (w : World) (K : PySem.W.Frag) (mg : Str → Option Value) (base : Heap) (A : Around) (outer : List Env) (s : Shared) (H : Hp) : Prop where
  frames : A.frames = some outer
  mod : Mod K mg base
  bs : ∀ b o, base.get? b = some o → s.heap.get? b = some o ∧ H b = none
  bsz : base.objs.size ≤ s.heap.objs.size
  funs : s.heap.FunFrames base outer
  frf : ∀ b ∈ frs outer, H b = none
  hok : HOk P w H s.heap
  bare : AllBare s.gens
def CE (outer : List Env) (P : Program) (w : World) (H : Hp) (s : Shared) (Q : VK) (u : Value) (s' : Shared) : Prop :=
  ∃ v H', s'.os = s.os ∧ AllBare s'.gens ∧ Un (frs outer) [] H H' s.heap s'.heap ∧ HOk P w H' s'.heap ∧ RelV v u ∧ Q v H'
def CR (CX : CXT) (outer : List Env) (P : Program) (w : World) (H : Hp) (s : Shared) (Q : VK) (E : XK) (r : Result) (s' : Shared) : Prop :=
  match r with
  | .ok (.ret u) => CE outer P w H s Q u s'
  | .ok _ => False
  | .error e => CX outer H s E e s'
structure FnOk (P : Program) (w : World) (K : PySem.W.Frag) (mg : Str → Option Value) (base : Heap) (CX : CXT) (k : Nat) (f : Addr) (fd : FuncData) (ps : List Str) (sp : Sp) : Prop where
  len : ∀ vs H Q E, sp vs H Q E → vs.length = ps.length
  run : ∀ (A : Around) (outer : List Env) (s : Shared) (H : Hp) (args : Args) (us : List Value) (vs : List V) (Q : VK) (E : XK), Room k A → Env0 P w K mg base A outer s H → BindsTo s fd args (ps.zip us) → Vals vs us → sp vs H Q E →
    codeAny (model P w) A (.call (.ref f) args) (CR CX outer P w H s Q E) s
theorem FnOk.mono {P : Program} {w : World} {K : PySem.W.Frag} {mg : Str → Option Value} {base : Heap} {CX : CXT} {j k : Nat} {f : Addr} {fd : FuncData} {ps : List Str} {sp : Sp} (F : FnOk P w K mg base CX j f fd ps sp) (h : j ≤ k) :
    FnOk P w K mg base CX k f fd ps sp := ⟨F.len, fun A outer s H args us vs Q E hr => F.run A outer s H args us vs Q E (hr.mono h)⟩
theorem FnOk.imp {P : Program} {w : World} {K : PySem.W.Frag} {mg : Str → Option Value} {base : Heap} {CX : CXT} {k : Nat} {f : Addr} {fd : FuncData} {ps : List Str} {sp sp' : Sp} (F : FnOk P w K mg base CX k f fd ps sp)
    (h : ∀ vs H Q E, sp' vs H Q E → sp vs H Q E) : FnOk P w K mg base CX k f fd ps sp' :=
  ⟨fun vs H Q E q => F.len vs H Q E (h _ _ _ _ q), fun A outer s H args us vs Q E hr he hb hv hs => F.run A outer s H args us vs Q E hr he hb hv (h _ _ _ _ hs)⟩
theorem Env0.make {P : Program} {w : World} {K : PySem.W.Frag} {mg : Str → Option Value} {base : Heap} {A : Around} {outer : List Env} {s : Shared} {H : Hp} (e : Env0 P w K mg base A outer s H) (C : Addr) (us : List Value) (kw : List (Str × Value)) :
    Env0 P w K mg base (A.under (.builtin "type.__call__" ⟨.ref C :: us, kw⟩)) outer s H := ⟨by first | exact e.frames | (simpa [Around.under, Code.envs, Code.isFrame, pushEnvs] using e.frames), e.mod, e.bs, e.bsz, e.funs, e.frf, e.hok, e.bare⟩
theorem Env0.in1 {P : Program} {w : World} {K : PySem.W.Frag} {mg : Str → Option Value} {base : Heap} {A : Around} {outer : List Env} {s : Shared} {H : Hp} (e : Env0 P w K mg base A outer s H) :
    Env0 P w K mg base A.in1 outer s H := ⟨e.frames, e.mod, e.bs, e.bsz, e.funs, e.frf, e.hok, e.bare⟩
section
variable {X : Cx} {pins : List (Addr × Obj)} {σ : St} {H : Hp} {s s' : Shared}
theorem Inv.env0 (I : Inv X pins σ H s) : Env0 X.prog X.w X.K X.mg X.base X.A X.stack s H :=
  ⟨I.ok.frames, I.ok.mod, I.bs, Nat.le_trans I.ok.bsz I.sz, I.stack, I.stkFree, I.hok, I.bare⟩
theorem Inv.after {Q : VK} {u : Value} (I : Inv X pins σ H s) (h : CE X.stack X.prog X.w H s Q u s') : EP X pins σ Q u s' := by
  obtain ⟨v, H', os, bare, un, hok, r, q⟩ := h
  obtain ⟨hh, g, d, t, os'⟩ := s'
  obtain rfl : os' = s.os := os
  exact ⟨v, H', I.call (h' := hh) (g' := g) (d' := d) (t' := t) (ch := []) un hok bare (fun b z => absurd z (by simp)), r, q⟩
end
def tCall (sp : Sp) (dvs : List V) (E : XK) (t : TA) : TE := fun σ H Q => t σ H fun vs H1 => sp (vs ++ dvs) H1 Q E
def tMake (C : Addr) (sp : Sp) (dvs : List V) (E : XK) (t : TA) : TE := fun σ H Q => t σ H fun vs H1 => ∀ x dx, H1 x = none → H1 dx = none → dx ≠ x →
  sp (.ref x :: (vs ++ dvs)) (upd (upd H1 dx (.own x)) x (.ins C dx [])) (fun v H2 => v = .non ∧ Q (.ref x) H2) E
def Binds (K : PySem.W.Frag) (fd : FuncData) (ps : List Str) (ds : List Value) : Prop :=
  ∀ (s : Shared) (us : List Value), K.In s.heap → (us ++ ds).length = ps.length → BindsTo s fd ⟨us, []⟩ (ps.zip (us ++ ds))
theorem Binds.all {K : PySem.W.Frag} {fd : FuncData} {ps : List Str} (h : ∀ us : List Value, us.length = ps.length → bindArgs fd ⟨us, []⟩ = pure (ps.zip us)) : Binds K fd ps [] := fun s us _ hl => by
  rw [List.append_nil] at hl ⊢
  exact .of_eq (h us hl)
def Passes (CX : CXT) (X : Cx) (E : XK) : Prop := ∀ (pins : List (Addr × Obj)) (σ : St) (H : Hp) (s : Shared) (e : Value) (s' : Shared), Inv X pins σ H s → CX X.stack H s E e s' → X.xe e s'
section
variable {X : Cx} {CX : CXT} {k : Nat} {f C : Addr} {fd : FuncData} {ps : List Str} {sp : Sp} {dvs : List V} {ds : List Value} {E : XK} {x m : Str} {p pos apos : Pos} {e o : Expr} {es : List Expr} {ta : TE} {t : TA}
theorem run_fn {pins : List (Addr × Obj)} {σ : St} {H : Hp} {s : Shared} {Q : VK} {us : List Value} {vs : List V} (F : FnOk X.prog X.w X.K X.mg X.base CX k f fd ps sp) (hr : Room k X.A) (hb : Binds X.K fd ps ds) (hd : Vals dvs ds) (hx : Passes CX X E)
    (I : Inv X pins σ H s) (r : Vals vs us) (h : sp (vs ++ dvs) H Q E) : wpAny (model X.prog X.w) X.A (call (.ref f) us) (EP X pins σ Q) X.xe s := by
  have r2 : Vals (vs ++ dvs) (us ++ ds) := r.append hd
  have hl : (us ++ ds).length = ps.length := by rw [← r2.length]; exact F.len _ _ _ _ h
  refine wpAny_call (codeAny_mono (F.run X.A X.stack s H ⟨us, []⟩ (us ++ ds) (vs ++ dvs) Q E hr I.env0 (hb s us I.kIn hl) r2 h) fun r s' hq => ?_)
  cases r with
  | error e => exact hx pins σ H s e s' I hq
  | ok fl =>
    cases fl with
    | ret u => exact I.after hq
    | next => exact False.elim hq
    | brk => exact False.elim hq
    | cont => exact False.elim hq
theorem pe_call (F : FnOk X.prog X.w X.K X.mg X.base CX k f fd ps sp) (hr : Room k X.A) (hg : Gl X x) (hm : X.mg x = some (.ref f)) (hk : PySem.W.keepIn X.K (.ref f) = true) (hb : Binds X.K fd ps ds) (hd : Vals dvs ds) (hx : Passes CX X E)
    (ha : PA X (e :: es) t) (hdb : (x == ("__debug__" : Str)) = false := by decide) (he : starEach (e :: es) X.env = (false, eval e X.env) :: starEach es X.env := by rfl) (hpl : (backTo pos (starEach es X.env)).any (·.1) = false := by rfl) :
    PE X (.Call (.Name x p) (e :: es) [] pos) (tCall sp dvs E t) := by
  intro pins s σ H Q I h
  refine wpAny_Call_Name_kw (ld_glob I hg hm ?_ hdb)
  refine PySem.W.callWith_K (h₀ := X.base) I.ok.mod.kin hk (thn (ha pos pins s σ H _ I h) fun us s1 ⟨vs, H1, I1, r, q⟩ => ⟨I1.kIn, ?_⟩) he hpl
  exact run_fn F hr hb hd hx I1 r q
structure Mk (K : PySem.W.Frag) (C f : Addr) : Prop where
  makes : PySem.W.makesIn K C = true
  init : PySem.W.findIn K (.ref C) "__init__" = some (some (.ref f))
  fn : PySem.W.isFn K (.ref f) = true
  kp : PySem.W.keepIn K (.ref C) = true
theorem run_make {pins : List (Addr × Obj)} {σ : St} {H : Hp} {s : Shared} {Q : VK} {us : List Value} {vs : List V} (M : Mk X.K C f) (F : FnOk X.prog X.w X.K X.mg X.base CX k f fd ps sp) (hr : Room (k + 1) X.A) (hb : Binds X.K fd ps ds) (hd : Vals dvs ds)
    (hx : Passes CX X E) (I : Inv X pins σ H s) (r : Vals vs us)
    (h : ∀ x dx, H x = none → H dx = none → dx ≠ x → sp (.ref x :: (vs ++ dvs)) (upd (upd H dx (.own x)) x (.ins C dx [])) (fun v H2 => v = .non ∧ Q (.ref x) H2) E) :
    wpAny (model X.prog X.w) X.A (call (.ref C) us) (EP X pins σ Q) X.xe s := by
  have hq := h (s.heap.objs.size + 1) s.heap.objs.size (I.hok.fresh (Nat.le_succ _)) (I.hok.fresh (Nat.le_refl _)) (Nat.ne_of_lt (Nat.lt_succ_self _))
  have I2 := Inv.made (C := C) I
  have r2 : Vals (V.ref (s.heap.objs.size + 1) :: (vs ++ dvs)) (Value.ref (s.heap.objs.size + 1) :: (us ++ ds)) := .cons rfl (r.append hd)
  have hl : (Value.ref (s.heap.objs.size + 1) :: us ++ ds).length = ps.length := by
    have e := r2.length
    rw [F.len _ _ _ _ hq] at e
    exact e.symm
  refine wpAny_call (make_map (f := f) I.kIn M.makes M.init (beq_iff_eq.mp M.fn) (codeAny_mono (F.run _ X.stack _ _ ⟨Value.ref (s.heap.objs.size + 1) :: us, []⟩ (Value.ref (s.heap.objs.size + 1) :: (us ++ ds)) _ _ E (hr.make C us [])
    (I2.env0.make C us []) (hb _ (Value.ref (s.heap.objs.size + 1) :: us) I2.kIn hl) r2 hq) fun r s' hq' => ?_))
  cases r with
  | error e => exact hx pins σ _ _ e s' I2 hq'
  | ok fl =>
    cases fl with
    | ret u =>
      obtain ⟨v, H', I3, rv, ev, q3⟩ := I2.after hq'
      subst ev
      exact ⟨rv, ⟨V.ref (s.heap.objs.size + 1), H', I3, rfl, q3⟩⟩
    | next => exact False.elim hq'
    | brk => exact False.elim hq'
    | cont => exact False.elim hq'
theorem pe_make (M : Mk X.K C f) (F : FnOk X.prog X.w X.K X.mg X.base CX k f fd ps sp) (hr : Room (k + 1) X.A) (hg : Gl X x) (hm : X.mg x = some (.ref C)) (hb : Binds X.K fd ps ds) (hd : Vals dvs ds) (hx : Passes CX X E)
    (ha : PA X (e :: es) t) (hdb : (x == ("__debug__" : Str)) = false := by decide) (he : starEach (e :: es) X.env = (false, eval e X.env) :: starEach es X.env := by rfl) (hpl : (backTo pos (starEach es X.env)).any (·.1) = false := by rfl) :
    PE X (.Call (.Name x p) (e :: es) [] pos) (tMake C sp dvs E t) := by
  intro pins s σ H Q I h
  refine wpAny_Call_Name_kw (ld_glob I hg hm ?_ hdb)
  refine PySem.W.callWith_K (h₀ := X.base) I.ok.mod.kin M.kp (thn (ha pos pins s σ H _ I h) fun us s1 ⟨vs, H1, I1, r, q⟩ => ⟨I1.kIn, ?_⟩) he hpl
  exact run_make M F hr hb hd hx I1 r q
end
section
variable {X : Cx} {CX : CXT} {k : Nat} {f C : Addr} {fd : FuncData} {ps ks : List Str} {sp : Sp} {E : XK} {x m : Str} {p pos apos kpos : Pos} {e o : Expr} {es : List Expr} {kws : List Keyword} {te ta : TE} {t tk : TA} {nm : Option Str}
structure KBinds (K : PySem.W.Frag) (fd : FuncData) (ps ks : List Str) (g : List Value → List Value → List Value) (gV : List V → List V → List V) : Prop where
  to : ∀ (s : Shared) (us ws : List Value), K.In s.heap → (g us ws).length = ps.length → BindsTo s fd ⟨us, ks.zip ws⟩ (ps.zip (g us ws))
  rel : ∀ {vs : List V} {us : List Value} {zs : List V} {ws : List Value}, Vals vs us → Vals zs ws → Vals (gV vs zs) (g us ws)
variable {g : List Value → List Value → List Value} {gV : List V → List V → List V}
end
structure FnScope (N P : List Str) (sc : Scope) : Prop where
  kind : sc.kind = .function
  co : sc.isCoroutine = false
  gen : sc.isGenerator = false
  nd : N.Nodup
  pre : N.take P.length = P
  par : ∀ x ∈ P, sc.names.lookup x = some .local ∨ sc.names.lookup x = some .cell
  nofree : ∀ y ∈ sc.names, y.2 ≠ .free
theorem bindL_out {kindOf : Str → Option NameKind} {x : Str} : ∀ {binds : List (Str × Value)} {m : Str → Option Value}, (∀ v, (x, v) ∉ binds) → bindL kindOf binds m x = m x
  | [], _, _ => rfl
  | (n, v) :: r, m, h => by
    unfold bindL
    rw [bindL_out fun w hw => h w (List.mem_cons_of_mem _ hw)]
    split
    · have : x ≠ n := by rintro rfl; exact h v List.mem_cons_self
      simp [this]
    · rfl
theorem bindC_out {kindOf : Str → Option NameKind} {x : Str} : ∀ {binds : List (Str × Value)} {m : Str → Option Value}, (∀ v, (x, v) ∉ binds) → bindC kindOf binds m x = m x
  | [], _, _ => rfl
  | (n, v) :: r, m, h => by
    unfold bindC
    rw [bindC_out fun w hw => h w (List.mem_cons_of_mem _ hw)]
    split
    · rfl
    · have : x ≠ n := by rintro rfl; exact h v List.mem_cons_self
      simp [this]
theorem bindL_get {kindOf : Str → Option NameKind} {x : Str} {v : Value} : ∀ {P : List Str} {vs : List Value} {i : Nat} {m : Str → Option Value}, P.Nodup → P[i]? = some x → vs[i]? = some v → kindOf x = some .local →
    bindL kindOf (P.zip vs) m x = some v
  | [], _, _, _, _, h, _, _ => by simp at h
  | _ :: _, [], _, _, _, _, h, _ => by simp at h
  | p :: P, w :: vs, 0, m, nd, h1, h2, hk => by
    simp at h1 h2; subst h1; subst h2
    show bindL kindOf ((p, w) :: P.zip vs) m p = _
    unfold bindL
    rw [bindL_out fun v hv => (List.nodup_cons.mp nd).1 (List.of_mem_zip hv).1, if_pos hk]
    simp
  | p :: P, w :: vs, i + 1, m, nd, h1, h2, hk => by
    show bindL kindOf ((p, w) :: P.zip vs) m x = _
    unfold bindL
    exact bindL_get (i := i) (List.nodup_cons.mp nd).2 (by simpa using h1) (by simpa using h2) hk
theorem bindC_get {kindOf : Str → Option NameKind} {x : Str} {v : Value} : ∀ {P : List Str} {vs : List Value} {i : Nat} {m : Str → Option Value}, P.Nodup → P[i]? = some x → vs[i]? = some v → kindOf x ≠ some .local →
    bindC kindOf (P.zip vs) m x = some v
  | [], _, _, _, _, h, _, _ => by simp at h
  | _ :: _, [], _, _, _, _, h, _ => by simp at h
  | p :: P, w :: vs, 0, m, nd, h1, h2, hk => by
    simp at h1 h2; subst h1; subst h2
    show bindC kindOf ((p, w) :: P.zip vs) m p = _
    unfold bindC
    rw [bindC_out fun v hv => (List.nodup_cons.mp nd).1 (List.of_mem_zip hv).1, if_neg hk]
    simp
  | p :: P, w :: vs, i + 1, m, nd, h1, h2, hk => by
    show bindC kindOf ((p, w) :: P.zip vs) m x = _
    unfold bindC
    exact bindC_get (i := i) (List.nodup_cons.mp nd).2 (by simpa using h1) (by simpa using h2) hk
def start (N : List Str) (vs : List V) : St := vs.map some ++ List.replicate (N.length - vs.length) none
def cxOf (CX : CXT) (P : Program) (w : World) (K : PySem.W.Frag) (mg : Str → Option Value) (base : Heap) (N : List Str) (qual : Str) (scope : Scope) (f : Addr) (cd : Value) (A : Around) (outer : List Env) (s : Shared) (H : Hp) (E : XK) : Cx where
  prog := P
  w := w
  K := K
  mg := mg
  base := base
  A := A.deeper (envOfC qual scope s.heap.objs.size f cd)
  N := N
  s₀ := s
  H₀ := H
  env := envOfC qual scope s.heap.objs.size f cd
  outer := outer
  stack := envOfC qual scope s.heap.objs.size f cd :: outer
  ex := []
  calm := true
  fn := fun _ => true
  pn := []
  xe := fun e s' => wpAny (model P w) (A.deeper (envOfC qual scope s.heap.objs.size f cd)) (leaving (envOfC qual scope s.heap.objs.size f cd) e) (fun _ s'' => CX outer H s E e s'') (fun e' s'' => CX outer H s E e' s'') s'
theorem cell_has {sc : Scope} {n : Nat} {x : Str} (h : sc.names.lookup x = some .cell) : ∃ c, (cellsFrom n sc.names []).lookup x = some c := by
  have q := PySem.W.cellsFrom_some sc.names n [] (.inl h)
  exact Option.isSome_iff_exists.mp q
theorem inv_start {CX : CXT} {P : Program} {w : World} {K : PySem.W.Frag} {mg : Str → Option Value} {base : Heap} {N ps : List Str} {qual : Str} {scope : Scope} {f : Addr} {cd : Value} {A : Around} {outer : List Env} {s s1 : Shared} {H : Hp} {E : XK} {us : List Value} {vs : List V}
    (S : FnScope N ps scope) (hd : A.handled = none) (e0 : Env0 P w K mg base A outer s H) (hl : vs.length = ps.length) (r : Vals vs us)
    (x : InCallC s s.heap.objs.size (bindL (envOfC qual scope s.heap.objs.size f cd).kindOf (ps.zip us) fun _ => none) (cellsFrom (s.heap.objs.size + 1) scope.names []) (bindC (envOfC qual scope s.heap.objs.size f cd).kindOf (ps.zip us) fun _ => none) s1) :
    Inv (cxOf CX P w K mg base N qual scope f cd A outer s H E) [] (start N vs) H s1 := by
  have hpl : ps.length ≤ N.length := by have := congrArg List.length S.pre; rw [List.length_take] at this; omega
  obtain ⟨h1, tk, rfl, hk⟩ := x.done
  have noA : ∀ b : Addr, b ∉ (cxOf CX P w K mg base N qual scope f cd A outer s H E).ex := fun b z => absurd (show b ∈ ([] : List Addr) from z) (by simp)
  refine ⟨⟨e0.mod, S.kind, rfl, rfl, Nat.le_refl _, fun y z c h1 h2 => ?_, fun y hy => ?_, fun y c _ h => ?_, fun _ => hd, Around.frames_deeper e0.frames, .inr ⟨rfl, rfl⟩, fun b z => absurd z (noA b), e0.bs, e0.bsz, fun b _ _ => noA b, fun b z => absurd z (noA b), e0.funs, e0.frf⟩,
    rfl, e0.bare, Un.kept hk, ⟨_, x.toInCall.ns, fun i y v h1 h2 h3 => ?_⟩, fun y c h => ⟨_, x.cell y c h⟩, e0.hok.fresh (Nat.le_refl _), fun y c h => ?_, fun p hp => absurd (show p ∈ ([] : List (Addr × Obj)) from hp) (by simp), e0.hok.kept hk, ?_⟩
  · exact name_of_addr x.apart (PySem.mem_of_lookup h1) (PySem.mem_of_lookup h2)
  · have hy : scope.names.lookup y = some .cell ∨ scope.names.lookup y = some .free := hy
    rcases hy with hy | hy
    · exact cell_has hy
    · exact absurd rfl (S.nofree _ (PySem.mem_of_lookup hy))
  · exact Nat.le_of_lt (x.above y c (PySem.mem_of_lookup h))
  · have hi : i < vs.length := by
      unfold start at h2
      by_cases hi : i < vs.length
      · exact hi
      · rw [List.getElem?_append_right (by simpa using hi)] at h2
        rw [List.getElem?_replicate] at h2
        split at h2 <;> cases h2
    have ha : vs[i]? = some v := by
      unfold start at h2
      rw [List.getElem?_append_left (by simpa using hi), List.getElem?_map] at h2
      cases e : vs[i]? with
      | none => rw [e] at h2; cases h2
      | some a => rw [e] at h2; cases h2; rfl
    obtain ⟨u, hu, rv⟩ := r.get ha
    have hp : ps[i]? = some y := by
      rw [← S.pre, List.getElem?_take_of_lt (by omega)]; exact h1
    have ndP : ps.Nodup := by rw [← S.pre]; exact S.nd.sublist (List.take_sublist _ _)
    refine ⟨u, rv, ?_⟩
    rcases S.par y (List.mem_of_getElem? hp) with k | k
    · exact .inl ⟨k, bindL_get ndP hp hu k⟩
    · obtain ⟨c, e⟩ := cell_has (n := s.heap.objs.size + 1) k
      refine .inr ⟨.inl k, c, e, ?_⟩
      have q := x.cell y c e
      rw [bindC_get ndP hp hu (by show scope.names.lookup y ≠ _; rw [k]; decide)] at q
      exact q
  · exact e0.hok.fresh (Nat.le_of_lt (x.above y c (PySem.mem_of_lookup h)))
  · unfold start
    show _ = N.length
    rw [List.length_append, List.length_map, List.length_replicate]
    omega
theorem fn_of {CX : CXT} {P : Program} {w : World} {K : PySem.W.Frag} {mg : Str → Option Value} {base : Heap} {k : Nat} {f : Addr} {name qual : Str} {params : Arguments} {body : List Stmt} {scope : Scope} {dV kV doc pm cdv ct oc : Value} {an od : Option Addr}
    {osl : Array (Option Value)} {N ps : List Str} {sp : Sp} (lk : K.lookup f = some ⟨oc, od, .func (PySem.W.fnOf name qual params body scope dV kV doc pm an cdv ct), osl⟩) (hcd : PySem.W.codeIn K cdv qual = true) (S : FnScope N ps scope)
    (len : ∀ vs H Q E, sp vs H Q E → vs.length = ps.length)
    (hbody : ∀ (A : Around) (outer : List Env) (s : Shared) (H : Hp) (vs : List V) (Q : VK) (E : XK), Room k (A.deeper (envOfC qual scope s.heap.objs.size f cdv)) → sp vs H Q E →
      ∃ t, PSs (cxOf CX P w K mg base N qual scope f cdv A outer s H E) body t ∧ t { nx := fun _ H' => Q .non H', rt := Q } (start N vs) H) :
    FnOk P w K mg base CX (k + 1) f (PySem.W.fnOf name qual params body scope dV kV doc pm an cdv ct) ps sp := by
  refine ⟨len, fun A outer s H args us vs Q E hr e0 hb r hsp => ?_⟩
  have hl := len _ _ _ _ hsp
  have KX : K.In s.heap := e0.mod.kin.keeps fun b o e => (e0.bs b o e).1
  have lim : s.heap.NoLimit := e0.mod.nolimit.keeps fun b o e => (e0.bs b o e).1
  have hkind : ∀ y ∈ ps.zip us, scope.names.lookup y.1 = some .local ∨ (scope.names.lookup y.1 = some .cell ∧ ((cellsFrom (s.heap.objs.size + 1) scope.names []).lookup y.1).isSome = true) := fun ⟨n, v⟩ hy => by
    rcases S.par n (List.of_mem_zip hy).1 with q | q
    · exact .inl q
    · exact .inr ⟨q, PySem.W.cellsFrom_some _ _ _ (.inl q)⟩
  refine codeAny_call_function hr.depth (KX _ _ lk) rfl S.co S.gen rfl (PySem.W.codeRec_of KX hcd) (hb _ _ _ _ ?_)
  refine wpAny_newFunctionEnv_cells S.kind hkind fun env he s1 x => ?_
  subst he
  refine ⟨lim.keeps x.toInCall.keep, codeAny_func ?_⟩
  obtain ⟨t, ht, hq⟩ := hbody A outer s H vs Q E (hr.deeper _) hsp
  have I : Inv (cxOf CX P w K mg base N qual scope f cdv A outer s H E) [] (start N vs) H s1 := inv_start S hr.hd e0 hl r x
  refine wpAny_mono (ht [] s1 (start N vs) H _ I hq) (fun fl s' hs => ?_) fun e s' hs => hs
  have fin : ∀ {σ' : St} {H' : Hp} {v : V} {u : Value}, Inv (cxOf CX P w K mg base N qual scope f cdv A outer s H E) [] σ' H' s' → RelV v u → Q v H' → CE outer P w H s Q u s' :=
    fun {σ' H' v u} J rv q => ⟨v, H', J.os, J.bare, J.base, J.hok, rv, q⟩
  cases fl with
  | ret u =>
    obtain ⟨v, σ', H', J, rv, q⟩ := hs
    exact fin J rv q
  | next =>
    obtain ⟨σ', H', J, q⟩ := hs
    exact fin (v := V.non) (u := Value.none) J rfl q
  | brk =>
    obtain ⟨_, _, _, q⟩ := hs
    exact False.elim q
  | cont =>
    obtain ⟨_, _, _, q⟩ := hs
    exact False.elim q
end L2
namespace L2
open PySem PySem.Spec PyProof.Rows
section
variable {X : Cx} {x : Str} {p pos : Pos} {e : Expr} {es : List Expr} {t : TA} {id T : String} {r : List V → Hp → VK → Prop}
def tCB (r : List V → Hp → VK → Prop) (t : TA) : TE := fun σ H Q => t σ H fun vs H1 => r vs H1 Q
theorem pe_callB (hc : CallR X (.builtin id) r) (hg : Gl X x) (hm : X.mg x = none) (hv : bootBuiltins x = some (.builtin id)) (ha : PA X (e :: es) t) (hn : x ≠ "__name__" := by decide) (hdb : (x == ("__debug__" : Str)) = false := by decide)
    (he : starEach (e :: es) X.env = (false, eval e X.env) :: starEach es X.env := by rfl) (hpl : (backTo pos (starEach es X.env)).any (·.1) = false := by rfl) : PE X (.Call (.Name x p) (e :: es) [] pos) (tCB r t) := by
  intro pins s σ H Q I h
  refine wpAny_Call_Name_kw (ld_blt I hg hm hv ?_ hn hdb)
  exact PyProof.Rows.callWith_builtin1 (thn (ha pos pins s σ H _ I h) fun us s1 ⟨vs, H1, I1, r1, q1⟩ => hc pins s1 σ H1 vs us Q I1 r1 q1) he hpl
theorem pe_callTy (hc : CallR X (.type T) r) (hg : Gl X x) (hm : X.mg x = none) (hv : bootBuiltins x = some (.type T)) (ha : PA X (e :: es) t) (hn : x ≠ "__name__" := by decide) (hdb : (x == ("__debug__" : Str)) = false := by decide)
    (he : starEach (e :: es) X.env = (false, eval e X.env) :: starEach es X.env := by rfl) (hpl : (backTo pos (starEach es X.env)).any (·.1) = false := by rfl) : PE X (.Call (.Name x p) (e :: es) [] pos) (tCB r t) := by
  intro pins s σ H Q I h
  refine wpAny_Call_Name_kw (ld_blt I hg hm hv ?_ hn hdb)
  exact PyProof.Rows.callWith_type1 (thn (ha pos pins s σ H _ I h) fun us s1 ⟨vs, H1, I1, r1, q1⟩ => hc pins s1 σ H1 vs us Q I1 r1 q1) he hpl
end
end L2
namespace HT
open PySem PyProof.Rows
section
open PySem.SeqAt
open PySem.AutoSeq1 (wpAny_loadPart')
open PySem.MeetsSeq PySem.MeetsSeq2 PySem.MeetsSeq3
end
section
variable {prog : Program} {w : World} {A : Around} {E : Value → Shared → Prop} {s : Shared}
theorem cat_tup {t b : Addr} {vs ws : List Value} {Q : Value → Shared → Prop} (ht : IsTup s.heap t vs.toArray) (hb : IsTup s.heap b ws.toArray) (hv : vs ≠ [])
    (h1 : ws = [] → Q (.ref t) s) (h2 : ws ≠ [] → Q (.ref s.heap.objs.size) { s with heap := s.heap.push { cls := .type "tuple", data := .seq (vs ++ ws).toArray } })
    (hsz : vs.length + ws.length ≤ sizeLine) : wpAny (model prog w) A (binaryOp .Add (.ref t) (.ref b)) Q E s := by
  obtain ⟨⟨cls, dd, data, sl⟩, ho, hc, n, hd⟩ := id ht
  obtain ⟨⟨cls2, dd2, data2, sl2⟩, ho2, hc2, n2, hd2⟩ := id hb
  simp only at hc hd hc2 hd2
  subst hc hd hc2 hd2
  have e : vs.toArray ++ ws.toArray = (vs ++ ws).toArray := by simp
  by_cases hw : ws = []
  · exact concat_meets ⟨_, ho, rfl⟩ ⟨_, ho2, rfl⟩ noFill_tuple_add seq_tuple_add PySem.F.slot_tuple_add PySem.F.entry_tuple_add (PySem.F.args_tuple_add_2 _ _)
      (tuple_addW1 t b vs.toArray ws.toArray n n2 dd dd2 sl sl2 (by simpa using hv) (by simp [hw])) ⟨ho, ho2, h1 hw⟩
  · refine concat_meets ⟨_, ho, rfl⟩ ⟨_, ho2, rfl⟩ noFill_tuple_add seq_tuple_add PySem.F.slot_tuple_add PySem.F.entry_tuple_add (PySem.F.args_tuple_add_2 _ _)
      (tuple_addW2 t b vs.toArray ws.toArray n n2 dd dd2 sl sl2 (by simpa using hv) (by simpa using hw) (by rw [List.size_toArray, List.size_toArray]; exact hsz)) ⟨ho, ho2, ?_⟩
    rw [e]
    exact h2 hw
def sIx (n d : Nat) : Option Int → Nat
  | none => d
  | some v => if v < 0 then (v + (n : Int)).toNat else min v.toNat n
theorem sIx_le (n d : Nat) (hd : d ≤ n) (o : Option Int) : sIx n d o ≤ n := by
  cases o with
  | none => exact hd
  | some v =>
    show (if v < 0 then (v + (n : Int)).toNat else min v.toNat n) ≤ n
    by_cases hv : v < 0
    · rw [if_pos hv]; omega
    · rw [if_neg hv]; exact Nat.min_le_right _ _
theorem clip_eq (v : Int) (n d : Nat) : (if v < 0 then max (v + (n : Int)) 0 else min v (n : Int)) = ((sIx n d (some v) : Nat) : Int) := by
  show (if v < 0 then max (v + (n : Int)) 0 else min v (n : Int)) = (((if v < 0 then (v + (n : Int)).toNat else min v.toNat n) : Nat) : Int)
  by_cases hv : v < 0
  · simp only [if_pos hv]; omega
  · simp only [if_neg hv]; omega
theorem adjust_gen (lo hi : Option Int) (n : Nat) : Builtin.Slice.sliceAdjust lo hi 1 (n : Int) = (((sIx n 0 lo : Nat) : Int), ((sIx n n hi : Nat) : Int)) := by
  have h1 : ¬ ((1 : Int) < 0) := by omega
  unfold Builtin.Slice.sliceAdjust
  simp only [h1, if_false]
  refine Prod.ext ?_ ?_
  · cases lo with
    | none => rfl
    | some v => exact clip_eq v n 0
  · cases hi with
    | none => rfl
    | some v => exact clip_eq v n n
theorem places_gen (i j : Nat) : Builtin.Slice.slicePlaces (i : Int) (j : Int) 1 = j - i := by
  unfold Builtin.Slice.slicePlaces
  have h1 : (1 : Int) > 0 := by omega
  simp only [h1, if_true, Int.ediv_one]
  split <;> omega
theorem slicePart_ {v : Value} {o : Option Int} {Q : Option Int → Shared → Prop} (p : IsPart v o) (h : Q o s) : wpAny (model prog w) A (Builtin.Slice.slicePartIndex v) Q E s := by
  cases p with
  | none => exact slicePart_none h
  | int i t => exact slicePart_int h
theorem sliceApplied_gen {sl : Addr} {vl vu : Value} {lo hi : Option Int} {n : Nat} {Q : Int × Int × Nat → Shared → Prop} (hs : s.heap.IsSliceOf sl vl vu .none) (pl : IsPart vl lo) (pu : IsPart vu hi)
    (h : Q (((sIx n 0 lo : Nat) : Int), 1, sIx n n hi - sIx n 0 lo) s) : wpAny (model prog w) A (Builtin.Slice.sliceApplied (.ref sl) (pure (n : Int))) Q E s := by
  obtain ⟨os, hos, hcs, hds⟩ := id hs
  unfold Builtin.Slice.sliceApplied Builtin.Slice.sliceFields
  refine wpAny_bind (wpAny_bind (wpAny_field hos hds (x := vl) rfl (wpAny_bind (wpAny_field hos hds (x := vu) rfl (wpAny_bind (wpAny_field hos hds (x := .none) rfl (wpAny_pure ?_)))))))
  refine wpAny_bind (slicePart_none ?_)
  show wpAny _ _ (if ((1 : Int) == 0) = true then _ else _) _ _ s
  rw [if_neg (by decide)]
  refine wpAny_bind (slicePart_ pl (wpAny_bind (slicePart_ pu (wpAny_bind (wpAny_pure ?_)))))
  show wpAny _ _ (match Builtin.Slice.sliceAdjust lo hi 1 (n : Int) with | (lo, hi) => pure (lo, (1 : Int), Builtin.Slice.slicePlaces lo hi 1)) _ _ s
  rw [adjust_gen lo hi n]
  show wpAny _ _ (pure (((sIx n 0 lo : Nat) : Int), (1 : Int), Builtin.Slice.slicePlaces ((sIx n 0 lo : Nat) : Int) ((sIx n n hi : Nat) : Int) 1)) _ _ s
  rw [places_gen]
  exact wpAny_pure h
theorem pick_gen (xs : Array Value) (i k : Nat) : ((List.range k).filterMap fun (m : Nat) => xs[((i : Int) + (m : Int) * 1).toNat]?).toArray = ((xs.toList.drop i).take k).toArray := by
  have e : (fun (m : Nat) => xs[((i : Int) + (m : Int) * 1).toNat]?) = fun m => xs[i + m]? := by
    funext m
    have : ((i : Int) + (m : Int) * 1).toNat = i + m := by omega
    rw [this]
  rw [e]
  have := pick_run xs i k
  rw [List.filterMap_map] at this
  have e2 : ((fun x => xs[x]?) ∘ fun x => i + x) = fun m => xs[i + m]? := rfl
  rw [e2] at this
  rw [this]
theorem getItem_tuple_cut {t sl : Addr} {items : Array Value} {vl vu : Value} {lo hi : Option Int} {Q : Value → Shared → Prop} (ht : IsTup s.heap t items) (hs : s.heap.IsSliceOf sl vl vu .none) (pl : IsPart vl lo) (pu : IsPart vu hi)
    (hw : ¬ (sIx items.size 0 lo = 0 ∧ sIx items.size items.size hi = items.size))
    (h : Q (.ref s.heap.objs.size) { s with heap := s.heap.push { cls := .type "tuple", data := .seq ((items.toList.drop (sIx items.size 0 lo)).take (sIx items.size items.size hi - sIx items.size 0 lo)).toArray } })
    (hsz : items.size ≤ sizeLine) : wpAny (model prog w) A (getItem (.ref t) (.ref sl)) Q E s := by
  have htake : sizeOk (.seq ((items.toList.drop (sIx items.size 0 lo)).take (sIx items.size items.size hi - sIx items.size 0 lo)).toArray) := by
    show ((items.toList.drop (sIx items.size 0 lo)).take (sIx items.size items.size hi - sIx items.size 0 lo)).toArray.size ≤ sizeLine
    rw [List.size_toArray, List.length_take, List.length_drop, Array.length_toList]
    omega
  have hj : sIx items.size items.size hi ≤ items.size := sIx_le _ _ (Nat.le_refl _) hi
  obtain ⟨os, hos, hcs, hds⟩ := id hs
  have hTs : s.TypeIs (.ref sl) "slice" := ⟨os, hos, hcs⟩
  unfold getItem
  try with_reducible refine wpAny_holding ?_
  first | refine wpAny_bind (wpAny_pure ?_) | skip
  refine wpAny_bind (wpAny_sequenceKey ht.typeIs (by decide) ?_)
  refine wpAny_bind (wpAny_callSpecial?_slot (name := Str.ofString "__getitem__") ht.typeIs PyProof.Rows.slot_tuple_getitem
    (wpAny_call_entry PyProof.Rows.slot_tuple_getitem ht.typeIs entry_tuple_getitem ?_ (args_tuple_getitem _ _)))
  show wpAny _ _ (Builtin.Tuple.tupleItemsOf (.ref t) >>= _) _ _ s
  refine wpAny_bind (tupleItemsOf_ ht ?_)
  refine wpAny_bind (wpAny_typeOf hTs ?_)
  rw [if_pos (by decide)]
  refine wpAny_bind (sliceApplied_gen hs pl pu ?_)
  have hno : ¬ ((((sIx items.size 0 lo : Nat) : Int) == 0 && (1 : Int) == 1 && (sIx items.size items.size hi - sIx items.size 0 lo) == items.size) = true) := by
    intro q
    rw [Bool.and_eq_true, Bool.and_eq_true] at q
    have q1 : ((sIx items.size 0 lo : Nat) : Int) = 0 := eq_of_beq q.1.1
    have q2 : sIx items.size items.size hi - sIx items.size 0 lo = items.size := eq_of_beq q.2
    exact hw ⟨by omega, by omega⟩
  show wpAny _ _ (if (((sIx items.size 0 lo : Nat) : Int) == 0 && (1 : Int) == 1 && (sIx items.size items.size hi - sIx items.size 0 lo) == items.size) = true then _ else _) _ _ s
  rw [if_neg hno, pick_gen]
  first
    | exact wpAny_bind (m := Builtin.Tuple.tupleExact _) (wpAny_newObj_type (wpAny_pure ⟨_, rfl, wpAny_pure h⟩) htake)
    | exact wpAny_bind (m := Builtin.Tuple.tupleExact _) (wpAny_newObj_type (wpAny_bind (wpAny_pure (wpAny_pure ⟨_, rfl, wpAny_pure h⟩))) htake)
    | exact wpAny_bind (wpAny_bind (m := Builtin.Tuple.tupleExact _) (wpAny_newObj_type (wpAny_pure (wpAny_pure ⟨_, rfl, wpAny_pure h⟩)) htake))
    | exact wpAny_bind (wpAny_bind (m := Builtin.Tuple.tupleExact _) (wpAny_newObj_type (wpAny_pure ⟨_, rfl, wpAny_pure h⟩) htake))
end
end HT
namespace L2
open PySem PySem.Spec PyProof.Rows
abbrev TO := St → Hp → (Option Int → Hp → Prop) → Prop
def PO (X : Cx) (e : Option Expr) (t : TO) : Prop :=
  ∀ (pins : List (Addr × Obj)) (s : Shared) (σ : St) (H : Hp) (Q : Option Int → Hp → Prop), Inv X pins σ H s → t σ H Q →
    wpAny (model X.prog X.w) X.A (evalPart e X.env) (fun u s' => ∃ o H', Inv X pins σ H' s' ∧ IsPart u o ∧ Q o H') X.xe s
def tNoPart : TO := fun _ H Q => Q none H
def tPart (t : TE) : TO := fun σ H Q => t σ H fun x H1 => ∃ i, x = .int i ∧ Q (some i) H1
theorem intsAre_of {ns : List Int} : ∀ {us : List Value}, Vals (ns.map V.int) us → IntsAre us ns := by
  induction ns with
  | nil => intro us r; rw [List.map_nil] at r; cases r; exact .nil
  | cons n ns ih =>
    intro us r
    rw [List.map_cons] at r
    cases r with
    | cons r1 r2 =>
      obtain ⟨t, e⟩ := r1
      subst e
      exact .cons n t (ih r2)
section
variable {X : Cx} {e : Expr} {te : TE} {lo hi : Option Expr} {tl th : TO} {pos p2 : Pos}
theorem po_none : PO X none tNoPart := by
  intro pins s σ H Q I h
  rw [evalPart_none]
  exact wpAny_pure ⟨none, H, I, .none, h⟩
theorem po_some (h : PE X e te) : PO X (some e) (tPart te) := by
  intro pins s σ H Q I hw
  rw [evalPart_some]
  refine thn (h pins s σ H _ I hw) fun u s1 ⟨x, H1, I1, r1, q1⟩ => ?_
  obtain ⟨i, rfl, q⟩ := q1
  obtain ⟨t, rfl⟩ := r1
  exact ⟨some i, H1, I1, .int i t, q⟩
def SlR (X : Cx) (r : V → Option Int → Option Int → Hp → VK → Prop) : Prop :=
  ∀ (pins : List (Addr × Obj)) (s : Shared) (σ : St) (H : Hp) (x : V) (v vl vu : Value) (lo hi : Option Int) (sl : Addr) (Q : VK), Inv X pins σ H s → RelV x v → s.heap.IsSliceOf sl vl vu .none → IsPart vl lo → IsPart vu hi → r x lo hi H Q →
    ∃ T id, typeLookup (.type T) "__getitem__" = pure (some (.builtin id)) ∧ s.TypeIs v T ∧ wpAny (model X.prog X.w) X.A (getItem v (.ref sl)) (EP X pins σ Q) X.xe s
theorem SlR.or {r r' : V → Option Int → Option Int → Hp → VK → Prop} (h : SlR X r) (h' : SlR X r') : SlR X (fun x lo hi H Q => r x lo hi H Q ∨ r' x lo hi H Q) := by
  intro pins s σ H x v vl vu lo hi sl Q I rx hs pl pu q
  rcases q with q | q
  · exact h pins s σ H x v vl vu lo hi sl Q I rx hs pl pu q
  · exact h' pins s σ H x v vl vu lo hi sl Q I rx hs pl pu q
def tSl (r : V → Option Int → Option Int → Hp → VK → Prop) (te : TE) (tl th : TO) : TE := fun σ H Q => te σ H fun x H1 => tl σ H1 fun l H2 => th σ H2 fun u H3 => r x l u H3 Q
theorem pe_slice {r : V → Option Int → Option Int → Hp → VK → Prop} (hr : SlR X r) (he : PE X e te) (hl : PO X lo tl) (hu : PO X hi th) : PE X (.Subscript e (.Slice lo hi none p2) pos) (tSl r te tl th) := by
  intro pins s σ H Q I h
  refine Subscript_ (thn (he pins s σ H _ I h) fun v s1 ⟨x, H1, I1, r1, q1⟩ => ?_)
  refine wpAny_Slice (thn (hl pins s1 σ H1 _ I1 q1) fun vl s2 ⟨l, H2, I2, pl, q2⟩ => thn (hu pins s2 σ H2 _ I2 q2) fun vu s3 ⟨u, H3, I3, pu, q3⟩ => ?_)
  rw [evalPart_none]
  refine wpAny_pure ?_
  have I4 : Inv X pins σ H3 { s3 with heap := s3.heap.push { cls := .type "slice", data := .fields #[vl, vu, .none] } } := I3.kept (t' := s3.toks) fun b ob q => Heap.get?_push_of_some _ q
  obtain ⟨T, id, hT, ht, hg⟩ := hr pins { s3 with heap := s3.heap.push { cls := .type "slice", data := .fields #[vl, vu, .none] } } σ H3 x v vl vu l u s3.heap.objs.size Q I4 r1 (Heap.IsSliceOf.new ..) pl pu q3
  show wpAny (model X.prog X.w) X.A (subscriptTail e (.Slice lo hi none p2) v (.ref s3.heap.objs.size)) (EP X pins σ Q) X.xe { s3 with heap := s3.heap.push { cls := .type "slice", data := .fields #[vl, vu, .none] } }
  exact tail_any (ops := [.ref s3.heap.objs.size, v]) ht hT hg (by with_unfolding_all rfl)
def cutV (xs : List V) (lo hi : Option Int) : List V := (xs.drop (HT.sIx xs.length 0 lo)).take (HT.sIx xs.length xs.length hi - HT.sIx xs.length 0 lo)
theorem cutV_length (xs : List V) (lo hi : Option Int) : (cutV xs lo hi).length ≤ xs.length := by
  unfold cutV
  rw [List.length_take, List.length_drop]
  omega
def rSlT (K : PySem.W.Frag) : V → Option Int → Option Int → Hp → VK → Prop := fun x lo hi H Q => ∃ a xs, x = .ref a ∧ SqT K H a xs ∧
  ¬ (HT.sIx xs.length 0 lo = 0 ∧ HT.sIx xs.length xs.length hi = xs.length) ∧ ∀ p, H p = none → Q (.ref p) (upd H p (.tup (cutV xs lo hi)))
theorem sl_tup : SlR X (rSlT X.K) := by
  intro pins s σ H x v vl vu lo hi sl Q I rx hs pl pu h
  obtain ⟨a, xs, rfl, hx, hw, q⟩ := h
  cases rx
  obtain ⟨its, r, ht, hz⟩ := I.tuple hx
  have hlen : its.toArray.size = xs.length := by rw [List.size_toArray]; exact r.length.symm
  refine ⟨"tuple", _, PyProof.Rows.slot_tuple_getitem.lookup, ht.typeIs, ?_⟩
  refine HT.getItem_tuple_cut ht hs pl pu (by rw [hlen]; exact hw) ?_ (by rw [hlen]; exact hz)
  rw [hlen]
  refine ⟨.ref s.heap.objs.size, _, I.laid (t' := s.toks) (o := .tup (cutV xs lo hi)) (fun b ob q => Heap.get?_push_of_some _ q) (Nat.le_refl _) ?_, rfl, q _ (I.hok.fresh (Nat.le_refl _))⟩
  exact ⟨Nat.le_trans (cutV_length xs lo hi) hz, _, (r.drop (HT.sIx xs.length 0 lo)).take (HT.sIx xs.length xs.length hi - HT.sIx xs.length 0 lo), IsTup.new _ _⟩
def rCatT (K : PySem.W.Frag) : R2 := fun x y H Q => ∃ a b xs ys, x = .ref a ∧ y = .ref b ∧ SqT K H a xs ∧ SqT K H b ys ∧ xs ≠ [] ∧ xs.length + ys.length ≤ sizeLine ∧
  (ys = [] → Q (.ref a) H) ∧ (ys ≠ [] → ∀ p, H p = none → Q (.ref p) (upd H p (.tup (xs ++ ys))))
theorem Vals.nil_iff {xs : List V} {us : List Value} (r : Vals xs us) : us = [] ↔ xs = [] := by
  cases r with
  | nil => simp
  | cons _ _ => simp
theorem op_catT : OpR X (binaryOp .Add) (rCatT X.K) := by
  intro pins s σ H x y v u Q I rx ry h
  obtain ⟨a, b, xs, ys, rfl, rfl, ha, hb, hx, hz, q1, q2⟩ := h
  cases rx
  cases ry
  obtain ⟨its, r1, p1, _⟩ := I.tuple ha
  obtain ⟨its2, r2, p2, _⟩ := I.tuple hb
  refine HT.cat_tup p1 p2 (fun z => hx (r1.nil_iff.mp z)) (fun z => ⟨.ref a, H, I, rfl, q1 (r2.nil_iff.mp z)⟩) (fun z => ?_) (by rw [← r1.length, ← r2.length]; exact hz)
  refine ⟨.ref s.heap.objs.size, _, I.laid (t' := s.toks) (o := .tup (xs ++ ys)) (fun b ob q => Heap.get?_push_of_some _ q) (Nat.le_refl _) ?_, rfl, q2 (fun w => z (r2.nil_iff.mpr w)) _ (I.hok.fresh (Nat.le_refl _))⟩
  exact ⟨by rw [List.length_append]; exact hz, _, r1.append r2, IsTup.new _ _⟩
end
end L2
namespace L2
open PySem PySem.Spec PyProof.Rows
def ixN (n : Nat) (i : Int) : Option Nat := if 0 ≤ i then (if i < n then some i.toNat else none) else if -(n : Int) ≤ i then some (i + n).toNat else none
def atI {α : Type} (xs : List α) (i : Int) : Option α := (ixN xs.length i).bind fun j => xs[j]?
theorem ixN_seq {n : Nat} {i : Int} {j : Nat} (h : ixN n i = some j) : seqIndex? i n = some j ∧ j < n ∧ -(n : Int) ≤ i ∧ i < n := by
  unfold ixN at h
  by_cases h0 : 0 ≤ i
  · rw [if_pos h0] at h
    by_cases h1 : i < n
    · rw [if_pos h1] at h
      have e : i.toNat = j := Option.some.inj h
      exact ⟨by rw [seqIndex_of h0 h1, e], by omega, by omega, h1⟩
    · rw [if_neg h1] at h; cases h
  · rw [if_neg h0] at h
    by_cases h1 : -(n : Int) ≤ i
    · rw [if_pos h1] at h
      have e : (i + n).toNat = j := Option.some.inj h
      exact ⟨by rw [seqIndex_neg (by omega) h1, e], by omega, h1, by omega⟩
    · rw [if_neg h1] at h; cases h
theorem atI_get {α : Type} {xs : List α} {i : Int} {v : α} (h : atI xs i = some v) : ∃ j, seqIndex? i xs.length = some j ∧ xs[j]? = some v ∧ j < xs.length ∧ -(xs.length : Int) ≤ i ∧ i < xs.length := by
  unfold atI at h
  cases e : ixN xs.length i with
  | none => rw [e] at h; cases h
  | some j =>
    rw [e] at h
    obtain ⟨h1, h2, h3, h4⟩ := ixN_seq e
    exact ⟨j, h1, h, h2, h3, h4⟩
def PlainIx (b : Expr) : Prop := ∀ o i, subscripted b false o i = operate [o, i] (getItem o i)
def IxR (X : Cx) (r : R2) : Prop :=
  ∀ (value slice : Expr) (pins : List (Addr × Obj)) (s : Shared) (σ : St) (H : Hp) (x y : V) (v u : Value) (Q : VK), Inv X pins σ H s → RelV x v → RelV y u → r x y H Q →
    subscripted slice false v u = operate [v, u] (getItem v u) → wpAny (model X.prog X.w) X.A (subscriptTail value slice v u) (EP X pins σ Q) X.xe s
def MtR (X : Cx) (id : String) (r : V → List V → Hp → VK → Prop) : Prop :=
  ∀ (pins : List (Addr × Obj)) (s : Shared) (σ : St) (H : Hp) (x : V) (xs : List V) (v : Value) (us : List Value) (Q : VK), Inv X pins σ H s → RelV x v → Vals xs us → r x xs H Q →
    wpAny (model X.prog X.w) X.A (call (.builtin id) (v :: us)) (EP X pins σ Q) X.xe s
section
variable {X : Cx} {a b : Expr} {ta tb : TE} {pos : Pos}
theorem IxR.or {r r' : R2} (h : IxR X r) (h' : IxR X r') : IxR X (fun x y H Q => r x y H Q ∨ r' x y H Q) := by
  intro value slice pins s σ H x y v u Q I rx ry q hs
  rcases q with q | q
  · exact h value slice pins s σ H x y v u Q I rx ry q hs
  · exact h' value slice pins s σ H x y v u Q I rx ry q hs
theorem MtR.or {id : String} {r r' : V → List V → Hp → VK → Prop} (h : MtR X id r) (h' : MtR X id r') : MtR X id (fun x xs H Q => r x xs H Q ∨ r' x xs H Q) := by
  intro pins s σ H x xs v us Q I rx rs q
  rcases q with q | q
  · exact h pins s σ H x xs v us Q I rx rs q
  · exact h' pins s σ H x xs v us Q I rx rs q
theorem pe_ix {r : R2} (hr : IxR X r) (ha : PE X a ta) (hb : PE X b tb) (hs : PlainIx b) : PE X (.Subscript a b pos) (tOp r ta tb) := by
  intro pins s σ H Q I h
  exact Subscript_ (binT ha hb I h fun v u s2 x y H2 I2 rx ry q => hr a b pins s2 σ H2 x y v u Q I2 rx ry q (hs _ _))
def rIxL (K : PySem.W.Frag) : R2 := fun x y H Q => ∃ p xs i v, x = .ref p ∧ y = .int i ∧ SqL K H p xs ∧ atI xs i = some v ∧ Q v H
def rIxT (K : PySem.W.Frag) : R2 := fun x y H Q => ∃ p xs i v, x = .ref p ∧ y = .int i ∧ SqT K H p xs ∧ atI xs i = some v ∧ Q v H
def rIxS : R2 := fun x y H Q => ∃ z i c, x = .str z ∧ y = .int i ∧ z.length ≤ sizeLine ∧ atI z.cps.toList i = some c ∧ Q (.str ⟨#[c]⟩) H
theorem ix_list : IxR X (rIxL X.K) := by
  intro value slice pins s σ H x y v u Q I rx ry h hs
  obtain ⟨p, xs, i, z, rfl, rfl, hq, he, q⟩ := h
  cases rx
  obtain ⟨t, rfl⟩ := ry
  obtain ⟨its, r, pl, hz⟩ := I.list hq
  obtain ⟨j, h1, h2, h3, h4, h5⟩ := atI_get he
  obtain ⟨w, ew, rw'⟩ := r.get h2
  have hl := r.length
  have hn := line63
  have fin : EP X pins σ Q w s := ⟨z, H, I, rw', q⟩
  by_cases h0 : 0 ≤ i
  · have hj : i.toNat = j := by
      rw [seqIndex_of h0 h5] at h1
      exact Option.some.inj h1
    exact item_listR pl.isList h0 (by omega) (by rw [hj]; simpa using ew) fin hs
  · have hj : (i + (its.toArray.size : Int)).toNat = j := by
      rw [seqIndex_neg (by omega) h4] at h1
      rw [List.size_toArray, ← hl]
      exact Option.some.inj h1
    exact subscriptTail_builtinR (x := w) pl.isList.typeIs slot_list_getitem.lookup
      (wpAny_getItem_list_neg (Q := fun r s' => r = w ∧ EP X pins σ Q r s') pl.isList (by omega) (by rw [List.size_toArray] <;> omega) (by omega) (by rw [hj]; simpa using ew) ⟨rfl, fin⟩) hs
theorem ix_tup : IxR X (rIxT X.K) := by
  intro value slice pins s σ H x y v u Q I rx ry h hs
  obtain ⟨p, xs, i, z, rfl, rfl, hq, he, q⟩ := h
  cases rx
  obtain ⟨t, rfl⟩ := ry
  obtain ⟨its, r, pl, hz⟩ := I.tuple hq
  obtain ⟨j, h1, h2, h3, h4, h5⟩ := atI_get he
  obtain ⟨w, ew, rw'⟩ := r.get h2
  have hl := r.length
  have hn := line63
  have fin : EP X pins σ Q w s := ⟨z, H, I, rw', q⟩
  exact subscriptTail_builtinR (x := w) pl.typeIs slot_tuple_getitem.lookup
    (getItem_tuple (j := j) (Q := fun r s' => r = w ∧ EP X pins σ Q r s') pl (by omega) (by omega) (by rw [List.size_toArray, ← hl]; exact h1) (by simpa using ew) ⟨rfl, fin⟩) hs
theorem ix_str : IxR X rIxS := by
  intro value slice pins s σ H x y v u Q I rx ry h hs
  obtain ⟨z, i, c, rfl, rfl, hz, he, q⟩ := h
  obtain ⟨t, rfl⟩ := rx
  obtain ⟨t', rfl⟩ := ry
  obtain ⟨j, h1, h2, h3, h4, h5⟩ := atI_get he
  have hl : z.cps.toList.length = z.length := by simp [Str.length]
  rw [hl] at h1 h4 h5
  have hn := line63
  exact tail_any (typeIs_str s z t) slot_str_getitem.lookup (getItem_str (c := c) (by
    have e1 : decide (i < -(2 ^ 63 : Int)) = false := decide_eq_false (by omega)
    have e2 : decide (i ≥ 2 ^ 63) = false := decide_eq_false (by omega)
    rw [e1, e2, Bool.or_false]) (by rw [h1]; simpa using h2) ⟨.str ⟨#[c]⟩, H, I.tok _, ⟨_, rfl⟩, q⟩) hs
def rIx (K : PySem.W.Frag) : R2 := fun x y H Q => rIxL K x y H Q ∨ rIxT K x y H Q ∨ rIxS x y H Q
theorem ix_seq : IxR X (rIx X.K) := ix_list.or (ix_tup.or ix_str)
theorem mapSeq_set (its : List Value) (n j : Nat) (u : Value) : Obj.mapSeq (·.setIfInBounds j u) { cls := .type "list", data := .seq its.toArray n } = { cls := .type "list", data := .seq (its.set j u).toArray n } := by
  simp [Obj.mapSeq]
theorem Inv.lst {pins : List (Addr × Obj)} {σ : St} {H : Hp} {s : Shared} {p : Addr} {xs : List V} (I : Inv X pins σ H s) (h : H p = some (.lst xs)) :
    ∃ (its : List Value) (n : Nat), Vals xs its ∧ s.heap.get? p = some { cls := .type "list", data := .seq its.toArray n } ∧ xs.length ≤ sizeLine := by
  obtain ⟨z, its, n, r, e⟩ := I.hok p _ h
  exact ⟨its, n, r, e, z⟩
theorem Inv.lstUpd {pins : List (Addr × Obj)} {σ : St} {H : Hp} {s : Shared} {p : Addr} {xs ys : List V} {its its' : List Value} {n n' : Nat} {f : Obj → Obj} (I : Inv X pins σ H s) (h : H p = some (.lst xs))
    (ho : s.heap.get? p = some { cls := .type "list", data := .seq its.toArray n }) (hf : f { cls := .type "list", data := .seq its.toArray n } = { cls := .type "list", data := .seq its'.toArray n' }) (r : Vals ys its') (hz : ys.length ≤ sizeLine) (t : Nat) :
    Inv X pins σ (upd H p (.lst ys)) { s with heap := s.heap.update p f, toks := t } := by
  have e : (s.heap.update p f).get? p = some { cls := .type "list", data := .seq its'.toArray n' } := by
    rw [Heap.get?_update_self f ho (by rw [hf] <;> rfl), hf]
  refine I.write (x := p) (e := p) (by rw [h]; trivial) (.inl rfl) (fun b u hb q => (Heap.get?_update_other _ _ (Ne.symm hb)).trans q) ⟨_, e⟩ ?_
  exact ⟨hz, its', n', r, e⟩
def rSetL : V → V → V → Hp → (Hp → Prop) → Prop := fun o i v H Q => ∃ p xs k j, o = .ref p ∧ i = .int k ∧ H p = some (.lst xs) ∧ ixN xs.length k = some j ∧ Q (upd H p (.lst (xs.set j v)))
theorem set_list : PSet X rSetL := by
  intro pins s σ H o i v ov iv u Q I ro ri rv h
  obtain ⟨p, xs, k, j, rfl, rfl, hp, hj, q⟩ := h
  cases ro
  obtain ⟨t, rfl⟩ := ri
  obtain ⟨its, n, r, ho, hz⟩ := I.lst hp
  obtain ⟨h1, h2, h3, h4⟩ := ixN_seq hj
  have hl := r.length
  have hn := line63
  have I' : Inv X pins σ (upd H p (.lst (xs.set j v))) { s with heap := s.heap.update p (Obj.mapSeq (·.setIfInBounds j u)) } :=
    I.lstUpd hp ho (mapSeq_set its n j u) (r.set rv j) (by rw [List.length_set]; exact hz) s.toks
  by_cases h0 : 0 ≤ k
  · have hk : k.toNat = j := by
      rw [seqIndex_of h0 h4] at h1
      exact Option.some.inj h1
    exact PySem.W.ki_setAt ho h0 (by omega) (by rw [List.size_toArray, ← hl]; exact h4) (by rw [hk]; exact ⟨_, I', q⟩)
  · have hk : (k + (its.toArray.size : Int)).toNat = j := by
      rw [seqIndex_neg (by omega) h3] at h1
      rw [List.size_toArray, ← hl]
      exact Option.some.inj h1
    exact PySem.W.ki_setBack ho (by omega) (by rw [List.size_toArray, ← hl]; exact h3) (by omega) (by rw [hk]; exact ⟨_, I', q⟩)
theorem slice_bounds (lo hi : Option Int) (n : Nat) : (sliceBounds lo hi none n).1 = ((HT.sIx n 0 lo : Nat) : Int) ∧ (sliceBounds lo hi none n).2.1 = ((HT.sIx n n hi : Nat) : Int) ∧ (sliceBounds lo hi none n).2.2 = 1 := by
  refine ⟨?_, ?_, rfl⟩
  · cases lo with
    | none => simp [sliceBounds, HT.sIx]
    | some i =>
      simp only [sliceBounds, HT.sIx, Option.getD_none, show (1 : Int) > 0 by decide, if_true]
      by_cases h : i < 0
      · simp only [h, if_true] <;> omega
      · simp only [h, if_false] <;> omega
  · cases hi with
    | none => simp [sliceBounds, HT.sIx]
    | some i =>
      simp only [sliceBounds, HT.sIx, Option.getD_none, show (1 : Int) > 0 by decide, if_true]
      by_cases h : i < 0
      · simp only [h, if_true] <;> omega
      · simp only [h, if_false] <;> omega
theorem slicePick_cut (its : List Value) (lo hi : Option Int) : slicePick its.toArray lo hi none = ((its.drop (HT.sIx its.length 0 lo)).take (HT.sIx its.length its.length hi - HT.sIx its.length 0 lo)).toArray := by
  obtain ⟨h1, h2, h3⟩ := slice_bounds lo hi its.toArray.size
  unfold slicePick
  rw [h1, h2, h3]
  simp only [sliceRange_one, pick_run, List.size_toArray] <;> rfl
def rSlL (K : PySem.W.Frag) : V → Option Int → Option Int → Hp → VK → Prop := fun x lo hi H Q => ∃ a xs, x = .ref a ∧ SqL K H a xs ∧ ∀ p, H p = none → Q (.ref p) (upd H p (.lst (cutV xs lo hi)))
theorem sl_list : SlR X (rSlL X.K) := by
  intro pins s σ H x v vl vu lo hi sl Q I rx hs pl pu h
  obtain ⟨a, xs, rfl, hx, q⟩ := h
  cases rx
  obtain ⟨its, r, ht, hz⟩ := I.list hx
  have hlen := r.length
  refine ⟨"list", _, slot_list_getitem.lookup, ht.isList.typeIs, ?_⟩
  refine wpAny_getItem_list_slice ht.isList hs pl pu .none (by simp) ?_ (by rw [List.size_toArray] <;> omega)
  rw [slicePick_cut, ← hlen]
  refine ⟨.ref s.heap.objs.size, _, I.laid (t' := s.toks) (o := .lst (cutV xs lo hi)) (fun b ob q => Heap.get?_push_of_some _ q) (Nat.le_refl _) ?_, rfl, q _ (I.hok.fresh (Nat.le_refl _))⟩
  exact ⟨Nat.le_trans (cutV_length xs lo hi) hz, _, 0, (r.drop (HT.sIx xs.length 0 lo)).take (HT.sIx xs.length xs.length hi - HT.sIx xs.length 0 lo), Heap.get?_push_size _ rfl⟩
def flatV : V → Bool
  | .non => true
  | .bl _ => true
  | .int _ => true
  | .str _ => true
  | _ => false
def eqV : V → V → Bool
  | .non, .non => true
  | .bl a, .bl b => a == b
  | .bl a, .int b => (if a then 1 else 0) == b
  | .int a, .bl b => a == (if b then 1 else 0)
  | .int a, .int b => a == b
  | .str a, .str b => a == b
  | _, _ => false
theorem eqAt_V {A : Around} {s : Shared} {y x : V} {u v : Value} (ry : RelV y u) (rx : RelV x v) (fy : flatV y = true) (fx : flatV x = true) : SeqAt.EqAt A s u v (eqV y x) := by
  cases y with
  | non =>
    cases ry
    cases x with
    | non => cases rx; exact SeqAt.EqAt.same _
    | bl b => cases rx; exact SeqAt.EqAt.none_bool b
    | int b => obtain ⟨t, rfl⟩ := rx; exact SeqAt.EqAt.none_int b t
    | str b => obtain ⟨t, rfl⟩ := rx; exact SeqAt.EqAt.none_str b t
    | _ => exact absurd (show false = true from fx) Bool.false_ne_true
  | bl a =>
    cases ry
    cases x with
    | non => cases rx; exact SeqAt.EqAt.bool_none a
    | bl b => cases rx; exact SeqAt.EqAt.bool_bool a b
    | int b => obtain ⟨t, rfl⟩ := rx; exact SeqAt.EqAt.bool_int a b t
    | str b => obtain ⟨t, rfl⟩ := rx; exact SeqAt.EqAt.bool_str a b t
    | _ => exact absurd (show false = true from fx) Bool.false_ne_true
  | int a =>
    obtain ⟨t', rfl⟩ := ry
    cases x with
    | non => cases rx; exact SeqAt.EqAt.int_none a t'
    | bl b => cases rx; exact SeqAt.EqAt.int_bool a t' b
    | int b => obtain ⟨t, rfl⟩ := rx; exact SeqAt.EqAt.int_int a t' b t
    | str b => obtain ⟨t, rfl⟩ := rx; exact SeqAt.EqAt.int_str a t' b t
    | _ => exact absurd (show false = true from fx) Bool.false_ne_true
  | str a =>
    obtain ⟨t', rfl⟩ := ry
    cases x with
    | non => cases rx; exact SeqAt.EqAt.str_none a t'
    | bl b => cases rx; exact SeqAt.EqAt.str_bool a t' b
    | int b => obtain ⟨t, rfl⟩ := rx; exact SeqAt.EqAt.str_int a t' b t
    | str b => obtain ⟨t, rfl⟩ := rx; exact SeqAt.EqAt.str_str a t' b t
    | _ => exact absurd (show false = true from fx) Bool.false_ne_true
  | _ => exact absurd (show false = true from fy) Bool.false_ne_true
def eqU (x : V) (u : Value) : Bool := match u with
  | .none => eqV .non x
  | .bool b => eqV (.bl b) x
  | .int i _ => eqV (.int i) x
  | .str z _ => eqV (.str z) x
  | _ => false
theorem eqU_of {x y : V} {u : Value} (r : RelV y u) (f : flatV y = true) : eqU x u = eqV y x := by
  cases y with
  | non => cases r; rfl
  | bl b => cases r; rfl
  | int i => obtain ⟨t, rfl⟩ := r; rfl
  | str z => obtain ⟨t, rfl⟩ := r; rfl
  | _ => exact absurd (show false = true from f) Bool.false_ne_true
theorem any_eqU {x : V} : ∀ {xs : List V} {us : List Value}, Vals xs us → xs.all flatV = true → us.any (eqU x) = xs.any fun y => eqV y x
  | _, _, .nil, _ => rfl
  | y :: xs, u :: us, .cons r t, f => by
    rw [List.all_cons, Bool.and_eq_true] at f
    rw [List.any_cons, List.any_cons, eqU_of r f.1, any_eqU t f.2]
theorem mem_eqAt {A : Around} {s : Shared} {x : V} {v : Value} (rx : RelV x v) (fx : flatV x = true) : ∀ {xs : List V} {us : List Value}, Vals xs us → xs.all flatV = true → ∀ u ∈ us, SeqAt.EqAt A s u v (eqU x u)
  | _, _, .nil, _ => fun u hu => by cases hu
  | y :: xs, u :: us, .cons r t, f => fun u' hu => by
    rw [List.all_cons, Bool.and_eq_true] at f
    rcases List.mem_cons.mp hu with rfl | hu
    · rw [eqU_of r f.1]; exact eqAt_V r rx f.1 fx
    · exact mem_eqAt rx fx t f.2 u' hu
def inV (x : V) (xs : List V) : Bool := xs.any fun y => eqV y x
def rIn (K : PySem.W.Frag) (neg : Bool) : R2 := fun x y H Q => ∃ p xs, y = .ref p ∧ (SqL K H p xs ∨ SqT K H p xs) ∧ flatV x = true ∧ xs.all flatV = true ∧ Q (.bl (if neg then !inV x xs else inV x xs)) H
theorem op_in_seq : OpR X (compareOp .In) (rIn X.K false) := by
  intro pins s σ H x y v u Q I rx ry h
  obtain ⟨p, xs, rfl, hq, fx, fs, q⟩ := h
  cases ry
  rcases hq with hq | hq
  · obtain ⟨its, r, pl, hz⟩ := I.list hq
    refine SeqAt.in_listAt (eqU x) pl.isList (fun w hw => mem_eqAt rx fx r fs w (by simpa using hw)) ⟨.bl _, H, I, rfl, ?_⟩
    rw [show its.toArray.any (eqU x) = its.any (eqU x) by simp, any_eqU r fs]
    exact q
  · obtain ⟨its, r, pl, hz⟩ := I.tuple hq
    refine SeqAt.in_tupleAt (eqU x) pl (fun w hw => mem_eqAt rx fx r fs w (by simpa using hw)) ⟨.bl _, H, I, rfl, ?_⟩
    rw [show its.toArray.any (eqU x) = its.any (eqU x) by simp, any_eqU r fs]
    exact q
theorem op_notIn_seq : OpR X (compareOp .NotIn) (rIn X.K true) := by
  intro pins s σ H x y v u Q I rx ry h
  obtain ⟨p, xs, rfl, hq, fx, fs, q⟩ := h
  cases ry
  rcases hq with hq | hq
  · obtain ⟨its, r, pl, hz⟩ := I.list hq
    refine SeqAt.notIn_listAt (eqU x) pl.isList (fun w hw => mem_eqAt rx fx r fs w (by simpa using hw)) ⟨.bl _, H, I, rfl, ?_⟩
    rw [show its.toArray.any (eqU x) = its.any (eqU x) by simp, any_eqU r fs]
    exact q
  · obtain ⟨its, r, pl, hz⟩ := I.tuple hq
    refine SeqAt.notIn_tupleAt (eqU x) pl (fun w hw => mem_eqAt rx fx r fs w (by simpa using hw)) ⟨.bl _, H, I, rfl, ?_⟩
    rw [show its.toArray.any (eqU x) = its.any (eqU x) by simp, any_eqU r fs]
    exact q
theorem CallR.or {f : Value} {r r' : List V → Hp → VK → Prop} (h : CallR X f r) (h' : CallR X f r') : CallR X f (fun xs H Q => r xs H Q ∨ r' xs H Q) := by
  intro pins s σ H xs us Q I rs q
  rcases q with q | q
  · exact h pins s σ H xs us Q I rs q
  · exact h' pins s σ H xs us Q I rs q
theorem call_list_of : CallR X (.type "list") (fun xs H Q => ∃ p ys, xs = [.ref p] ∧ (SqL X.K H p ys ∨ SqT X.K H p ys) ∧ ∀ l, H l = none → Q (.ref l) (upd H l (.lst ys))) := by
  intro pins s σ H xs us Q I r h
  obtain ⟨p, ys, rfl, hq, q⟩ := h
  obtain ⟨u, rfl, rx⟩ := vals1 r
  cases rx
  have fin : ∀ (its : List Value), Vals ys its → ys.length ≤ sizeLine → ∀ (h' : Heap) (c' : Nat), (∀ b o', s.heap.get? b = some o' → h'.get? b = some o') →
      h'.get? s.heap.objs.size = some { cls := .type "list", dict := none, data := .seq its.toArray c', slots := #[] } → EP X pins σ Q (.ref s.heap.objs.size) { s with heap := h' } := fun its r' hz h' c' kp e =>
    ⟨.ref s.heap.objs.size, _, I.laid (t' := s.toks) kp (Nat.le_refl _) (show ObjOk X.prog X.w _ h' _ (.lst ys) from ⟨hz, its, c', r', e⟩), rfl, q _ (I.hok.fresh (Nat.le_refl _))⟩
  rcases hq with hq | hq
  · obtain ⟨its, r', pl, hz⟩ := I.list hq
    have hlen := r'.length
    obtain ⟨o, ho, hc, n, hd⟩ := pl.isList
    exact call_list_seq p (.inl rfl) ho hc hd (fun h' c' kp e => fin its r' hz h' c' kp e) (by simp only [List.size_toArray] <;> omega)
  · obtain ⟨its, r', pl, hz⟩ := I.tuple hq
    have hlen := r'.length
    obtain ⟨o, ho, hc, n, hd⟩ := pl
    exact call_list_seq p (.inr rfl) ho hc hd (fun h' c' kp e => fin its r' hz h' c' kp e) (by simp only [List.size_toArray] <;> omega)
theorem call_tuple_of : CallR X (.type "tuple") (fun xs H Q => ∃ p ys, xs = [.ref p] ∧ ((SqL X.K H p ys ∧ ∀ l, H l = none → Q (.ref l) (upd H l (.tup ys))) ∨ (SqT X.K H p ys ∧ Q (.ref p) H))) := by
  intro pins s σ H xs us Q I r h
  obtain ⟨p, ys, rfl, h⟩ := h
  obtain ⟨u, rfl, rx⟩ := vals1 r
  cases rx
  rcases h with ⟨hq, q⟩ | ⟨hq, q⟩
  · obtain ⟨its, r', pl, hz⟩ := I.list hq
    have hlen := r'.length
    refine call_tuple_list pl.isList (fun h' kp => ?_) (by simp only [List.size_toArray] <;> omega)
    have I1 : Inv X pins σ H { s with heap := h' } := I.kept (t' := s.toks) kp
    have I2 : Inv X pins σ (upd H h'.objs.size (.tup ys)) { s with heap := h'.push { cls := .type "tuple", data := .seq its.toArray } } :=
      I1.laid (t' := s.toks) (fun b o e => Heap.get?_push_of_some _ e) (Nat.le_refl _) (show ObjOk X.prog X.w _ _ _ (.tup ys) from ⟨hz, its, r', IsTup.new _ _⟩)
    exact ⟨.ref h'.objs.size, _, I2, rfl, q _ (I1.hok.fresh (Nat.le_refl _))⟩
  · obtain ⟨its, r', pl, hz⟩ := I.tuple hq
    exact call_tuple_same pl ⟨.ref p, H, I, rfl, q⟩
def tyV (K : PySem.W.Frag) (T : String) (x : V) (H : Hp) : Prop := match x with
  | .str _ => T = "str"
  | .int _ => T = "int"
  | .ref p => (T = "list" ∧ ∃ xs, SqL K H p xs) ∨ (T = "tuple" ∧ ∃ o, K.lookup p = some o ∧ o.cls = .type "tuple" ∧ o.dict = none) ∨
      (T = "dict" ∧ ((∃ kvs, H p = some (.dK kvs)) ∨ ∃ kvs, H p = some (.dT kvs))) ∨ (T = "set" ∧ ∃ S n, H p = some (.set S n))
  | _ => False
theorem tyV_is {pins : List (Addr × Obj)} {σ : St} {H : Hp} {s : Shared} {T : String} {x : V} {v : Value} (I : Inv X pins σ H s) (r : RelV x v) (ty : tyV X.K T x H) :
    s.TypeIs v T ∧ ∀ a, v = .ref a → ∃ ob, s.heap.get? a = some ob ∧ ob.dict = none := by
  cases x with
  | str z =>
    obtain ⟨t, rfl⟩ := r
    cases (show T = "str" from ty)
    exact ⟨typeIs_str s z t, fun _ e => nomatch e⟩
  | int i =>
    obtain ⟨t, rfl⟩ := r
    cases (show T = "int" from ty)
    exact ⟨typeIs_int s i t, fun _ e => nomatch e⟩
  | ref p =>
    cases r
    rcases ty with ⟨rfl, xs, hq⟩ | ⟨rfl, o, hk, hc, hd⟩ | ⟨rfl, hk⟩ | ⟨rfl, S, n, hk⟩
    · obtain ⟨its, _, pl, _⟩ := I.list hq
      refine ⟨pl.isList.typeIs, fun a e => ?_⟩
      cases e
      obtain ⟨o, n, e, c, hd, _⟩ := pl
      exact ⟨o, e, hd⟩
    · refine ⟨⟨o, I.kIn p o hk, hc⟩, fun a e => ?_⟩
      cases e
      exact ⟨o, I.kIn _ o hk, hd⟩
    · have z : ∃ o, s.heap.get? p = some o ∧ o.ExactDict := by
        rcases hk with ⟨kvs, hk⟩ | ⟨kvs, hk⟩
        · obtain ⟨_, _, _, _, o, _, _, e, ex, _⟩ := I.hok p _ hk
          exact ⟨o, e, ex⟩
        · obtain ⟨_, _, _, _, o, _, _, e, ex, _⟩ := I.hok p _ hk
          exact ⟨o, e, ex⟩
      obtain ⟨o, e, ex⟩ := z
      refine ⟨⟨o, e, ex.1⟩, fun a e2 => ?_⟩
      cases e2
      exact ⟨o, e, ex.2.1⟩
    · obtain ⟨o, _, _, _, e, ex, _⟩ := I.hok p _ hk
      refine ⟨⟨o, e, ex.1⟩, fun a e2 => ?_⟩
      cases e2
      exact ⟨o, e, ex.2.1⟩
  | _ => exact False.elim ty
def tBM0 (K : PySem.W.Frag) (T : String) (r : V → List V → Hp → VK → Prop) (to : TE) : TE := fun σ H Q => to σ H fun x H1 => tyV K T x H1 ∧ r x [] H1 Q
def tBM (K : PySem.W.Frag) (T : String) (r : V → List V → Hp → VK → Prop) (to : TE) (t : TA) : TE := fun σ H Q => to σ H fun x H1 => tyV K T x H1 ∧ t σ H1 fun xs H2 => r x xs H2 Q
variable {o e : Expr} {es : List Expr} {to : TE} {t : TA} {name : Str} {apos cpos : Pos} {T id : String} {r : V → List V → Hp → VK → Prop}
theorem pe_bm0 (pa : PlainAttrs T) (slot : Slot T name id) (hty : typeOf (.builtin id) = pure (.type "method_descriptor")) (hm : MtR X id r) (ho : PE X o to)
    (hbase : attributeBase o name X.env (eval o X.env) = eval o X.env := by rfl) (hline : (apos.endLine == cpos.line) = true := by rfl) : PE X (.Call (.Attribute o name apos) [] [] cpos) (tBM0 X.K T r to) := by
  intro pins s σ H Q I h
  refine wpAny_Call_method0_late hbase hline (thn (ho pins s σ H _ I h) fun v s1 ⟨x, H1, I1, r1, ty, q1⟩ => ?_)
  obtain ⟨h1, h2⟩ := tyV_is I1 r1 ty
  exact ⟨T, id, pa, slot, hty, h1, h2, Calls.callWith_builtin rfl (PySem.evalArgs_none (hm pins s1 σ H1 x [] v [] Q I1 r1 .nil q1))⟩
theorem pe_bm (pa : PlainAttrs T) (slot : Slot T name id) (hty : typeOf (.builtin id) = pure (.type "method_descriptor")) (hm : MtR X id r) (ho : PE X o to) (ha : PA X (e :: es) t)
    (hbase : attributeBase o name X.env (eval o X.env) = eval o X.env := by rfl)
    (hfew : ((backTo cpos (starEach (e :: es) X.env)).all (fun x => !x.1) && (backToKw cpos (keywordEach [] X.env)).all (fun x => x.1.isSome)
      && decide ((e :: es).length + ([] : List Keyword).length + (if ([] : List Keyword).isEmpty then 0 else 1) < 30)) = true := by rfl)
    (hline : (apos.endLine == cpos.line) = true := by rfl) (hs : starEach (e :: es) X.env = (false, eval e X.env) :: starEach es X.env := by rfl) (hplain : (backTo cpos (starEach es X.env)).any (·.1) = false := by rfl) :
    PE X (.Call (.Attribute o name apos) (e :: es) [] cpos) (tBM X.K T r to t) := by
  intro pins s σ H Q I h
  refine wpAny_Call_method_late hbase hfew hline rfl (thn (ho pins s σ H _ I h) fun v s1 ⟨x, H1, I1, r1, ty, q1⟩ => ?_)
  obtain ⟨h1, h2⟩ := tyV_is I1 r1 ty
  refine ⟨T, id, pa, slot, hty, h1, h2, ?_⟩
  have hA := ha cpos pins s1 σ H1 _ I1 q1
  rw [hs] at hA ⊢
  refine Calls.callWith_builtin (by show (false || (backTo cpos (starEach es X.env)).any (·.1)) = false; rw [hplain] <;> rfl) (Calls.evalArgs_plain ?_)
  exact thn hA fun us s2 ⟨vs, H2, I2, r2, q2⟩ => hm pins s2 σ H2 x vs v us Q I2 r1 r2 q2
/- xs.append(e), list.index on a module's tuple .. are MtR facts of 06m -/
end
end L2
namespace L2
open PySem PySem.Spec PyProof.Rows
def MtM (X : Cx) (id : String) (r : V → List V → Hp → VK → Prop) : Prop :=
  ∀ (pins : List (Addr × Obj)) (s : Shared) (σ : St) (H : Hp) (x : V) (xs : List V) (v : Value) (us : List Value) (Q : VK), Inv X pins σ H s → RelV x v → Vals xs us → r x xs H Q →
    wpAny (model X.prog X.w) X.A (call (.builtin id) (v :: us)) (EP X pins σ Q) X.xe s
theorem Vals.one : ∀ {x : V} {us : List Value}, Vals [x] us → ∃ u, us = [u] ∧ RelV x u
  | _, _, .cons r .nil => ⟨_, rfl, r⟩
theorem Vals.two : ∀ {x y : V} {us : List Value}, Vals [x, y] us → ∃ u v, us = [u, v] ∧ RelV x u ∧ RelV y v
  | _, _, _, .cons r (.cons q .nil) => ⟨_, _, rfl, r, q⟩
theorem Vals.zero : ∀ {us : List Value}, Vals [] us → us = []
  | _, .nil => rfl
theorem Vals.dropLast {xs : List V} {us : List Value} (h : Vals xs us) : Vals xs.dropLast us.dropLast := by
  induction h with
  | nil => exact .nil
  | cons r t ih =>
    cases t with
    | nil => exact .nil
    | cons q t' => exact .cons r ih
theorem Vals.eraseIdx : ∀ {xs : List V} {us : List Value} (i : Nat), Vals xs us → Vals (xs.eraseIdx i) (us.eraseIdx i)
  | _, _, _, .nil => .nil
  | _, _, 0, .cons _ t => t
  | _, _, i + 1, .cons r t => .cons r (Vals.eraseIdx i t)
theorem Vals.rep {xs : List V} {us : List Value} (h : Vals xs us) : ∀ k : Nat, Vals (List.replicate k xs).flatten (List.replicate k us).flatten
  | 0 => .nil
  | k + 1 => by
    rw [List.replicate_succ, List.replicate_succ, List.flatten_cons, List.flatten_cons]
    exact Vals.append h (Vals.rep h k)
theorem erase_last {α : Type} (l : List α) : l.eraseIdx (l.length - 1) = l.dropLast := by
  induction l with
  | nil => rfl
  | cons a r ih =>
    cases r with
    | nil => rfl
    | cons b r =>
      have e : (a :: b :: r).length - 1 = ((b :: r).length - 1) + 1 := by
        have h1 : (a :: b :: r).length = r.length + 2 := rfl
        have h2 : (b :: r).length = r.length + 1 := rfl
        omega
      rw [e, List.eraseIdx_cons_succ, ih]
      all_goals rfl
theorem len_erase {α : Type} : ∀ (l : List α) (i : Nat), (l.eraseIdx i).length ≤ l.length
  | [], _ => Nat.le_refl _
  | _ :: _, 0 => Nat.le_succ _
  | _ :: r, i + 1 => Nat.succ_le_succ (len_erase r i)
theorem foldl_rep (its : List Value) : ∀ (k : Nat) (acc : List Value),
    List.foldl (fun x1 x2 => x1 ++ x2) acc.toArray (List.replicate k its.toArray) = (acc ++ (List.replicate k its).flatten).toArray
  | 0, acc => by simp
  | k + 1, acc => by
    have e : acc.toArray ++ its.toArray = (acc ++ its).toArray := by simp
    have e2 : (acc ++ its) ++ (List.replicate k its).flatten = acc ++ (List.replicate (k + 1) its).flatten := by
      rw [List.replicate_succ, List.flatten_cons, List.append_assoc]
    rw [← e2, ← foldl_rep its k (acc ++ its), ← e, List.replicate_succ, List.foldl_cons]
section
variable {X : Cx} {pins : List (Addr × Obj)} {σ : St} {H : Hp} {s : Shared} {l b : Addr} {xs ys zs : List V}
theorem Inv.lset {its its' : List Value} {n : Nat} {f : Array Value → Array Value} {t' : Nat} (I : Inv X pins σ H s) (hH : H l = some (.lst xs))
    (e : s.heap.get? l = some { cls := .type "list", data := .seq its.toArray n }) (hf : f its.toArray = its'.toArray) (hv : Vals ys its') (hz : ys.length ≤ sizeLine) :
    Inv X pins σ (upd H l (.lst ys)) { s with heap := s.heap.update l (Obj.mapSeq f), toks := t' } := by
  have q := PySem.IsL.update e f
  rw [hf] at q
  refine I.write (x := l) (e := l) (by rw [hH]; exact trivial) (.inl rfl) (fun b' u hb hu => (Heap.get?_update_other s.heap (Obj.mapSeq f) (Ne.symm hb)).trans hu) ⟨_, q⟩ ?_
  exact ⟨hz, its', _, hv, q⟩
theorem Inv.lnew {its : List Value} {t' : Nat} (I : Inv X pins σ H s) (hv : Vals ys its) (hz : ys.length ≤ sizeLine) :
    Inv X pins σ (upd H s.heap.objs.size (.lst ys)) { s with heap := s.heap.push { cls := .type "list", data := .seq its.toArray }, toks := t' } :=
  I.laid (fun _ _ q => Heap.get?_push_of_some _ q) (Nat.le_refl _) ⟨hz, its, 0, hv, Heap.get?_push_size _ rfl⟩
theorem Inv.fresh (I : Inv X pins σ H s) : H s.heap.objs.size = none := I.hok.fresh (Nat.le_refl _)
theorem Inv.lstM (I : Inv X pins σ H s) (hH : H l = some (.lst xs)) : xs.length ≤ sizeLine ∧ ∃ (its : List Value) (n : Nat), Vals xs its ∧ xs.length = its.length ∧ s.heap.get? l = some { cls := .type "list", data := .seq its.toArray n } := by
  obtain ⟨z, its, n, r, e⟩ := I.hok l _ hH
  exact ⟨z, its, n, r, r.length, e⟩
theorem notLongL {n : Nat} (h : n ≤ sizeLine) : Builtin.List.listTooLong n = false := by
  unfold Builtin.List.listTooLong
  exact decide_eq_false (by omega)
end
section
variable {X : Cx}
def rAppend : V → List V → Hp → VK → Prop := fun x vs H Q => ∃ l xs y, x = .ref l ∧ vs = [y] ∧ H l = some (.lst xs) ∧ xs.length < sizeLine ∧ Q .non (upd H l (.lst (xs ++ [y])))
theorem mt_append : MtM X "list.append" rAppend := by
  intro pins s σ H x vs v us Q I rx rv h
  obtain ⟨l, xs, y, rfl, rfl, hH, hz, q⟩ := h
  cases rx
  obtain ⟨u, rfl, ru⟩ := rv.one
  obtain ⟨z, its, n, r, hl, e⟩ := I.lstM hH
  refine call_meets F.slot_list_append ⟨_, e, rfl⟩ F.entry_list_append (F.args_list_append_2 _ _) (PySem.list_append l its.toArray n u (by rw [List.size_toArray]; omega)) ⟨e, ?_⟩
  refine ⟨.non, _, I.lset (its' := its ++ [u]) hH e (by simp) (r.append (.cons ru .nil)) ?_, rfl, q⟩
  rw [List.length_append, List.length_singleton]
  omega
def rPop : V → List V → Hp → VK → Prop := fun x vs H Q => ∃ l xs y, x = .ref l ∧ vs = [] ∧ H l = some (.lst xs) ∧ xs[xs.length - 1]? = some y ∧ Q y (upd H l (.lst xs.dropLast))
theorem mt_pop : MtM X "list.pop" rPop := by
  intro pins s σ H x vs v us Q I rx rv h
  obtain ⟨l, xs, y, rfl, rfl, hH, hy, q⟩ := h
  cases rx
  have hus := rv.zero
  subst hus
  obtain ⟨z, its, n, r, hl, e⟩ := I.lstM hH
  obtain ⟨u, hu, ru⟩ := r.get hy
  have hy' : its.toArray[its.toArray.size - 1]? = some u := by
    show its.toArray[its.length - 1]? = some u
    rw [← Array.getElem?_toList, ← hl]
    exact hu
  refine call_meets F.slot_list_pop ⟨_, e, rfl⟩ F.entry_list_pop (F.args_list_pop_1 _) (MeetsSeq.list_pop_last l its.toArray n u hy' (by rw [List.size_toArray]; omega)) ⟨e, ?_⟩
  refine ⟨y, _, I.lset (its' := its.dropLast) hH e ?_ r.dropLast ?_, ru, q⟩
  · show its.toArray.eraseIdxIfInBounds (its.toArray.size - 1) = its.dropLast.toArray
    rw [List.size_toArray, List.eraseIdxIfInBounds_toArray, erase_last]
  · rw [List.length_dropLast]
    omega
def rCat : R2 := fun x y H Q => ∃ l b xs zs, x = .ref l ∧ y = .ref b ∧ H l = some (.lst xs) ∧ H b = some (.lst zs) ∧ xs.length + zs.length ≤ sizeLine ∧ ∀ p, H p = none → Q (.ref p) (upd H p (.lst (xs ++ zs)))
theorem op_cat : OpR X (binaryOp .Add) rCat := by
  intro pins s σ H x y v u Q I rx ry h
  obtain ⟨l, b, xs, zs, rfl, rfl, hH, hB, hz, q⟩ := h
  cases rx
  cases ry
  obtain ⟨z, its, n, r, hl, e⟩ := I.lstM hH
  obtain ⟨z2, its2, n2, r2, hl2, e2⟩ := I.lstM hB
  refine PySem.P.add_list e e2 ?_ (by rw [List.size_toArray, List.size_toArray]; omega)
  have ea : its.toArray ++ its2.toArray = (its ++ its2).toArray := by simp
  rw [ea]
  exact ⟨.ref _, _, I.lnew (t' := s.toks) (r.append r2) (by rw [List.length_append]; omega), rfl, q _ I.fresh⟩
def rRep : R2 := fun x y H Q => ∃ l k xs, x = .ref l ∧ y = .int k ∧ H l = some (.lst xs) ∧ -(2 ^ 63) ≤ k ∧ k < 2 ^ 63 ∧ xs.length * k.toNat ≤ sizeLine ∧
  ∀ p, H p = none → Q (.ref p) (upd H p (.lst (List.replicate k.toNat xs).flatten))
theorem len_rep {α : Type} (xs : List α) (k : Nat) : (List.replicate k xs).flatten.length = k * xs.length := by
  induction k with
  | zero => simp
  | succ k ih => rw [List.replicate_succ, List.flatten_cons, List.length_append, ih, Nat.succ_mul, Nat.add_comm]
theorem op_rep : OpR X (binaryOp .Mult) rRep := by
  intro pins s σ H x y v u Q I rx ry h
  obtain ⟨l, k, xs, rfl, rfl, hH, h1, h2, hz, q⟩ := h
  cases rx
  obtain ⟨t, rfl⟩ := ry
  obtain ⟨z, its, n, r, hl, e⟩ := I.lstM hH
  have hlen : its.toArray.size * k.toNat ≤ sizeLine := by rw [List.size_toArray, ← hl]; exact hz
  have hcap : ¬ its.toArray.size * k.toNat > (2 ^ 63 - 1) / 8 := by
    have : (sizeLine : Nat) ≤ (2 ^ 63 - 1) / 8 := by decide
    omega
  have hfit : ¬ (!Builtin.List.listFitsIndex k) = true := by
    rw [fitsIndex_both h1 h2]
    exact Bool.false_ne_true
  have hlong : ¬ Builtin.List.listTooLong (its.toArray.size * k.toNat) = true := by
    rw [notLongL hlen]
    exact Bool.false_ne_true
  have hnew : List.foldl (fun x1 x2 => x1 ++ x2) #[] (List.replicate (if its.toArray.isEmpty = true then 0 else k.toNat) its.toArray) = (List.replicate k.toNat its).flatten.toArray := by
    have f0 : ∀ m : Nat, List.foldl (fun x1 x2 => x1 ++ x2) #[] (List.replicate m its.toArray) = (List.replicate m its).flatten.toArray := fun m => by
      have := foldl_rep its m []
      rw [List.nil_append] at this
      exact this
    rw [f0]
    cases its with
    | nil => simp
    | cons a r' => rw [if_neg (by simp)]
  refine wpAny_binaryOp_repeat_ref (T := "list") (U := "int") (by decide) ⟨_, e, rfl⟩ (fun s' => typeIs_int s' k t) noFill_list_mul F.fills_int_mul F.slot_int_rmul repeat_list F.slot_int_index.lookup
    (call_meets F.slot_int_rmul (typeIs_int s k t) F.entry_int_rmul (F.args_int_rmul_2 _ _) (int___rmul___int_list k t l its.toArray n)
      ⟨e, rfl, ⟨_, e, rfl⟩, call_meets F.slot_list_mul ⟨_, e, rfl⟩ F.entry_list_mul (F.args_list_mul_2 _ _) (AutoListH.list___mul___list_int_3 l its.toArray n k t hfit hcap hlong) ⟨e, ?_⟩⟩)
  rw [hnew]
  exact ⟨.ref _, _, I.lnew (t' := s.toks) (r.rep k.toNat) (by rw [len_rep, Nat.mul_comm]; exact hz), rfl, q _ I.fresh⟩
end
section
variable {prog : Program} {w : World} {A : Around} {E : Value → Shared → Prop} {s : Shared}
set_option maxRecDepth 100000 in
end
section
variable {X : Cx}
end
end L2
namespace Att
open PySem PySem.W PySem.Calls PyProof.Rows
theorem ints_of_wellAll {P : Params} {h : Heap} : ∀ (ns : List Int) (vs : List Value), WellAll P h vs (ns.map WData.int) → IntsAre vs ns := by
  intro ns
  induction ns with
  | nil =>
    intro vs w
    rw [List.map_nil] at w
    cases w
    exact .nil
  | cons n ns ih =>
    intro vs w
    rw [List.map_cons] at w
    cases w with
    | cons a b =>
      cases a
      exact .cons _ _ (ih _ b)
theorem script_of {l : OpenLaw} {n : Nat} (hn : l.most = some n) {P : Params} {h : Heap} {args : List WData} {vals : List Value}
    (hpre : l.row.toRowW.claim.pre args = true) (hwl : WellAll P h vals args) :
    ∃ a vs ns, vals = [Value.ref a] ∧ args = [WData.list (ns.map WData.int)] ∧ h.get? a = some { cls := .type "list", data := .seq vs.toArray } ∧ IntsAre vs ns ∧ ns.length ≤ n := by
  have hsh : WShape.hasAll [] args [.list .int] = true := (pre_splitW hpre).1
  have hc : l.pre.holds [] { args := args } = true := (pre_splitW hpre).2
  obtain ⟨d, r, rfl, h1, h2⟩ := hasAllW_cons hsh
  obtain rfl := hasAllW_nil h2
  obtain ⟨xs, rfl, h3⟩ := hasW_list h1
  obtain ⟨ns, rfl⟩ := items_int h3
  have hlen : ns.length ≤ n := by
    unfold OpenLaw.pre at hc
    have h4 : (WTm.not (.lt (.lit (.int (n : Int))) (.len (.arg 0)))).holds [] { args := [.list (ns.map .int)] } = true := by
      have h4 := (holds_andW hc).1
      rw [hn] at h4
      exact h4
    have h5 := condW_of h4 (w_not (w_lt w_lit (w_len_list (w_arg rfl))))
    rw [List.length_map] at h5
    refine Nat.le_of_not_lt fun q => ?_
    have q' : (n : Int) < ((ns.length : Nat) : Int) := by omega
    first
      | (rw [decide_eq_true q'] at h5; exact absurd h5 (by decide))
      | (simp at h5; omega)
  cases hwl with
  | cons w1 w2 =>
    cases w2
    cases w1 with
    | list ho hall => exact ⟨_, _, ns, rfl, rfl, ho, ints_of_wellAll ns _ hall, hlen⟩
theorem post_true (l : OpenLaw) (args : List WData) : l.row.toRowW.claim.post args (.bool true) args = true :=
  postW_of (r := l.row.toRowW) (X := (true == true))
    (show WShape.has [] (.bool true) .bool = true by first | rfl | decide | simp [WShape.has, WShape.arms, WShape.armsAll])
    (show (WTm.eq .res (.lit (.bool true))).value [] { args := args, res := some (.bool true), after := args } = some (.bool (true == true)) from w_eq_bool (w_res rfl) w_lit) rfl
theorem attach_call {l : OpenLaw} {n : Nat} {q : Program} {loose : List Str} {XP : (Str → Option Value) → Heap → Prop} {YP : World → Heap → Prop} {d : DefRec}
    (hn : l.most = some n) (hdf : d.params.defaults = [])
    (call : ∀ (w : World) (s₀ s₁ : Shared) (mg mb : Str → Option Value) (fa : Addr) (o : Obj) (pm cd doc : Value) (a : Addr) (vs : List Value) (ns : List Int),
      Ground q loose [] XP w s₀ mg mb s₁.heap → YP w s₁.heap →
      s₁.heap.get? fa = some o → o.data = .func (docDef d.name d.params d.body d.scope pm cd doc) → s₁.heap.CodeRec cd d.name → mg d.name = some (.ref fa) →
      s₁.heap.get? a = some { cls := .type "list", data := .seq vs.toArray } → IntsAre vs ns → ns.length ≤ n → s₁.gens = #[] →
      codeAny (model l.prog w) callerA (.call (.ref fa) ⟨[.ref a], []⟩) (fun r s' => r = .ok (.ret (.bool true)) ∧ OldK s₁.heap s'.heap ∧ s'.os = s₁.os ∧ AllBare s'.gens) s₁) :
    WalkO q loose XP YP l.row.toRowW d [] (fun f vs => PySem.call f vs) := by
  intro w s₀ s₁ mg mb G Y fa o pm cd doc dV kV ho hd hcd hD hmg hg args vals as hpre hlay hrd hwl hlo
  obtain rfl : dV = .none := Dflts.none hD hdf
  obtain rfl : kV = .none := Dflts.noKw hD
  obtain ⟨a, vs, ns, rfl, rfl, hobj, hints, hlen⟩ := script_of hn hpre hwl
  refine enter_call (codeAny_mono (call w s₀ s₁ mg mb fa o pm cd doc a vs ns G Y ho (fd_plain hd) hcd hmg hobj hints hlen hg) fun r s' hq => ?_)
  obtain ⟨rfl, h2, h3, h4⟩ := hq
  exact ⟨.inl ⟨.bool true, .bool true, [], rfl, fun _ => rfl, .bool true, post_true l _, fun _ => ⟨List.Pairwise.nil, fun _ hm => (nomatch hm)⟩⟩, h2, h3, h4⟩
section
variable {prog : Program} {w : World} {A : Around} {E : Value → Shared → Prop} {s : Shared} {K : Frag}
def ledger (h : Heap) (L d : Addr) : List (Addr × Obj) := (List.range h.objs.size).filterMap fun a => if a = L ∨ a = d then none else (h.get? a).map fun o => (a, o)
end
end Att
namespace L2
open PySem PySem.Spec PyProof.Rows
theorem vals_ints : ∀ {vs : List Value} {ns : List Int}, IntsAre vs ns → Vals (ns.map V.int) vs
  | _, _, .nil => .nil
  | _, _, .cons n t h => .cons ⟨t, rfl⟩ (vals_ints h)
def Only (H : Hp) : Prop := ∀ b, H b = none ∨ ∃ o xs, H b = some (.frz o (.lst xs))
theorem law_call {P : Program} {w : World} {K : PySem.W.Frag} {mg mb : Str → Option Value} {CX : CXT} {k : Nat} {fa a : Addr} {fd : FuncData} {x : Str} {sp : Sp} {s₁ : Shared} {vs : List Value} {ns : List Int}
    (KX : K.In s₁.heap) (hns : s₁.heap.Ns mainGlobals mg) (hb : s₁.heap.Ns builtinsNs mb) (hbb : ∀ x : Str, x ≠ "__name__" → mb x = bootBuiltins x) (hlim : s₁.heap.NoLimit) (hg : s₁.gens = #[])
    (ha : s₁.heap.get? a = some { cls := .type "list", data := .seq vs.toArray }) (hi : IntsAre vs ns) (hl : ns.length ≤ sizeLine) (hr : Room k callerA)
    (F : ∀ base : Heap, K.In base → base.Ns mainGlobals mg → FnOk P w K mg base CX k fa fd [x] sp) (hbind : ∀ (s : Shared) (u : Value), BindsTo s fd ⟨[u], []⟩ [(x, u)])
    (hsp : ∀ H : Hp, Only H → SqL K H a (ns.map V.int) → sp [.ref a] H (fun v _ => v = .bl true) fun _ _ _ => False)
    (hCX : ∀ H e s', CX [] H s₁ (fun _ _ _ => False) e s' → False) :
    codeAny (model P w) callerA (.call (.ref fa) ⟨[.ref a], []⟩) (fun r s' => r = .ok (.ret (.bool true)) ∧ OldK s₁.heap s'.heap ∧ s'.os = s₁.os ∧ AllBare s'.gens) s₁ := by
  have rv := vals_ints hi
  have lenV := hi.length
  -- from an abstract heap in which nothing but the script may be tracked
  have core : ∀ H : Hp, Only H → SqL K H a (ns.map V.int) → HOk P w H s₁.heap → (∀ b, H b ≠ none → b = a) → (H a ≠ none → K.lookup a = none) →
      codeAny (model P w) callerA (.call (.ref fa) ⟨[.ref a], []⟩) (fun r s' => r = .ok (.ret (.bool true)) ∧ OldK s₁.heap s'.heap ∧ s'.os = s₁.os ∧ AllBare s'.gens) s₁ := by
    intro H hO hS hok hA hK
    have base_of : ∀ {b : Addr} {o : Obj}, s₁.heap.get? b = some o → H b = none → (hidT s₁.heap H).get? b = some o := fun e n => hidT_get e n
    have noA : ∀ {b : Addr} {o : Obj} {es : Array DictEntry} {ep : Nat}, s₁.heap.get? b = some o → o.data = .dict es ep → H b = none := fun {b o es ep} e d => by
      cases q : H b with
      | none => rfl
      | some u =>
        have e' : b = a := hA b (by rw [q]; simp)
        subst e'
        rw [ha] at e; cases e
        have d' : Data.seq vs.toArray _ = Data.dict es ep := d
        cases d'
    have nsK : ∀ {b : Addr} {m : Str → Option Value}, s₁.heap.Ns b m → (hidT s₁.heap H).Ns b m := fun {b m} ⟨o, es, ep, e, d, r⟩ => ⟨o, es, ep, base_of e (noA e d), d, r⟩
    have hKb : K.In (hidT s₁.heap H) := fun b o e => base_of (KX b o e) (by
      cases q : H b with
      | none => rfl
      | some u =>
        have e' : b = a := hA b (by rw [q]; simp)
        subst e'
        rw [hK (by rw [q]; simp)] at e; cases e)
    have hM : Mod K mg (hidT s₁.heap H) := ⟨hKb, nsK hns, ⟨mb, nsK hb, hbb⟩, let ⟨mc, h1, h2⟩ := hlim; ⟨mc, nsK h1, h2⟩⟩
    have e0 : Env0 P w K mg (hidT s₁.heap H) callerA [] s₁ H := ⟨rfl, hM, fun b o e => of_hidT e, Nat.le_of_eq (hidT_size _ _), trivial, fun b hb => absurd (show b ∈ ([] : List Addr) from hb) (by simp), hok, .of_eq hg⟩
    refine codeAny_mono ((F _ hKb (nsK hns)).run callerA [] s₁ H ⟨[.ref a], []⟩ [.ref a] [.ref a] _ _ hr e0 (hbind s₁ (.ref a)) (.cons rfl .nil) (hsp H hO hS)) fun r s' h => ?_
    cases r with
    | error e => exact (hCX H e s' h).elim
    | ok fl =>
      cases fl with
      | next => exact False.elim h
      | brk => exact False.elim h
      | cont => exact False.elim h
      | ret u =>
        obtain ⟨v, H', os, bare, un, hok', r', q⟩ := h
        have q' : v = .bl true := q
        subst q'
        obtain rfl : u = Value.bool true := r'
        refine ⟨rfl, OldK.of_keep fun b o e => ?_, os, bare⟩
        cases q : H b with
        | none => exact un.keep b o e q (by intro z; exact absurd (show b ∈ ([] : List Addr) from z) (by simp)) (by simp)
        | some u =>
          rcases hO b with z | ⟨ob, xs, z⟩
          · rw [q] at z; cases z
          · have z2 := un.frzs b ob _ z
            obtain ⟨e1, _⟩ := hok b _ z
            obtain ⟨e2, _⟩ := hok' b _ z2
            rw [e] at e1; cases e1
            exact e2
  cases hk : K.lookup a with
  | some o =>
    -- the script is one of the module's own objects
    have e := KX a o hk
    rw [ha] at e
    cases e
    refine core (fun _ => none) (fun _ => .inl rfl) (.inr ⟨_, vs.toArray, _, hk, rfl, rfl, rfl, by rw [List.size_toArray, lenV]; exact hl, by simpa using rv⟩) (fun b u z => by have z' : (none : Option HO) = some u := z; cases z') (fun b z => absurd rfl z) fun z => absurd rfl z
  | none =>
    refine core (fun b => if b = a then some (.frz { cls := .type "list", data := .seq vs.toArray } (.lst (ns.map V.int))) else none) (fun b => ?_) (.inl (.inr ⟨{ cls := .type "list", data := .seq vs.toArray }, if_pos rfl⟩)) (fun b u z => ?_) (fun b z => ?_) fun _ => hk
    · by_cases hb : b = a
      · exact .inr ⟨_, _, if_pos hb⟩
      · exact .inl (if_neg hb)
    · by_cases hb : b = a
      · have z' := (if_pos hb).symm.trans z
        cases z'
        subst hb
        exact ⟨ha, by rw [List.length_map]; exact hl, vs, _, rv, ha⟩
      · have z' := (if_neg hb).symm.trans z
        cases z'
    · by_cases hb : b = a
      · exact hb
      · exact absurd (if_neg hb) z
end L2
namespace L2
open PySem PySem.Spec PyProof.Rows
abbrev KOf {K : PySem.W.Frag} {h : Heap} (_ : K.In h) : PySem.W.Frag := K
theorem walk_of {l : PySem.W.OpenLaw} {n k : Nat} {q : Program} {loose : List Str} {XP : (Str → Option Value) → Heap → Prop} {YP : World → Heap → Prop} {d : DefRec} {K : Params → PySem.W.Frag} {CX : World → CXT} {sp : World → Sp} {x : Str}
    (hn : l.most = some n) (hn2 : n ≤ sizeLine) (hdf : d.params.defaults = []) (hr : Room k callerA)
    (hY : ∀ (w : World) (h : Heap), YP w h → (K w.params).In h)
    (F : ∀ (w : World) (mg : Str → Option Value) (fa : Addr) (h : Heap), (K w.params).In h → h.Ns mainGlobals mg → mg d.name = some (.ref fa) →
      ∃ fd : FuncData, (∀ (s : Shared) (u : Value), BindsTo s fd ⟨[u], []⟩ [(x, u)]) ∧
        ∀ base : Heap, (K w.params).In base → base.Ns mainGlobals mg → FnOk l.prog w (K w.params) mg base (CX w) k fa fd [x] (sp w))
    (hsp : ∀ (w : World) (H : Hp) (a : Addr) (ns : List Int), ns.length ≤ n → Only H → SqL (K w.params) H a (ns.map V.int) → sp w [.ref a] H (fun v _ => v = .bl true) fun _ _ _ => False)
    (hCX : ∀ (w : World) (H : Hp) (s : Shared) (e : Value) (s' : Shared), CX w [] H s (fun _ _ _ => False) e s' → False) :
    PySem.W.WalkO q loose XP YP l.row.toRowW d [] (fun f vs => PySem.call f vs) := by
  refine Att.attach_call hn hdf fun w s₀ s₁ mg mb fa o pm cd doc a vs ns G Y ho hd hcd hmg hobj hints hlen hg => ?_
  have KX := hY w _ Y
  obtain ⟨fd, hb, hF⟩ := F w mg fa _ KX G.T.g hmg
  exact law_call KX G.T.g G.T.b G.T.builtins G.T.nolimit hg hobj hints (Nat.le_trans hlen hn2) hr hF hb (fun H hO hS => hsp w H a ns hlen hO hS) fun H e s' => hCX w H s₁ e s'
end L2
/- THE LAST THEOREM (shape; LID, My.* are yours):
   My.Adr: a structure of the addresses that your layer names (classes, functions); My.Txt K t: a structure (Prop) of the equations over K;
   My.txt_mk : {K} {implicit addresses ..} (e1 : nsIn K mainGlobals "law" = some (some (.ref f))) (e2 : K.lookup f = some ⟨oc, od, .func (fnOf "law" "law" params body scope dV kV doc pm an cdv ct), sl⟩) (e3 : codeIn K cdv "law" = true) .. : ∃ t, My.Txt K t
set_option maxRecDepth 100000 in
set_option maxHeartbeats 0 in
theorem PySem.Challenge.cw_LID_holds : PySem.Challenge.rw_LID.Holds := by
  w_on; o_law; k_head; (case hw => w_witness2)
  k_fill
  refine L2.walk_of (l := PySem.Challenge.rw_LID) (n := 63) (k := 40) (x := "script") (CX := fun w => ..) (sp := fun _ => My.sp_law) rfl (by decide) rfl ⟨rfl, by decide, by decide⟩ (fun w h Y => PySem.W.kIn_of Y) ?F ?S ?C
  case F =>
    intro w mg fa h KX G hmg
    have T : ∃ t, My.Txt (L2.KOf KX) t := by
      dsimp only [L2.KOf]                          -- K must stand as «<heap const> w.params» for k_is
      refine' My.txt_mk ?e1 ?e2 ?e3 ..
      (case e1 => PySem.W.k_is)                    -- in the order: a name -> its address -> its object -> its parts
      (case e2 => PySem.W.k_is)
      ..
    obtain ⟨t, T⟩ := T
    have e0 := hmg.symm.trans (PySem.W.mg_of KX G T.law)
    cases e0                                       -- fa is the law's own address
    exact ⟨_, fun s u => .of_eq rfl, fun base kb nb => My.law_fn T kb nb⟩     -- if «.of_eq rfl» comes too early: refine' ⟨_, ?b, fun base kb nb => My.law_fn T kb nb⟩; exact fun s u => .of_eq rfl
  case S => exact fun w H a ns hl hO hS => ..
  case C => exact ..
(the tactic k_is has no namespace: write k_is) -/
namespace L2
open PySem PySem.Spec PyProof.Rows
def inClass (s : Stmt) (j : Nat) : Stmt := match s with
  | .ClassDef _ _ _ body _ _ _ _ _ _ _ => body.getD j (.Pass ⟨0, 0, 0, 0⟩)
  | _ => .Pass ⟨0, 0, 0, 0⟩
def defArgs (s : Stmt) : Arguments := match s with
  | .FunctionDef _ a _ _ _ _ _ _ _ _ => a
  | _ => { posonlyargs := [], args := [], vararg := none, kwonlyargs := [], kw_defaults := [], kwarg := none, defaults := [] }
def defBody (s : Stmt) : List Stmt := match s with
  | .FunctionDef _ _ b _ _ _ _ _ _ _ => b
  | _ => []
def defScope (s : Stmt) : Scope := match s with
  | .FunctionDef _ _ _ _ _ _ sc _ _ _ => sc
  | _ => { kind := .function, names := [], isGenerator := false, isCoroutine := false }
abbrev CX0 : CXT := fun _ _ _ _ _ _ => False
abbrev E0 : XK := fun _ _ _ => False
theorem pass0 {X : Cx} : Passes CX0 X E0 := fun _ _ _ _ _ _ _ h => h.elim
structure Fun (K : PySem.W.Frag) (x qual : Str) (st : Stmt) (f : Addr) (fd : FuncData) : Prop where
  ex : ∃ (oc : Value) (od : Option Addr) (kV doc pm : Value) (an : Option Addr) (cdv ct : Value) (osl : Array (Option Value)),
    fd = PySem.W.fnOf x qual (defArgs st) (defBody st) (defScope st) .none kV doc pm an cdv ct ∧ K.lookup f = some ⟨oc, od, .func fd, osl⟩ ∧ PySem.W.codeIn K cdv qual = true
  kp : PySem.W.keepIn K (.ref f) = true
section
variable {P : Program} {w : World} {K : PySem.W.Frag} {mg : Str → Option Value} {base : Heap}
theorem Fun.ok {x qual : Str} {st : Stmt} {f : Addr} {fd : FuncData} {N ps : List Str} {k : Nat} {sp : Sp} (F : Fun K x qual st f fd) (S : FnScope N ps (defScope st)) (len : ∀ vs H Q E, sp vs H Q E → vs.length = ps.length)
    (hbody : ∀ (cdv : Value) (A : Around) (outer : List Env) (s : Shared) (H : Hp) (vs : List V) (Q : VK) (E : XK), Room k (A.deeper (envOfC qual (defScope st) s.heap.objs.size f cdv)) → sp vs H Q E →
      ∃ t, PSs (cxOf CX0 P w K mg base N qual (defScope st) f cdv A outer s H E).nox (defBody st) t ∧ t { nx := fun _ H' => Q .non H', rt := Q } (start N vs) H) : FnOk P w K mg base CX0 (k + 1) f fd ps sp := by
  obtain ⟨oc, od, kV, doc, pm, an, cdv, ct, osl, rfl, lk, hcd⟩ := F.ex
  refine fn_of lk hcd S len fun A outer s H vs Q E hr hsp => ?_
  obtain ⟨t, h, q⟩ := hbody cdv A outer s H vs Q E hr hsp
  exact ⟨t, h.nox, q⟩
theorem Fun.binds {x qual : Str} {st : Stmt} {f : Addr} {fd : FuncData} {ps : List Str} (F : Fun K x qual st f fd)
    (h : ∀ (kV doc pm : Value) (an : Option Addr) (cdv ct : Value) (us : List Value), us.length = ps.length → bindArgs (PySem.W.fnOf x qual (defArgs st) (defBody st) (defScope st) .none kV doc pm an cdv ct) ⟨us, []⟩ = pure (ps.zip us)) : Binds K fd ps [] := by
  obtain ⟨oc, od, kV, doc, pm, an, cdv, ct, osl, rfl, lk, hcd⟩ := F.ex
  exact .all (h kV doc pm an cdv ct)
theorem fun_mk {x qual : Str} {st : Stmt} {f : Addr} {oc : Value} {od an : Option Addr} {osl : Array (Option Value)} {kV doc pm cdv ct : Value} (l : K.lookup f = some ⟨oc, od, .func (PySem.W.fnOf x qual (defArgs st) (defBody st) (defScope st) .none kV doc pm an cdv ct), osl⟩)
    (c : PySem.W.codeIn K cdv qual = true) (k : PySem.W.keepIn K (.ref f) = true) : Fun K x qual st f (PySem.W.fnOf x qual (defArgs st) (defBody st) (defScope st) .none kV doc pm an cdv ct) := ⟨⟨oc, od, kV, doc, pm, an, cdv, ct, osl, rfl, l, c⟩, k⟩
end
theorem small1000 {n : Nat} (h : n ≤ 1000) : n < sizeLine := Nat.lt_of_le_of_lt h (by decide)
section
variable {X : Cx}
end
def Same (H H' : Hp) : Prop := ∀ b o, H b = some o → H' b = some o
theorem Same.refl (H : Hp) : Same H H := fun _ _ h => h
theorem Same.trans {H H1 H2 : Hp} (a : Same H H1) (b : Same H1 H2) : Same H H2 := fun c o h => b c o (a c o h)
theorem Same.free {H H' : Hp} (e : Same H H') {l : Addr} (h : H' l = Option.none) : H l = Option.none := by
  cases q : H l with
  | none => rfl
  | some o =>
    rw [e l o q] at h
    cases h
theorem Same.seq {K : PySem.W.Frag} {H H' : Hp} {a : Addr} {xs : List V} (e : Same H H') (h : SqL K H a xs) : SqL K H' a xs := by
  rcases h with (h | ⟨o, h⟩) | h
  · exact .inl (.inl (e _ _ h))
  · exact .inl (.inr ⟨o, e _ _ h⟩)
  · exact .inr h
end L2
namespace L2
open PySem PySem.Spec PyProof.Rows
section
variable {X : Cx}
def clsOf : V → Value
  | .ref a => .ref a
  | .ty n => .type n
  | _ => .none
def isC : V → Bool
  | .ref _ => true
  | .ty _ => true
  | _ => false
theorem RelV.cls {c : V} {u : Value} (r : RelV c u) (h : isC c = true) : u = clsOf c := by
  cases c with
  | ref a => exact r
  | ty n => exact r
  | _ => cases h
end
structure TopFn (K : PySem.W.Frag) (mg : Str → Option Value) (x : Str) (st : Stmt) : Prop where
  ex : ∃ f fd, Fun K x x st f fd ∧ mg x = some (.ref f)
structure Def (P : Program) (w : World) (K : PySem.W.Frag) (mg : Str → Option Value) (base : Heap) (k : Nat) (x : Str) (ps : List Str) (sp : Sp) : Prop where
  ex : ∃ f fd, FnOk P w K mg base CX0 k f fd ps sp ∧ mg x = some (.ref f) ∧ PySem.W.keepIn K (.ref f) = true ∧ Binds K fd ps []
section
variable {P : Program} {w : World} {K : PySem.W.Frag} {mg : Str → Option Value} {base : Heap}
theorem topFn_mk {h : Heap} {x : Str} {st : Stmt} {f : Addr} {oc : Value} {od an : Option Addr} {osl : Array (Option Value)} {kV doc pm cdv ct : Value} (X : K.In h) (G : h.Ns mainGlobals mg)
    (a : PySem.W.nsIn K mainGlobals x = some (some (.ref f))) (l : K.lookup f = some ⟨oc, od, .func (PySem.W.fnOf x x (defArgs st) (defBody st) (defScope st) .none kV doc pm an cdv ct), osl⟩)
    (c : PySem.W.codeIn K cdv x = true) (k : PySem.W.keepIn K (.ref f) = true) : TopFn K mg x st := ⟨f, _, fun_mk l c k, PySem.W.mg_of X G a⟩
theorem TopFn.mk_def {x : Str} {st : Stmt} {N ps : List Str} {k : Nat} {sp : Sp} (F : TopFn K mg x st) (S : FnScope N ps (defScope st))
    (hb : ∀ (kV doc pm : Value) (an : Option Addr) (cdv ct : Value) (us : List Value), us.length = ps.length → bindArgs (PySem.W.fnOf x x (defArgs st) (defBody st) (defScope st) .none kV doc pm an cdv ct) ⟨us, []⟩ = pure (ps.zip us))
    (len : ∀ vs H Q E, sp vs H Q E → vs.length = ps.length)
    (hbody : ∀ (f : Addr) (cdv : Value) (A : Around) (outer : List Env) (s : Shared) (H : Hp) (vs : List V) (Q : VK) (E : XK), Room k (A.deeper (envOfC x (defScope st) s.heap.objs.size f cdv)) → sp vs H Q E →
      ∃ t, PSs (cxOf CX0 P w K mg base N x (defScope st) f cdv A outer s H E).nox (defBody st) t ∧ t { nx := fun _ H' => Q .non H', rt := Q } (start N vs) H) : Def P w K mg base (k + 1) x ps sp := by
  obtain ⟨f, fd, F, m⟩ := F.ex
  exact ⟨f, fd, F.ok S len (hbody f), m, F.kp, F.binds hb⟩
end
theorem pe_def {X : Cx} {k : Nat} {x : Str} {ps : List Str} {sp : Sp} {p pos : Pos} {e : Expr} {es : List Expr} {t : TA} (D : Def X.prog X.w X.K X.mg X.base k x ps sp) (hr : Room k X.A) (hg : Gl X x) (ha : PA X (e :: es) t) (hdb : (x == ("__debug__" : Str)) = false := by decide)
    (he : starEach (e :: es) X.env = (false, eval e X.env) :: starEach es X.env := by rfl) (hpl : (backTo pos (starEach es X.env)).any (·.1) = false := by rfl) : PE X (.Call (.Name x p) (e :: es) [] pos) (tCall sp [] E0 t) := by
  obtain ⟨f, fd, F, m, kp, b⟩ := D.ex
  exact pe_call F hr hg m kp b .nil pass0 ha hdb he hpl
end L2
namespace L2
open PySem PySem.Spec PyProof.Rows
theorem upd_ne' {H : Hp} {p q : Addr} {o : HO} (h1 : (H q).isSome = true) (h2 : H p = none) : upd H p o q = H q := upd_ne (by intro z; rw [z, h2] at h1; cases h1)
abbrev Ext (H H' : Hp) : Prop := ∀ b, (H b).isSome = true → H' b = H b
theorem Ext.refl (H : Hp) : Ext H H := fun _ _ => rfl
theorem Ext.upd {H : Hp} {p : Addr} (o : HO) (h : H p = none) : Ext H (upd H p o) := fun _ hb => upd_ne' hb h
theorem Ext.trans {H H1 H2 : Hp} (a : Ext H H1) (b : Ext H1 H2) : Ext H H2 := fun c hc => by
  have e := a c hc
  rw [b c (by rw [e]; exact hc), e]
section
variable {X : Cx} {a b : Expr} {ta tb : TE} {pos : Pos}
end
structure InsOk (K : PySem.W.Frag) (C : Addr) : Prop where
  cl : Cls K C
  ha : PySem.W.findIn K (.ref C) "__class__" = some (some (.builtin "object.__class__"))
  hn : PySem.W.specialIn K (.builtin "object.__class__") "__get__" = some (some (.builtin "getset_descriptor.__get__"))
  htk : PySem.W.takesIn K (.builtin "object.__class__") = some true
  hm : PySem.W.mroIn K C (.type "object") = some true
def rMin2 : List V → Hp → VK → Prop := fun xs H Q => match xs with
  | [.int i, .int j] => Q (.int (if j < i then j else i)) H
  | _ => False
theorem call_min2F {X : Cx} (hc : X.calm = true) : CallR X (.builtin "min") rMin2 := by
  intro pins s σ H xs us Q I r h
  match xs, h with
  | [.int i, .int j], h => exact call_min2 hc pins s σ H _ us Q I r ⟨i, j, rfl, h⟩
def rInt1 : List V → Hp → VK → Prop := fun xs H Q => match xs with
  | [.int i] => Q (.int i) H
  | [.bl k] => Q (.int (if k then 1 else 0)) H
  | _ => False
theorem call_int1F {X : Cx} : CallR X (.type "int") rInt1 := by
  intro pins s σ H xs us Q I r h
  match xs, h with
  | [.int i], h => exact call_int1 pins s σ H _ us Q I r (.inl ⟨i, rfl, h⟩)
  | [.bl k], h => exact call_int1 pins s σ H _ us Q I r (.inr ⟨k, rfl, h⟩)
def Scr (K : PySem.W.Frag) (H : Hp) (x : V) (ns : List Int) : Prop := ∃ a, x = .ref a ∧ SqL K H a (ns.map V.int)
theorem Scr.ext {K : PySem.W.Frag} {H H' : Hp} {x : V} {ns : List Int} (h : Scr K H x ns) (e : Ext H H') : Scr K H' x ns := by
  obtain ⟨a, rfl, h⟩ := h
  refine ⟨a, rfl, ?_⟩
  rcases h with (h | ⟨o, h⟩) | h
  · exact .inl (.inl (by rw [e a (by rw [h]; rfl), h]))
  · exact .inl (.inr ⟨o, by rw [e a (by rw [h]; rfl), h]⟩)
  · exact .inr h
theorem Scr.upd {K : PySem.W.Frag} {H : Hp} {x : V} {ns : List Int} {p : Addr} {o : HO} (hp : H p = none) (h : Scr K H x ns) : Scr K (upd H p o) x ns := h.ext (Ext.upd o hp)
section
variable {X : Cx}
end
def mixV (c k : Int) : Int :=
  ((c % 2147483647 * (c % 2147483647) % 2147483629) * (c % 2147483647 * (c % 2147483647) % 2147483629) + 69621 * (c % 2147483647 * (c % 2147483647) % 2147483629) + k) % 2147483587
def cellV (ns : List Int) (k : Int) : Int :=
  mixV (if ns = [] then 7919 * k + 11 else ns.getD (k % ns.length).toNat 0 * 48271 + 104729 * k + k / ns.length * 7919) k
def sp_law (K : PySem.W.Frag) : Sp := fun vs H Q _ => match vs with
  | [x] => ∃ ns, Scr K H x ns ∧ ns.length ≤ 63 ∧ ∀ H', Q (.bl true) H'
  | _ => False
theorem line_le {n : Nat} (h : n ≤ 1000) : n ≤ sizeLine := Nat.le_of_lt (small1000 h)
structure Is {α : Type} (a b : α) : Prop where
  eq : a = b
theorem room64 {A : Around} {k : Nat} (h : Room k A) : A.units + 64 < cLine := h.units
end L2
set_option maxHeartbeats 4000000
namespace L2
open PySem PySem.Spec PyProof.Rows PySem.W
def excBM : List Value := [.type "ValueError", .type "Exception", .type "BaseException", .type "object"]
def excCls (K : Frag) (C : Addr) : Bool := match K.lookup C with
  | some ⟨.type "type", _, .cls cd, sl⟩ => (match cd.mro, sl.toList with
    | .ref C' :: bm, [_, _, _, _, some (.builtin n), _] => C' == C && n == "ValueError.__new__" && !cd.hasDel && cd.hasDict && tailIn K excBM bm && nsOkIn K cd.ns
    | _, _ => false)
  | _ => false
theorem exc_obj {K : Frag} {h : Heap} {C : Addr} (X : K.In h) (q : excCls K C = true) : ∃ bm N nm qn bs sn sub ab col dd k0 k1 k2 k3 k5,
    h.get? C = some (excClassObj nm qn C N bs bm true sn sub ab col dd k0 k1 k2 k3 k5 "ValueError.__new__") ∧ OwnTail h excBM bm ∧ clsIn K C = some { name := nm, bases := bs, mro := .ref C :: bm, ns := N, qualname := qn, hasDict := true, slotNames := sn, subclasses := sub, abstract := ab, collection := col, hasDel := false } := by
  unfold excCls at q
  split at q
  · rename_i dd cd sl ho
    split at q
    · rename_i C' bm k0 k1 k2 k3 n k5 hm hs
      simp only [Bool.and_eq_true, beq_iff_eq, Bool.not_eq_true'] at q
      obtain ⟨⟨⟨⟨⟨rfl, rfl⟩, hdel⟩, hhd⟩, ht⟩, hok⟩ := q
      obtain ⟨nm, bs, mro, ns, qn, hd, sn, sub, ab, col, del⟩ := cd
      dsimp only at hm hdel hok hhd
      subst hm hdel hhd
      have hsl : sl = #[k0, k1, k2, k3, some (.builtin "ValueError.__new__"), k5] := by
        obtain ⟨l⟩ := sl
        simp only at hs
        rw [hs]
      subst hsl
      exact ⟨bm, ns, nm, qn, bs, sn, sub, ab, col, dd, k0, k1, k2, k3, k5, X _ _ ho, tail_of_in X ht, by unfold clsIn; rw [ho]⟩
    · cases q
  · cases q
abbrev tupObj (vs : List Value) : Obj := { cls := .type "tuple", data := .seq vs.toArray }
abbrev excObj (C t : Addr) : Obj := { cls := .ref C, data := .fields #[.ref t, .none, .none, .none, .bool false, .none] }
section
variable {prog : Program} {w : World} {A : Around} {R : Result → Shared → Prop} {h : Heap} {g : Array GenState} {d : Drawn} {t : Nat} {os : OsState} {K : Frag} {C : Addr}
end
structure ExcAt (K : Frag) (C : Addr) : Prop where
  cl : excCls K C = true
  sa : findIn K (.ref C) "__setattr__" = some (some (.builtin "object.__setattr__"))
  ga : findIn K (.ref C) "__getattribute__" = some (some (.builtin "BaseException.__getattribute__"))
  gt : findIn K (.ref C) "__getattr__" = some none
section
variable {prog : Program} {w : World} {A : Around} {R : Result → Shared → Prop} {K : Frag} {C x : Addr} {s : Shared}
theorem exc_mro {h : Heap} {M : Model} (X : K.In h) (q : excCls K C = true) {b : Value} {T : String} (e : b = .type T) (hb : excBM.contains (.type T) = true) : Looks M h (isSubtype (.ref C) b) true := by
  obtain ⟨bm, N, nm, qn, bs, sn, sub, ab, col, dd, k0, k1, k2, k3, k5, hC, T', hcl⟩ := exc_obj X q
  subst e
  refine looks_mroIn X ?_
  unfold mroIn
  rw [hcl, Option.bind_some]
  show (if (Value.ref C :: bm).isEmpty = true then none else some ((Value.ref C :: bm).contains (.type T))) = some true
  rw [if_neg (by simp), List.contains_cons, T'.hasType hb, Bool.or_true]
end
section
variable {X : Cx} {pins : List (Addr × Obj)} {σ : St} {H : Hp} {s : Shared} {a C : Addr} {dx : Option Addr} {fs : List (Str × V)} {f : Str} {v : V} {A : Around} {E : Value → Shared → Prop}
theorem exc_get (I : Inv X pins σ H s) (e : H a = some (.exc C dx fs)) : ∃ o vs, s.heap.get? a = some o ∧ o.cls = .ref C ∧ o.dict = dx ∧ o.data = .fields vs ∧ fs.length ≤ 1000 ∧ (∀ d, dx = some d → H d = some (.own a) ∧ d ≠ a) ∧
    ∃ mA, NsO s.heap dx mA ∧ (∀ f, RelO (fs.lookup f) (mA f)) ∧ PySem.Within mA (fs.map (·.1)) :=
  (show ObjOk X.prog X.w H s.heap a (.exc C dx fs) from I.hok a _ e)
theorem exc_look (I : Inv X pins σ H s) (e : H a = some (.exc C dx fs)) : ∃ ox od, InstAt s.heap a ox C od ∧ ox.dict = dx ∧ (∃ vs, ox.data = .fields vs) ∧ (∀ name, RelO (fs.lookup name) ((match od with | some o => lookIn name o | none => some none).getD none)) ∧ (∀ name, (match od with | some o => lookIn name o | none => some none).isSome = true) ∧ s.heap.get? a = some ox := by
  obtain ⟨o, vs, ho, hc, hd, hv, hl, hw, mA, hm, r, wi⟩ := exc_get I e
  cases dx with
  | none =>
    refine ⟨o, none, ⟨ho, hc, by unfold notCls; rw [hv], by rw [hd]; exact True.intro⟩, hd, ⟨vs, hv⟩, fun name => ?_, fun _ => rfl, ho⟩
    have := r name
    rw [hm name] at this
    exact this
  | some d =>
    obtain ⟨od, hod, hlk⟩ := lookIn_ns hm
    refine ⟨o, some od, ⟨ho, hc, by unfold notCls; rw [hv], by rw [hd]; exact hod⟩, hd, ⟨vs, hv⟩, fun name => ?_, fun name => ?_, ho⟩
    · show RelO (fs.lookup name) ((lookIn name od).getD none)
      rw [hlk name]; exact r name
    · show (lookIn name od).isSome = true
      rw [hlk name]; rfl
end
structure ExcIs (K : Frag) (C : Addr) : Prop extends ExcAt K C where
  ha : findIn K (.ref C) "__class__" = some (some (.builtin "object.__class__"))
  hn : specialIn K (.builtin "object.__class__") "__get__" = some (some (.builtin "getset_descriptor.__get__"))
  htk : takesIn K (.builtin "object.__class__") = some true
theorem exc_class {K : Frag} {C a : Addr} {ox : Obj} {od : Option Obj} {prog : Program} {w : World} {A : Around} {E : Value → Shared → Prop} {Q : Option Value → Shared → Prop} {s : Shared} (c : ExcIs K C) (KX : K.In s.heap) (J : InstAt s.heap a ox C od) (h : Q (some (.ref C)) { s with toks := s.toks + 1 }) :
    wpAny (model prog w) A (getAttr? (.ref a) "__class__") Q E s := by
  have Lt : Looks (model prog w) s.heap (typeOf (.ref a)) (.ref C) := J.type
  have Lf := looks_findIn (M := model prog w) KX c.ha
  have Lga := looks_findIn (M := model prog w) KX c.ga
  have Lgt := looks_findIn (M := model prog w) KX c.gt
  have Lg := looks_specialIn (M := model prog w) KX c.hn
  have Ltk := looks_takesIn (M := model prog w) KX c.htk
  have hm : mroIn K C (.type "object") = some true := by
    obtain ⟨bm, N, nm, qn, bs, sn, sub, ab, col, dd, k0, k1, k2, k3, k5, hC, T', hcl⟩ := exc_obj KX c.cl
    unfold mroIn
    rw [hcl, Option.bind_some]
    show (if (Value.ref C :: bm).isEmpty = true then none else some ((Value.ref C :: bm).contains (.type "object"))) = some true
    rw [if_neg (by simp), List.contains_cons, T'.hasType (show excBM.contains (.type "object") = true by decide), Bool.or_true]
  obtain ⟨hp, g, d, tk, os⟩ := s
  dsimp only at *
  have FB := PySem.F.attrBase_ValueError
  have f3 := FB.ga.bind (.ref a)
  have hx2 : (Value.builtin "BaseException.__getattribute__" == Value.builtin "object.__getattribute__") = false := by decide +kernel
  have hx1 : (onTheHeap (Value.ref C) && Value.builtin "BaseException.__getattribute__" == Value.builtin "object.__getattribute__") = false := by rw [hx2]; rfl
  unfold getAttr? getAttrBy?
  repeat (any_goals (first | assumption | with_reducible refine Lt.at ?_ | with_reducible refine Lga.at ?_ | with_reducible refine Lgt.at ?_ | wp_step))
  have sub : Looks (model prog w) hp (isInstance (.ref a) (.type "BaseException")) true := Lt.andThen (exc_mro KX c.cl rfl (by decide))
  refine codeAny_call_builtin FB.ga.plain PySem.F.entry_bexc_ga (@check_slot (model prog w) _ _ ⟨hp, g, d, tk + 1, os⟩ "BaseException.__getattribute__" "BaseException" "__getattribute__" (.ref a) [.str "__class__" tk] [] _ (by decide +kernel) (by decide +kernel) sub (PySem.F.args_bexc_ga _ _) ?_)
  show wpAny _ _ (Builtin.«object.__getattribute__» ⟨[.ref a, .str "__class__" tk], []⟩) _ _ _
  unfold Builtin.«object.__getattribute__» Builtin.ObjectAttr.find
  repeat (any_goals (first | assumption | with_reducible refine Lt.at ?_ | with_reducible refine Lf.at ?_ | with_reducible refine Lg.at ?_ | with_reducible refine Ltk.at ?_ | wp_step))
  refine class_get (s := ⟨hp, g, d, tk + 1, os⟩) KX J hm ?_
  repeat (any_goals (first | assumption | wp_step))
section
variable {X : Cx} {pins : List (Addr × Obj)} {σ : St} {H : Hp} {s : Shared} {a C : Addr} {dx : Option Addr} {fs : List (Str × V)} {f : Str} {v : V} {A : Around} {E : Value → Shared → Prop}
structure Exc0 (K : Frag) (mg : Str → Option Value) (x : Str) (C : Addr) : Prop where
  at_ : mg x = some (.ref C)
  ex : excIn K C excBM "ValueError.__new__" = true
  kp : keepIn K (.ref C) = true
structure Exc1 (K : Frag) (mg : Str → Option Value) (x : Str) (C f : Addr) : Prop where
  at_ : mg x = some (.ref C)
  ex : excCls K C = true
  kp : keepIn K (.ref C) = true
  init : findIn K (.ref C) "__init__" = some (some (.ref f))
  fn : isFn K (.ref f) = true
end
end L2
namespace L2
open PySem PySem.Spec PyProof.Rows
abbrev capL (X : Cx) (cs : List Str) : List (Str × Addr) := cs.map fun y => (y, (X.env.cells.lookup y).getD 0)
structure Cap (X : Cx) (scope : Scope) (cs : List Str) : Prop where
  clos : closureFor scope X.env = pure (capL X cs)
  some_ : ∀ y ∈ cs, (X.env.cells.lookup y).isSome = true
  kc : ∀ y ∈ cs, X.env.scope.names.lookup y = some .cell ∧ (relabel scope X.env).names.lookup y = some .cell
  kind : scope.kind = .function
  nocell : ∀ y ∈ scope.names, y.2 ≠ .cell
  names : ∀ y ∈ scope.names, y.2 = .local → scope.names.lookup y.1 = some .local
  has : ∀ y ∈ (relabel scope X.env).names, y.2 = .cell ∨ y.2 = .free → y.1 ∈ cs
theorem cap_mk {X : Cx} {scope : Scope} (cs : List Str) (h1 : closureFor scope X.env = pure (capL X cs)) (h2 : cs.all (fun y => (X.env.cells.lookup y).isSome) = true)
    (h3 : cs.all (fun y => X.env.scope.names.lookup y == some .cell && (relabel scope X.env).names.lookup y == some .cell) = true) (h4 : scope.kind = .function) (h5 : ∀ y ∈ scope.names, y.2 ≠ .cell)
    (h6 : ∀ y ∈ scope.names, y.2 = .local → scope.names.lookup y.1 = some .local) (h7 : (relabel scope X.env).names.all (fun y => (y.2 != .cell && y.2 != .free) || cs.contains y.1) = true) : Cap X scope cs where
  clos := h1
  some_ := fun y hy => List.all_eq_true.mp h2 y hy
  kc := fun y hy => by
    have := List.all_eq_true.mp h3 y hy
    simp only [Bool.and_eq_true, beq_iff_eq] at this
    exact this
  kind := h4
  nocell := h5
  names := h6
  has := fun y hy hk => by
    have := List.all_eq_true.mp h7 y hy
    simp only [Bool.or_eq_true, Bool.and_eq_true, bne_iff_ne, List.contains_iff_mem] at this
    rcases this with ⟨n1, n2⟩ | h
    · rcases hk with k | k
      · exact absurd k n1
      · exact absurd k n2
    · exact h
theorem lookup_mem {β : Type} : ∀ {l : List (Str × β)} {y : Str} {k : β}, l.lookup y = some k → (y, k) ∈ l
  | [], _, _, h => by cases h
  | (z, b) :: r, y, k, h => by
    rw [List.lookup_cons] at h
    split at h
    · rename_i e
      cases h
      rw [beq_iff_eq.mp e]
      exact List.mem_cons_self
    · exact List.mem_cons_of_mem _ (lookup_mem h)
theorem cap_look {X : Cx} : ∀ {cs : List Str} {y : Str}, y ∈ cs → (capL X cs).lookup y = some ((X.env.cells.lookup y).getD 0)
  | z :: r, y, h => by
    show List.lookup y ((z, (X.env.cells.lookup z).getD 0) :: capL X r) = _
    rw [List.lookup_cons]
    split
    · rename_i e
      rw [beq_iff_eq.mp e]
    · rename_i e
      rcases List.mem_cons.mp h with q | q
      · subst q
        simp at e
      · exact cap_look q
section
variable {X : Cx} {scope : Scope} {cs : List Str} {pins : List (Addr × Obj)} {σ : St} {H : Hp} {s : Shared} {fp : List Addr}
theorem Cap.sub (c : Cap X scope cs) {y : Str} {a : Addr} (h : (capL X cs).lookup y = some a) : X.env.cells.lookup y = some a ∧ y ∈ cs := by
  have m := lookup_mem h
  obtain ⟨z, hz, e⟩ := List.mem_map.mp m
  injection e with e1 e2
  subst e1
  refine ⟨?_, hz⟩
  have := c.some_ z hz
  cases q : X.env.cells.lookup z with
  | none => rw [q] at this; cases this
  | some b => rw [q] at e2; rw [← e2]; rfl
def cxComp (X : Cx) (scope : Scope) (cs N' : List Str) (s₀ : Shared) (H₀ : Hp) (ex : List Addr) : Cx where
  prog := X.prog
  w := X.w
  K := X.K
  mg := X.mg
  base := X.base
  A := X.A
  N := N'
  s₀ := s₀
  H₀ := H₀
  env := compEnvC scope (capL X cs) s₀.heap.objs.size X.env
  outer := X.stack
  stack := X.stack
  ex := ex
  fn := fun _ => false
  calm := X.calm
  pn := []
  xe := fun _ _ => False
theorem comp_ok (c : Cap X scope cs) (I : Inv X pins σ H s) (hf : ∀ b ∈ fp, FpOk X pins H b) (ho : ∀ b ∈ fp, ∃ o, s.heap.get? b = some o) (N' : List Str) : (cxComp X scope cs N' s H fp).Ok where
  mod := I.ok.mod
  kind := c.kind
  glob := I.ok.glob
  blt := I.ok.blt
  above := Nat.le_refl _
  inj := fun x y a h1 h2 => I.ok.inj x y a (c.sub h1).1 (c.sub h2).1
  has := fun x h => by
    have m : x ∈ cs := by
      rcases h with h | h
      · exact c.has _ (lookup_mem h) (.inl rfl)
      · exact c.has _ (lookup_mem h) (.inr rfl)
    exact ⟨_, cap_look m⟩
  cab := fun _ _ h => nomatch h
  hd := I.ok.hd
  frames := I.ok.frames
  stk := .inl rfl
  exf := fun b hb => by
    obtain ⟨o, e⟩ := ho b hb
    exact ⟨Nat.ne_of_lt (Heap.lt_size e), fun x a h => (hf b hb).2.2.2.2.1 x a (c.sub h).1⟩
  bs := fun b o e => I.bs b o e
  bsz := Nat.le_trans I.ok.bsz I.sz
  noex := fun b o e hb => by
    rcases (hf b hb).2.2.2.1 with z | z
    · exact I.ok.noex b o e z
    · exact absurd (Nat.lt_of_lt_of_le (Nat.lt_of_lt_of_le (Heap.lt_size e) I.ok.bsz) z) (Nat.lt_irrefl _)
  exfs := fun b hb hs => by
    rcases List.mem_cons.mp (I.stkSub b hs) with z | z
    · exact (hf b hb).2.1 z
    · exact (hf b hb).2.2.1 z
  funs := I.stack
  frf := I.stkFree
def capS (js : List Nat) (σ : St) : St := none :: js.map fun j => (σ[j]?).getD none
theorem comp_end {N' : List Str} {σ' : St} {H' : Hp} {s' : Shared} {h' : Heap} {pl : List (Addr × Obj)} (c : Cap X scope cs) (I : Inv X pins σ H s) (hf : ∀ b ∈ fp, FpOk X pins H b) (J : Inv (cxComp X scope cs N' s H fp) pl σ' H' s') (hs : Heap.SameBut s.heap.objs.size s'.heap h') :
    Inv X pins σ H' { s' with heap := h' } := by
  have hL : H' s.heap.objs.size = none := J.free
  have u := J.base
  have ne : ∀ b o, s.heap.get? b = some o → b ≠ s.heap.objs.size := fun b o e => Nat.ne_of_lt (Heap.lt_size e)
  have neT : ∀ b o, H' b = some o → b ≠ s.heap.objs.size := fun b o e z => by rw [z, hL] at e; cases e
  refine Inv.call' (s' := { s' with heap := h' }) (ch := fp) I J.os ?_ ?_ J.bare fun b hb => ⟨(hf b hb).2.2.2.1, (hf b hb).2.1, (hf b hb).2.2.2.2.1, (hf b hb).2.2.2.2.2⟩
  · exact ⟨fun b o q n hb hx => (hs.2 b (ne b o q)).trans (u.keep b o q n hb hx), fun b o q n hb hx => by
      obtain ⟨sl, e⟩ := u.slot b o q n hb hx
      exact ⟨sl, (hs.2 b (ne b o q)).trans e⟩, u.free, fun b o q hx => by
      obtain ⟨o', e⟩ := u.there b o q hx
      exact ⟨o', (hs.2 b (ne b o q)).trans e⟩, u.tups, u.frzs, u.tbls⟩
  · intro a o e
    exact (J.hok a o e).stay (fun b v hb q => (hs.2 b (by
      rcases hb with rfl | hb
      · exact neT _ _ e
      · exact neT _ _ hb)).trans q) (fun _ q => q) fun _ _ q => q
end
section
variable {X : Cx} {pins : List (Addr × Obj)} {σ : St} {H : Hp} {s : Shared}
end
end L2
namespace L2
open PySem PySem.Spec PyProof.Rows PySem.W
def Kn (H : Hp) (L : List (Addr × HO)) : Prop := ∀ p ∈ L, H p.1 = some p.2
theorem Kn.at_ {H : Hp} {L : List (Addr × HO)} (h : Kn H L) (i : Nat) {a : Addr} {o : HO} (e : L[i]? = some (a, o)) : H a = some o := h (a, o) (List.mem_of_getElem? e)
theorem Kn.ext {H H' : Hp} {L : List (Addr × HO)} (h : Kn H L) (e : Ext H H') : Kn H' L := fun p hp => by
  rw [e p.1 (by rw [h p hp]; rfl)]
  exact h p hp
theorem Kn.new {H : Hp} {L : List (Addr × HO)} {a : Addr} {o : HO} (h : Kn H L) (e : H a = none) : Kn (upd H a o) ((a, o) :: L) := fun p hp => by
  rcases List.mem_cons.mp hp with rfl | hp
  · exact upd_same
  · rw [upd_ne (ne_of_none (h p hp) e)]
    exact h p hp
theorem Kn.nil (H : Hp) : Kn H [] := fun _ h => by cases h
theorem cons_of {te : TE} {t : TA} {σ : St} {H : Hp} {Q : List V → Hp → Prop} (h : te σ H fun v H1 => t σ H1 fun vs H2 => Q (v :: vs) H2) : tCons te t σ H Q := h
section
variable {H H1 : Hp} {L : List (Addr × HO)} {σ : St} {i : Nat} {v : V} {C : Addr} {Q : VK}
def LstK (Q : VK) (vs : List V) (H : Hp) : Prop := vs.length ≤ sizeLine ∧ ∀ p, H p = none → Q (.ref p) (upd H p (.lst vs))
theorem lst_of {t : TA} (h : t σ H (LstK Q)) : tLst t σ H Q := h
theorem seq_of {t u : TS} {D : Ends} (h : t { D with nx := u D } σ H) : tSeq t u D σ H := h
theorem new_lst {vs : List V} (hl : vs.length ≤ 1000) (hE : Ext H H1) (hk : Kn H1 L) (h : ∀ l H2, Ext H H2 → Kn H2 ((l, .lst vs) :: L) → Q (.ref l) H2) : LstK Q vs H1 :=
  ⟨line_le hl, fun p hp => h p _ (hE.trans (Ext.upd _ hp)) (hk.new hp)⟩
end
structure MethFn (K : Frag) (C : Addr) (m qual : Str) (st : Stmt) : Prop where
  ex : ∃ f fd, Fun K m qual st f fd ∧ findIn K (.ref C) m = some (some (.ref f)) ∧ isFn K (.ref f) = true
structure MDef (P : Program) (w : World) (K : Frag) (mg : Str → Option Value) (base : Heap) (k : Nat) (C : Addr) (m : Str) (ps : List Str) (sp : Sp) : Prop where
  ex : ∃ f fd, FnOk P w K mg base CX0 k f fd ps sp ∧ findIn K (.ref C) m = some (some (.ref f)) ∧ isFn K (.ref f) = true ∧ keepIn K (.ref f) = true ∧ Binds K fd ps []
theorem MethFn.mk_def {P : Program} {w : World} {K : Frag} {mg : Str → Option Value} {base : Heap} {C : Addr} {m qual : Str} {st : Stmt} {N ps : List Str} {k : Nat} {sp : Sp} (F : MethFn K C m qual st) (S : FnScope N ps (defScope st))
    (hb : ∀ (kV doc pm : Value) (an : Option Addr) (cdv ct : Value) (us : List Value), us.length = ps.length → bindArgs (PySem.W.fnOf m qual (defArgs st) (defBody st) (defScope st) .none kV doc pm an cdv ct) ⟨us, []⟩ = pure (ps.zip us))
    (len : ∀ vs H Q E, sp vs H Q E → vs.length = ps.length)
    (hbody : ∀ (f : Addr) (cdv : Value) (A : Around) (outer : List Env) (s : Shared) (H : Hp) (vs : List V) (Q : VK) (E : XK), Room k (A.deeper (envOfC qual (defScope st) s.heap.objs.size f cdv)) → sp vs H Q E →
      ∃ t, PSs (cxOf CX0 P w K mg base N qual (defScope st) f cdv A outer s H E).nox (defBody st) t ∧ t { nx := fun _ H' => Q .non H', rt := Q } (start N vs) H) : MDef P w K mg base (k + 1) C m ps sp := by
  obtain ⟨f, fd, F, a, n⟩ := F.ex
  exact ⟨f, fd, F.ok S len (hbody f), a, n, F.kp, F.binds hb⟩
structure ExcC (K : Frag) (mg : Str → Option Value) (x : Str) (C : Addr) : Prop where
  at_ : mg x = some (.ref C)
  ex : excCls K C = true
  kp : keepIn K (.ref C) = true
end L2
namespace HL
open PySem (Str)
inductive W where
  | non | bl (b : Bool) | int (i : Int) | str (s : Str) | ref (i : Nat) | ty (n : String) | gl (x : Str)
  deriving DecidableEq, Repr, Inhabited
inductive SO where
  | lst (xs : List W) | rol (xs : List W) | tup (xs : List W) | ins (c : Str) (fs : List (Str × W)) | exc (c : Str) (fs : List (Str × W))
  deriving DecidableEq, Repr, Inhabited
abbrev Sh := List SO
inductive R (α : Type) where
  | ok (a : α) (h : Sh) | ex (e : Nat) (h : Sh) | er
  deriving Repr
def R.bind {α β : Type} (r : R α) (f : α → Sh → R β) : R β := match r with
  | .ok a h => f a h
  | .ex e h => .ex e h
  | .er => .er
inductive OR where
  | er | val (v : W) | new (o : SO)
def OR.fin (o : OR) (h : Sh) : R W := match o with
  | .er => .er
  | .val v => .ok v h
  | .new o => .ok (.ref h.length) (h ++ [o])
abbrev Sg := List (Option W)
inductive C where
  | nx (s : Sg) (h : Sh) | rt (v : W) (h : Sh) | bk (s : Sg) (h : Sh) | ct (s : Sg) (h : Sh) | ex (e : Nat) (h : Sh) | er
  deriving Repr
abbrev DE := Sg → Sh → R W
abbrev DT := Sg → Sh → R Bool
abbrev DA := Sg → Sh → R (List W)
abbrev DS := Sg → Sh → C
abbrev Fn := List W → Sh → R W
def LIM : Nat := 100000
def lstW (h : Sh) (x : W) : Option (List W) := match x with
  | .ref i => (match h[i]? with
    | some (.lst xs) => some xs
    | some (.rol xs) => some xs
    | _ => none)
  | _ => none
def tupW (h : Sh) (x : W) : Option (List W) := match x with
  | .ref i => (match h[i]? with
    | some (.tup xs) => some xs
    | _ => none)
  | _ => none
def seqW (h : Sh) (x : W) : Option (List W) := (lstW h x).or (tupW h x)
inductive D where
  | non | bl (b : Bool) | int (i : Int) | str (s : Str) | lst (xs : List D) | tup (xs : List D)
mutual
def D.eq : D → D → Bool
  | .non, y => (match y with | .non => true | _ => false)
  | .bl a, y => (match y with | .bl b => a == b | .int j => (if a then 1 else 0) == j | _ => false)
  | .int i, y => (match y with | .bl b => i == (if b then 1 else 0) | .int j => i == j | _ => false)
  | .str a, y => (match y with | .str b => a == b | _ => false)
  | .lst xs, y => (match y with | .lst ys => D.eqs xs ys | _ => false)
  | .tup xs, y => (match y with | .tup ys => D.eqs xs ys | _ => false)
def D.eqs : List D → List D → Bool
  | [], ys => ys.isEmpty
  | x :: xs, ys => (match ys with | [] => false | y :: ys => D.eq x y && D.eqs xs ys)
end
def dats (f : W → Option D) : List W → Option (List D)
  | [] => some []
  | x :: r => (f x).bind fun d => (dats f r).map (d :: ·)
def sOk (s : Str) : Bool := decide (s.length ≤ LIM) && s.cps.toList.all fun c => decide (c < 1114112)
def dat : Nat → Sh → W → Option D
  | _, _, .non => some .non
  | _, _, .bl b => some (.bl b)
  | _, _, .int i => some (.int i)
  | _, _, .str x => if sOk x then some (.str x) else none
  | n + 1, h, .ref i => (match h[i]? with
    | some (.lst xs) => (dats (dat n h) xs).map .lst
    | some (.rol xs) => (dats (dat n h) xs).map .lst
    | some (.tup xs) => (dats (dat n h) xs).map .tup
    | _ => none)
  | _, _, _ => none
def DEEP : Nat := 8
abbrev O1 := W → Sh → OR
abbrev O2 := W → W → Sh → OR
def mulOk (i j : Int) : Bool := decide (i.natAbs < 2 ^ 64) || decide (j.natAbs < 2 ^ 64)
def oAdd : O2 := fun x y h => match x, y with
  | .int i, .int j => .val (.int (i + j))
  | .str s, .str t => if s.length + t.length ≤ LIM then .val (.str (s ++ t)) else .er
  | .ref i, .ref j => (match h[i]?, h[j]? with
    | some (.lst xs), some (.lst ys) => if xs.length + ys.length ≤ LIM then .new (.lst (xs ++ ys)) else .er
    | some (.tup xs), some (.tup ys) => if xs.length + ys.length ≤ LIM ∧ xs ≠ [] then (if ys = [] then .val x else .new (.tup (xs ++ ys))) else .er
    | _, _ => .er)
  | _, _ => .er
def oInt (c : Int → Int → Bool) (f : Int → Int → Int) : O2 := fun x y _ => match x, y with
  | .int i, .int j => if c i j then .val (.int (f i j)) else .er
  | _, _ => .er
def oSub : O2 := oInt (fun _ _ => true) fun i j => i - j
def oMul : O2 := fun x y h => match x, y with
  | .int i, .int j => if mulOk i j then .val (.int (i * j)) else .er
  | .ref i, .int k => (match h[i]? with
    | some (.lst xs) => if k < 2 ^ 20 ∧ -(2 ^ 20) < k ∧ xs.length * k.toNat ≤ LIM then .new (.lst (List.replicate k.toNat xs).flatten) else .er
    | _ => .er)
  | _, _ => .er
def oDiv : O2 := oInt (fun _ j => decide (0 < j) && decide (j < 1073741824)) fun i j => i / j
def oMod : O2 := oInt (fun _ j => decide (0 < j)) fun i j => i % j
def oCmp (p : Int → Int → Bool) : O2 := fun x y _ => match x, y with
  | .int i, .int j => .val (.bl (p i j))
  | _, _ => .er
def oLe : O2 := oCmp fun i j => decide (i ≤ j)
def eqH (x y : W) (h : Sh) : Option Bool := match x, y with
  | .str a, .str b => some (decide (a = b))
  | .int a, .int b => some (decide (a = b))
  | x, y => (match dat DEEP h x, dat DEEP h y with
    | some a, some b => some (D.eq a b)
    | _, _ => none)
def oEq : O2 := fun x y h => match eqH x y h with
  | some b => .val (.bl b)
  | none => .er
def oNe : O2 := fun x y h => match eqH x y h with
  | some b => .val (.bl (!b))
  | none => .er
def oIs : O2 := fun x y _ => match y with
  | .non => .val (.bl (decide (x = .non)))
  | _ => .er
def oIsNot : O2 := fun x y _ => match y with
  | .non => .val (.bl (!decide (x = .non)))
  | _ => .er
def flatW : W → Bool
  | .non => true
  | .bl _ => true
  | .int _ => true
  | .str _ => true
  | _ => false
def eqW : W → W → Bool
  | .non, .non => true
  | .bl a, .bl b => a == b
  | .bl a, .int b => (if a then 1 else 0) == b
  | .int a, .bl b => a == (if b then 1 else 0)
  | .int a, .int b => a == b
  | .str a, .str b => a == b
  | _, _ => false
def inW (x : W) (xs : List W) : Bool := xs.any fun y => eqW y x
def oIn : O2 := fun x y h => match seqW h y with
  | some xs => if flatW x && xs.all flatW then .val (.bl (inW x xs)) else .er
  | none => .er
def oNotIn : O2 := fun x y h => match seqW h y with
  | some xs => if flatW x && xs.all flatW then .val (.bl (!inW x xs)) else .er
  | none => .er
def ixW (n : Nat) (i : Int) : Option Nat := if 0 ≤ i then (if i < n then some i.toNat else none) else if -(n : Int) ≤ i then some (i + n).toNat else none
def atW (xs : List W) (i : Int) : Option W := (ixW xs.length i).bind fun j => xs[j]?
def oIx : O2 := fun x y h => match seqW h x, y with
  | some xs, .int i => (match atW xs i with
    | some v => .val v
    | none => .er)
  | _, _ => .er
def oNeg : O1 := fun x _ => match x with
  | .int i => .val (.int (-i))
  | _ => .er
def truW (x : W) (h : Sh) : Option Bool := match x with
  | .non => some false
  | .bl b => some b
  | .int i => some (i != 0)
  | .str s => if s.length ≤ LIM then some ((s.length : Int) != 0) else none
  | .ref i => (match h[i]? with
    | some (.lst xs) => some (!xs.isEmpty)
    | some (.rol xs) => some (!xs.isEmpty)
    | some (.tup xs) => some (!xs.isEmpty)
    | _ => none)
  | _ => none
def dVar (i : Nat) : DE := fun s h => match s[i]? with
  | some (some v) => .ok v h
  | _ => .er
def dC (v : W) : DE := fun _ h => .ok v h
def dOp (f : O2) (a b : DE) : DE := fun s h => (a s h).bind fun x h => (b s h).bind fun y h => (f x y h).fin h
def dUn (f : O1) (a : DE) : DE := fun s h => (a s h).bind fun x h => (f x h).fin h
def dNil : DA := fun _ h => .ok [] h
def dCons (a : DE) (r : DA) : DA := fun s h => (a s h).bind fun x h => (r s h).bind fun xs h => .ok (x :: xs) h
def dB (f : List W → Sh → OR) (as : DA) : DE := fun s h => (as s h).bind fun xs h => (f xs h).fin h
def bLst : List W → Sh → OR := fun xs _ => if xs.length ≤ LIM then .new (.lst xs) else .er
def bTup : List W → Sh → OR := fun xs _ => if xs.length ≤ LIM then .new (.tup xs) else .er
def dT (a : DE) : DT := fun s h => (a s h).bind fun x h => match truW x h with
  | some b => .ok b h
  | none => .er
def tNot (a : DT) : DT := fun s h => (a s h).bind fun b h => .ok (!b) h
def tAnd (a b : DT) : DT := fun s h => (a s h).bind fun c h => if c = true then b s h else .ok false h
def tOr (a b : DT) : DT := fun s h => (a s h).bind fun c h => if c = true then .ok true h else b s h
def dAnd (a b : DE) : DE := fun s h => (a s h).bind fun x h => match x with
  | .bl c => if c = true then b s h else .ok (.bl false) h
  | _ => .er
def dOr (a b : DE) : DE := fun s h => (a s h).bind fun x h => match x with
  | .bl c => if c = true then .ok (.bl true) h else b s h
  | _ => .er
def dNot (a : DE) : DE := fun s h => (a s h).bind fun x h => match x with
  | .bl c => .ok (.bl (!c)) h
  | _ => .er
def dIf (c : DT) (a b : DE) : DE := fun s h => (c s h).bind fun k h => if k = true then a s h else b s h
def dChain (f g : O2) (a b c : DE) : DE := fun s h => (a s h).bind fun x h => (b s h).bind fun y h => ((f x y h).fin h).bind fun z h => match z with
  | .bl k => if k = true then (c s h).bind fun w h => (g y w h).fin h else .ok (.bl false) h
  | _ => .er
def dCall (f : Fn) (as : DA) : DE := fun s h => (as s h).bind fun xs h => f xs h
def start (n : Nat) (vs : List W) : Sg := vs.map some ++ List.replicate (n - vs.length) none
def fnOf (p n : Nat) (b : DS) : Fn := fun vs h => if vs.length = p then (match b (start n vs) h with
  | .nx _ h => .ok .non h
  | .rt v h => .ok v h
  | .ex e h => .ex e h
  | _ => .er) else .er
abbrev DO := Sg → Sh → R (Option Int)
def dNoPart : DO := fun _ h => .ok none h
def dPart (a : DE) : DO := fun s h => (a s h).bind fun x h => match x with
  | .int i => .ok (some i) h
  | _ => .er
def sIx (n d : Nat) : Option Int → Nat
  | none => d
  | some i => if i < 0 then (i + (n : Int)).toNat else min i.toNat n
def cutW (xs : List W) (lo hi : Option Int) : List W := (xs.drop (sIx xs.length 0 lo)).take (sIx xs.length xs.length hi - sIx xs.length 0 lo)
def oSl (x : W) (lo hi : Option Int) (h : Sh) : OR := match lstW h x with
  | some xs => .new (.lst (cutW xs lo hi))
  | none => (match tupW h x with
    | some xs => if sIx xs.length 0 lo = 0 ∧ sIx xs.length xs.length hi = xs.length then .er else .new (.tup (cutW xs lo hi))
    | none => .er)
def dSl (a : DE) (lo hi : DO) : DE := fun s h => (a s h).bind fun x h => (lo s h).bind fun l h => (hi s h).bind fun u h => (oSl x l u h).fin h
def sNx : DS := fun s h => .nx s h
def sSeq (a b : DS) : DS := fun s h => match a s h with
  | .nx s h => b s h
  | c => c
def sSet (i : Nat) (e : DE) : DS := fun s h => match e s h with
  | .ok v h => .nx (s.set i (some v)) h
  | .ex e h => .ex e h
  | .er => .er
def sRet (e : DE) : DS := fun s h => match e s h with
  | .ok v h => .rt v h
  | .ex e h => .ex e h
  | .er => .er
def sRetN : DS := fun _ h => .rt .non h
def sDrop (e : DE) : DS := fun s h => match e s h with
  | .ok _ h => .nx s h
  | .ex e h => .ex e h
  | .er => .er
def sIf (c : DT) (a b : DS) : DS := fun s h => match c s h with
  | .ok k h => if k = true then a s h else b s h
  | .ex e h => .ex e h
  | .er => .er
def sNever : DS := fun _ _ => .er
def sSub (o i e : DE) : DS := fun s h => match ((e s h).bind fun v h => (o s h).bind fun x h => (i s h).bind fun y h => (match x, y with
    | .ref p, .int k => (match h[p]? with
      | some (.lst xs) => (match ixW xs.length k with
        | some j => R.ok W.non (h.set p (.lst (xs.set j v)))
        | none => .er)
      | _ => .er)
    | _, _ => .er)) with
  | .ok _ h => .nx s h
  | .ex e h => .ex e h
  | .er => .er
inductive It where
  | fix (xs : List W) | lst (i : Nat) (xs : List W) | tup (i : Nat) (xs : List W)
def It.items : It → List W
  | .fix xs => xs
  | .lst _ xs => xs
  | .tup _ xs => xs
def It.stays : It → Sh → Prop
  | .fix _, _ => True
  | .lst i xs, h => lstW h (.ref i) = some xs
  | .tup i xs, h => tupW h (.ref i) = some xs
instance (t : It) (h : Sh) : Decidable (t.stays h) := by cases t <;> unfold It.stays <;> infer_instance
abbrev DI := Sg → Sh → R It
def iSeq (a : DE) : DI := fun s h => (a s h).bind fun x h => match x with
  | .ref i => (match lstW h (.ref i) with
    | some xs => .ok (.lst i xs) h
    | none => (match tupW h (.ref i) with
      | some xs => .ok (.tup i xs) h
      | none => .er))
  | _ => .er
def rangeW (lo : Int) (n : Nat) : List W := (List.range n).map fun (k : Nat) => .int (lo + (k : Int))
def iRange1 (a : DE) : DI := fun s h => (a s h).bind fun x h => match x with
  | .int j => if -(2 ^ 62) ≤ j ∧ j < 2 ^ 62 then .ok (.fix (rangeW 0 j.toNat)) h else .er
  | _ => .er
abbrev DG := W → Sg → Sh → Option Sg
def gName (i : Nat) : DG := fun v s _ => some (s.set i (some v))
def setAll : List Nat → List W → Sg → Sg
  | i :: is, v :: vs, s => setAll is vs (s.set i (some v))
  | _, _, s => s
def gTup (is : List Nat) : DG := fun v s h => match tupW h v with
  | some xs => if xs.length = is.length then some (setAll is xs s) else none
  | none => none
def forW (t : It) (g : DG) (b : DS) : List W → DS
  | [], s, h => .nx s h
  | x :: xs, s, h => match g x s h with
    | none => .er
    | some s1 => match b s1 h with
      | .nx s2 h2 => if t.stays h2 then forW t g b xs s2 h2 else .er
      | .ct s2 h2 => if t.stays h2 then forW t g b xs s2 h2 else .er
      | .bk s2 h2 => .nx s2 h2
      | c => c
def sFor (i : DI) (g : DG) (b : DS) : DS := fun s h => match i s h with
  | .ok t h => forW t g b t.items s h
  | .ex e h => .ex e h
  | .er => .er
def compW (t : It) (g : DG) (c : DT) (e : DE) (acc : Nat) : List W → Sg → Sh → R W
  | [], _, h => .ok (.ref acc) h
  | x :: xs, s, h => match g x s h with
    | none => .er
    | some s1 => (c s1 h).bind fun k h1 => if k = true then (e s1 h1).bind fun v h2 => (match h2[acc]? with
        | some (.lst ys) => if ys.length < LIM ∧ t.stays h2 ∧ acc < h2.length then compW t g c e acc xs s1 (h2.set acc (.lst (ys ++ [v]))) else .er
        | _ => .er)
      else if t.stays h1 then compW t g c e acc xs s1 h1 else .er
def capS (n : Nat) (js : List Nat) (s : Sg) : Sg := List.replicate n none ++ js.map fun j => (s[j]?).getD none
def dComp (i : DI) (n : Nat) (js : List Nat) (g : DG) (c : DT) (e : DE) : DE := fun s h => (i s h).bind fun t h => compW t g c e h.length t.items (capS n js s) (h ++ [.lst []])
def tTrue : DT := fun _ h => .ok true h
def bLen : List W → Sh → OR := fun xs h => match xs with
  | [.str s] => if s.length ≤ LIM then .val (.int s.length) else .er
  | [x] => (match seqW h x with
    | some ys => .val (.int ys.length)
    | none => .er)
  | _ => .er
def bMin2 : List W → Sh → OR := fun xs _ => match xs with
  | [.int i, .int j] => .val (.int (if j < i then j else i))
  | _ => .er
def bInt : List W → Sh → OR := fun xs _ => match xs with
  | [.int i] => .val (.int i)
  | [.bl k] => .val (.int (if k then 1 else 0))
  | _ => .er
def bList : List W → Sh → OR := fun xs h => match xs with
  | [x] => (match seqW h x with
    | some ys => .new (.lst ys)
    | none => .er)
  | _ => .er
def bTuple : List W → Sh → OR := fun xs h => match xs with
  | [x] => (match lstW h x with
    | some ys => .new (.tup ys)
    | none => (match tupW h x with
      | some _ => .val x
      | none => .er))
  | _ => .er
def bAll : List W → Sh → OR := fun xs h => match xs with
  | [x] => (match lstW h x with
    | some ys => if ys.all fun y => (match y with | .bl _ => true | _ => false) then .val (.bl (ys.all fun y => y == .bl true)) else .er
    | none => .er)
  | _ => .er
def isLst (x : W) (h : Sh) : Bool := (lstW h x).isSome
def dMt (T : W → Sh → Bool) (f : W → List W → Sh → R W) (o : DE) (as : DA) : DE := fun s h => (o s h).bind fun x h => if T x h = true then (as s h).bind fun xs h => f x xs h else .er
inductive Ty where
  | bi (n : String) | own (x : Bool) (c : Str)
  deriving DecidableEq
def tyW (h : Sh) (x : W) : Option Ty := match x with
  | .non => some (.bi "NoneType")
  | .bl _ => some (.bi "bool")
  | .int _ => some (.bi "int")
  | .str _ => some (.bi "str")
  | .ref i => (match h[i]? with
    | some (.lst _) => some (.bi "list")
    | some (.rol _) => some (.bi "list")
    | some (.tup _) => some (.bi "tuple")
    | some (.ins c _) => some (.own false c)
    | some (.exc c _) => some (.own true c)
    | none => none)
  | _ => none
def biN : List String := ["int", "bool", "str", "list", "tuple", "dict"]
def subB (a b : String) : Bool := a == b || (a == "bool" && b == "int")
abbrev CT := List (Str × List W)
def isi1 (T : CT) (t : Ty) (c : W) : Option Bool := match t, c with
  | .bi a, .ty b => if biN.contains b then some (subB a b) else none
  | .bi _, .gl x => if (T.lookup x).isSome then some false else none
  | .own k a, c => (match T.lookup a with
    | some l => if l.contains (.ty "ValueError") = k then (match c with
        | .ty b => if biN.contains b then some (l.contains (.ty b)) else none
        | .gl x => if (T.lookup x).isSome then some (l.contains (.gl x)) else none
        | _ => none) else none
    | none => none)
  | _, _ => none
def isCl : W → Bool
  | .ty _ => true
  | .gl _ => true
  | _ => false
def isiN (T : CT) (t : Ty) : List W → Option Bool
  | [] => some false
  | c :: cs => match isi1 T t c with
    | some true => some true
    | some false => isiN T t cs
    | none => none
def isi (T : CT) (h : Sh) (x c : W) : Option Bool := match tyW h x with
  | none => none
  | some t => (match c with
    | .ref i => (match h[i]? with
      | some (.tup cs) => if cs.all isCl && !cs.isEmpty then isiN T t cs else none
      | _ => none)
    | c => isi1 T t c)
def bIsi (T : CT) : List W → Sh → OR := fun xs h => match xs with
  | [x, c] => (match isi T h x c with
    | some b => .val (.bl b)
    | none => .er)
  | _ => .er
end HL
namespace HL
open PySem (Str)
def getF (cs : List Str) (f : Str) (x : W) (h : Sh) : Option W := match x with
  | .ref i => (match h[i]? with
    | some (.ins c fs) => if cs.contains c = true then fs.lookup f else none
    | _ => none)
  | _ => none
def dFld (cs : List Str) (f : Str) (a : DE) : DE := fun s h => (a s h).bind fun x h => match getF cs f x h with
  | some v => .ok v h
  | none => .er
def putW (f : Str) (v : W) : List (Str × W) → List (Str × W)
  | [] => [(f, v)]
  | (g, x) :: r => if g = f then (g, v) :: r else (g, x) :: putW f v r
def setF (cs : List Str) (f : Str) (x v : W) (h : Sh) : R W := match x with
  | .ref i => (match h[i]? with
    | some (.ins c fs) => if cs.contains c = true ∧ fs.length < 1000 then .ok .non (h.set i (.ins c (putW f v fs))) else .er
    | _ => .er)
  | _ => .er
def sFld (cs : List Str) (f : Str) (o e : DE) : DS := fun s h => match ((e s h).bind fun v h => (o s h).bind fun x h => setF cs f x v h) with
  | .ok _ h => .nx s h
  | .ex e h => .ex e h
  | .er => .er
def findM (tb : List (Str × Fn)) (m : Str) (x : W) (h : Sh) : Option Fn := match x with
  | .ref i => (match h[i]? with
    | some (.ins c fs) => if fs.lookup m = none then tb.lookup c else none
    | _ => none)
  | _ => none
def dMeth (tb : List (Str × Fn)) (m : Str) (o : DE) (as : DA) : DE := fun s h => (o s h).bind fun x h => match findM tb m x h with
  | some f => (as s h).bind fun xs h => f (x :: xs) h
  | none => .er
def dNew (c : Str) (f : Fn) (ds : List W) (as : DA) : DE := fun s h => (as s h).bind fun xs h1 => (f (.ref h1.length :: (xs ++ ds)) (h1 ++ [.ins c []])).bind fun v h2 => if v = .non then .ok (.ref h1.length) h2 else .er
end HL
namespace L2
open PySem PySem.Spec PyProof.Rows
open HL (W SO Sh Sg OR)
def RoL (K : PySem.W.Frag) (H : Hp) (a : Addr) (xs : List V) : Prop := (∃ o, H a = some (.frz o (.lst xs))) ∨
    ∃ (o : Obj) (its : Array Value) (n : Nat), K.lookup a = some o ∧ o.cls = .type "list" ∧ o.dict = none ∧ o.data = .seq its n ∧ its.size ≤ sizeLine ∧ Vals xs its.toList
theorem RoL.sq {K : PySem.W.Frag} {H : Hp} {a : Addr} {xs : List V} (h : RoL K H a xs) : SqL K H a xs := by
  rcases h with h | h
  · exact .inl (.inr h)
  · exact .inr h
section
variable (γ : Str → Addr) (ρ : Nat → Addr)
def renW : W → V
  | .non => .non
  | .bl b => .bl b
  | .int i => .int i
  | .str s => .str s
  | .ref i => .ref (ρ i)
  | .ty n => .ty n
  | .gl x => .ref (γ x)
def renS (s : Sg) : St := s.map (Option.map (renW γ ρ))
def renF (fs : List (Str × W)) : List (Str × V) := fs.map fun p => (p.1, renW γ ρ p.2)
def ObS (K : PySem.W.Frag) (H : Hp) (a : Addr) : SO → Prop
  | .lst xs => H a = some (.lst (xs.map (renW γ ρ)))
  | .rol xs => RoL K H a (xs.map (renW γ ρ))
  | .tup xs => SqT K H a (xs.map (renW γ ρ))
  | .ins c fs => ∃ dx, H a = some (.ins (γ c) dx (renF γ ρ fs))
  | .exc c fs => ∃ dx, H a = some (.exc (γ c) dx (renF γ ρ fs))
end
def wf (n : Nat) : W → Prop
  | .ref i => i < n
  | _ => True
def wfs (n : Nat) (xs : List W) : Prop := ∀ x ∈ xs, wf n x
def wfS (n : Nat) (s : Sg) : Prop := ∀ x, some x ∈ s → wf n x
def wfO (n : Nat) : SO → Prop
  | .lst xs => wfs n xs
  | .rol xs => wfs n xs
  | .tup xs => wfs n xs
  | .ins _ fs => ∀ p ∈ fs, wf n p.2
  | .exc _ fs => ∀ p ∈ fs, wf n p.2
def mutO : SO → Bool
  | .lst _ => true
  | .ins _ _ => true
  | .exc _ _ => true
  | _ => false
def Ag (n : Nat) (ρ ρ' : Nat → Addr) : Prop := ∀ i < n, ρ i = ρ' i
theorem wf.mono {n m : Nat} {x : W} (h : wf n x) (l : n ≤ m) : wf m x := by
  cases x with
  | ref i => exact Nat.lt_of_lt_of_le h l
  | _ => trivial
theorem wfs.mono {n m : Nat} {xs : List W} (h : wfs n xs) (l : n ≤ m) : wfs m xs := fun x hx => (h x hx).mono l
theorem wfS.mono {n m : Nat} {s : Sg} (h : wfS n s) (l : n ≤ m) : wfS m s := fun x hx => (h x hx).mono l
theorem wfO.mono {n m : Nat} {o : SO} (h : wfO n o) (l : n ≤ m) : wfO m o := by
  cases o with
  | lst xs => exact wfs.mono h l
  | rol xs => exact wfs.mono h l
  | tup xs => exact wfs.mono h l
  | ins c fs => exact fun p hp => (h p hp).mono l
  | exc c fs => exact fun p hp => (h p hp).mono l
theorem ren_ag {γ : Str → Addr} {ρ ρ' : Nat → Addr} {n : Nat} {x : W} (h : wf n x) (a : Ag n ρ ρ') : renW γ ρ x = renW γ ρ' x := by
  cases x with
  | ref i => exact congrArg V.ref (a i h)
  | _ => rfl
theorem rens_ag {γ : Str → Addr} {ρ ρ' : Nat → Addr} {n : Nat} {xs : List W} (h : wfs n xs) (a : Ag n ρ ρ') : xs.map (renW γ ρ) = xs.map (renW γ ρ') :=
  List.map_congr_left fun x hx => ren_ag (h x hx) a
theorem renF_ag {γ : Str → Addr} {ρ ρ' : Nat → Addr} {n : Nat} {fs : List (Str × W)} (h : ∀ p ∈ fs, wf n p.2) (a : Ag n ρ ρ') : renF γ ρ fs = renF γ ρ' fs :=
  List.map_congr_left fun p hp => by rw [ren_ag (h p hp) a]
theorem renS_ag {γ : Str → Addr} {ρ ρ' : Nat → Addr} {n : Nat} {s : Sg} (h : wfS n s) (a : Ag n ρ ρ') : renS γ ρ s = renS γ ρ' s := by
  refine List.map_congr_left fun x hx => ?_
  cases x with
  | none => rfl
  | some v => exact congrArg some (ren_ag (h v hx) a)
theorem Ag.refl (n : Nat) (ρ : Nat → Addr) : Ag n ρ ρ := fun _ _ => rfl
theorem Ag.trans {n m : Nat} {ρ ρ1 ρ2 : Nat → Addr} (a : Ag n ρ ρ1) (b : Ag m ρ1 ρ2) (l : n ≤ m) : Ag n ρ ρ2 := fun i hi => (a i hi).trans (b i (Nat.lt_of_lt_of_le hi l))
structure Nxt (h : Sh) (ρ : Nat → Addr) (h' : Sh) (ρ' : Nat → Addr) : Prop where
  le : h.length ≤ h'.length
  ag : Ag h.length ρ ρ'
theorem Nxt.refl (h : Sh) (ρ : Nat → Addr) : Nxt h ρ h ρ := ⟨Nat.le_refl _, Ag.refl _ _⟩
theorem Nxt.trans {h h1 h2 : Sh} {ρ ρ1 ρ2 : Nat → Addr} (a : Nxt h ρ h1 ρ1) (b : Nxt h1 ρ1 h2 ρ2) : Nxt h ρ h2 ρ2 := ⟨Nat.le_trans a.le b.le, a.ag.trans b.ag a.le⟩
structure SimH (K : PySem.W.Frag) (γ : Str → Addr) (ρ : Nat → Addr) (h : Sh) (H : Hp) : Prop where
  ob : ∀ (i : Nat) (o : SO), h[i]? = some o → ObS γ ρ K H (ρ i) o
  inj : ∀ (i j : Nat) (o u : SO), h[i]? = some o → h[j]? = some u → mutO o = true → mutO u = true → ρ i = ρ j → i = j
  wf : ∀ (i : Nat) (o : SO), h[i]? = some o → wfO h.length o
structure Sim (K : PySem.W.Frag) (γ : Str → Addr) (ρ : Nat → Addr) (s : Sg) (h : Sh) (σ : St) (H : Hp) : Prop where
  hp : SimH K γ ρ h H
  ws : wfS h.length s
  eq : σ = renS γ ρ s
section
variable {K : PySem.W.Frag} {γ : Str → Addr} {ρ ρ' : Nat → Addr} {s : Sg} {h h' : Sh} {σ : St} {H H' : Hp}
theorem Sim.next (S : Sim K γ ρ s h σ H) (n : Nxt h ρ h' ρ') (S' : SimH K γ ρ' h' H') : Sim K γ ρ' s h' σ H' := ⟨S', S.ws.mono n.le, S.eq.trans (renS_ag S.ws n.ag)⟩
theorem ObS.ren {a : Addr} {o : SO} (x : ObS γ ρ K H a o) {n : Nat} (w : wfO n o) (g : Ag n ρ ρ') : ObS γ ρ' K H a o := by
  cases o with
  | lst xs => show _ = _; rw [← rens_ag w g]; exact x
  | rol xs => show RoL _ _ _ _; rw [← rens_ag w g]; exact x
  | tup xs => show SqT _ _ _ _; rw [← rens_ag w g]; exact x
  | ins c fs => obtain ⟨dx, e⟩ := x; exact ⟨dx, by rw [← renF_ag w g]; exact e⟩
  | exc c fs => obtain ⟨dx, e⟩ := x; exact ⟨dx, by rw [← renF_ag w g]; exact e⟩
theorem SqL.at {a : Addr} {xs : List V} (h : SqL K H a xs) (e : H a ≠ none → H' a = H a) : SqL K H' a xs := by
  rcases h with (h | ⟨o, h⟩) | h
  · exact .inl (.inl (by rw [e (by rw [h]; exact nofun), h]))
  · exact .inl (.inr ⟨o, by rw [e (by rw [h]; exact nofun), h]⟩)
  · exact .inr h
theorem SqT.at {a : Addr} {xs : List V} (h : SqT K H a xs) (e : H a ≠ none → H' a = H a) : SqT K H' a xs := by
  rcases h with (h | ⟨o, h⟩) | h
  · exact .inl (.inl (by rw [e (by rw [h]; exact nofun), h]))
  · exact .inl (.inr ⟨o, by rw [e (by rw [h]; exact nofun), h]⟩)
  · exact .inr h
theorem RoL.at {a : Addr} {xs : List V} (h : RoL K H a xs) (e : H a ≠ none → H' a = H a) : RoL K H' a xs := by
  rcases h with ⟨o, h⟩ | h
  · exact .inl ⟨o, by rw [e (by rw [h]; exact nofun), h]⟩
  · exact .inr h
theorem ObS.at {a : Addr} {o : SO} (x : ObS γ ρ K H a o) (e : H a ≠ none → H' a = H a) : ObS γ ρ K H' a o := by
  cases o with
  | lst xs => have x' : H a = _ := x; show H' a = _; rw [e (by rw [x']; exact nofun)]; exact x'
  | rol xs => exact RoL.at x e
  | tup xs => exact SqT.at x e
  | ins c fs => obtain ⟨dx, q⟩ := x; exact ⟨dx, by rw [e (by rw [q]; exact nofun)]; exact q⟩
  | exc c fs => obtain ⟨dx, q⟩ := x; exact ⟨dx, by rw [e (by rw [q]; exact nofun)]; exact q⟩
def put (ρ : Nat → Addr) (n : Nat) (p : Addr) : Nat → Addr := fun i => if i = n then p else ρ i
theorem put_ag (ρ : Nat → Addr) (n : Nat) (p : Addr) : Ag n ρ (put ρ n p) := fun i hi => by unfold put; rw [if_neg (Nat.ne_of_lt hi)]
theorem put_at (ρ : Nat → Addr) (n : Nat) (p : Addr) : put ρ n p n = p := by unfold put; rw [if_pos rfl]
theorem getElem?_snoc {α : Type} (l : List α) (x : α) (i : Nat) : (l ++ [x])[i]? = if i < l.length then l[i]? else if i = l.length then some x else none := by
  by_cases h1 : i < l.length
  · rw [if_pos h1, List.getElem?_append_left h1]
  · rw [if_neg h1, List.getElem?_append_right (by omega)]
    by_cases h2 : i = l.length
    · rw [if_pos h2, h2, Nat.sub_self]; rfl
    · rw [if_neg h2]
      exact List.getElem?_eq_none_iff.mpr (by simp; omega)
theorem ObS.mut {a : Addr} {o : SO} (x : ObS γ ρ K H a o) (m : mutO o = true) : ∃ u, H a = some u ∧ (∀ xs, u ≠ .tup xs) ∧ ∀ ob t, u ≠ .frz ob t := by
  cases o with
  | lst xs => exact ⟨_, x, (fun _ z => nomatch z), fun _ _ z => nomatch z⟩
  | rol xs => cases m
  | tup xs => cases m
  | ins c fs => obtain ⟨dx, e⟩ := x; exact ⟨_, e, (fun _ z => nomatch z), fun _ _ z => nomatch z⟩
  | exc c fs => obtain ⟨dx, e⟩ := x; exact ⟨_, e, (fun _ z => nomatch z), fun _ _ z => nomatch z⟩
theorem ObS.still {a b : Addr} {o : SO} {u v : HO} (x : ObS γ ρ K H a o) (m : mutO o = false) (e : H b = some u) (n1 : ∀ xs, u ≠ .tup xs) (n2 : ∀ ob t, u ≠ .frz ob t) : ObS γ ρ K (upd H b v) a o := by
  cases o with
  | lst xs => cases m
  | ins c fs => cases m
  | exc c fs => cases m
  | rol xs =>
    rcases x with ⟨o, h⟩ | h
    · exact .inl ⟨o, by rw [upd_ne (ne_of h e (fun z => n2 _ _ z.symm))]; exact h⟩
    · exact .inr h
  | tup xs =>
    rcases x with (h | ⟨o, h⟩) | h
    · exact .inl (.inl (by rw [upd_ne (ne_of h e (fun z => n1 _ z.symm))]; exact h))
    · exact .inl (.inr ⟨o, by rw [upd_ne (ne_of h e (fun z => n2 _ _ z.symm))]; exact h⟩)
    · exact .inr h
theorem SimH.push {p : Addr} {o : SO} (S : SimH K γ ρ h H) (w : wfO h.length o) (E : Ext H H') (hp : H p = none) (n : ObS γ ρ K H' p o) : SimH K γ (put ρ h.length p) (h ++ [o]) H' where
  ob := fun i u e => by
    rw [getElem?_snoc] at e
    by_cases h1 : i < h.length
    · rw [if_pos h1] at e
      have x := (S.ob i u e).at (H' := H') fun z => E _ (by cases q : H (ρ i) with | none => exact absurd q z | some _ => rfl)
      rw [← put_ag ρ h.length p i h1]
      exact x.ren (S.wf i u e) (put_ag _ _ _)
    · rw [if_neg h1] at e
      by_cases h2 : i = h.length
      · rw [if_pos h2] at e
        cases e
        rw [h2, put_at]
        exact n.ren w (put_ag _ _ _)
      · rw [if_neg h2] at e; cases e
  inj := fun i j u v e1 e2 m1 m2 q => by
    rw [getElem?_snoc] at e1 e2
    have tr : ∀ k w, k < h.length → h[k]? = some w → mutO w = true → ρ k ≠ p := fun k w _ e m z => by
      obtain ⟨y, hy, _⟩ := (S.ob k w e).mut m
      rw [z, hp] at hy; cases hy
    by_cases h1 : i < h.length
    · rw [if_pos h1] at e1
      by_cases h2 : j < h.length
      · rw [if_pos h2] at e2
        rw [← put_ag ρ h.length p i h1, ← put_ag ρ h.length p j h2] at q
        exact S.inj i j u v e1 e2 m1 m2 q
      · rw [if_neg h2] at e2
        by_cases h3 : j = h.length
        · rw [h3, put_at, ← put_ag ρ h.length p i h1] at q
          exact absurd q (tr i u h1 e1 m1)
        · rw [if_neg h3] at e2; cases e2
    · rw [if_neg h1] at e1
      by_cases h3 : i = h.length
      · by_cases h2 : j < h.length
        · rw [if_pos h2] at e2
          rw [h3, put_at, ← put_ag ρ h.length p j h2] at q
          exact absurd q.symm (tr j v h2 e2 m2)
        · rw [if_neg h2] at e2
          by_cases h4 : j = h.length
          · rw [h3, h4]
          · rw [if_neg h4] at e2; cases e2
      · rw [if_neg h3] at e1; cases e1
  wf := fun i u e => by
    rw [getElem?_snoc] at e
    have le : h.length ≤ (h ++ [o]).length := by simp
    by_cases h1 : i < h.length
    · rw [if_pos h1] at e
      exact (S.wf i u e).mono le
    · rw [if_neg h1] at e
      by_cases h2 : i = h.length
      · rw [if_pos h2] at e; cases e; exact w.mono le
      · rw [if_neg h2] at e; cases e
theorem Nxt.push (h : Sh) (ρ : Nat → Addr) (o : SO) (p : Addr) : Nxt h ρ (h ++ [o]) (put ρ h.length p) := ⟨by simp, put_ag _ _ _⟩
theorem SimH.chg {i : Nat} {o u : SO} {v : HO} (S : SimH K γ ρ h H) (e : h[i]? = some o) (m : mutO o = true) (m' : mutO u = true) (w : wfO h.length u) (n : ObS γ ρ K (upd H (ρ i) v) (ρ i) u) : SimH K γ ρ (h.set i u) (upd H (ρ i) v) where
  ob := fun j t q => by
    rw [List.getElem?_set] at q
    have hi : i < h.length := by
      rcases Nat.lt_or_ge i h.length with z | z
      · exact z
      · rw [List.getElem?_eq_none_iff.mpr z] at e; cases e
    by_cases hj : i = j
    · rw [if_pos hj, if_pos hi] at q
      cases q
      rw [← hj]; exact n
    · rw [if_neg hj] at q
      obtain ⟨y, hy, n1, n2⟩ := (S.ob i o e).mut m
      cases c : mutO t with
      | true =>
        have ne : ρ j ≠ ρ i := fun z => hj (S.inj i j o t e q m c z.symm)
        exact (S.ob j t q).at fun _ => upd_ne ne
      | false => exact (S.ob j t q).still c hy n1 n2
  inj := fun j k t r e1 e2 m1 m2 q => by
    rw [List.getElem?_set] at e1 e2
    have g : ∀ j t, (if i = j then if i < h.length then some u else none else h[j]?) = some t → mutO t = true → ∃ t', h[j]? = some t' ∧ mutO t' = true := fun j t e1 m1 => by
      by_cases hj : i = j
      · rw [← hj]; exact ⟨o, e, m⟩
      · rw [if_neg hj] at e1; exact ⟨t, e1, m1⟩
    obtain ⟨t1, f1, g1⟩ := g j t e1 m1
    obtain ⟨t2, f2, g2⟩ := g k r e2 m2
    exact S.inj j k t1 t2 f1 f2 g1 g2 q
  wf := fun j t q => by
    rw [List.getElem?_set] at q
    rw [List.length_set]
    by_cases hj : i = j
    · rw [if_pos hj] at q
      by_cases hi : i < h.length
      · rw [if_pos hi] at q; cases q; exact w
      · rw [if_neg hi] at q; cases q
    · rw [if_neg hj] at q; exact S.wf j t q
theorem Nxt.chg (h : Sh) (ρ : Nat → Addr) (i : Nat) (u : SO) : Nxt h ρ (h.set i u) ρ := ⟨by simp, Ag.refl _ _⟩
end
end L2
namespace L2
open PySem PySem.Spec PyProof.Rows
open HL (W SO Sh Sg OR DE DT DA DS Fn)
section
variable (K : PySem.W.Frag) (γ : Str → Addr)
def GoodR {α β : Type} (g : (Nat → Addr) → α → β) (w : Nat → α → Prop) (ρ : Nat → Addr) (h : Sh) (r : HL.R α) (Q : β → Hp → Prop) : Prop := match r with
  | .ok a h' => ∀ ρ' H', Nxt h ρ h' ρ' → SimH K γ ρ' h' H' → w h'.length a → Q (g ρ' a) H'
  | _ => False
abbrev GoodV := GoodR K γ (renW γ) wf
abbrev GoodL := GoodR K γ (fun ρ (vs : List W) => vs.map (renW γ ρ)) wfs
abbrev GoodB := GoodR K γ (fun _ (b : Bool) => b) (fun _ _ => True)
abbrev GoodO := GoodR K γ (fun _ (b : Option Int) => b) (fun _ _ => True)
def eE (d : DE) : TE := fun σ H Q => ∃ ρ s h, Sim K γ ρ s h σ H ∧ GoodV K γ ρ h (d s h) Q
def eA (d : DA) : TA := fun σ H Q => ∃ ρ s h, Sim K γ ρ s h σ H ∧ GoodL K γ ρ h (d s h) Q
def eT (d : DT) : TT := fun σ H Q => ∃ ρ s h, Sim K γ ρ s h σ H ∧ GoodB K γ ρ h (d s h) Q
def eO (d : HL.DO) : TO := fun σ H Q => ∃ ρ s h, Sim K γ ρ s h σ H ∧ GoodO K γ ρ h (d s h) Q
def GoodC (ρ : Nat → Addr) (h : Sh) (c : HL.C) (D : Ends) : Prop := match c with
  | .nx s' h' => ∀ ρ' H', Nxt h ρ h' ρ' → SimH K γ ρ' h' H' → wfS h'.length s' → D.nx (renS γ ρ' s') H'
  | .rt v h' => ∀ ρ' H', Nxt h ρ h' ρ' → SimH K γ ρ' h' H' → wf h'.length v → D.rt (renW γ ρ' v) H'
  | .bk s' h' => ∀ ρ' H', Nxt h ρ h' ρ' → SimH K γ ρ' h' H' → wfS h'.length s' → D.bk (renS γ ρ' s') H'
  | .ct s' h' => ∀ ρ' H', Nxt h ρ h' ρ' → SimH K γ ρ' h' H' → wfS h'.length s' → D.ct (renS γ ρ' s') H'
  | _ => False
def eS (d : DS) : TS := fun D σ H => ∃ ρ s h, Sim K γ ρ s h σ H ∧ GoodC K γ ρ h (d s h) D
end
section
variable {K : PySem.W.Frag} {γ : Str → Addr} {ρ ρ' : Nat → Addr} {s : Sg} {h h' : Sh} {σ : St} {H H' : Hp}
theorem GoodR.later {α β : Type} {g : (Nat → Addr) → α → β} {w : Nat → α → Prop} {r : HL.R α} {Q : β → Hp → Prop} (x : GoodR K γ g w ρ h r Q) (n : Nxt h ρ h' ρ') : GoodR K γ g w ρ' h' r Q := by
  cases r with
  | ok a h2 => exact fun ρ2 H2 n2 => x ρ2 H2 (n.trans n2)
  | ex e h2 => exact x.elim
  | er => exact x.elim
theorem GoodC.later {c : HL.C} {D : Ends} (x : GoodC K γ ρ h c D) (n : Nxt h ρ h' ρ') : GoodC K γ ρ' h' c D := by
  cases c with
  | nx s2 h2 => exact fun ρ2 H2 n2 => x ρ2 H2 (n.trans n2)
  | rt v h2 => exact fun ρ2 H2 n2 => x ρ2 H2 (n.trans n2)
  | bk s2 h2 => exact fun ρ2 H2 n2 => x ρ2 H2 (n.trans n2)
  | ct s2 h2 => exact fun ρ2 H2 n2 => x ρ2 H2 (n.trans n2)
  | ex e h2 => exact x.elim
  | er => exact x.elim
theorem GoodR.bind {α α' β β' : Type} {g : (Nat → Addr) → α → β} {w : Nat → α → Prop} {g' : (Nat → Addr) → α' → β'} {w' : Nat → α' → Prop} {r : HL.R α} {f : α → Sh → HL.R α'} {Q : β' → Hp → Prop} (x : GoodR K γ g' w' ρ h (r.bind f) Q) {R : β → Hp → Prop}
    (k : ∀ a h1 ρ1 H1, r = .ok a h1 → Nxt h ρ h1 ρ1 → SimH K γ ρ1 h1 H1 → w h1.length a → GoodR K γ g' w' ρ1 h1 (f a h1) Q → R (g ρ1 a) H1) : GoodR K γ g w ρ h r R := by
  cases r with
  | ok a h1 => exact fun ρ1 H1 n1 S1 wa => k a h1 ρ1 H1 rfl n1 S1 wa (x.later n1)
  | ex e h2 => exact x.elim
  | er => exact x.elim
def OrQ (K : PySem.W.Frag) (γ : Str → Addr) (ρ : Nat → Addr) (h : Sh) (H : Hp) (o : OR) (Q : VK) : Prop := match o with
  | .er => False
  | .val v => wf h.length v → Q (renW γ ρ v) H
  | .new (.lst xs) => wfs h.length xs → ∀ p, H p = none → Q (.ref p) (upd H p (.lst (xs.map (renW γ ρ))))
  | .new (.tup xs) => wfs h.length xs → ∀ p, H p = none → Q (.ref p) (upd H p (.tup (xs.map (renW γ ρ))))
  | .new _ => False
def newOk : OR → Bool
  | .new (.lst _) => true
  | .new (.tup _) => true
  | .new _ => false
  | _ => true
theorem fin_q {o : OR} {Q : VK} (S : SimH K γ ρ h H) (b : newOk o = true) (x : GoodV K γ ρ h (o.fin h) Q) : OrQ K γ ρ h H o Q := by
  cases o with
  | er => exact x.elim
  | val v => exact fun w => x ρ H (Nxt.refl _ _) S w
  | new o =>
    cases o with
    | lst xs =>
      intro w p hp
      have q := x (put ρ h.length p) (upd H p (.lst (xs.map (renW γ ρ)))) (Nxt.push _ _ _ _) (S.push (o := .lst xs) w (Ext.upd _ hp) hp upd_same) (by show h.length < (h ++ [_]).length; simp)
      rw [show renW γ (put ρ h.length p) (.ref h.length) = V.ref p from congrArg V.ref (put_at _ _ _)] at q
      exact q
    | tup xs =>
      intro w p hp
      have q := x (put ρ h.length p) (upd H p (.tup (xs.map (renW γ ρ)))) (Nxt.push _ _ _ _) (S.push (o := .tup xs) w (Ext.upd _ hp) hp (SqT.of upd_same)) (by show h.length < (h ++ [_]).length; simp)
      rw [show renW γ (put ρ h.length p) (.ref h.length) = V.ref p from congrArg V.ref (put_at _ _ _)] at q
      exact q
    | _ => cases b
theorem lstW_sq {x : W} {xs : List W} (S : SimH K γ ρ h H) (e : HL.lstW h x = some xs) : ∃ i, x = .ref i ∧ SqL K H (ρ i) (xs.map (renW γ ρ)) ∧ wfs h.length xs := by
  cases x with
  | ref i =>
    unfold HL.lstW at e
    simp only at e
    cases q : h[i]? with
    | none => rw [q] at e; cases e
    | some o =>
      rw [q] at e
      cases o with
      | lst ys => cases e; exact ⟨i, rfl, SqL.of (S.ob i _ q), S.wf i _ q⟩
      | rol ys => cases e; exact ⟨i, rfl, (show RoL K H (ρ i) _ from S.ob i _ q).sq, S.wf i _ q⟩
      | _ => cases e
  | _ => cases e
theorem tupW_sq {x : W} {xs : List W} (S : SimH K γ ρ h H) (e : HL.tupW h x = some xs) : ∃ i, x = .ref i ∧ SqT K H (ρ i) (xs.map (renW γ ρ)) ∧ wfs h.length xs := by
  cases x with
  | ref i =>
    unfold HL.tupW at e
    simp only at e
    cases q : h[i]? with
    | none => rw [q] at e; cases e
    | some o =>
      rw [q] at e
      cases o with
      | tup ys => cases e; exact ⟨i, rfl, S.ob i _ q, S.wf i _ q⟩
      | _ => cases e
  | _ => cases e
theorem seqW_sq {x : W} {xs : List W} (S : SimH K γ ρ h H) (e : HL.seqW h x = some xs) : ∃ i, x = .ref i ∧ (SqL K H (ρ i) (xs.map (renW γ ρ)) ∨ SqT K H (ρ i) (xs.map (renW γ ρ))) ∧ wfs h.length xs := by
  unfold HL.seqW at e
  cases q : HL.lstW h x with
  | some ys =>
    rw [q] at e
    cases e
    obtain ⟨i, a, b, c⟩ := lstW_sq S q
    exact ⟨i, a, .inl b, c⟩
  | none =>
    rw [q] at e
    obtain ⟨i, a, b, c⟩ := tupW_sq S (show HL.tupW h x = some xs by simpa using e)
    exact ⟨i, a, .inr b, c⟩
theorem wf_get {n i : Nat} {xs : List W} {v : W} (w : wfs n xs) (e : xs[i]? = some v) : wf n v := w v (List.mem_of_getElem? e)
end
theorem PE.imp {X : Cx} {e : Expr} {t t' : TE} (h : PE X e t) (i : ∀ σ H Q, t' σ H Q → t σ H Q) : PE X e t' := fun pins s σ H Q I hw => h pins s σ H Q I (i _ _ _ hw)
theorem PT.imp {X : Cx} {e : Expr} {t t' : TT} (h : PT X e t) (i : ∀ σ H Q, t' σ H Q → t σ H Q) : PT X e t' := fun pins s σ H Q I hw => h pins s σ H Q I (i _ _ _ hw)
theorem PW.imp {X : Cx} {e : Expr} {t t' : TT} (h : PW X e t) (i : ∀ σ H Q, t' σ H Q → t σ H Q) : PW X e t' := fun w pins s σ H Q I hw => h w pins s σ H Q I (i _ _ _ hw)
theorem PA.imp {X : Cx} {e : List Expr} {t t' : TA} (h : PA X e t) (i : ∀ σ H Q, t' σ H Q → t σ H Q) : PA X e t' := fun pos pins s σ H Q I hw => h pos pins s σ H Q I (i _ _ _ hw)
theorem PO.imp {X : Cx} {e : Option Expr} {t t' : TO} (h : PO X e t) (i : ∀ σ H Q, t' σ H Q → t σ H Q) : PO X e t' := fun pins s σ H Q I hw => h pins s σ H Q I (i _ _ _ hw)
theorem PS.imp {X : Cx} {e : Stmt} {t t' : TS} (h : PS X e t) (i : ∀ D σ H, t' D σ H → t D σ H) : PS X e t' := fun pins s σ H D I hw => h pins s σ H D I (i _ _ _ hw)
theorem PSs.imp {X : Cx} {e : List Stmt} {t t' : TS} (h : PSs X e t) (i : ∀ D σ H, t' D σ H → t D σ H) : PSs X e t' := fun pins s σ H D I hw => h pins s σ H D I (i _ _ _ hw)
abbrev QE (γ : Str → Addr) (X : Cx) (e : Expr) (d : DE) : Prop := PE X e (eE X.K γ d)
abbrev QT (γ : Str → Addr) (X : Cx) (e : Expr) (d : DT) : Prop := PT X e (eT X.K γ d)
abbrev QW (γ : Str → Addr) (X : Cx) (e : Expr) (d : DT) : Prop := PW X e (eT X.K γ d)
abbrev QA (γ : Str → Addr) (X : Cx) (e : List Expr) (d : DA) : Prop := PA X e (eA X.K γ d)
abbrev QO (γ : Str → Addr) (X : Cx) (e : Option Expr) (d : HL.DO) : Prop := PO X e (eO X.K γ d)
abbrev QS (γ : Str → Addr) (X : Cx) (e : Stmt) (d : DS) : Prop := PS X e (eS X.K γ d)
abbrev QSs (γ : Str → Addr) (X : Cx) (e : List Stmt) (d : DS) : Prop := PSs X e (eS X.K γ d)
section
variable {X : Cx} {γ : Str → Addr} {a b c e : Expr} {da db dc de : DE} {pos : Pos}
theorem q_var {i : Nat} {x : Str} (hN : X.N[i]? = some x) (hv : Vis X.env.scope x) (hd : (x == ("__debug__" : Str)) = false := by decide) (hcd : (x == ("__classdict__" : Str)) = false := by decide) : QE γ X (.Name x pos) (HL.dVar i) :=
  (pe_var hN hv hd hcd).imp fun σ H Q ⟨ρ, s, h, S, x⟩ => by
    unfold HL.dVar at x
    split at x
    · rename_i v e
      refine ⟨renW γ ρ v, ?_, x ρ H (Nxt.refl _ _) S.hp (S.ws v (List.mem_of_getElem? e))⟩
      rw [S.eq]
      unfold renS
      rw [List.getElem?_map, e]
      rfl
    · exact x.elim
theorem q_c {v : W} {e : Expr} (w : ∀ n, wf n v) (r : ∀ ρ, PE X e (tC (renW γ ρ v))) : QE γ X e (HL.dC v) := fun pins s σ H Q I ⟨ρ, t, h, S, x⟩ => r ρ pins s σ H Q I (x ρ H (Nxt.refl _ _) S.hp (w _))
theorem q_int {i j pos} : QE γ X (.Constant (.int i) j pos) (HL.dC (.int i)) := q_c (fun _ => trivial) fun _ => pe_int
theorem q_bl {i j pos} : QE γ X (.Constant (.bool i) j pos) (HL.dC (.bl i)) := q_c (fun _ => trivial) fun _ => pe_bl
theorem q_non {j pos} : QE γ X (.Constant .none j pos) (HL.dC .non) := q_c (fun _ => trivial) fun _ => pe_non
theorem q_str {x j pos} : QE γ X (.Constant (.str x) j pos) (HL.dC (.str x)) := q_c (fun _ => trivial) fun _ => pe_str
theorem q_ty {x : Str} {n : String} (hg : Gl X x) (hm : X.mg x = none) (hv : bootBuiltins x = some (.type n)) (hn : x ≠ "__name__" := by decide) (hd : (x == ("__debug__" : Str)) = false := by decide) : QE γ X (.Name x pos) (HL.dC (.ty n)) := q_c (fun _ => trivial) fun _ => pe_bltn hg hm hv rfl hn hd
def OpS (K : PySem.W.Frag) (γ : Str → Addr) (r : R2) (f : HL.O2) : Prop := ∀ ρ h H x y Q, SimH K γ ρ h H → wf h.length x → wf h.length y → OrQ K γ ρ h H (f x y h) Q → r (renW γ ρ x) (renW γ ρ y) H Q
def NewOk2 (f : HL.O2) : Prop := ∀ x y h, newOk (f x y h) = true
theorem op2_of {r : R2} {f : HL.O2} (hs : OpS X.K γ r f) (nw : NewOk2 f) (σ : St) (H : Hp) (Q : VK) (x : eE X.K γ (HL.dOp f da db) σ H Q) : tOp r (eE X.K γ da) (eE X.K γ db) σ H Q := by
  obtain ⟨ρ, s, h, S, x⟩ := x
  refine ⟨ρ, s, h, S, GoodR.bind x fun v h1 ρ1 H1 _ n1 S1 w1 x1 => ?_⟩
  refine ⟨ρ1, s, h1, S.next n1 S1, GoodR.bind x1 fun u h2 ρ2 H2 _ n2 S2 w2 x2 => ?_⟩
  rw [ren_ag w1 n2.ag]
  exact hs ρ2 h2 H2 v u Q S2 (w1.mono n2.le) w2 (fin_q S2 (nw _ _ _) x2)
theorem q_op {op : Operator} {r : R2} {f : HL.O2} (ho : OpR X (binaryOp op) r) (hs : OpS X.K γ r f) (nw : NewOk2 f) (ha : QE γ X a da) (hb : QE γ X b db) : QE γ X (.BinOp a op b pos) (HL.dOp f da db) :=
  (pe_op ho ha hb).imp (op2_of hs nw)
theorem q_cmp {op : CmpOp} {r : R2} {f : HL.O2} (ho : OpR X (compareOp op) r) (hs : OpS X.K γ r f) (nw : NewOk2 f) (ha : QE γ X a da) (hb : QE γ X b db) (hm : behindInMarks op b = false) : QE γ X (.Compare a [op] [b] pos) (HL.dOp f da db) :=
  (pe_cmpR ho ha hb hm).imp (op2_of hs nw)
theorem q_ix {r : R2} {f : HL.O2} (ho : IxR X r) (hs : OpS X.K γ r f) (nw : NewOk2 f) (ha : QE γ X a da) (hb : QE γ X b db) (hp : PlainIx b) : QE γ X (.Subscript a b pos) (HL.dOp f da db) :=
  (pe_ix ho ha hb hp).imp (op2_of hs nw)
def UnS (K : PySem.W.Frag) (γ : Str → Addr) (r : V → Hp → VK → Prop) (f : HL.O1) : Prop := ∀ ρ h H x Q, SimH K γ ρ h H → wf h.length x → OrQ K γ ρ h H (f x h) Q → r (renW γ ρ x) H Q
theorem q_un {op : UnaryOp} {r : V → Hp → VK → Prop} {f : HL.O1} (ho : UnR X (unaryOp op) r) (hs : UnS X.K γ r f) (nw : ∀ x h, newOk (f x h) = true) (ha : QE γ X a da) : QE γ X (.UnaryOp op a pos) (HL.dUn f da) :=
  (pe_un ho ha).imp fun σ H Q x => by
    obtain ⟨ρ, s, h, S, x⟩ := x
    refine ⟨ρ, s, h, S, GoodR.bind x fun v h1 ρ1 H1 _ n1 S1 w1 x1 => ?_⟩
    exact hs ρ1 h1 H1 v Q S1 w1 (fin_q S1 (nw _ _) x1)
theorem qa_nil : QA γ X [] HL.dNil := pa_nil.imp fun σ H Q ⟨ρ, s, h, S, x⟩ => x ρ H (Nxt.refl _ _) S.hp fun _ z => by cases z
theorem qa_cons {es : List Expr} {d : DA} (ha : QE γ X e de) (hr : QA γ X es d) (hs : starEach (e :: es) X.env = (false, eval e X.env) :: starEach es X.env := by rfl) : QA γ X (e :: es) (HL.dCons de d) :=
  (pa_cons ha hr hs).imp fun σ H Q x => by
    obtain ⟨ρ, s, h, S, x⟩ := x
    refine ⟨ρ, s, h, S, GoodR.bind x fun v h1 ρ1 H1 _ n1 S1 w1 x1 => ?_⟩
    refine ⟨ρ1, s, h1, S.next n1 S1, GoodR.bind x1 fun us h2 ρ2 H2 _ n2 S2 w2 x2 => ?_⟩
    rw [ren_ag w1 n2.ag]
    exact x2 ρ2 H2 (Nxt.refl _ _) S2 fun y hy => by
      rcases List.mem_cons.mp hy with rfl | hy
      · exact w1.mono n2.le
      · exact w2 y hy
def CbS (K : PySem.W.Frag) (γ : Str → Addr) (r : List V → Hp → VK → Prop) (f : List W → Sh → OR) : Prop := ∀ ρ h H xs Q, SimH K γ ρ h H → wfs h.length xs → OrQ K γ ρ h H (f xs h) Q → r (xs.map (renW γ ρ)) H Q
theorem cb_of {r : List V → Hp → VK → Prop} {f : List W → Sh → OR} {d : DA} (hs : CbS X.K γ r f) (nw : ∀ x h, newOk (f x h) = true) (σ : St) (H : Hp) (Q : VK) (x : eE X.K γ (HL.dB f d) σ H Q) : tCB r (eA X.K γ d) σ H Q := by
  obtain ⟨ρ, s, h, S, x⟩ := x
  refine ⟨ρ, s, h, S, GoodR.bind x fun v h1 ρ1 H1 _ n1 S1 w1 x1 => ?_⟩
  exact hs ρ1 h1 H1 v Q S1 w1 (fin_q S1 (nw _ _) x1)
theorem q_callB {x : Str} {id : String} {p : Pos} {es : List Expr} {d : DA} {r : List V → Hp → VK → Prop} {f : List W → Sh → OR} (hc : CallR X (.builtin id) r) (hs : CbS X.K γ r f) (nw : ∀ x h, newOk (f x h) = true) (hg : Gl X x) (hm : X.mg x = none) (hv : bootBuiltins x = some (.builtin id)) (ha : QA γ X (e :: es) d)
    (hn : x ≠ "__name__" := by decide) (hdb : (x == ("__debug__" : Str)) = false := by decide) (he : starEach (e :: es) X.env = (false, eval e X.env) :: starEach es X.env := by rfl) (hpl : (backTo pos (starEach es X.env)).any (·.1) = false := by rfl) :
    QE γ X (.Call (.Name x p) (e :: es) [] pos) (HL.dB f d) := (pe_callB hc hg hm hv ha hn hdb he hpl).imp (cb_of hs nw)
theorem q_callTy {x : Str} {T : String} {p : Pos} {es : List Expr} {d : DA} {r : List V → Hp → VK → Prop} {f : List W → Sh → OR} (hc : CallR X (.type T) r) (hs : CbS X.K γ r f) (nw : ∀ x h, newOk (f x h) = true) (hg : Gl X x) (hm : X.mg x = none) (hv : bootBuiltins x = some (.type T)) (ha : QA γ X (e :: es) d)
    (hn : x ≠ "__name__" := by decide) (hdb : (x == ("__debug__" : Str)) = false := by decide) (he : starEach (e :: es) X.env = (false, eval e X.env) :: starEach es X.env := by rfl) (hpl : (backTo pos (starEach es X.env)).any (·.1) = false := by rfl) :
    QE γ X (.Call (.Name x p) (e :: es) [] pos) (HL.dB f d) := (pe_callTy hc hg hm hv ha hn hdb he hpl).imp (cb_of hs nw)
theorem lim_line {n : Nat} (h : n ≤ HL.LIM) : n ≤ sizeLine := by
  have : HL.LIM = 100000 := rfl
  rw [sizeLine_eq]; omega
theorem q_lst {es : List Expr} {d : DA} (ha : QA γ X es d) : QE γ X (.List es pos) (HL.dB HL.bLst d) :=
  (pe_lst ha).imp fun σ H Q x => by
    obtain ⟨ρ, s, h, S, x⟩ := x
    refine ⟨ρ, s, h, S, GoodR.bind x fun v h1 ρ1 H1 _ n1 S1 w1 x1 => ?_⟩
    unfold HL.bLst at x1
    split at x1
    · rename_i hl
      exact ⟨by rw [List.length_map]; exact lim_line hl, fin_q S1 rfl x1 w1⟩
    · exact x1.elim
theorem q_tup {x1} {es : List Expr} {d : DA} (ha : QA γ X es d) : QE γ X (.Tuple es x1 pos) (HL.dB HL.bTup d) :=
  (pe_tup ha).imp fun σ H Q x => by
    obtain ⟨ρ, s, h, S, x⟩ := x
    refine ⟨ρ, s, h, S, GoodR.bind x fun v h1 ρ1 H1 _ n1 S1 w1 x1 => ?_⟩
    unfold HL.bTup at x1
    split at x1
    · rename_i hl
      exact ⟨by rw [List.length_map]; exact lim_line hl, fin_q S1 rfl x1 w1⟩
    · exact x1.elim
def tTrv (K : PySem.W.Frag) (ta : TE) : TT := fun σ H Q => ta σ H fun x H' => ∃ k, TruV K x H' k ∧ Q k H'
theorem tru_of (σ : St) (H : Hp) (Q : Bool → Hp → Prop) (x : eT X.K γ (HL.dT da) σ H Q) : tTrv X.K (eE X.K γ da) σ H Q := by
  obtain ⟨ρ, s, h, S, x⟩ := x
  refine ⟨ρ, s, h, S, GoodR.bind x fun v h1 ρ1 H1 _ n1 S1 w1 x1 => ?_⟩
  have fin : ∀ b, HL.truW v h1 = some b → Q b H1 := fun b e => by
    simp only [e] at x1
    exact x1 ρ1 H1 (Nxt.refl _ _) S1 trivial
  cases v with
  | non => exact ⟨_, rfl, fin _ rfl⟩
  | bl b => exact ⟨_, rfl, fin _ rfl⟩
  | int i => exact ⟨_, rfl, fin _ rfl⟩
  | str y =>
    by_cases hl : y.length ≤ HL.LIM
    · exact ⟨_, ⟨lim_line hl, rfl⟩, fin _ (if_pos hl)⟩
    · simp only [HL.truW, if_neg hl] at x1
      exact x1.elim
  | ref i =>
    cases q : h1[i]? with
    | none => simp only [HL.truW, q] at x1; exact x1.elim
    | some o =>
      have ob := S1.ob i o q
      cases o with
      | lst xs => exact ⟨_, .inl ⟨_, SqL.of ob, rfl⟩, by have := fin (!xs.isEmpty) (by simp only [HL.truW, q]); simpa using this⟩
      | rol xs => exact ⟨_, .inl ⟨_, (show RoL _ _ _ _ from ob).sq, rfl⟩, by have := fin (!xs.isEmpty) (by simp only [HL.truW, q]); simpa using this⟩
      | tup xs => exact ⟨_, .inr (.inl ⟨_, ob, rfl⟩), by have := fin (!xs.isEmpty) (by simp only [HL.truW, q]); simpa using this⟩
      | ins c fs => simp only [HL.truW, q] at x1; exact x1.elim
      | exc c fs => simp only [HL.truW, q] at x1; exact x1.elim
  | ty n => exact x1.elim
  | gl n => exact x1.elim
theorem qt_e (ha : QE γ X a da) (he : ∀ whole, isTrue a X.env whole = (do let v ← whole; standAt a.pos; holding [v] (truthy v)) := by intro _; rfl) : QT γ X a (HL.dT da) := (pt_truth ha he).imp tru_of
theorem test_of {t : TE} (ht : ∀ σ H Q, eE X.K γ da σ H Q → t σ H Q) (σ : St) (H : Hp) (Q : Bool → Hp → Prop) (x : eT X.K γ (HL.dT da) σ H Q) (bo : ∀ s h v h', da s h = .ok v h' → ∃ k, v = .bl k) : tTest t σ H Q := by
  obtain ⟨ρ, s, h, S, x⟩ := x
  refine ht σ H _ ⟨ρ, s, h, S, GoodR.bind x fun v h1 ρ1 H1 e n1 S1 w1 x1 => ?_⟩
  obtain ⟨k, rfl⟩ := bo _ _ _ _ e
  exact ⟨k, rfl, x1 ρ1 H1 (Nxt.refl _ _) S1 trivial⟩
def Bo (f : HL.O2) : Prop := ∀ x y h, f x y h = .er ∨ ∃ k, f x y h = .val (.bl k)
theorem Bo.op {f : HL.O2} (b : Bo f) : ∀ s h v h', HL.dOp f da db s h = .ok v h' → ∃ k, v = .bl k := fun s h v h' e => by
  unfold HL.dOp HL.R.bind at e
  cases ea : da s h with
  | ok x h1 =>
    rw [ea] at e
    simp only at e
    cases eb : db s h1 with
    | ok y h2 =>
      rw [eb] at e
      simp only at e
      rcases b x y h2 with z | ⟨k, z⟩
      · rw [z] at e; cases e
      · rw [z] at e; cases e; exact ⟨k, rfl⟩
    | ex => rw [eb] at e; cases e
    | er => rw [eb] at e; cases e
  | ex => rw [ea] at e; cases e
  | er => rw [ea] at e; cases e
theorem qt_cmp {op : CmpOp} {r : R2} {f : HL.O2} (ho : OpR X (compareOp op) r) (hs : OpS X.K γ r f) (nw : NewOk2 f) (bo : Bo f) (ha : QE γ X a da) (hb : QE γ X b db) (hm : behindInMarks op b = false) : QT γ X (.Compare a [op] [b] pos) (HL.dT (HL.dOp f da db)) :=
  (pt_cmpR ho ha hb hm).imp fun σ H Q x => test_of (op2_of hs nw) σ H Q x bo.op
section
variable {dA dB : DT} {rest : List Expr}
theorem not_of (σ : St) (H : Hp) (Q : Bool → Hp → Prop) (x : eT X.K γ (HL.tNot dA) σ H Q) : tNot (eT X.K γ dA) σ H Q := by
  obtain ⟨ρ, s, h, S, x⟩ := x
  exact ⟨ρ, s, h, S, GoodR.bind x fun k h1 ρ1 H1 _ n1 S1 w1 x1 => x1 ρ1 H1 (Nxt.refl _ _) S1 trivial⟩
theorem qt_not (ha : QT γ X a dA) : QT γ X (.UnaryOp .Not a pos) (HL.tNot dA) := (pt_not ha).imp not_of
theorem and_of (σ : St) (H : Hp) (Q : Bool → Hp → Prop) (x : eT X.K γ (HL.tAnd dA dB) σ H Q) : tAnd (eT X.K γ dA) (eT X.K γ dB) σ H Q := by
  obtain ⟨ρ, s, h, S, x⟩ := x
  refine ⟨ρ, s, h, S, GoodR.bind x fun k h1 ρ1 H1 _ n1 S1 w1 x1 => ?_⟩
  cases k with
  | true => exact ⟨ρ1, s, h1, S.next n1 S1, x1⟩
  | false => exact x1 ρ1 H1 (Nxt.refl _ _) S1 trivial
theorem or_of (σ : St) (H : Hp) (Q : Bool → Hp → Prop) (x : eT X.K γ (HL.tOr dA dB) σ H Q) : tOr (eT X.K γ dA) (eT X.K γ dB) σ H Q := by
  obtain ⟨ρ, s, h, S, x⟩ := x
  refine ⟨ρ, s, h, S, GoodR.bind x fun k h1 ρ1 H1 _ n1 S1 w1 x1 => ?_⟩
  cases k with
  | false => exact ⟨ρ1, s, h1, S.next n1 S1, x1⟩
  | true => exact x1 ρ1 H1 (Nxt.refl _ _) S1 trivial
theorem qw_and1 (ha : QT γ X a dA) : QW γ X (.BoolOp .And [a] pos) dA := pw_and1 ha
theorem qw_or1 (ha : QT γ X a dA) : QW γ X (.BoolOp .Or [a] pos) dA := pw_or1 ha
theorem qw_and (ha : QT γ X a dA) (hb : QW γ X (.BoolOp .And (b :: rest) pos) dB) : QW γ X (.BoolOp .And (a :: b :: rest) pos) (HL.tAnd dA dB) := (pw_and ha hb).imp and_of
theorem qw_or (ha : QT γ X a dA) (hb : QW γ X (.BoolOp .Or (b :: rest) pos) dB) : QW γ X (.BoolOp .Or (a :: b :: rest) pos) (HL.tOr dA dB) := (pw_or ha hb).imp or_of
theorem qt_w (h : QW γ X a dA) : QT γ X a dA := h _
theorem q_one {op} (h : QE γ X a da) : QE γ X (.BoolOp op [a] pos) da := pe_one h
theorem q_and (ha : QE γ X a da) (hb : QE γ X (.BoolOp .And (b :: rest) pos) db) : QE γ X (.BoolOp .And (a :: b :: rest) pos) (HL.dAnd da db) := (pe_and ha hb).imp fun σ H Q x => by
  obtain ⟨ρ, s, h, S, x⟩ := x
  refine ⟨ρ, s, h, S, GoodR.bind x fun v h1 ρ1 H1 _ n1 S1 w1 x1 => ?_⟩
  cases v with
  | bl k =>
    refine ⟨k, rfl, ?_⟩
    cases k with
    | true => exact ⟨ρ1, s, h1, S.next n1 S1, x1⟩
    | false => exact x1 ρ1 H1 (Nxt.refl _ _) S1 trivial
  | _ => exact x1.elim
theorem q_or (ha : QE γ X a da) (hb : QE γ X (.BoolOp .Or (b :: rest) pos) db) : QE γ X (.BoolOp .Or (a :: b :: rest) pos) (HL.dOr da db) := (pe_or ha hb).imp fun σ H Q x => by
  obtain ⟨ρ, s, h, S, x⟩ := x
  refine ⟨ρ, s, h, S, GoodR.bind x fun v h1 ρ1 H1 _ n1 S1 w1 x1 => ?_⟩
  cases v with
  | bl k =>
    refine ⟨k, rfl, ?_⟩
    cases k with
    | false => exact ⟨ρ1, s, h1, S.next n1 S1, x1⟩
    | true => exact x1 ρ1 H1 (Nxt.refl _ _) S1 trivial
  | _ => exact x1.elim
theorem q_not (ha : QE γ X a da) : QE γ X (.UnaryOp .Not a pos) (HL.dNot da) := (pe_not ha).imp fun σ H Q x => by
  obtain ⟨ρ, s, h, S, x⟩ := x
  refine ⟨ρ, s, h, S, GoodR.bind x fun v h1 ρ1 H1 _ n1 S1 w1 x1 => ?_⟩
  cases v with
  | bl k => exact ⟨k, rfl, x1 ρ1 H1 (Nxt.refl _ _) S1 trivial⟩
  | _ => exact x1.elim
theorem q_if (hc : QT γ X c dA) (ha : QE γ X a da) (hb : QE γ X b db) : QE γ X (.IfExp c a b pos) (HL.dIf dA da db) := (pe_ifExp hc ha hb).imp fun σ H Q x => by
  obtain ⟨ρ, s, h, S, x⟩ := x
  refine ⟨ρ, s, h, S, GoodR.bind x fun k h1 ρ1 H1 _ n1 S1 w1 x1 => ?_⟩
  cases k with
  | true => exact ⟨ρ1, s, h1, S.next n1 S1, x1⟩
  | false => exact ⟨ρ1, s, h1, S.next n1 S1, x1⟩
end
theorem chain_of {r r' : R2} {f g : HL.O2} (hs : OpS X.K γ r f) (nw : NewOk2 f) (bo : Bo f) (hs' : OpS X.K γ r' g) (nw' : NewOk2 g) (σ : St) (H : Hp) (Q : VK) (x : eE X.K γ (HL.dChain f g da db dc) σ H Q) : tChain r r' (eE X.K γ da) (eE X.K γ db) (eE X.K γ dc) σ H Q := by
  obtain ⟨ρ, s, h, S, x⟩ := x
  refine ⟨ρ, s, h, S, GoodR.bind x fun v h1 ρ1 H1 _ n1 S1 w1 x1 => ?_⟩
  refine ⟨ρ1, s, h1, S.next n1 S1, GoodR.bind x1 fun u h2 ρ2 H2 _ n2 S2 w2 x2 => ?_⟩
  have T2 := (S.next n1 S1).next n2 S2
  rw [ren_ag w1 n2.ag]
  refine hs ρ2 h2 H2 v u _ S2 (w1.mono n2.le) w2 ?_
  rcases bo v u h2 with z | ⟨k, z⟩
  · rw [z] at x2; exact x2.elim
  · rw [z] at x2 ⊢
    intro _
    refine ⟨k, rfl, ?_⟩
    cases k with
    | false => exact x2 ρ2 H2 (Nxt.refl _ _) S2 trivial
    | true =>
      have x2' : GoodV X.K γ ρ2 h2 ((dc s h2).bind fun w h => (g u w h).fin h) Q := x2
      refine ⟨ρ2, s, h2, T2, GoodR.bind x2' fun t h3 ρ3 H3 _ n3 S3 w3 x3 => ?_⟩
      rw [ren_ag w2 n3.ag]
      exact hs' ρ3 h3 H3 u t Q S3 (w2.mono n3.le) w3 (fin_q S3 (nw' _ _ _) x3)
theorem q_chain {op op' : CmpOp} {r r' : R2} {f g : HL.O2} (ho : OpR X (compareOp op) r) (hs : OpS X.K γ r f) (nw : NewOk2 f) (bo : Bo f) (ho' : OpR X (compareOp op') r') (hs' : OpS X.K γ r' g) (nw' : NewOk2 g) (ha : QE γ X a da) (hb : QE γ X b db) (hc : QE γ X c dc)
    (hm : lastMarks [op, op'] [b, c] = false := by with_unfolding_all rfl) : QE γ X (.Compare a [op, op'] [b, c] pos) (HL.dChain f g da db dc) := (pe_chain ho ho' ha hb hc hm).imp (chain_of hs nw bo hs' nw')
theorem qo_none : QO γ X none HL.dNoPart := po_none.imp fun σ H Q ⟨ρ, s, h, S, x⟩ => x ρ H (Nxt.refl _ _) S.hp trivial
theorem qo_some (ha : QE γ X a da) : QO γ X (some a) (HL.dPart da) := (po_some ha).imp fun σ H Q x => by
  obtain ⟨ρ, s, h, S, x⟩ := x
  refine ⟨ρ, s, h, S, GoodR.bind x fun v h1 ρ1 H1 _ n1 S1 w1 x1 => ?_⟩
  cases v with
  | int i => exact ⟨i, rfl, x1 ρ1 H1 (Nxt.refl _ _) S1 trivial⟩
  | _ => exact x1.elim
theorem sIx_eq (n d : Nat) (o : Option Int) : HL.sIx n d o = HT.sIx n d o := by
  cases o with
  | none => rfl
  | some i =>
    rfl
theorem cut_eq (γ : Str → Addr) (ρ : Nat → Addr) (xs : List W) (lo hi : Option Int) : (HL.cutW xs lo hi).map (renW γ ρ) = cutV (xs.map (renW γ ρ)) lo hi := by
  unfold HL.cutW cutV
  rw [List.map_take, List.map_drop, List.length_map, sIx_eq, sIx_eq]
theorem wf_cut {n : Nat} {xs : List W} (w : wfs n xs) (lo hi : Option Int) : wfs n (HL.cutW xs lo hi) := fun x hx => w x (List.mem_of_mem_drop (List.mem_of_mem_take hx))
def rSlB (K : PySem.W.Frag) : V → Option Int → Option Int → Hp → VK → Prop := fun x lo hi H Q => rSlL K x lo hi H Q ∨ rSlT K x lo hi H Q
theorem sl_both : SlR X (rSlB X.K) := sl_list.or sl_tup
theorem q_sl {lo hi : Option Expr} {dl dh : HL.DO} {p2 : Pos} (ha : QE γ X a da) (hl : QO γ X lo dl) (hu : QO γ X hi dh) : QE γ X (.Subscript a (.Slice lo hi none p2) pos) (HL.dSl da dl dh) := (pe_slice sl_both ha hl hu).imp fun σ H Q x => by
  obtain ⟨ρ, s, h, S, x⟩ := x
  refine ⟨ρ, s, h, S, GoodR.bind x fun v h1 ρ1 H1 _ n1 S1 w1 x1 => ?_⟩
  refine ⟨ρ1, s, h1, S.next n1 S1, GoodR.bind x1 fun l h2 ρ2 H2 _ n2 S2 w2 x2 => ?_⟩
  refine ⟨ρ2, s, h2, (S.next n1 S1).next n2 S2, GoodR.bind x2 fun u h3 ρ3 H3 _ n3 S3 w3 x3 => ?_⟩
  rw [ren_ag w1 n2.ag, ren_ag (w1.mono n2.le) n3.ag]
  unfold HL.oSl at x3
  split at x3
  · rename_i xs e
    obtain ⟨i, rfl, q, w⟩ := lstW_sq S3 e
    refine .inl ⟨_, _, rfl, q, fun p hp => ?_⟩
    rw [← cut_eq]
    exact fin_q S3 rfl x3 (wf_cut w _ _) p hp
  · split at x3
    · rename_i xs e
      obtain ⟨i, rfl, q, w⟩ := tupW_sq S3 e
      split at x3
      · exact x3.elim
      · rename_i ne
        refine .inr ⟨_, _, rfl, q, ?_, fun p hp => ?_⟩
        · rw [List.length_map, ← sIx_eq, ← sIx_eq]; exact ne
        · rw [← cut_eq]
          exact fin_q S3 rfl x3 (wf_cut w _ _) p hp
    · exact x3.elim
end
end L2
namespace L2
open PySem PySem.Spec PyProof.Rows
open HL (W SO Sh Sg OR DE DT DA DS Fn)
def spF (K : PySem.W.Frag) (γ : Str → Addr) (p : Nat) (f : Fn) : Sp := fun vs H Q _ => vs.length = p ∧ ∃ ρ h us, SimH K γ ρ h H ∧ wfs h.length us ∧ vs = us.map (renW γ ρ) ∧ GoodV K γ ρ h (f us h) Q
section
variable {X : Cx} {γ : Str → Addr} {a b c e : Expr} {da db dc de : DE} {pos : Pos}
theorem call_of {f : Fn} {p : Nat} {d : DA} (hp : ∀ us h v h', f us h = .ok v h' → us.length = p) (σ : St) (H : Hp) (Q : VK) (x : eE X.K γ (HL.dCall f d) σ H Q) : tCall (spF X.K γ p f) [] E0 (eA X.K γ d) σ H Q := by
  obtain ⟨ρ, s, h, S, x⟩ := x
  refine ⟨ρ, s, h, S, GoodR.bind x fun us h1 ρ1 H1 _ n1 S1 w1 x1 => ?_⟩
  rw [List.append_nil]
  refine ⟨?_, ρ1, h1, us, S1, w1, rfl, x1⟩
  rw [List.length_map]
  cases q : f us h1 with
  | ok v h' => exact hp _ _ _ _ q
  | ex => rw [q] at x1; exact x1.elim
  | er => rw [q] at x1; exact x1.elim
theorem fnOf_len {p n : Nat} {b : DS} {us : List W} {h : Sh} {v : W} {h' : Sh} (e : HL.fnOf p n b us h = .ok v h') : us.length = p := by
  unfold HL.fnOf at e
  split at e
  · assumption
  · cases e
theorem q_call {x : Str} {k p n : Nat} {bd : DS} {ps : List Str} {pp : Pos} {es : List Expr} {d : DA} (D : Def X.prog X.w X.K X.mg X.base k x ps (spF X.K γ p (HL.fnOf p n bd))) (hr : Room k X.A) (hg : Gl X x) (ha : QA γ X (e :: es) d) (hdb : (x == ("__debug__" : Str)) = false := by decide)
    (he : starEach (e :: es) X.env = (false, eval e X.env) :: starEach es X.env := by rfl) (hpl : (backTo pos (starEach es X.env)).any (·.1) = false := by rfl) : QE γ X (.Call (.Name x pp) (e :: es) [] pos) (HL.dCall (HL.fnOf p n bd) d) :=
  (pe_def D hr hg ha hdb he hpl).imp (call_of fun _ _ _ _ => fnOf_len)
theorem qs_nil : QSs γ X [] HL.sNx := pss_nil.imp fun D σ H ⟨ρ, s, h, S, x⟩ => by rw [S.eq]; exact x ρ H (Nxt.refl _ _) S.hp S.ws
theorem seq_of' {d1 d2 : DS} (D : Ends) (σ : St) (H : Hp) (x : eS X.K γ (HL.sSeq d1 d2) D σ H) : tSeq (eS X.K γ d1) (eS X.K γ d2) D σ H := by
  obtain ⟨ρ, s, h, S, x⟩ := x
  refine ⟨ρ, s, h, S, ?_⟩
  unfold HL.sSeq at x
  cases q : d1 s h with
  | nx s1 h1 =>
    rw [q] at x
    exact fun ρ1 H1 n1 S1 w1 => ⟨ρ1, s1, h1, ⟨S1, w1, rfl⟩, GoodC.later x n1⟩
  | rt v h1 => rw [q] at x; exact x
  | bk s1 h1 => rw [q] at x; exact x
  | ct s1 h1 => rw [q] at x; exact x
  | ex => rw [q] at x; exact x.elim
  | er => rw [q] at x; exact x.elim
theorem qs_cons {st : Stmt} {rest : List Stmt} {d1 d2 : DS} (h1 : QS γ X st d1) (h2 : QSs γ X rest d2) : QSs γ X (st :: rest) (HL.sSeq d1 d2) := (pss_cons h1 h2).imp seq_of'
theorem qs_one {st : Stmt} {d1 : DS} (h1 : QS γ X st d1) : QSs γ X [st] d1 := pss_one h1
theorem qs_never {st : Stmt} : QS γ X st HL.sNever := ps_never.imp fun D σ H ⟨ρ, s, h, S, x⟩ => x.elim
theorem qs_ret (he : QE γ X e de) : QS γ X (.Return (some e) pos) (HL.sRet de) := (ps_ret he).imp fun D σ H ⟨ρ, s, h, S, x⟩ => by
  refine ⟨ρ, s, h, S, ?_⟩
  unfold HL.sRet at x
  cases q : de s h with
  | ok v h1 => rw [q] at x; exact x
  | ex => rw [q] at x; exact x.elim
  | er => rw [q] at x; exact x.elim
theorem qs_expr (he : QE γ X e de) (hs : swapsWith e none pos.line X.env = pure false := by rfl) : QS γ X (.Expr e pos) (HL.sDrop de) := (ps_expr he hs).imp fun D σ H ⟨ρ, s, h, S, x⟩ => by
  refine ⟨ρ, s, h, S, ?_⟩
  unfold HL.sDrop at x
  cases q : de s h with
  | ok v h1 =>
    rw [q] at x
    intro ρ1 H1 n1 S1 w1
    have z := x ρ1 H1 n1 S1 (S.ws.mono n1.le)
    rw [(S.next n1 S1).eq]; exact z
  | ex => rw [q] at x; exact x.elim
  | er => rw [q] at x; exact x.elim
theorem wf_set {n i : Nat} {s : Sg} {v : W} (w : wfS n s) (wv : wf n v) : wfS n (s.set i (some v)) := fun y hy => by
  rcases List.mem_or_eq_of_mem_set hy with z | z
  · exact w y z
  · cases z; exact wv
theorem renS_set {ρ : Nat → Addr} {i : Nat} {s : Sg} {v : W} : renS γ ρ (s.set i (some v)) = (renS γ ρ s).set i (some (renW γ ρ v)) := by
  unfold renS
  rw [List.map_set]
  rfl
theorem qs_set {i : Nat} {x : Str} {pos' : Pos} (hN : X.N.Nodup) (hi : X.N[i]? = some x) (hx : Loc X.env.scope x) (he : QE γ X e de) (hs : swapsWith e (some (.Name x pos')) pos.line X.env = pure false := by rfl) (hf : X.fn x = true ∨ X.env.scope.names.lookup x = some .local := by first | exact .inl rfl | exact .inr rfl | assumption) :
    QS γ X (.Assign [.Name x pos'] e pos) (HL.sSet i de) := (ps_set hN hi hx he hs hf).imp fun D σ H ⟨ρ, s, h, S, x⟩ => by
  refine ⟨ρ, s, h, S, ?_⟩
  unfold HL.sSet at x
  cases q : de s h with
  | ok v h1 =>
    rw [q] at x
    intro ρ1 H1 n1 S1 w1
    have z := x ρ1 H1 n1 S1 (wf_set (S.ws.mono n1.le) w1)
    rw [renS_set, ← (S.next n1 S1).eq] at z
    exact z
  | ex => rw [q] at x; exact x.elim
  | er => rw [q] at x; exact x.elim
theorem qs_if {dc : DT} {d1 d2 : DS} {s1 s2 : List Stmt} (hc : QT γ X c dc) (ha : QSs γ X s1 d1) (hb : QSs γ X s2 d2) : QS γ X (.If c s1 s2 pos) (HL.sIf dc d1 d2) := (ps_if hc ha hb).imp fun D σ H ⟨ρ, s, h, S, x⟩ => by
  refine ⟨ρ, s, h, S, ?_⟩
  unfold HL.sIf at x
  cases q : dc s h with
  | ok k h1 =>
    rw [q] at x
    intro ρ1 H1 n1 S1 w1
    cases k with
    | true => exact ⟨ρ1, s, h1, S.next n1 S1, GoodC.later x n1⟩
    | false => exact ⟨ρ1, s, h1, S.next n1 S1, GoodC.later x n1⟩
  | ex => rw [q] at x; exact x.elim
  | er => rw [q] at x; exact x.elim
theorem ix_eq (n : Nat) (i : Int) : HL.ixW n i = ixN n i := rfl
theorem qs_sub {o i : Expr} {d1 d2 : DE} {p2 : Pos} (he : QE γ X e de) (ho : QE γ X o d1) (hi : QE γ X i d2)
    (ha : ∀ v, assign (.Subscript o i p2) X.env v = (do
      let ov ← holding [v] (eval o X.env)
      let iv ← holding [v, ov] (eval i X.env)
      standAt p2
      holding [v, ov, iv] (setItem ov iv v)
      release [v, ov, iv] []) := by intro _; rfl)
    (hs : swapsWithSole [.Subscript o i p2] e pos.line X.env = pure false := by rfl) (hw : swappedStores [.Subscript o i p2] e X.env = pure none := by rfl)
    (h1 : (assignEach [.Subscript o i p2] X.env).map (·.2) = [assign (.Subscript o i p2) X.env] := by rfl) : QS γ X (.Assign [.Subscript o i p2] e pos) (HL.sSub d1 d2 de) :=
  (ps_asg he (pg_sub ho hi set_list ha) hs hw h1).imp fun D σ H ⟨ρ, s, h, S, x⟩ => by
  unfold HL.sSub at x
  refine ⟨ρ, s, h, S, ?_⟩
  cases q : de s h with
  | ok v h1 =>
    rw [q] at x
    intro ρ1 H1 n1 S1 w1
    have T1 := S.next n1 S1
    refine ⟨ρ1, s, h1, T1, ?_⟩
    simp only [HL.R.bind] at x
    cases q2 : d1 s h1 with
    | ok xo h2 =>
      rw [q2] at x
      intro ρ2 H2 n2 S2 w2
      have T2 := T1.next n2 S2
      refine ⟨ρ2, s, h2, T2, ?_⟩
      simp only at x
      cases q3 : d2 s h2 with
      | ok y h3 =>
        rw [q3] at x
        intro ρ3 H3 n3 S3 w3
        have T3 := T2.next n3 S3
        simp only at x
        cases xo with
        | ref pp =>
          cases y with
          | int k =>
            simp only at x
            cases q4 : h3[pp]? with
            | none => rw [q4] at x; exact x.elim
            | some ob =>
              rw [q4] at x
              cases ob with
              | lst xs =>
                simp only at x
                cases q5 : HL.ixW xs.length k with
                | none => rw [q5] at x; exact x.elim
                | some j =>
                  rw [q5] at x
                  have ob := S3.ob pp _ q4
                  have wv := (w1.mono n2.le).mono n3.le
                  refine ⟨ρ2 pp, xs.map (renW γ ρ3), k, j, rfl, rfl, ?_, by rw [List.length_map]; exact q5, ?_⟩
                  · rw [n3.ag pp w2]; exact ob
                  · have S4 : SimH X.K γ ρ3 (h3.set pp (.lst (xs.set j v))) (upd H3 (ρ3 pp) (.lst ((xs.set j v).map (renW γ ρ3)))) := S3.chg q4 rfl rfl (by
                      intro y hy
                      rcases List.mem_or_eq_of_mem_set hy with z | z
                      · exact S3.wf pp _ q4 y z
                      · cases z; exact wv) upd_same
                    have z := x ρ3 _ (((n1.trans n2).trans n3).trans (Nxt.chg _ _ _ _)) S4 (by rw [List.length_set]; exact T3.ws)
                    rw [← T3.eq] at z
                    rw [n3.ag pp w2, ren_ag w1 (n2.trans n3).ag, ← List.map_set]
                    exact z
              | _ => exact x.elim
          | _ => exact x.elim
        | _ => exact x.elim
      | ex => rw [q3] at x; exact x.elim
      | er => rw [q3] at x; exact x.elim
    | ex => rw [q2] at x; exact x.elim
    | er => rw [q2] at x; exact x.elim
  | ex => rw [q] at x; exact x.elim
  | er => rw [q] at x; exact x.elim
def eG (K : PySem.W.Frag) (γ : Str → Addr) (d : HL.DG) : TG := fun v σ H Q => ∃ ρ s h w, Sim K γ ρ s h σ H ∧ v = renW γ ρ w ∧ wf h.length w ∧ ∃ s', d w s h = some s' ∧ (wfS h.length s' → Q (renS γ ρ s') H)
abbrev QG (γ : Str → Addr) (X : Cx) (e : Expr) (d : HL.DG) : Prop := PG X e (eG X.K γ d)
theorem PG.imp {X : Cx} {e : Expr} {t t' : TG} (h : PG X e t) (i : ∀ v σ H Q, t' v σ H Q → t v σ H Q) : PG X e t' := fun pins s σ H v u Q I r hw => h pins s σ H v u Q I r (i _ _ _ _ hw)
theorem qg_name {i : Nat} {x : Str} (hN : X.N.Nodup) (hi : X.N[i]? = some x) (hx : Loc X.env.scope x) (hf : X.fn x = true ∨ X.env.scope.names.lookup x = some .local := by first | exact .inl rfl | exact .inr rfl | assumption) : QG γ X (.Name x pos) (HL.gName i) :=
  (pg_name hN hi hx hf).imp fun v σ H Q ⟨ρ, s, h, w, S, e, ww, s', e', q⟩ => by
    cases e'
    have z := q (wf_set S.ws ww)
    rw [renS_set, ← S.eq, ← e] at z
    exact z
def gNames : List Nat → TGs
  | [] => gNil
  | i :: is => gCons (gName i) (gNames is)
theorem gNames_of {γ : Str → Addr} {ρ : Nat → Addr} {H : Hp} {Q : St → Hp → Prop} : ∀ (is : List Nat) (xs : List W) (s : Sg), xs.length = is.length → Q (renS γ ρ (HL.setAll is xs s)) H → gNames is (xs.map (renW γ ρ)) (renS γ ρ s) H Q
  | [], [], s, _, q => ⟨rfl, q⟩
  | i :: is, x :: xs, s, e, q => by
    refine ⟨_, _, rfl, ?_⟩
    show gNames is _ ((renS γ ρ s).set i (some _)) H Q
    rw [← renS_set]
    exact gNames_of is xs _ (by simpa using e) q
theorem wf_setAll {n : Nat} : ∀ (is : List Nat) (xs : List W) (s : Sg), wfS n s → wfs n xs → wfS n (HL.setAll is xs s)
  | [], [], s, w, _ => w
  | [], _ :: _, s, w, _ => w
  | _ :: _, [], s, w, _ => w
  | i :: is, x :: xs, s, w, wx => wf_setAll is xs _ (wf_set w (wx x List.mem_cons_self)) fun y hy => wx y (List.mem_cons_of_mem _ hy)
theorem qg_tup {es : List Expr} {k : Nat} {is : List Nat} (hc : X.calm = true) (h : PGs X es (gNames is)) (hn : (assignEach es X.env).length = is.length := by rfl) (hst : (assignEach es X.env).findIdx? (·.1) = none := by rfl) : QG γ X (.Tuple es k pos) (HL.gTup is) :=
  (pg_tup (n := is.length) hc h hn hst).imp fun v σ H Q ⟨ρ, s, h, w, S, e, ww, s', e', q⟩ => by
    unfold HL.gTup at e'
    split at e'
    · rename_i xs q1
      split at e'
      · rename_i hl
        cases e'
        obtain ⟨i, rfl, sq, wx⟩ := tupW_sq S.hp q1
        refine ⟨ρ i, _, e, sq, by rw [List.length_map]; exact hl, ?_⟩
        rw [S.eq]
        exact gNames_of is xs s hl (q (wf_setAll is xs s S.ws wx))
      · cases e'
    · cases e'
def iSq (K : PySem.W.Frag) (tl : TE) : TI := fun σ H R => tl σ H fun x H1 => ∃ a, x = .ref a ∧ ((∃ xs, SqL K H1 a xs) ∧ R (Itl K a) H1 ∨ (∃ xs, SqT K H1 a xs) ∧ R (Itt K a) H1)
theorem pi_sq {tg l : Expr} {tl : TE} (hl : PE X l tl) : PI X tg l (iSq X.K tl) := by
  intro pins s σ H R I h
  refine thn (hl pins s σ H _ I h) fun v s1 ⟨x, H1, I1, r1, q1⟩ => ?_
  obtain ⟨a, e, q⟩ := q1
  subst e
  cases r1
  rcases q with ⟨⟨xs, hq⟩, q⟩ | ⟨⟨xs, hq⟩, q⟩
  · obtain ⟨its, rv, p, hz⟩ := I1.list hq
    refine wpAny_pyIter_list p.isList ?_
    refine ⟨s1.heap.objs.size, [s1.heap.objs.size], _, _, H1, rfl, I1.kept (t' := s1.toks) fun b o e => Heap.get?_push_of_some _ e, turn_list a _, ⟨_, Heap.get?_push_size _ rfl, rfl, rfl⟩, fun b hb => ?_, q⟩
    have e : b = s1.heap.objs.size := by simpa using hb
    subst e
    exact I1.fpOk (Nat.le_refl _) (I1.hok.fresh (Nat.le_refl _))
  · obtain ⟨its, rv, p, hz⟩ := I1.tuple hq
    refine wpAny_pyIter_tuple (show s1.heap.IsTuple a its.toArray from p) ?_
    refine ⟨s1.heap.objs.size, [s1.heap.objs.size], _, _, H1, rfl, I1.kept (t' := s1.toks) fun b o e => Heap.get?_push_of_some _ e, turn_tuple a _, ⟨_, Heap.get?_push_size _ rfl, rfl, rfl⟩, fun b hb => ?_, q⟩
    have e : b = s1.heap.objs.size := by simpa using hb
    subst e
    exact I1.fpOk (Nat.le_refl _) (I1.hok.fresh (Nat.le_refl _))
def Wlk (K : PySem.W.Frag) (γ : Str → Addr) (J : It) (t : HL.It) (h₀ : Sh) (ρ₀ : Nat → Addr) : Prop := wfs h₀.length t.items ∧ ∀ ρ h H, Nxt h₀ ρ₀ h ρ → SimH K γ ρ h H → t.stays h → ∀ i : Nat,
  (t.items.length ≤ i → J.stop i H) ∧ ∀ x, t.items[i]? = some x → J.go i H ∧ ∀ v H', J.yld i H v H' → H' = H ∧ v = renW γ ρ x
def eI (K : PySem.W.Frag) (γ : Str → Addr) (d : HL.DI) : TI := fun σ H R => ∃ ρ s h, Sim K γ ρ s h σ H ∧ (match d s h with
  | .ok t h1 => ∀ ρ1 H1 J, Nxt h ρ h1 ρ1 → SimH K γ ρ1 h1 H1 → t.stays h1 → Wlk K γ J t h1 ρ1 → R J H1
  | _ => False)
abbrev QI (γ : Str → Addr) (X : Cx) (tg e : Expr) (d : HL.DI) : Prop := PI X tg e (eI X.K γ d)
theorem PI.imp {X : Cx} {tg e : Expr} {t t' : TI} (h : PI X tg e t) (i : ∀ σ H Q, t' σ H Q → t σ H Q) : PI X tg e t' := fun pins s σ H R I hw => h pins s σ H R I (i _ _ _ hw)
theorem qi_seq {tg : Expr} (ha : QE γ X a da) : QI γ X tg a (HL.iSeq da) := (pi_sq ha).imp fun σ H R ⟨ρ, s, h, S, x⟩ => by
  refine ⟨ρ, s, h, S, ?_⟩
  unfold HL.iSeq at x
  cases q : da s h with
  | ok v h1 =>
    rw [q] at x
    simp only [HL.R.bind] at x
    intro ρ1 H1 n1 S1 w1
    cases v with
    | ref i =>
      simp only at x
      refine ⟨ρ1 i, rfl, ?_⟩
      cases q3 : HL.lstW h1 (.ref i) with
      | some xs =>
        rw [q3] at x
        obtain ⟨j, e, sq, w⟩ := lstW_sq S1 q3
        cases e
        refine .inl ⟨⟨_, sq⟩, x ρ1 H1 _ n1 S1 q3 ⟨w, fun ρ2 h2 H2 n2 S2 st k => ?_⟩⟩
        obtain ⟨j, e, sq2, w2⟩ := lstW_sq S2 (show HL.lstW h2 (.ref i) = some xs from st)
        cases e
        rw [← n2.ag i w1] at sq2
        refine ⟨fun le => ⟨_, sq2, by rw [List.length_map]; exact le⟩, fun y hy => ?_⟩
        have e2 : (xs.map (renW γ ρ2))[k]? = some (renW γ ρ2 y) := by rw [List.getElem?_map, show xs[k]? = some y from hy]; rfl
        exact ⟨⟨_, _, sq2, e2⟩, fun v H' ⟨e, u⟩ => ⟨e, (Option.some.inj ((u _ sq2).symm.trans e2))⟩⟩
      | none =>
        rw [q3] at x
        simp only at x
        cases q4 : HL.tupW h1 (.ref i) with
        | none => rw [q4] at x; exact x.elim
        | some xs =>
          rw [q4] at x
          obtain ⟨j, e, sq, w⟩ := tupW_sq S1 q4
          cases e
          refine .inr ⟨⟨_, sq⟩, x ρ1 H1 _ n1 S1 q4 ⟨w, fun ρ2 h2 H2 n2 S2 st k => ?_⟩⟩
          obtain ⟨j, e, sq2, w2⟩ := tupW_sq S2 (show HL.tupW h2 (.ref i) = some xs from st)
          cases e
          rw [← n2.ag i w1] at sq2
          refine ⟨fun le => ⟨_, sq2, by rw [List.length_map]; exact le⟩, fun y hy => ?_⟩
          have e2 : (xs.map (renW γ ρ2))[k]? = some (renW γ ρ2 y) := by rw [List.getElem?_map, show xs[k]? = some y from hy]; rfl
          exact ⟨⟨_, _, sq2, e2⟩, fun v H' ⟨e, u⟩ => ⟨e, (Option.some.inj ((u _ sq2).symm.trans e2))⟩⟩
    | _ => exact x.elim
  | ex => rw [q] at x; exact x.elim
  | er => rw [q] at x; exact x.elim
theorem wlk_range {K : PySem.W.Frag} (lo : Int) (n : Nat) (h : Sh) (ρ : Nat → Addr) : Wlk K γ (Itr lo n) (.fix (HL.rangeW lo n)) h ρ := by
  have len : (HL.rangeW lo n).length = n := by unfold HL.rangeW; rw [List.length_map, List.length_range]
  refine ⟨fun y hy => ?_, fun ρ2 h2 H2 n2 S2 st k => ⟨fun le => ?_, fun y hy => ?_⟩⟩
  · obtain ⟨k, _, rfl⟩ := List.mem_map.mp hy
    exact trivial
  · have le' : (HL.rangeW lo n).length ≤ k := le
    rw [len] at le'
    exact le'
  · have hy' : (HL.rangeW lo n)[k]? = some y := hy
    have hk : k < n := by
      have := (List.getElem?_eq_some_iff.mp hy').1
      rw [len] at this; exact this
    unfold HL.rangeW at hy'
    rw [List.getElem?_map, List.getElem?_range hk] at hy'
    cases hy'
    exact ⟨hk, fun v H' ⟨e, u⟩ => ⟨e, u⟩⟩
theorem qi_range1 {tg : Expr} {p : Pos} (hg : Gl X "range") (hm : X.mg "range" = none) (ha : QE γ X a da) (hs : starEach [a] X.env = [(false, eval a X.env)] := by rfl) : QI γ X tg (.Call (.Name "range" p) [a] [] pos) (HL.iRange1 da) :=
  (pi_range1 hg hm (qa_cons ha qa_nil hs) hs).imp fun σ H R ⟨ρ, s, h, S, x⟩ => by
  refine ⟨ρ, s, h, S, ?_⟩
  unfold HL.iRange1 at x
  unfold HL.dCons HL.dNil
  cases q : da s h with
  | ok v h1 =>
    rw [q] at x
    simp only [HL.R.bind] at x
    intro ρ1 H1 n1 S1 w1
    cases v with
    | int j =>
      by_cases hj : -(2 ^ 62) ≤ j ∧ j < 2 ^ 62
      · simp only [if_pos hj] at x
        exact ⟨j, rfl, hj.1, hj.2, x ρ1 H1 _ n1 S1 trivial (wlk_range _ _ _ _)⟩
      · simp only [if_neg hj] at x
    | _ => exact x.elim
  | ex => rw [q] at x; exact x.elim
  | er => rw [q] at x; exact x.elim
theorem for_of {di : HL.DI} {g : HL.DG} {bd : DS} (D : Ends) (σ : St) (H : Hp) (x : eS X.K γ (HL.sFor di g bd) D σ H) : tFor (eI X.K γ di) (eG X.K γ g) (eS X.K γ bd) D σ H := by
  obtain ⟨ρ, s, h, S, x⟩ := x
  unfold HL.sFor at x
  refine ⟨ρ, s, h, S, ?_⟩
  cases q : di s h with
  | ex => rw [q] at x; exact x.elim
  | er => rw [q] at x; exact x.elim
  | ok t h1 =>
    rw [q] at x
    simp only at x
    intro ρ1 H1 J n1 S1 st ⟨wi, wl⟩
    have T1 := S.next n1 S1
    let St' : Nat → St → Hp → Prop := fun i σ' H' => i ≤ t.items.length ∧ ∃ ρ2 s2 h2, Sim X.K γ ρ2 s2 h2 σ' H' ∧ Nxt h1 ρ1 h2 ρ2 ∧ t.stays h2 ∧ GoodC X.K γ ρ2 h2 (HL.forW t g bd (t.items.drop i) s2 h2) D
    refine ⟨fun i m σ' H' => m = t.items.length - i ∧ St' i σ' H', ⟨_, rfl, Nat.zero_le _, ρ1, s, h1, T1, Nxt.refl _ _, st, GoodC.later x n1⟩, ?_⟩
    rintro i m σ' H' ⟨rfl, hi, ρ2, s2, h2, T2, n2, st2, g2⟩
    obtain ⟨w1, w2⟩ := wl ρ2 h2 H' n2 T2.hp st2 i
    cases e : t.items[i]? with
    | none =>
      have hl : t.items.length ≤ i := List.getElem?_eq_none_iff.mp e
      rw [List.drop_eq_nil_of_le hl] at g2
      refine .inl ⟨w1 hl, ?_⟩
      have z := g2 ρ2 H' (Nxt.refl _ _) T2.hp T2.ws
      rw [T2.eq]; exact z
    | some y =>
      obtain ⟨hlt, ey⟩ := List.getElem?_eq_some_iff.mp e
      obtain ⟨go, yl⟩ := w2 y e
      refine .inr ⟨go, St' (i + 1), fun σ3 H3 z => ⟨_, by omega, rfl, z⟩, fun v H3 hv => ?_⟩
      obtain ⟨rfl, rfl⟩ := yl v H3 hv
      rw [List.drop_eq_getElem_cons hlt, ey] at g2
      unfold HL.forW at g2
      have wy : wf h2.length y := (wi y (List.mem_of_getElem? e)).mono n2.le
      cases q3 : g y s2 h2 with
      | none => rw [q3] at g2; exact g2.elim
      | some s3 =>
        rw [q3] at g2
        simp only at g2
        refine ⟨ρ2, s2, h2, y, T2, rfl, wy, s3, q3, fun w3 => ⟨ρ2, s3, h2, ⟨T2.hp, w3, rfl⟩, ?_⟩⟩
        cases q4 : bd s3 h2 with
        | nx s4 h4 =>
          rw [q4] at g2
          simp only at g2
          split at g2
          · rename_i st4
            exact fun ρ4 H4 n4 S4 w4 => ⟨hlt, ρ4, s4, h4, ⟨S4, w4, rfl⟩, n2.trans n4, st4, GoodC.later g2 n4⟩
          · exact g2.elim
        | ct s4 h4 =>
          rw [q4] at g2
          simp only at g2
          split at g2
          · rename_i st4
            exact fun ρ4 H4 n4 S4 w4 => ⟨hlt, ρ4, s4, h4, ⟨S4, w4, rfl⟩, n2.trans n4, st4, GoodC.later g2 n4⟩
          · exact g2.elim
        | bk s4 h4 => rw [q4] at g2; exact g2
        | rt v4 h4 => rw [q4] at g2; exact g2
        | ex => rw [q4] at g2; exact g2.elim
        | er => rw [q4] at g2; exact g2.elim
theorem qs_for {tg iter : Expr} {body : List Stmt} {di : HL.DI} {g : HL.DG} {bd : DS} (hp : PassesOwn (model X.prog X.w) X.A X.env X.xe) (hc : X.calm = true) (hi : QI γ X tg iter di) (hg : QG γ X tg g) (hb : QSs γ X body bd)
    (hs : ∀ x, foldedSetIterable iter X.env x = pure x := by intro _; rfl) : QS γ X (.For tg iter body [] pos) (HL.sFor di g bd) := (ps_for hp hc hi hg hb hs).imp for_of
end
theorem renS_start {γ : Str → Addr} {ρ : Nat → Addr} (N : List Str) (us : List W) : start N (us.map (renW γ ρ)) = renS γ ρ (HL.start N.length us) := by
  unfold start renS HL.start
  rw [List.map_append, List.map_map, List.map_map, List.map_replicate, List.length_map]
  rfl
theorem wf_start {n m : Nat} {us : List W} (w : wfs n us) : wfS n (HL.start m us) := fun x hx => by
  unfold HL.start at hx
  rcases List.mem_append.mp hx with z | z
  · obtain ⟨y, hy, e⟩ := List.mem_map.mp z
    cases e; exact w _ hy
  · cases (List.mem_replicate.mp z).2
theorem fn_good {K : PySem.W.Frag} {γ : Str → Addr} {ρ : Nat → Addr} {h : Sh} {H : Hp} {N : List Str} {us : List W} {bd : DS} {Q : VK} {p : Nat} (S : SimH K γ ρ h H) (w : wfs h.length us) (x : GoodV K γ ρ h (HL.fnOf p N.length bd us h) Q) :
    eS K γ bd { nx := fun _ H' => Q .non H', rt := Q } (start N (us.map (renW γ ρ))) H := by
  refine ⟨ρ, HL.start N.length us, h, ⟨S, wf_start w, renS_start N us⟩, ?_⟩
  unfold HL.fnOf at x
  split at x
  · cases q : bd (HL.start N.length us) h with
    | nx s' h' => rw [q] at x; exact fun ρ1 H1 n1 S1 _ => x ρ1 H1 n1 S1 trivial
    | rt v h' => rw [q] at x; exact fun ρ1 H1 n1 S1 w1 => x ρ1 H1 n1 S1 w1
    | bk => rw [q] at x; exact x.elim
    | ct => rw [q] at x; exact x.elim
    | ex => rw [q] at x; exact x.elim
    | er => rw [q] at x; exact x.elim
  · exact x.elim
section
variable {P : Program} {w : World} {K : PySem.W.Frag} {mg : Str → Option Value} {base : Heap} {γ : Str → Addr}
theorem TopFn.qdef {x : Str} {st : Stmt} {N ps : List Str} {k p n : Nat} {bd : DS} (F : TopFn K mg x st) (S : FnScope N ps (defScope st)) (hp : ps.length = p) (hn : N.length = n)
    (hb : ∀ (kV doc pm : Value) (an : Option Addr) (cdv ct : Value) (us : List Value), us.length = ps.length → bindArgs (PySem.W.fnOf x x (defArgs st) (defBody st) (defScope st) .none kV doc pm an cdv ct) ⟨us, []⟩ = pure (ps.zip us))
    (hbody : ∀ (f : Addr) (cdv : Value) (A : Around) (outer : List Env) (s : Shared) (H : Hp) (E : XK), Room k (A.deeper (envOfC x (defScope st) s.heap.objs.size f cdv)) →
      QSs γ (cxOf CX0 P w K mg base N x (defScope st) f cdv A outer s H E).nox (defBody st) bd) : Def P w K mg base (k + 1) x ps (spF K γ p (HL.fnOf p n bd)) :=
  F.mk_def S hb (fun vs H Q E h => h.1.trans hp.symm) fun f cdv A outer s H vs Q E hr h => ⟨_, hbody f cdv A outer s H E hr, by
    obtain ⟨_, ρ, hh, us, S, wu, e, x⟩ := h
    rw [e]
    subst hn
    exact fn_good S wu x⟩
end
end L2
namespace L2
open PySem PySem.Spec PyProof.Rows
open HL (W SO Sh Sg OR DE DT DA DS Fn)
section
variable {X : Cx} {K : PySem.W.Frag} {γ : Str → Addr}
theorem os_int {c : Int → Int → Bool} {C : Int → Int → Prop} {f : Int → Int → Int} (hc : ∀ i j, c i j = true → C i j) : OpS K γ (rI C fun i j => .int (f i j)) (HL.oInt c f) := by
  intro ρ h H x y Q S wx wy q
  cases x with
  | int i =>
    cases y with
    | int j =>
      unfold HL.oInt at q
      simp only at q
      split at q
      · rename_i z; exact ⟨i, j, rfl, rfl, hc i j z, q trivial⟩
      · exact q.elim
    | _ => exact q.elim
  | _ => cases y <;> exact q.elim
theorem nw_int {c : Int → Int → Bool} {f : Int → Int → Int} : NewOk2 (HL.oInt c f) := by
  intro x y h
  unfold HL.oInt
  cases x <;> cases y <;> first | rfl | (simp only; split <;> rfl)
theorem os_cmp {p : Int → Int → Bool} : OpS K γ (rI0 fun i j => .bl (p i j)) (HL.oCmp p) := by
  intro ρ h H x y Q S wx wy q
  cases x with
  | int i =>
    cases y with
    | int j => exact ⟨i, j, rfl, rfl, q trivial⟩
    | _ => exact q.elim
  | _ => cases y <;> exact q.elim
theorem bo_cmp {p : Int → Int → Bool} : Bo (HL.oCmp p) := by
  intro x y h
  unfold HL.oCmp
  cases x <;> cases y <;> first | exact .inl rfl | exact .inr ⟨_, rfl⟩
theorem Bo.nw {f : HL.O2} (b : Bo f) : NewOk2 f := fun x y h => by
  rcases b x y h with z | ⟨k, z⟩ <;> rw [z] <;> rfl
def rAddA (K : PySem.W.Frag) : R2 := fun x y H Q => (rI0 (fun i j => .int (i + j)) x y H Q) ∨ (∃ i j, x = .str i ∧ y = .str j ∧ i.length + j.length ≤ sizeLine ∧ Q (.str (i ++ j)) H) ∨ rCat x y H Q ∨ rCatT K x y H Q
theorem op_addA : OpR X (binaryOp .Add) (rAddA X.K) := op_add.or (op_add_str.or (op_cat.or op_catT))
theorem os_add : OpS K γ (rAddA K) HL.oAdd := by
  intro ρ h H x y Q S wx wy q
  cases x with
  | int i =>
    cases y with
    | int j => exact .inl ⟨i, j, rfl, rfl, q trivial⟩
    | _ => exact q.elim
  | str i =>
    cases y with
    | str j =>
      unfold HL.oAdd at q
      simp only at q
      split at q
      · rename_i z; exact .inr (.inl ⟨i, j, rfl, rfl, lim_line z, q trivial⟩)
      · exact q.elim
    | _ => exact q.elim
  | ref i =>
    cases y with
    | ref j =>
      unfold HL.oAdd at q
      simp only at q
      split at q
      · rename_i xs ys e1 e2
        split at q
        · rename_i z
          refine .inr (.inr (.inl ⟨ρ i, ρ j, xs.map (renW γ ρ), ys.map (renW γ ρ), rfl, rfl, S.ob i _ e1, S.ob j _ e2, by rw [List.length_map, List.length_map]; exact lim_line z, fun p hp => ?_⟩))
          rw [← List.map_append]
          refine q ?_ p hp
          intro y hy
          rcases List.mem_append.mp hy with z | z
          · exact S.wf i _ e1 y z
          · exact S.wf j _ e2 y z
        · exact q.elim
      · rename_i xs ys e1 e2
        split at q
        · rename_i z
          refine .inr (.inr (.inr ⟨ρ i, ρ j, xs.map (renW γ ρ), ys.map (renW γ ρ), rfl, rfl, S.ob i _ e1, S.ob j _ e2, ?_, by rw [List.length_map, List.length_map]; exact lim_line z.1, fun ey => ?_, fun ey p hp => ?_⟩))
          · intro e; exact z.2 (List.map_eq_nil_iff.mp e)
          · rw [if_pos (List.map_eq_nil_iff.mp ey)] at q
            exact q wx
          · rw [if_neg (fun e => ey (by rw [e]; rfl))] at q
            rw [← List.map_append]
            refine q ?_ p hp
            intro y hy
            rcases List.mem_append.mp hy with z | z
            · exact S.wf i _ e1 y z
            · exact S.wf j _ e2 y z
        · exact q.elim
      · exact q.elim
    | _ => exact q.elim
  | _ => cases y <;> exact q.elim
theorem nw_add : NewOk2 HL.oAdd := by
  intro x y h
  unfold HL.oAdd
  cases x <;> cases y <;> first | rfl | (simp only; repeat' (first | rfl | split))
def rMulA : R2 := fun x y H Q => rI CMul (fun i j => .int (i * j)) x y H Q ∨ rRep x y H Q
theorem op_mulA : OpR X (binaryOp .Mult) rMulA := op_mul.or op_rep
theorem mulOk_c {i j : Int} (h : HL.mulOk i j = true) : CMul i j := by
  unfold HL.mulOk at h
  rcases (Bool.or_eq_true _ _).mp h with z | z
  · have := of_decide_eq_true z
    exact .inl ⟨by omega, by omega⟩
  · have := of_decide_eq_true z
    exact .inr ⟨by omega, by omega⟩
theorem os_mul : OpS K γ rMulA HL.oMul := by
  intro ρ h H x y Q S wx wy q
  cases x with
  | int i =>
    cases y with
    | int j =>
      unfold HL.oMul at q
      simp only at q
      split at q
      · rename_i z; exact .inl ⟨i, j, rfl, rfl, mulOk_c z, q trivial⟩
      · exact q.elim
    | _ => exact q.elim
  | ref i =>
    cases y with
    | int k =>
      unfold HL.oMul at q
      simp only at q
      split at q
      · rename_i xs e
        split at q
        · rename_i z
          refine .inr ⟨ρ i, k, xs.map (renW γ ρ), rfl, rfl, S.ob i _ e, by omega, by omega, by rw [List.length_map]; exact lim_line z.2.2, fun p hp => ?_⟩
          have e2 : (List.replicate k.toNat (xs.map (renW γ ρ))).flatten = ((List.replicate k.toNat xs).flatten).map (renW γ ρ) := by rw [List.map_flatten, List.map_replicate]
          first
            | rw [e2]; exact q (fun y hy => by
                obtain ⟨l, hl, hy⟩ := List.mem_flatten.mp hy
                rw [(List.mem_replicate.mp hl).2] at hy
                exact S.wf i _ e y hy) p hp
            | skip
        · exact q.elim
      · exact q.elim
    | _ => exact q.elim
  | _ => cases y <;> exact q.elim
theorem nw_mul : NewOk2 HL.oMul := by
  intro x y h
  unfold HL.oMul
  cases x <;> cases y <;> first | rfl | (simp only; repeat' (first | rfl | split))
theorem os_isN : OpS K γ (fun x y H Q => y = .non ∧ Q (.bl (decide (x = .non))) H) HL.oIs := by
  intro ρ h H x y Q S wx wy q
  unfold HL.oIs at q
  cases y with
  | non => exact ⟨rfl, by have := q trivial; cases x <;> exact this⟩
  | _ => exact q.elim
theorem os_notN : OpS K γ (fun x y H Q => y = .non ∧ Q (.bl (!decide (x = .non))) H) HL.oIsNot := by
  intro ρ h H x y Q S wx wy q
  unfold HL.oIsNot at q
  cases y with
  | non => exact ⟨rfl, by have := q trivial; cases x <;> exact this⟩
  | _ => exact q.elim
theorem bo_is : Bo HL.oIs := by
  intro x y h; unfold HL.oIs; cases y <;> first | exact .inl rfl | exact .inr ⟨_, rfl⟩
theorem bo_isnot : Bo HL.oIsNot := by
  intro x y h; unfold HL.oIsNot; cases y <;> first | exact .inl rfl | exact .inr ⟨_, rfl⟩
theorem flat_eq (ρ : Nat → Addr) (x : W) (h : HL.flatW x = true) : flatV (renW γ ρ x) = true := by cases x <;> first | rfl | cases h
theorem eqW_eq (ρ : Nat → Addr) (x y : W) (hx : HL.flatW x = true) (hy : HL.flatW y = true) : HL.eqW x y = eqV (renW γ ρ x) (renW γ ρ y) := by
  cases x <;> cases y <;> first | rfl | cases hx | cases hy
theorem inW_eq (ρ : Nat → Addr) (x : W) (hx : HL.flatW x = true) : ∀ xs : List W, xs.all HL.flatW = true → HL.inW x xs = inV (renW γ ρ x) (xs.map (renW γ ρ)) ∧ (xs.map (renW γ ρ)).all flatV = true
  | [], _ => ⟨rfl, rfl⟩
  | y :: ys, h => by
    rw [List.all_cons, Bool.and_eq_true] at h
    obtain ⟨a, b⟩ := inW_eq ρ x hx ys h.2
    unfold HL.inW inV at a ⊢
    rw [List.map_cons, List.any_cons, List.any_cons, a, eqW_eq (γ := γ) ρ y x h.1 hx, List.all_cons, flat_eq ρ y h.1, b]
    exact ⟨rfl, rfl⟩
theorem os_in : OpS K γ (rIn K false) HL.oIn := by
  intro ρ h H x y Q S wx wy q
  unfold HL.oIn at q
  split at q
  · rename_i xs e
    split at q
    · rename_i z
      obtain ⟨i, rfl, sq, w⟩ := seqW_sq S e
      obtain ⟨z1, z2⟩ := (Bool.and_eq_true _ _).mp z
      obtain ⟨a, b⟩ := inW_eq (γ := γ) ρ x z1 xs z2
      exact ⟨ρ i, _, rfl, sq, flat_eq ρ x z1, b, by have := q trivial; rw [a] at this; exact this⟩
    · exact q.elim
  · exact q.elim
theorem os_notIn : OpS K γ (rIn K true) HL.oNotIn := by
  intro ρ h H x y Q S wx wy q
  unfold HL.oNotIn at q
  split at q
  · rename_i xs e
    split at q
    · rename_i z
      obtain ⟨i, rfl, sq, w⟩ := seqW_sq S e
      obtain ⟨z1, z2⟩ := (Bool.and_eq_true _ _).mp z
      obtain ⟨a, b⟩ := inW_eq (γ := γ) ρ x z1 xs z2
      exact ⟨ρ i, _, rfl, sq, flat_eq ρ x z1, b, by have := q trivial; rw [a] at this; exact this⟩
    · exact q.elim
  · exact q.elim
theorem bo_in : Bo HL.oIn := by
  intro x y h; unfold HL.oIn; split
  · split
    · exact .inr ⟨_, rfl⟩
    · exact .inl rfl
  · exact .inl rfl
theorem bo_notIn : Bo HL.oNotIn := by
  intro x y h; unfold HL.oNotIn; split
  · split
    · exact .inr ⟨_, rfl⟩
    · exact .inl rfl
  · exact .inl rfl
theorem os_ix : OpS K γ (rIx K) HL.oIx := by
  intro ρ h H x y Q S wx wy q
  unfold HL.oIx at q
  split at q
  · rename_i xs i e
    split at q
    · rename_i v ev
      obtain ⟨p, rfl, sq, w⟩ := seqW_sq S e
      unfold HL.atW at ev
      cases e2 : HL.ixW xs.length i with
      | none => rw [e2] at ev; cases ev
      | some j =>
        rw [e2] at ev
        have ev' : xs[j]? = some v := ev
        have at_ : atI (xs.map (renW γ ρ)) i = some (renW γ ρ v) := by
          unfold atI
          rw [List.length_map, ← ix_eq, e2]
          show (xs.map (renW γ ρ))[j]? = _
          rw [List.getElem?_map, ev']; rfl
        have qq := q (wf_get w ev')
        rcases sq with sq | sq
        · exact .inl ⟨_, _, i, _, rfl, rfl, sq, at_, qq⟩
        · exact .inr (.inl ⟨_, _, i, _, rfl, rfl, sq, at_, qq⟩)
    · exact q.elim
  · exact q.elim
theorem nw_ix : NewOk2 HL.oIx := by
  intro x y h; unfold HL.oIx; split
  · split <;> rfl
  · rfl
theorem us_neg : UnS K γ (rU fun i => .int (-i)) HL.oNeg := by
  intro ρ h H x Q S wx q
  cases x with
  | int i => exact ⟨i, rfl, q trivial⟩
  | _ => exact q.elim
theorem nw_neg (x : W) (h : Sh) : newOk (HL.oNeg x h) = true := by cases x <;> rfl
theorem cs_len : CbS K γ (fun xs H Q => ∃ x n, xs = [x] ∧ LenV K x H n ∧ Q (.int n) H) HL.bLen := by
  intro ρ h H xs Q S w q
  unfold HL.bLen at q
  split at q
  · rename_i y
    split at q
    · rename_i z; exact ⟨_, _, rfl, ⟨lim_line z, rfl⟩, q trivial⟩
    · exact q.elim
  · rename_i x ne
    split at q
    · rename_i ys e
      obtain ⟨p, rfl, sq, w⟩ := seqW_sq S e
      have qq := q trivial
      refine ⟨_, ys.length, rfl, ?_, qq⟩
      rcases sq with sq | sq
      · exact .inl ⟨_, sq, by rw [List.length_map]⟩
      · exact .inr ⟨_, sq, by rw [List.length_map]⟩
    · exact q.elim
  · exact q.elim
theorem nw_len (x : List W) (h : Sh) : newOk (HL.bLen x h) = true := by
  unfold HL.bLen; split
  · split <;> rfl
  · split <;> rfl
  · rfl
theorem cs_min2 : CbS K γ rMin2 HL.bMin2 := by
  intro ρ h H xs Q S w q
  unfold HL.bMin2 at q
  split at q
  · exact q trivial
  · exact q.elim
theorem nw_min2 (x : List W) (h : Sh) : newOk (HL.bMin2 x h) = true := by unfold HL.bMin2; split <;> rfl
theorem cs_int : CbS K γ rInt1 HL.bInt := by
  intro ρ h H xs Q S w q
  unfold HL.bInt at q
  split at q
  · exact q trivial
  · exact q trivial
  · exact q.elim
theorem nw_bint (x : List W) (h : Sh) : newOk (HL.bInt x h) = true := by unfold HL.bInt; split <;> rfl
theorem cs_list : CbS K γ (fun xs H Q => ∃ p ys, xs = [.ref p] ∧ (SqL K H p ys ∨ SqT K H p ys) ∧ ∀ l, H l = none → Q (.ref l) (upd H l (.lst ys))) HL.bList := by
  intro ρ h H xs Q S w q
  unfold HL.bList at q
  split at q
  · split at q
    · rename_i ys e
      obtain ⟨p, rfl, sq, w⟩ := seqW_sq S e
      exact ⟨_, _, rfl, sq, q w⟩
    · exact q.elim
  · exact q.elim
theorem nw_blist (x : List W) (h : Sh) : newOk (HL.bList x h) = true := by
  unfold HL.bList; split
  · split <;> rfl
  · rfl
theorem cs_tuple : CbS K γ (fun xs H Q => ∃ p ys, xs = [.ref p] ∧ ((SqL K H p ys ∧ ∀ l, H l = none → Q (.ref l) (upd H l (.tup ys))) ∨ (SqT K H p ys ∧ Q (.ref p) H))) HL.bTuple := by
  intro ρ h H xs Q S w q
  unfold HL.bTuple at q
  split at q
  · rename_i x
    split at q
    · rename_i ys e
      obtain ⟨p, rfl, sq, w⟩ := lstW_sq S e
      exact ⟨_, _, rfl, .inl ⟨sq, q w⟩⟩
    · split at q
      · rename_i ys e
        obtain ⟨p, rfl, sq, _⟩ := tupW_sq S e
        exact ⟨_, _, rfl, .inr ⟨sq, q (w _ (List.mem_singleton.mpr rfl))⟩⟩
      · exact q.elim
  · exact q.elim
theorem nw_btuple (x : List W) (h : Sh) : newOk (HL.bTuple x h) = true := by
  unfold HL.bTuple; split
  · split
    · rfl
    · split <;> rfl
  · rfl
end
end L2
namespace L2
open PySem PySem.Spec PyProof.Rows
open HL (W SO Sh Sg OR DE DT DA DS Fn)
def flatD : V → PyData → Prop
  | .non, d => d = .none
  | .bl b, d => d = .bool b
  | .int i, d => d = .int i
  | .str x, d => d = .str x
  | _, _ => False
def DatP (K : PySem.W.Frag) (H : Hp) : Nat → V → PyData → Prop
  | 0, x, d => flatD x d
  | n + 1, x, d => flatD x d ∨ ∃ a xs ds, x = .ref a ∧ Paired (DatP K H n) xs ds ∧ (SqL K H a xs ∧ d = .list ds ∨ SqT K H a xs ∧ d = .tuple ds)
section
variable {X : Cx} {pins : List (Addr × Obj)} {σ : St} {H : Hp} {s : Shared}
theorem reads_flat {x : V} {v : Value} {d : PyData} (h : flatD x d) (r : RelV x v) : ∃ as, Reads s.heap v d as := by
  cases x with
  | non => cases h; cases r; exact ⟨_, .none⟩
  | bl b => cases h; cases r; exact ⟨_, .bool b⟩
  | int i => cases h; obtain ⟨t, rfl⟩ := r; exact ⟨_, .int i t⟩
  | str y => cases h; obtain ⟨t, rfl⟩ := r; exact ⟨_, .str y t⟩
  | _ => cases h
theorem readsP_all {f : V → PyData → Prop} (hf : ∀ x v d, f x d → RelV x v → ∃ as, Reads s.heap v d as) : ∀ {xs : List V} {us : List Value} {ds : List PyData}, Vals xs us → Paired f xs ds → ∃ as, ReadsAll s.heap us ds as
  | _, _, _, .nil, .nil => ⟨_, .nil⟩
  | _, _, _, .cons r rs, .cons p ps => by
    obtain ⟨as, h1⟩ := hf _ _ _ p r
    obtain ⟨bs, h2⟩ := readsP_all hf rs ps
    exact ⟨_, .cons h1 h2⟩
theorem readsP (I : Inv X pins σ H s) : ∀ (n : Nat) (x : V) (v : Value) (d : PyData), DatP X.K H n x d → RelV x v → ∃ as, Reads s.heap v d as
  | 0, x, v, d, h, r => reads_flat h r
  | n + 1, x, v, d, h, r => by
    rcases h with h | ⟨a, xs, ds, rfl, p, ⟨sq, rfl⟩ | ⟨sq, rfl⟩⟩
    · exact reads_flat h r
    · cases r
      obtain ⟨its, rv, pl, _⟩ := I.list sq
      obtain ⟨o, m, ho, hc, _, hs⟩ := pl
      obtain ⟨as, ra⟩ := readsP_all (readsP I n) rv p
      exact ⟨_, .list ho hc hs ra⟩
    · cases r
      obtain ⟨its, rv, pl, _⟩ := I.tuple sq
      obtain ⟨o, ho, hc, m, hs⟩ := pl
      obtain ⟨as, ra⟩ := readsP_all (readsP I n) rv p
      exact ⟨_, .tuple ho hc hs ra⟩
def rEqP (K : PySem.W.Frag) (neg : Bool) : R2 := fun x y H Q => (scal x y = true ∧ Q (.bl (if neg then !decide (x = y) else decide (x = y))) H) ∨
  ∃ da db, DatP K H 8 x da ∧ DatP K H 8 y db ∧ SeqAt.shaped da = true ∧ SeqAt.shaped db = true ∧ Q (.bl (if neg then !PyData.eqv da db else PyData.eqv da db)) H
theorem op_eqP (hu : X.A.units + 64 < cLine) : OpR X (compareOp .Eq) (rEqP X.K false) := by
  intro pins s σ H x y v u Q I rx ry h
  rcases h with ⟨sc, q⟩ | ⟨da, db, h1, h2, s1, s2, q⟩
  · exact op_eq pins s σ H x y v u Q I rx ry ⟨sc, q⟩
  · obtain ⟨as, r1⟩ := readsP I 8 x v da h1 rx
    obtain ⟨bs, r2⟩ := readsP I 8 y u db h2 ry
    exact PyProof.Rows.eq_dataH r1 r2 s1 s2 hu ⟨.bl _, H, I, rfl, q⟩
theorem op_neP (hu : X.A.units + 64 < cLine) : OpR X (compareOp .NotEq) (rEqP X.K true) := by
  intro pins s σ H x y v u Q I rx ry h
  rcases h with ⟨sc, q⟩ | ⟨da, db, h1, h2, s1, s2, q⟩
  · exact op_ne pins s σ H x y v u Q I rx ry ⟨sc, q⟩
  · obtain ⟨as, r1⟩ := readsP I 8 x v da h1 rx
    obtain ⟨bs, r2⟩ := readsP I 8 y u db h2 ry
    exact PyProof.Rows.ne_dataH r1 r2 s1 s2 hu ⟨.bl _, H, I, rfl, q⟩
end
mutual
def toPy : HL.D → PyData
  | .non => .none
  | .bl b => .bool b
  | .int i => .int i
  | .str s => .str s
  | .lst xs => .list (toPys xs)
  | .tup xs => .tuple (toPys xs)
def toPys : List HL.D → List PyData
  | [] => []
  | x :: xs => toPy x :: toPys xs
end
mutual
theorem toPy_eq : ∀ a b : HL.D, PyData.eqv (toPy a) (toPy b) = HL.D.eq a b
  | .non, b => by cases b <;> simp only [toPy, PyData.eqv, HL.D.eq]
  | .bl _, b => by cases b <;> simp only [toPy, PyData.eqv, HL.D.eq]
  | .int _, b => by cases b <;> simp only [toPy, PyData.eqv, HL.D.eq]
  | .str _, b => by cases b <;> simp only [toPy, PyData.eqv, HL.D.eq]
  | .lst xs, b => by
    cases b with
    | lst ys => simp only [toPy, PyData.eqv, HL.D.eq]; exact toPys_eq xs ys
    | _ => simp only [toPy, PyData.eqv, HL.D.eq]
  | .tup xs, b => by
    cases b with
    | tup ys => simp only [toPy, PyData.eqv, HL.D.eq]; exact toPys_eq xs ys
    | _ => simp only [toPy, PyData.eqv, HL.D.eq]
theorem toPys_eq : ∀ xs ys : List HL.D, PyData.eqvAll (toPys xs) (toPys ys) = HL.D.eqs xs ys
  | [], ys => by cases ys <;> simp only [toPys, PyData.eqvAll, HL.D.eqs] <;> rfl
  | x :: xs, ys => by
    cases ys with
    | nil => simp only [toPys, PyData.eqvAll, HL.D.eqs]
    | cons y ys => simp only [toPys, PyData.eqvAll, HL.D.eqs]; rw [toPy_eq x y, toPys_eq xs ys]
end
section
variable {K : PySem.W.Frag} {γ : Str → Addr} {ρ : Nat → Addr} {h : Sh} {H : Hp}
theorem dats_of {n : Nat} {f : W → Option HL.D} (hf : ∀ x d, f x = some d → DatP K H n (renW γ ρ x) (toPy d) ∧ (toPy d).canLay0 = true ∧ (toPy d).depth ≤ n) :
    ∀ (xs : List W) (ds : List HL.D), HL.dats f xs = some ds → Paired (DatP K H n) (xs.map (renW γ ρ)) (toPys ds) ∧ PyData.canLayAll0 (toPys ds) = true ∧ PyData.depthAll (toPys ds) ≤ n
  | [], ds, e => by
    cases e
    exact ⟨.nil, by simp [toPys, PyData.canLayAll0], by simp [toPys, PyData.depthAll]⟩
  | x :: xs, ds, e => by
    unfold HL.dats at e
    cases q : f x with
    | none => rw [q] at e; cases e
    | some d =>
      rw [q] at e
      cases q2 : HL.dats f xs with
      | none => rw [q2] at e; cases e
      | some ds' =>
        rw [q2] at e
        cases e
        obtain ⟨a, b, c⟩ := hf x d q
        obtain ⟨a', b', c'⟩ := dats_of hf xs ds' q2
        refine ⟨?_, ?_, ?_⟩
        · simp only [toPys, List.map_cons]; exact .cons a a'
        · simp only [toPys, PyData.canLayAll0, b, b']; rfl
        · simp only [toPys, PyData.depthAll]; omega
theorem sOk_of {x : Str} (e : HL.sOk x = true) : PyData.strOk x = true := by
  unfold HL.sOk at e
  unfold PyData.strOk
  obtain ⟨_, e⟩ := (Bool.and_eq_true _ _).mp e
  rw [← Array.all_toList]
  exact e
theorem dat_of (S : SimH K γ ρ h H) : ∀ (n : Nat) (x : W) (d : HL.D), HL.dat n h x = some d → DatP K H n (renW γ ρ x) (toPy d) ∧ (toPy d).canLay0 = true ∧ (toPy d).depth ≤ n := by
  have fl : ∀ (n : Nat) (x : V) (d : PyData), flatD x d → DatP K H n x d := fun n x d f => by cases n <;> first | exact f | exact .inl f
  intro n
  induction n with
  | zero =>
    intro x d e
    cases x with
    | non => cases e; exact ⟨rfl, by simp [toPy, PyData.canLay0], by simp [toPy, PyData.depth]⟩
    | bl b => cases e; exact ⟨rfl, by simp [toPy, PyData.canLay0], by simp [toPy, PyData.depth]⟩
    | int i => cases e; exact ⟨rfl, by simp [toPy, PyData.canLay0], by simp [toPy, PyData.depth]⟩
    | str y =>
      unfold HL.dat at e
      split at e
      · rename_i ok; cases e; exact ⟨rfl, by simp [toPy, PyData.canLay0, sOk_of ok], by simp [toPy, PyData.depth]⟩
      · cases e
    | _ => cases e
  | succ n ih =>
    intro x d e
    cases x with
    | non => cases e; exact ⟨.inl rfl, by simp [toPy, PyData.canLay0], by simp [toPy, PyData.depth]⟩
    | bl b => cases e; exact ⟨.inl rfl, by simp [toPy, PyData.canLay0], by simp [toPy, PyData.depth]⟩
    | int i => cases e; exact ⟨.inl rfl, by simp [toPy, PyData.canLay0], by simp [toPy, PyData.depth]⟩
    | str y =>
      unfold HL.dat at e
      split at e
      · rename_i ok; cases e; exact ⟨.inl rfl, by simp [toPy, PyData.canLay0, sOk_of ok], by simp [toPy, PyData.depth]⟩
      · cases e
    | ref i =>
      unfold HL.dat at e
      cases q : h[i]? with
      | none => rw [q] at e; cases e
      | some o =>
        rw [q] at e
        have ob := S.ob i o q
        have go : ∀ xs ds, HL.dats (HL.dat n h) xs = some ds → (SqL K H (ρ i) (xs.map (renW γ ρ)) ∧ d = .lst ds ∨ SqT K H (ρ i) (xs.map (renW γ ρ)) ∧ d = .tup ds) → DatP K H (n + 1) (.ref (ρ i)) (toPy d) ∧ (toPy d).canLay0 = true ∧ (toPy d).depth ≤ n + 1 := fun xs ds e2 sq => by
          obtain ⟨a, b, c⟩ := dats_of ih xs ds e2
          rcases sq with ⟨sq, rfl⟩ | ⟨sq, rfl⟩
          · exact ⟨.inr ⟨_, _, _, rfl, a, .inl ⟨sq, by simp only [toPy]⟩⟩, by simp only [toPy, PyData.canLay0, b], by simp only [toPy, PyData.depth]; omega⟩
          · exact ⟨.inr ⟨_, _, _, rfl, a, .inr ⟨sq, by simp only [toPy]⟩⟩, by simp only [toPy, PyData.canLay0, b], by simp only [toPy, PyData.depth]; omega⟩
        cases o with
        | lst xs =>
          simp only at e
          cases q2 : HL.dats (HL.dat n h) xs with
          | none => rw [q2] at e; cases e
          | some ds => rw [q2] at e; cases e; exact go xs ds q2 (.inl ⟨SqL.of ob, rfl⟩)
        | rol xs =>
          simp only at e
          cases q2 : HL.dats (HL.dat n h) xs with
          | none => rw [q2] at e; cases e
          | some ds => rw [q2] at e; cases e; exact go xs ds q2 (.inl ⟨(show RoL _ _ _ _ from ob).sq, rfl⟩)
        | tup xs =>
          simp only at e
          cases q2 : HL.dats (HL.dat n h) xs with
          | none => rw [q2] at e; cases e
          | some ds => rw [q2] at e; cases e; exact go xs ds q2 (.inr ⟨ob, rfl⟩)
        | _ => cases e
    | _ => cases e
theorem eqH_of {x y : W} {b : Bool} (S : SimH K γ ρ h H) (e : HL.eqH x y h = some b) : (scal (renW γ ρ x) (renW γ ρ y) = true ∧ b = decide (renW γ ρ x = renW γ ρ y)) ∨
    ∃ da db, DatP K H 8 (renW γ ρ x) da ∧ DatP K H 8 (renW γ ρ y) db ∧ SeqAt.shaped da = true ∧ SeqAt.shaped db = true ∧ b = PyData.eqv da db := by
  have deep : (match HL.dat HL.DEEP h x, HL.dat HL.DEEP h y with | some a, some b => some (HL.D.eq a b) | _, _ => none) = some b → ∃ da db, DatP K H 8 (renW γ ρ x) da ∧ DatP K H 8 (renW γ ρ y) db ∧ SeqAt.shaped da = true ∧ SeqAt.shaped db = true ∧ b = PyData.eqv da db := fun e => by
    split at e
    · rename_i a c e1 e2
      cases e
      obtain ⟨d1, l1, p1⟩ := dat_of S 8 x a e1
      obtain ⟨d2, l2, p2⟩ := dat_of S 8 y c e2
      refine ⟨_, _, d1, d2, ?_, ?_, (toPy_eq a c).symm⟩
      · unfold SeqAt.shaped; rw [l1, Bool.true_and]; exact decide_eq_true (by omega)
      · unfold SeqAt.shaped; rw [l2, Bool.true_and]; exact decide_eq_true (by omega)
    · cases e
  unfold HL.eqH at e
  split at e
  · cases e; exact .inl ⟨rfl, by simp [renW]⟩
  · cases e; exact .inl ⟨rfl, by simp [renW]⟩
  · exact .inr (deep e)
theorem os_eq : OpS K γ (rEqP K false) HL.oEq := by
  intro ρ h H x y Q S wx wy q
  unfold HL.oEq at q
  split at q
  · rename_i b e
    rcases eqH_of S e with ⟨sc, e2⟩ | ⟨da, db, h1, h2, s1, s2, e2⟩
    · exact .inl ⟨sc, by have := q trivial; rw [e2] at this; exact this⟩
    · exact .inr ⟨da, db, h1, h2, s1, s2, by have := q trivial; rw [e2] at this; exact this⟩
  · exact q.elim
theorem os_ne : OpS K γ (rEqP K true) HL.oNe := by
  intro ρ h H x y Q S wx wy q
  unfold HL.oNe at q
  split at q
  · rename_i b e
    rcases eqH_of S e with ⟨sc, e2⟩ | ⟨da, db, h1, h2, s1, s2, e2⟩
    · exact .inl ⟨sc, by have := q trivial; rw [e2] at this; exact this⟩
    · exact .inr ⟨da, db, h1, h2, s1, s2, by have := q trivial; rw [e2] at this; exact this⟩
  · exact q.elim
theorem bo_eq : Bo HL.oEq := by
  intro x y h; unfold HL.oEq; split
  · exact .inr ⟨_, rfl⟩
  · exact .inl rfl
theorem bo_ne : Bo HL.oNe := by
  intro x y h; unfold HL.oNe; split
  · exact .inr ⟨_, rfl⟩
  · exact .inl rfl
end
end L2
namespace L2
open PySem PySem.Spec PyProof.Rows
section
variable {X : Cx} {scope : Scope} {cs : List Str} {pins : List (Addr × Obj)} {σ : St} {H : Hp} {s : Shared} {fp : List Addr}
def capG (n : Nat) (js : List Nat) (σ : St) : St := List.replicate n none ++ js.map fun j => (σ[j]?).getD none
theorem comp_startG {ts : List Str} {js : List Nat} {h₁ : Heap} {tk : Nat} {ob : Obj} (c : Cap X scope cs) (I : Inv X pins σ H s) (hf : ∀ b ∈ fp, FpOk X pins H b) (ho : ∀ b ∈ fp, ∃ o, s.heap.get? b = some o) (hj : js.map (fun j => X.N[j]?) = cs.map some)
    (hns : h₁.Ns s.heap.objs.size fun _ => none) (hsb : Heap.SameBut s.heap.objs.size (s.heap.push ob) h₁) : Inv (cxComp X scope cs (ts ++ cs) s H fp) [] (capG ts.length js σ) H { s with heap := h₁, toks := tk } := by
  have k : ∀ b o, s.heap.get? b = some o → h₁.get? b = some o := fun b o e => (hsb.2 b (Nat.ne_of_lt (Heap.lt_size e))).trans (Heap.get?_push_of_some _ e)
  refine ⟨comp_ok c I hf ho _, rfl, I.bare, Un.kept k, ⟨_, hns, fun i y v e1 e2 vis => ?_⟩, fun y a h => ?_, I.hok.fresh (Nat.le_refl _), fun y a h => I.freeC y a (c.sub h).1, (fun p hp => by cases hp), I.hok.kept k, ?_⟩
  · by_cases hit : i < ts.length
    · have e2' : (List.replicate ts.length (none : Option V) ++ js.map fun j => (σ[j]?).getD none)[i]? = some (some v) := e2
      rw [List.getElem?_append_left (by rw [List.length_replicate]; exact hit), List.getElem?_replicate, if_pos hit] at e2'
      cases e2'
    · have e1' : (ts ++ cs)[i]? = some y := e1
      have e2' : (List.replicate ts.length (none : Option V) ++ js.map fun j => (σ[j]?).getD none)[i]? = some (some v) := e2
      rw [List.getElem?_append_right (by omega)] at e1'
      rw [List.getElem?_append_right (by rw [List.length_replicate]; omega), List.length_replicate] at e2'
      generalize i - ts.length = i at e1' e2'
      rw [List.getElem?_map] at e2'
      have hji := congrArg (fun l => l[i]?) hj
      simp only [List.getElem?_map] at hji
      rw [e1'] at hji
      cases q : js[i]? with
      | none => rw [q] at e2'; cases e2'
      | some j =>
        rw [q] at e2' hji
        have hN : X.N[j]? = some y := Option.some.inj hji
        have hv : (σ[j]?).getD none = some v := Option.some.inj e2'
        have hσ : σ[j]? = some (some v) := by
          cases q2 : σ[j]? with
          | none => rw [q2] at hv; cases hv
          | some z => rw [q2] at hv; rw [← hv]; rfl
        have hm : y ∈ cs := List.mem_of_getElem? e1'
        obtain ⟨m, hn, hl⟩ := I.loc
        obtain ⟨u, r, l⟩ := hl j y v hN hσ (.inr (.inl (c.kc y hm).1))
        refine ⟨u, r, .inr ⟨.inl (c.kc y hm).2, ?_⟩⟩
        rcases l with ⟨lk, _⟩ | ⟨_, a, ha, o, ho', hd⟩
        · have := (c.kc y hm).1
          have lk' : X.env.scope.names.lookup y = some .local := lk
          rw [this] at lk'
          cases lk'
        · refine ⟨a, ?_, o, k _ _ ho', hd⟩
          show (capL X cs).lookup y = some a
          rw [cap_look hm, ha]
          rfl
  · obtain ⟨v, o, ho', hd⟩ := I.cell y a (c.sub h).1
    exact ⟨v, o, k _ _ ho', hd⟩
  · have := congrArg List.length hj
    rw [List.length_map, List.length_map] at this
    show (capG ts.length js σ).length = (ts ++ cs).length
    unfold capG
    rw [List.length_append, List.length_append, List.length_replicate, List.length_map, this]
def compGoG (J : It) (g : TG) (tc : TT) (te : TE) (acc : Addr) (σ : St) (H : Hp) (Q : VK) : Prop := ∃ W : Nat → Nat → St → Hp → Prop, (∃ m, W 0 m σ (upd H acc (.lst []))) ∧ ∀ i m σ H, W i m σ H →
  (J.stop i H ∧ Q (.ref acc) H) ∨ (J.go i H ∧ ∃ Nx : St → Hp → Prop, (∀ σ' H', Nx σ' H' → ∃ m', m' < m ∧ W (i + 1) m' σ' H') ∧ ∀ x H', J.yld i H x H' → g x σ H' fun σ2 H2 => tc σ2 H2 fun k H3 => if k = true then te σ2 H3 fun v H4 => ∃ ys, H4 acc = some (.lst ys) ∧ ys.length < sizeLine ∧ Nx σ2 (upd H4 acc (.lst (ys ++ [v]))) else Nx σ2 H3)
def tCompG (wi : TI) (n : Nat) (js : List Nat) (g : TG) (tc : TT) (te : TE) : TE := fun σ H Q => wi σ H fun J H1 => ∀ acc, H1 acc = none → compGoG J g tc te acc (capG n js σ) H1 Q
def PTs (X : Cx) (ifs : List Expr) (tc : TT) : Prop := ∀ (pins : List (Addr × Obj)) (s : Shared) (σ : St) (H : Hp) (Q : Bool → Hp → Prop), Inv X pins σ H s → tc σ H Q →
  wpAny (model X.prog X.w) X.A (forIn ifs true fun c r => if r = true then do let ok ← isTrue c X.env (eval c X.env); pure (ForInStep.yield ok) else pure (ForInStep.yield r)) (TP X pins σ Q) X.xe s
theorem pts_nil : PTs X [] (fun _ H Q => Q true H) := fun pins s σ H Q I h => wpAny_tests_nil ⟨H, I, h⟩
theorem pts_one {c : Expr} {tc : TT} (h : PT X c tc) : PTs X [c] tc := fun pins s σ H Q I hw => wpAny_tests_one (h pins s σ H Q I hw)
theorem comp_core {elt iter tg : Expr} {ifs : List Expr} {ts : List Str} {pos : Pos} {wi : TI} {js : List Nat} {g : TG} {tc : TT} {te : TE} (c : Cap X scope cs) (hc : X.calm = true) (hj : js.map (fun j => X.N[j]?) = cs.map some) (hi : PI X tg iter wi)
    (hg : ∀ s₀ H₀ ex, PG (cxComp X scope cs (ts ++ cs) s₀ H₀ ex) tg g) (he : ∀ s₀ H₀ ex, PE (cxComp X scope cs (ts ++ cs) s₀ H₀ ex) elt te)
    (ht : ∀ s₀ H₀ ex, PTs (cxComp X scope cs (ts ++ cs) s₀ H₀ ex) ifs tc)
    (hs : ∀ x, foldedSetIterable iter X.env x = pure x := by intro _; rfl) {use : Option (Value → Sem Unit)} {Qf : Value → Shared → Prop} {pos' : Pos} {Q : VK} (I : Inv X pins σ H s)
    (fin : ∀ (fp' : List Addr) (s3 : Shared) (H3 : Hp) (acc : Addr) (σ' : St) (H' : Hp) (s4 : Shared), Inv X pins σ H3 s3 → (∀ b ∈ fp', FpOk X pins H3 b) → Inv (cxComp X scope cs (ts ++ cs) s3 H3 fp') [] σ' H' s4 → Q (.ref acc) H' →
      compPost (model X.prog X.w) X.A X.xe use Qf (.ref acc) s3.heap.objs.size (.ok .next) s4) (h : tCompG wi ts.length js g tc te σ H Q) :
    wpAny (model X.prog X.w) X.A (comprehension (.ListComp elt [⟨tg, iter, ifs, 0⟩] scope pos) scope X.env pos' (newList []) false (eval iter X.env) use) Qf X.xe s := by
  refine wpAny_comprehension_free (use := use) rfl hs c.clos c.kind c.names (thn (hi pins s σ H _ I h) fun xv s1 h1 => thn h1 fun itv s2 h2 => ?_)
  obtain ⟨it, fp, tn, J, H2, e, I2, T, st2, f2, q⟩ := h2
  subst e
  have hn2 : H2 s2.heap.objs.size = none := I2.hok.fresh (Nat.le_refl _)
  obtain ⟨W, ⟨m0, w0⟩, turn⟩ := q _ hn2
  refine wpAny_newObj_type ?_ (by show 0 ≤ sizeLine; exact Nat.zero_le _)
  have I3 : Inv X pins σ (upd H2 s2.heap.objs.size (.lst [])) { s2 with heap := s2.heap.push { cls := .type "list", data := .seq ([] : List Value).toArray } } := Inv.lnew (t' := s2.toks) I2 .nil (Nat.zero_le _)
  have f3 : ∀ b ∈ fp, FpOk X pins (upd H2 s2.heap.objs.size (.lst [])) b := fun b hb => by
    obtain ⟨o, ho, _⟩ := T.obj _ _ st2 b hb
    exact ⟨by rw [upd_ne (Nat.ne_of_lt (Heap.lt_size ho))]; exact (f2 b hb).1, (f2 b hb).2⟩
  have o3 : ∀ b ∈ fp, ∃ o, (s2.heap.push { cls := .type "list", data := .seq ([] : List Value).toArray }).get? b = some o := fun b hb => by
    obtain ⟨o, ho, _⟩ := T.obj _ _ st2 b hb
    exact ⟨o, Heap.get?_push_of_some _ ho⟩
  have st3 : tn 0 (s2.heap.push { cls := .type "list", data := .seq ([] : List Value).toArray }) := T.keep _ _ _ st2 fun b _ o ho => Heap.get?_push_of_some _ ho
  generalize hs3 : ({ s2 with heap := s2.heap.push { cls := .type "list", data := .seq ([] : List Value).toArray } } : Shared) = s3 at I3
  have hs3h : s3.heap = s2.heap.push { cls := .type "list", data := .seq ([] : List Value).toArray } := by rw [← hs3]
  rw [← hs3h] at o3 st3
  show wpAny _ _ (newFunctionEnv scope X.env.globals (capL X cs) [] X.env.qual none .none (some X.env)) _ _ _
  refine wpAny_newFunctionEnv c.nocell (by intro y hy; cases hy) (fun h₁ hns hsb => ?_) c.kind
  have hns' : h₁.Ns s3.heap.objs.size fun _ => none := hns
  have ok := comp_ok c I3 f3 o3 (ts ++ cs)
  have I4 := comp_startG (ts := ts) (tk := s3.toks) c I3 f3 o3 hj hns' hsb
  have st4 : tn 0 h₁ := T.keep _ _ _ st3 fun b hb o ho => (hsb.2 b (Nat.ne_of_lt (Heap.lt_size ho))).trans (Heap.get?_push_of_some _ ho)
  have stat : ∀ {H' : Hp}, (∀ b ∈ fp, H' b = none) → ∀ b ∈ fp, FpOk (cxComp X scope cs (ts ++ cs) s3 (upd H2 s2.heap.objs.size (.lst [])) fp) [] H' b := fun hn b hb => ⟨hn b hb, (ok.exf b hb).1, ok.exfs b hb, .inl hb, (ok.exf b hb).2, fun p hp => by cases hp⟩
  show codeAny _ _ (.compStart (.ListComp elt [⟨tg, iter, ifs, 0⟩] scope pos) 0 (.ref it) (.ref s2.heap.objs.size) (cxComp X scope cs (ts ++ cs) s3 (upd H2 s2.heap.objs.size (.lst [])) fp).env) (compPost (model X.prog X.w) X.A X.xe use Qf (.ref s2.heap.objs.size) s3.heap.objs.size) { s3 with heap := h₁, toks := s3.toks }
  have loop : codeAny (model X.prog X.w) X.A (.compLoop (.ListComp elt [⟨tg, iter, ifs, 0⟩] scope pos) 0 (.ref it) (.ref s2.heap.objs.size) (cxComp X scope cs (ts ++ cs) s3 (upd H2 s2.heap.objs.size (.lst [])) fp).env) (compPost (model X.prog X.w) X.A X.xe use Qf (.ref s2.heap.objs.size) s3.heap.objs.size) { s3 with heap := h₁, toks := s3.toks } := by
    refine codeAny_loop rfl (fun n s' => ∃ i σ' H', Inv (cxComp X scope cs (ts ++ cs) s3 (upd H2 s2.heap.objs.size (.lst [])) fp) [] σ' H' s' ∧ tn i s'.heap ∧ (∀ b ∈ fp, H' b = none) ∧ W i n σ' H') (fun n s' hI => ?_) m0 ⟨0, _, _, I4, st4, fun b hb => (f3 b hb).1, w0⟩
    obtain ⟨i, σ', H', J', st', fr', w'⟩ := hI
    show wpAny _ _ ((compTurn (.ListComp elt [⟨tg, iter, ifs, 0⟩] scope pos) 0 (.ref it) (.ref s2.heap.objs.size) (cxComp X scope cs (ts ++ cs) s3 (upd H2 s2.heap.objs.size (.lst [])) fp).env).onRaise (fun xx => do noteFrame xx (cxComp X scope cs (ts ++ cs) s3 (upd H2 s2.heap.objs.size (.lst [])) fp).env; theTreesLotGoes xx)) _ _ s'
    refine wpAny_noted ?_
    rw [compTurn_list]
    refine wpAny_bind (wpAny_standAt (wpAny_bind ?_))
    rcases turn i n σ' H' w' with ⟨stop, qn⟩ | ⟨go, Nx, hN, step⟩
    · refine thn (T.done (cxComp X scope cs (ts ++ cs) s3 (upd H2 s2.heap.objs.size (.lst [])) fp) rfl rfl rfl hc i [] s' σ' H' _ J' (stat fr') st' stop) fun r s4 ⟨hr, J4⟩ => ?_
      subst hr
      exact wpAny_pure (fin _ _ _ _ _ _ _ I3 f3 J4 qn)
    · refine thn (T.item (cxComp X scope cs (ts ++ cs) s3 (upd H2 s2.heap.objs.size (.lst [])) fp) rfl rfl rfl hc i [] s' σ' H' _ J' (stat fr') st' go) fun r s4 ⟨u, hr, h4⟩ => ?_
      subst hr
      refine wpAny_bind (thn h4 fun _ s5 ⟨xv, H5, J5, r5, y5, st5, fr5⟩ => ?_)
      have J5' := J5.pinned (stat fr5) (T.obj _ _ st5)
      refine wpAny_bind (wpAny_mono (hg _ _ _ _ s5 σ' H5 xv u _ J5' r5 (step xv H5 y5)) (fun _ s6 ⟨σ6, H6, J6, q6⟩ => ?_) fun _ _ z => z.elim)
      have fin2 : ∀ {σ8 : St} {H8 : Hp} {s8 : Shared}, Inv (cxComp X scope cs (ts ++ cs) s3 (upd H2 s2.heap.objs.size (.lst [])) fp) ([] ++ pinsAt fp s5.heap) σ8 H8 s8 → Nx σ8 H8 → ∃ m', m' < n ∧ ∃ i σ' H', Inv (cxComp X scope cs (ts ++ cs) s3 (upd H2 s2.heap.objs.size (.lst [])) fp) [] σ' H' s8 ∧ tn i s8.heap ∧ (∀ b ∈ fp, H' b = none) ∧ W i m' σ' H' := fun {σ8 H8 s8} J8 n8 => by
        obtain ⟨m', hm, w8⟩ := hN σ8 H8 n8
        refine ⟨m', hm, i + 1, σ8, H8, J8.unpinned, T.keep _ _ _ st5 fun b hb o e => (J8.pin (b, o) (List.mem_append_right _ (List.mem_append_right _ (mem_pinsAt hb e)))).1, fun b hb => ?_, w8⟩
        obtain ⟨o, e, d⟩ := T.obj _ _ st5 b hb
        exact (J8.pin (b, o) (List.mem_append_right _ (List.mem_append_right _ (mem_pinsAt hb e)))).2.1
      refine wpAny_bind (wpAny_mono (ht _ _ _ _ s6 σ6 H6 _ J6 q6) (fun kb s6' ⟨H6', J6', q6'⟩ => ?_) fun _ _ z => z.elim)
      cases kb with
      | false =>
        have n6 : Nx σ6 H6' := q6'
        exact wpAny_pure ⟨rfl, fin2 J6' n6⟩
      | true =>
        have q7 : te σ6 H6' _ := q6'
        refine wpAny_bind (wpAny_bind (wpAny_mono (he _ _ _ _ s6' σ6 H6' _ J6' q7) (fun v s7 ⟨vv, H7, J7, r7, ys, e7, l7, n7⟩ => ?_) fun _ _ z => z.elim))
        refine wpAny_bind (wpAny_mono (mt_append (X := (cxComp X scope cs (ts ++ cs) s3 (upd H2 s2.heap.objs.size (.lst [])) fp)) _ s7 σ6 H7 (.ref s2.heap.objs.size) [vv] (.ref s2.heap.objs.size) [v] (fun _ H8 => Nx σ6 H8) J7 rfl (.cons r7 .nil) ⟨_, ys, vv, rfl, rfl, e7, l7, n7⟩) (fun _ s8 ⟨_, H8, J8, _, n8⟩ => ?_) fun _ _ z => z.elim)
        exact wpAny_pure (wpAny_pure ⟨rfl, fin2 J8 n8⟩)
  exact codeAny_compStart_list loop (T.self _ 0 _ _ _ st4 loop)
theorem pe_compG {elt iter tg : Expr} {ifs : List Expr} {ts : List Str} {pos : Pos} {wi : TI} {js : List Nat} {g : TG} {tc : TT} {te : TE} (c : Cap X scope cs) (hc : X.calm = true) (hj : js.map (fun j => X.N[j]?) = cs.map some) (hi : PI X tg iter wi)
    (hg : ∀ s₀ H₀ ex, PG (cxComp X scope cs (ts ++ cs) s₀ H₀ ex) tg g) (he : ∀ s₀ H₀ ex, PE (cxComp X scope cs (ts ++ cs) s₀ H₀ ex) elt te)
    (ht : ∀ s₀ H₀ ex, PTs (cxComp X scope cs (ts ++ cs) s₀ H₀ ex) ifs tc)
    (hs : ∀ x, foldedSetIterable iter X.env x = pure x := by intro _; rfl) : PE X (.ListComp elt [⟨tg, iter, ifs, 0⟩] scope pos) (tCompG wi ts.length js g tc te) := by
  intro pins s σ H Q I h
  rw [eval_ListComp]
  refine comp_core c hc hj hi hg he ht hs I (fun fp' s3 H3 acc σ' H' s4 I3 f3 J4 qn => ?_) h
  obtain ⟨m, hn, _⟩ := J4.loc
  exact ⟨m, hn, fun h' hs' => ⟨.ref acc, H', comp_end c I3 f3 J4 hs', rfl, qn⟩⟩
theorem ps_compG {elt iter tg : Expr} {ifs : List Expr} {ts : List Str} {pos : Pos} {wi : TI} {js : List Nat} {g : TG} {tc : TT} {te : TE} (c : Cap X scope cs) (hc : X.calm = true) (hj : js.map (fun j => X.N[j]?) = cs.map some) (hi : PI X tg iter wi)
    (hg : ∀ s₀ H₀ ex, PG (cxComp X scope cs (ts ++ cs) s₀ H₀ ex) tg g) (he : ∀ s₀ H₀ ex, PE (cxComp X scope cs (ts ++ cs) s₀ H₀ ex) elt te)
    (ht : ∀ s₀ H₀ ex, PTs (cxComp X scope cs (ts ++ cs) s₀ H₀ ex) ifs tc)
    (hs : ∀ x, foldedSetIterable iter X.env x = pure x := by intro _; rfl) {i : Nat} {y : Str} {py spos : Pos} (hN : X.N.Nodup) (hi' : X.N[i]? = some y) (hy : Loc X.env.scope y)
    (hsw : swapsWith (.ListComp elt [⟨tg, iter, ifs, 0⟩] scope pos) (some (.Name y py)) spos.line X.env = pure true) (hf : X.fn y = true ∨ X.env.scope.names.lookup y = some .local) : PS X (.Assign [.Name y py] (.ListComp elt [⟨tg, iter, ifs, 0⟩] scope pos) spos) (tAsg (tCompG wi ts.length js g tc te) (gName i)) := by
  intro pins s σ H D I h
  rw [exec_Assign_Name_used _ _ _ _ hsw]
  refine wpAny_bind (wpAny_standAt (wpAny_bind ?_))
  show wpAny _ X.A (do let _ ← comprehension (.ListComp elt [⟨tg, iter, ifs, 0⟩] scope pos) scope X.env _ (newList []) false (eval iter X.env) (some (assign (.Name y py) X.env))) _ _ s
  refine wpAny_bind (wpAny_mono (comp_core (use := some (assign (.Name y py) X.env)) (Qf := fun _ s' => SP X pins D .next s') c hc hj hi hg he ht hs I (fun fp' s3 H3 acc σ' H' s4 I3 f3 J4 qn => ?_) h) (fun _ s' hq => wpAny_pure (wpAny_pure hq)) fun _ _ e => e)
  have hC : H' s3.heap.objs.size = none := J4.free
  have I4 : Inv X pins σ H' { s4 with heap := s4.heap } := comp_end c I3 f3 J4 ⟨rfl, fun _ _ => rfl⟩
  have I4 : Inv X pins σ H' s4 := I4
  obtain ⟨m, hn, _⟩ := J4.loc
  have fp1 : ∀ b ∈ [s3.heap.objs.size], FpOk X pins H' b := fun b hb => by
    rw [List.mem_singleton.mp hb]; exact I3.fpOk (Nat.le_refl _) hC
  have ho : ∀ b ∈ [s3.heap.objs.size], ∃ o, s4.heap.get? b = some o ∧ ∀ v, o.data ≠ .cell v := fun b hb => by
    rw [List.mem_singleton.mp hb]
    obtain ⟨o, es, ep, e1, e2, _⟩ := hn
    exact ⟨o, e1, fun v z => by rw [e2] at z; cases z⟩
  have I5 := I4.pinned fp1 ho
  refine wpAny_assign_Name (store_ok I5 hN hi' hy (show RelV (.ref acc) (.ref acc) from rfl) (fun s5 I6 => ?_) hf)
  obtain ⟨o, es, ep, e1, e2, e3⟩ := hn
  have pinC := (I6.pin (s3.heap.objs.size, o) (List.mem_append_right _ (List.mem_append_right _ (mem_pinsAt (List.mem_singleton.mpr rfl) e1)))).1
  refine ⟨m, ⟨o, es, ep, pinC, e2, e3⟩, fun h' hs' => ?_⟩
  obtain ⟨f0, f1, f2, f3, f4, f5⟩ := fp1 _ (List.mem_singleton.mpr rfl)
  exact ⟨_, H', I6.unpinned.turned (t' := s5.toks) (fun b o hb e => (hs'.2 b hb).trans e) f0 f1 f3 f4 f5, qn⟩
end
end L2
namespace L2
open PySem PySem.Spec PyProof.Rows
open HL (W SO Sh Sg OR DE DT DA DS Fn)
section
variable {X : Cx} {γ : Str → Addr} {a b c e : Expr} {da db dc de : DE} {pos : Pos}
theorem lim_lt {n : Nat} (h : n < HL.LIM) : n < sizeLine := by
  have : HL.LIM = 100000 := rfl
  rw [sizeLine_eq]; omega
theorem stays_app {t : HL.It} {h : Sh} {o : SO} (st : t.stays h) : t.stays (h ++ [o]) := by
  have key : ∀ (i : Nat) (u : SO), h[i]? = some u → (h ++ [o])[i]? = some u := fun i u e => by
    rw [List.getElem?_append_left (List.getElem?_eq_some_iff.mp e).1]; exact e
  cases t with
  | fix xs => trivial
  | lst i xs =>
    have st' : HL.lstW h (.ref i) = some xs := st
    show HL.lstW _ (.ref i) = some xs
    unfold HL.lstW at st' ⊢
    simp only at st' ⊢
    cases q : h[i]? with
    | none => rw [q] at st'; cases st'
    | some u => rw [key i u q]; rw [q] at st'; exact st'
  | tup i xs =>
    have st' : HL.tupW h (.ref i) = some xs := st
    show HL.tupW _ (.ref i) = some xs
    unfold HL.tupW at st' ⊢
    simp only at st' ⊢
    cases q : h[i]? with
    | none => rw [q] at st'; cases st'
    | some u => rw [key i u q]; rw [q] at st'; exact st'
theorem stays_set {t : HL.It} {h : Sh} {k : Nat} {ys zs : List W} (st : t.stays h) (e : h[k]? = some (.lst ys)) (ne : ∀ i xs, t = .lst i xs → i ≠ k) : t.stays (h.set k (.lst zs)) := by
  cases t with
  | fix xs => trivial
  | lst i xs =>
    have st' : HL.lstW h (.ref i) = some xs := st
    show HL.lstW _ (.ref i) = some xs
    unfold HL.lstW at st' ⊢
    simp only at st' ⊢
    rw [List.getElem?_set_ne (fun z => ne i xs rfl z.symm)]
    exact st'
  | tup i xs =>
    have st' : HL.tupW h (.ref i) = some xs := st
    show HL.tupW _ (.ref i) = some xs
    unfold HL.tupW at st' ⊢
    have hne : k ≠ i := fun z => by
      subst z
      simp only [e] at st'
      cases st'
    simp only at st' ⊢
    rw [List.getElem?_set_ne hne]
    exact st'
theorem capG_eq {ρ : Nat → Addr} (n : Nat) (js : List Nat) (s : Sg) : capG n js (renS γ ρ s) = renS γ ρ (HL.capS n js s) := by
  unfold capG renS HL.capS
  rw [List.map_append, List.map_replicate, List.map_map]
  congr 1
  refine List.map_congr_left fun j _ => ?_
  simp only [Function.comp, List.getElem?_map]
  cases s[j]? with
  | none => rfl
  | some z => rfl
theorem wf_cap {m n : Nat} {js : List Nat} {s : Sg} (w : wfS m s) : wfS m (HL.capS n js s) := fun x hx => by
  unfold HL.capS at hx
  rcases List.mem_append.mp hx with z | z
  · cases (List.mem_replicate.mp z).2
  · obtain ⟨j, _, e⟩ := List.mem_map.mp z
    cases q : s[j]? with
    | none => rw [q] at e; cases e
    | some y =>
      rw [q] at e
      have e' : y = some x := e
      subst e'
      exact w x (List.mem_of_getElem? q)
theorem comp_of {di : HL.DI} {g : HL.DG} {dt : DT} {n : Nat} {js : List Nat} (σ : St) (H : Hp) (Q : VK) (x : eE X.K γ (HL.dComp di n js g dt de) σ H Q) : tCompG (eI X.K γ di) n js (eG X.K γ g) (eT X.K γ dt) (eE X.K γ de) σ H Q := by
  obtain ⟨ρ, s, h, S, x⟩ := x
  unfold HL.dComp at x
  refine ⟨ρ, s, h, S, ?_⟩
  cases q : di s h with
  | ex => rw [q] at x; exact x.elim
  | er => rw [q] at x; exact x.elim
  | ok t h1 =>
    rw [q] at x
    simp only [HL.R.bind] at x
    intro ρ1 H1 J n1 S1 st ⟨wi, wl⟩ acc hacc
    have T1 := S.next n1 S1
    have S2 : SimH X.K γ (put ρ1 h1.length acc) (h1 ++ [.lst []]) (upd H1 acc (.lst [])) := S1.push (o := .lst []) (fun y hy => by cases hy) (Ext.upd _ hacc) hacc upd_same
    have n2 := Nxt.push h1 ρ1 (.lst []) acc
    generalize hρ : put ρ1 h1.length acc = ρ2 at S2 n2
    have at2 : ρ2 h1.length = acc := by rw [← hρ]; exact put_at _ _ _
    generalize hh : h1 ++ [.lst []] = h2 at S2 n2 x
    have lt2 : h1.length < h2.length := by rw [← hh]; simp
    have st2 : t.stays h2 := by rw [← hh]; exact stays_app st
    have x2 := GoodR.later x (n1.trans n2)
    have T2 : Sim X.K γ ρ2 (HL.capS n js s) h2 (capG n js σ) (upd H1 acc (.lst [])) := ⟨S2, wf_cap ((S.ws.mono n1.le).mono n2.le), by rw [S.eq, capG_eq]; exact renS_ag (wf_cap S.ws) (n1.trans n2).ag⟩
    let St' : Nat → St → Hp → Prop := fun i σ' H' => i ≤ t.items.length ∧ ∃ ρ3 s3 h3, Sim X.K γ ρ3 s3 h3 σ' H' ∧ Nxt h2 ρ2 h3 ρ3 ∧ t.stays h3 ∧ GoodV X.K γ ρ3 h3 (HL.compW t g dt de h1.length (t.items.drop i) s3 h3) Q
    refine ⟨fun i m σ' H' => m = t.items.length - i ∧ St' i σ' H', ⟨_, rfl, Nat.zero_le _, ρ2, _, h2, T2, Nxt.refl _ _, st2, x2⟩, ?_⟩
    rintro i m σ' H' ⟨rfl, hi, ρ3, s3, h3, T3, n3, st3, g3⟩
    obtain ⟨w1, w2⟩ := wl ρ3 h3 H' (n2.trans n3) T3.hp st3 i
    cases e : t.items[i]? with
    | none =>
      have hl : t.items.length ≤ i := List.getElem?_eq_none_iff.mp e
      rw [List.drop_eq_nil_of_le hl] at g3
      refine .inl ⟨w1 hl, ?_⟩
      have z := g3 ρ3 H' (Nxt.refl _ _) T3.hp (Nat.lt_of_lt_of_le lt2 n3.le)
      rw [show renW γ ρ3 (.ref h1.length) = V.ref acc from congrArg V.ref ((n3.ag _ lt2).symm.trans at2)] at z
      exact z
    | some y =>
      obtain ⟨hlt, ey⟩ := List.getElem?_eq_some_iff.mp e
      obtain ⟨go, yl⟩ := w2 y e
      refine .inr ⟨go, St' (i + 1), fun σ3 H3 z => ⟨_, by omega, rfl, z⟩, fun v H3 hv => ?_⟩
      obtain ⟨rfl, rfl⟩ := yl v H3 hv
      rw [List.drop_eq_getElem_cons hlt, ey] at g3
      unfold HL.compW at g3
      have wy : wf h3.length y := ((wi y (List.mem_of_getElem? e)).mono n2.le).mono n3.le
      cases q3 : g y s3 h3 with
      | none => rw [q3] at g3; exact g3.elim
      | some s4 =>
        rw [q3] at g3
        simp only at g3
        refine ⟨ρ3, s3, h3, y, T3, rfl, wy, s4, q3, fun w4 => ?_⟩
        have T4 : Sim X.K γ ρ3 s4 h3 (renS γ ρ3 s4) H3 := ⟨T3.hp, w4, rfl⟩
        refine ⟨ρ3, s4, h3, T4, GoodR.bind g3 fun kb h5 ρ5 H5 _ n5 S5 _ g5 => ?_⟩
        have T5 := T4.next n5 S5
        cases kb with
        | false =>
          simp only [Bool.false_eq_true, if_false] at g5 ⊢
          split at g5
          · rename_i st5
            exact ⟨hlt, ρ5, s4, h5, T5, n3.trans n5, st5, g5⟩
          · exact g5.elim
        | true =>
          simp only [if_true] at g5 ⊢
          refine ⟨ρ5, s4, h5, T5, GoodR.bind g5 fun v h6 ρ6 H6 _ n6 S6 w6 g6 => ?_⟩
          have T6 := T5.next n6 S6
          have at6 : ρ6 h1.length = acc := ((((n3.trans n5).trans n6).ag _ lt2).symm).trans at2
          cases q6 : h6[h1.length]? with
          | none => rw [q6] at g6; exact g6.elim
          | some ob =>
            rw [q6] at g6
            cases ob with
            | lst ys =>
              simp only at g6
              split at g6
              · rename_i cond
                have ob6 : H6 (ρ6 h1.length) = some (.lst (ys.map (renW γ ρ6))) := S6.ob _ _ q6
                rw [at6] at ob6
                refine ⟨_, ob6, by rw [List.length_map]; exact lim_lt cond.1, ?_⟩
                have S7 := S6.chg (u := .lst (ys ++ [v])) (v := .lst ((ys ++ [v]).map (renW γ ρ6))) q6 rfl rfl (by
                  intro z hz
                  rcases List.mem_append.mp hz with z1 | z1
                  · exact S6.wf _ _ q6 z z1
                  · rw [List.mem_singleton.mp z1]; exact w6) upd_same
                rw [at6, List.map_append] at S7
                refine ⟨hlt, ρ6, s4, _, ⟨S7, by rw [List.length_set]; exact T6.ws, T6.eq⟩, ((n3.trans n5).trans n6).trans (Nxt.chg _ _ _ _), ?_, GoodR.later g6 (Nxt.chg _ _ _ _)⟩
                refine stays_set cond.2.1 q6 fun j xs ej z => ?_
                subst ej
                have st0 : HL.lstW h1 (.ref j) = some xs := st
                rw [z] at st0
                unfold HL.lstW at st0
                simp only [List.getElem?_eq_none_iff.mpr (Nat.le_refl h1.length)] at st0
                cases st0
              · exact g6.elim
            | _ => exact g6.elim
theorem qts_nil {X : Cx} {γ : Str → Addr} : PTs X [] (eT X.K γ HL.tTrue) := fun pins s σ H Q I ⟨ρ, t, h, S, x⟩ => pts_nil pins s σ H Q I (x ρ H (Nxt.refl _ _) S.hp trivial)
theorem qts_one {X : Cx} {γ : Str → Addr} {c : Expr} {dt : DT} (h : QT γ X c dt) : PTs X [c] (eT X.K γ dt) := pts_one h
theorem q_comp {elt iter tg : Expr} {ifs : List Expr} {scope : Scope} {cs ts : List Str} {js : List Nat} {di : HL.DI} {g : HL.DG} {dt : DT} (c : Cap X scope cs) (hc : X.calm = true) (hj : js.map (fun j => X.N[j]?) = cs.map some) (hi : QI γ X tg iter di)
    (hg : ∀ s₀ H₀ ex, QG γ (cxComp X scope cs (ts ++ cs) s₀ H₀ ex) tg g) (ht : ∀ s₀ H₀ ex, PTs (cxComp X scope cs (ts ++ cs) s₀ H₀ ex) ifs (eT X.K γ dt)) (he : ∀ s₀ H₀ ex, QE γ (cxComp X scope cs (ts ++ cs) s₀ H₀ ex) elt de)
    (hs : ∀ x, foldedSetIterable iter X.env x = pure x := by intro _; rfl) : QE γ X (.ListComp elt [⟨tg, iter, ifs, 0⟩] scope pos) (HL.dComp di ts.length js g dt de) :=
  (pe_compG (ts := ts) c hc hj hi hg he ht hs).imp comp_of
theorem qs_comp {elt iter tg : Expr} {ifs : List Expr} {scope : Scope} {cs ts : List Str} {js : List Nat} {di : HL.DI} {g : HL.DG} {dt : DT} {i : Nat} {y : Str} {py spos : Pos} (hN : X.N.Nodup) (c : Cap X scope cs) (hc : X.calm = true) (hj : js.map (fun j => X.N[j]?) = cs.map some) (hi : QI γ X tg iter di)
    (hg : ∀ s₀ H₀ ex, QG γ (cxComp X scope cs (ts ++ cs) s₀ H₀ ex) tg g) (ht : ∀ s₀ H₀ ex, PTs (cxComp X scope cs (ts ++ cs) s₀ H₀ ex) ifs (eT X.K γ dt)) (he : ∀ s₀ H₀ ex, QE γ (cxComp X scope cs (ts ++ cs) s₀ H₀ ex) elt de)
    (hs : ∀ x, foldedSetIterable iter X.env x = pure x := by intro _; rfl) (hi' : X.N[i]? = some y := by rfl) (hy : Loc X.env.scope y := by first | exact Or.inl rfl | exact Or.inr rfl)
    (hsw : swapsWith (.ListComp elt [⟨tg, iter, ifs, 0⟩] scope pos) (some (.Name y py)) spos.line X.env = pure true := by rfl) (hf : X.fn y = true ∨ X.env.scope.names.lookup y = some .local := by first | exact .inl rfl | exact .inr rfl | assumption) :
    QS γ X (.Assign [.Name y py] (.ListComp elt [⟨tg, iter, ifs, 0⟩] scope pos) spos) (HL.sSet i (HL.dComp di ts.length js g dt de)) :=
  (ps_compG (ts := ts) (i := i) c hc hj hi hg he ht hs hN hi' hy hsw hf).imp fun D σ H ⟨ρ, s, h, S, x⟩ => by
  refine comp_of (X := X) (γ := γ) (di := di) (g := g) (dt := dt) (de := de) (n := ts.length) (js := js) σ H _ ⟨ρ, s, h, S, ?_⟩
  unfold HL.sSet at x
  cases q : HL.dComp di ts.length js g dt de s h with
  | ok v h1 =>
    rw [q] at x
    intro ρ1 H1 n1 S1 w1
    have z := x ρ1 H1 n1 S1 (wf_set (S.ws.mono n1.le) w1)
    rw [renS_set, ← (S.next n1 S1).eq] at z
    exact z
  | ex => rw [q] at x; exact x.elim
  | er => rw [q] at x; exact x.elim
end
end L2
namespace L2
open PySem PySem.Spec PyProof.Rows
open HL (W SO Sh Sg OR DE DT DA DS Fn)
section
variable {X : Cx} {K : PySem.W.Frag} {γ : Str → Addr}
theorem bools_of {vs : List Value} {bs : List Bool} (r : Vals (bs.map V.bl) vs) : PyProof.Rows.LSm.BoolsAre vs bs := by
  induction bs generalizing vs with
  | nil => cases r; exact .nil
  | cons b bs ih =>
    cases r with
    | cons r1 r2 => cases r1; exact .cons b (ih r2)
def rAll (K : PySem.W.Frag) : List V → Hp → VK → Prop := fun xs H Q => ∃ (a : Addr) (bs : List Bool), xs = [.ref a] ∧ SqL K H a (bs.map V.bl) ∧ Q (.bl (bs.all id)) H
theorem call_all (hc : X.calm = true) : CallR X (.builtin "all") (rAll X.K) := by
  intro pins s σ H xs us Q I r h
  obtain ⟨a, bs, rfl, hq, q⟩ := h
  obtain ⟨u, rfl, ru⟩ := vals1 r
  cases ru
  obtain ⟨its, rv, p, _⟩ := I.list hq
  have hb := bools_of rv
  have hl := p.isList
  have hlt : a < s.heap.objs.size := by obtain ⟨_, e, _⟩ := hl; exact Heap.lt_size e
  refine call_all_walk (wpAny_pyIter_list hl ?_)
  refine ⟨s.heap.objs.size, [s.heap.objs.size, a], [s.heap.objs.size], its.toArray.size, _, _, fun i => (bs[i]?).getD true, rfl, Walks.list (A := X.A.in1) (I.ok.hd hc) _ a (Nat.ne_of_lt hlt) its.toArray,
    ⟨⟨_, Heap.get?_push_size _ rfl, rfl, rfl⟩, hl.push _⟩, fun i v s' Q' E' hP hQ => ?_, fun h' tk hk => ?_⟩
  · obtain ⟨b, e, rfl⟩ := hb.get i v (by simpa using hP)
    simp only [e, Option.getD_some] at hQ
    exact wpAny_truthy_bool hQ
  · have e : ((List.range its.toArray.size).all fun i => (bs[i]?).getD true) = bs.all id := by
      rw [List.size_toArray, hb.length]; exact LSm.range_all bs
    rw [e]
    exact ⟨.bl _, H, I.kept (LSm.kept_iter hk), rfl, q⟩
theorem all_bl : ∀ (ys : List W), (ys.all fun y => (match y with | .bl _ => true | _ => false)) = true → ∃ bs : List Bool, ys = bs.map W.bl
  | [], _ => ⟨[], rfl⟩
  | y :: ys, h => by
    rw [List.all_cons, Bool.and_eq_true] at h
    obtain ⟨bs, e⟩ := all_bl ys h.2
    cases y with
    | bl b => exact ⟨b :: bs, by rw [e]; rfl⟩
    | _ => exact absurd h.1 Bool.false_ne_true
theorem cs_all : CbS K γ (rAll K) HL.bAll := by
  intro ρ h H xs Q S w q
  unfold HL.bAll at q
  split at q
  · split at q
    · rename_i ys e
      split at q
      · rename_i hb
        obtain ⟨bs, rfl⟩ := all_bl ys hb
        obtain ⟨p, rfl, sq, w⟩ := lstW_sq S e
        refine ⟨_, bs, rfl, ?_, ?_⟩
        · rw [List.map_map] at sq; exact sq
        · have := q trivial
          have e2 : (bs.map W.bl).all (fun y => y == .bl true) = bs.all id := by
            clear this q sq w e hb
            induction bs with
            | nil => rfl
            | cons b bs ih => rw [List.map_cons, List.all_cons, List.all_cons, ih]; cases b <;> rfl
          rw [e2] at this
          exact this
      · exact q.elim
    · exact q.elim
  · exact q.elim
theorem nw_all (x : List W) (h : Sh) : newOk (HL.bAll x h) = true := by
  unfold HL.bAll; split
  · split
    · split <;> rfl
    · rfl
  · rfl
def MtS (K : PySem.W.Frag) (γ : Str → Addr) (r : V → List V → Hp → VK → Prop) (f : W → List W → Sh → HL.R W) : Prop := ∀ ρ h H x xs Q, SimH K γ ρ h H → wf h.length x → wfs h.length xs → GoodV K γ ρ h (f x xs h) Q → r (renW γ ρ x) (xs.map (renW γ ρ)) H Q
def TyS (K : PySem.W.Frag) (γ : Str → Addr) (T : String) (t : W → Sh → Bool) : Prop := ∀ ρ h H x, SimH K γ ρ h H → t x h = true → tyV K T (renW γ ρ x) H
variable {e o : Expr} {es : List Expr} {d : DA} {de : DE} {name : Str} {apos cpos : Pos} {T id : String} {r : V → List V → Hp → VK → Prop} {f : W → List W → Sh → HL.R W} {t : W → Sh → Bool}
theorem q_bm (pa : PlainAttrs T) (slot : Slot T name id) (hty : typeOf (.builtin id) = pure (.type "method_descriptor")) (hm : MtR X id r) (ms : MtS X.K γ r f) (ts : TyS X.K γ T t) (ho : QE γ X o de) (ha : QA γ X (e :: es) d)
    (hbase : attributeBase o name X.env (eval o X.env) = eval o X.env := by rfl)
    (hfew : ((backTo cpos (starEach (e :: es) X.env)).all (fun x => !x.1) && (backToKw cpos (keywordEach [] X.env)).all (fun x => x.1.isSome)
      && decide ((e :: es).length + ([] : List Keyword).length + (if ([] : List Keyword).isEmpty then 0 else 1) < 30)) = true := by rfl)
    (hline : (apos.endLine == cpos.line) = true := by rfl) (hs : starEach (e :: es) X.env = (false, eval e X.env) :: starEach es X.env := by rfl) (hplain : (backTo cpos (starEach es X.env)).any (·.1) = false := by rfl) :
    QE γ X (.Call (.Attribute o name apos) (e :: es) [] cpos) (HL.dMt t f de d) := (pe_bm pa slot hty hm ho ha hbase hfew hline hs hplain).imp fun σ H Q x => by
  obtain ⟨ρ, s, h, S, x⟩ := x
  refine ⟨ρ, s, h, S, GoodR.bind x fun v h1 ρ1 H1 _ n1 S1 w1 x1 => ?_⟩
  split at x1
  · rename_i ht
    refine ⟨ts ρ1 h1 H1 v S1 ht, ρ1, s, h1, S.next n1 S1, GoodR.bind x1 fun us h2 ρ2 H2 _ n2 S2 w2 x2 => ?_⟩
    rw [ren_ag w1 n2.ag]
    exact ms ρ2 h2 H2 v us Q S2 (w1.mono n2.le) w2 x2
  · exact x1.elim
theorem ts_lst : TyS K γ "list" HL.isLst := by
  intro ρ h H x S ht
  unfold HL.isLst at ht
  cases q : HL.lstW h x with
  | none => rw [q] at ht; cases ht
  | some xs =>
    obtain ⟨i, rfl, sq, _⟩ := lstW_sq S q
    exact .inl ⟨rfl, _, sq⟩
end
section
variable {X : Cx} {pins : List (Addr × Obj)} {σ : St} {H : Hp} {s : Shared}
theorem exc_kit {K : PySem.W.Frag} {a C : Addr} {ox : Obj} {od : Option Obj} (k : ExcIs K C) : PySem.W.KitX K (.ref a) (.ref C) (fun h => PySem.W.InstAt h a ox C od) := {
    ty := fun _ _ _ I => I.type
    it := fun _ h KX _ => by
      obtain ⟨bm, N, nm, qn, bs, sn, sub, ab, col, dd, k0, k1, k2, k3, k5, hC, T', hcl⟩ := exc_obj KX k.cl
      intro A' Q' E' s' kk q
      unfold isType loadHead
      exact wpAny_bind (wpAny_loadPart (kk _ _ hC) (wpAny_pure q))
    ne := fun h tp dd its n sl KX htp => by
      obtain ⟨bm, N, nm, qn, bs, sn, sub, ab, col, dd, k0, k1, k2, k3, k5, hC, T', hcl⟩ := exc_obj KX k.cl
      refine Bool.eq_false_iff.mpr fun q => ?_
      have e : C = tp := Value.ref.inj (beq_iff_eq.mp q)
      subst e
      have z := Option.some.inj (hC.symm.trans htp)
      have z2 := congrArg Obj.cls z
      injection z2 with z3
      exact absurd z3 (by decide)
    ca := fun KX I' kk => exc_class k KX I' kk }
inductive TyH (K : PySem.W.Frag) (H : Hp) : V → Value → Prop where
  | of {x t} : TyOf K H x t → TyH K H x t
  | lst {a xs} : SqL K H a xs → TyH K H (.ref a) (.type "list")
  | tup {a xs} : SqT K H a xs → TyH K H (.ref a) (.type "tuple")
  | exc {a C dx fs} : H a = some (.exc C dx fs) → ExcIs K C → TyH K H (.ref a) (.ref C)
theorem kit_of {x : V} {u t : Value} (I : Inv X pins σ H s) (r : RelV x u) (ty : TyH X.K H x t) : ∃ P, PySem.W.KitX X.K u t P ∧ P s.heap ∧ u ≠ .builtin "__main__.__loader__#opaque" := by
  cases ty with
  | of ty =>
    cases ty with
    | non => cases r; exact ⟨_, PySem.W.kitx_none, True.intro, fun z => nomatch z⟩
    | bl y => cases r; exact ⟨_, PySem.W.kitx_bool, True.intro, fun z => nomatch z⟩
    | int i => obtain ⟨t, rfl⟩ := r; exact ⟨_, PySem.W.kitx_int, True.intro, fun z => nomatch z⟩
    | str y => obtain ⟨t, rfl⟩ := r; exact ⟨_, PySem.W.kitx_str, True.intro, fun z => nomatch z⟩
    | flt y => obtain ⟨t, rfl⟩ := r; exact ⟨_, PySem.W.kitx_float, True.intro, fun z => nomatch z⟩
    | @lst a xs ea =>
      cases r
      obtain ⟨_, _, n, _, h1⟩ := (show ObjOk X.prog X.w H s.heap a (.lst xs) from I.hok a _ ea)
      exact ⟨_, PySem.W.kitx_list, ⟨_, h1, rfl⟩, fun z => nomatch z⟩
    | @frz a ob xs ea =>
      cases r
      obtain ⟨_, _, _, n, _, h1⟩ := (show ObjOk X.prog X.w H s.heap a (.frz ob (.lst xs)) from I.hok a _ ea)
      exact ⟨_, PySem.W.kitx_list, ⟨_, h1, rfl⟩, fun z => nomatch z⟩
    | @tup a xs ea =>
      cases r
      obtain ⟨_, _, _, p⟩ := (show ObjOk X.prog X.w H s.heap a (.tup xs) from I.hok a _ ea)
      obtain ⟨o, h1, h2, _⟩ := p
      exact ⟨_, PySem.W.kitx_tuple, ⟨o, h1, h2⟩, fun z => nomatch z⟩
    | @dK a kvs ea =>
      cases r
      obtain ⟨_, _, vs, _, p⟩ := (show ObjOk X.prog X.w H s.heap a (.dK kvs) from I.hok a _ ea)
      obtain ⟨o, es, ep, h1, h2, _⟩ := p
      exact ⟨_, PySem.W.kitx_dict, ⟨o, h1, h2.1⟩, fun z => nomatch z⟩
    | @dT a kvs ea =>
      cases r
      obtain ⟨_, _, xs, _, o, es, ep, h1, h2, _⟩ := (show ObjOk X.prog X.w H s.heap a (.dT kvs) from I.hok a _ ea)
      exact ⟨_, PySem.W.kitx_dict, ⟨o, h1, h2.1⟩, fun z => nomatch z⟩
    | @ins a C dx fs ea cl ha hn htk hm =>
      cases r
      obtain ⟨mA, O, _⟩ := ins_get I.hok ea
      obtain ⟨od, J, _⟩ := O.look
      exact ⟨_, PySem.W.kitx_own (cl.get _) cl.hd ha hn htk hm, J, fun z => nomatch z⟩
  | lst hq =>
    cases r
    obtain ⟨its, _, p, _⟩ := I.list hq
    obtain ⟨o, n, e, c, _⟩ := p
    exact ⟨_, PySem.W.kitx_list, ⟨o, e, c⟩, fun z => nomatch z⟩
  | tup hq =>
    cases r
    obtain ⟨its, _, p, _⟩ := I.tuple hq
    obtain ⟨o, h1, h2, _⟩ := p
    exact ⟨_, PySem.W.kitx_tuple, ⟨o, h1, h2⟩, fun z => nomatch z⟩
  | exc e k =>
    cases r
    obtain ⟨ox, od, J, _⟩ := exc_look I e
    exact ⟨_, exc_kit k, J, fun z => nomatch z⟩
theorem vals_cls : ∀ {cs : List V} {us : List Value}, Vals cs us → cs.all isC = true → us = cs.map clsOf
  | _, _, .nil, _ => rfl
  | c :: cs, u :: us, .cons r t, h => by
    rw [List.all_cons, Bool.and_eq_true] at h
    rw [List.map_cons, ← vals_cls t h.2, r.cls h.1]
def rIsiT (K : PySem.W.Frag) : List V → Hp → VK → Prop := fun xs H Q => ∃ x c t b, xs = [x, c] ∧ TyH K H x t ∧ Q (.bl b) H ∧
  ((isC c = true ∧ PySem.W.kitOne K t (clsOf c) = some b) ∨ ∃ a cs, c = .ref a ∧ SqT K H a cs ∧ cs.all isC = true ∧ PySem.W.kitAny K t (cs.map clsOf) = some b)
theorem call_isiT : CallR X (.builtin "isinstance") (rIsiT X.K) := by
  intro pins s σ H xs us Q I r h
  obtain ⟨x, c, t, b, rfl, ty, q, h⟩ := h
  obtain ⟨u, w', rfl, rx, rc'⟩ := vals2 r
  obtain ⟨P, Z, p, ne⟩ := kit_of I rx ty
  rcases h with ⟨hc, e⟩ | ⟨a, cs, rfl, ha, hcs, e⟩
  · rw [rc'.cls hc]
    exact PySem.W.kia_one Z I.kIn p e ne fun tk => ⟨.bl b, H, I.tok _, rfl, q⟩
  · cases rc'
    obtain ⟨its, rv, ⟨o, ho, hc, n, hd⟩, _⟩ := I.tuple ha
    obtain ⟨oc, od, odt, osl⟩ := o
    cases hc
    cases hd
    rw [← vals_cls rv hcs] at e
    exact PySem.W.kia_tup Z I.kIn p ho e ne fun tk => ⟨.bl b, H, I.tok _, rfl, q⟩
end
structure IsiOk (K : PySem.W.Frag) (γ : Str → Addr) (T : HL.CT) : Prop where
  cls : ∀ c l, T.lookup c = some l → (l.contains (.ty "ValueError") = false → InsOk K (γ c)) ∧ (l.contains (.ty "ValueError") = true → ExcIs K (γ c))
  ins : ∀ c l, T.lookup c = some l → ∀ x m, T.lookup x = some m → PySem.W.kitOne K (.ref (γ c)) (.ref (γ x)) = some (l.contains (.gl x))
  bi : ∀ c l, T.lookup c = some l → ∀ b ∈ HL.biN, PySem.W.kitOne K (.ref (γ c)) (.type b) = some (l.contains (.ty b))
  no : ∀ x m, T.lookup x = some m → ∀ a ∈ "NoneType" :: HL.biN, PySem.W.kitOne K (.type a) (.ref (γ x)) = some false
theorem kit_bi (K : PySem.W.Frag) : ∀ a ∈ "NoneType" :: HL.biN, ∀ b ∈ HL.biN, PySem.W.kitOne K (.type a) (.type b) = some (HL.subB a b) := by
  intro a ha b hb
  simp only [HL.biN, List.mem_cons, List.not_mem_nil, or_false] at ha hb
  rcases ha with rfl | rfl | rfl | rfl | rfl | rfl | rfl <;> rcases hb with rfl | rfl | rfl | rfl | rfl | rfl <;> rfl
section
variable {K : PySem.W.Frag} {γ : Str → Addr} {ρ : Nat → Addr} {h : Sh} {H : Hp} {T : HL.CT}
def tyK (γ : Str → Addr) : HL.Ty → Value
  | .bi n => .type n
  | .own _ c => .ref (γ c)
def tyIn (T : HL.CT) : HL.Ty → Prop
  | .bi n => n ∈ "NoneType" :: HL.biN
  | .own k c => ∃ l, T.lookup c = some l ∧ l.contains (.ty "ValueError") = k
theorem tyW_bi {x : W} {n : String} (e : HL.tyW h x = some (.bi n)) : n ∈ "NoneType" :: HL.biN := by
  unfold HL.tyW at e
  cases x with
  | ref j =>
    simp only at e
    cases q : h[j]? with
    | none => rw [q] at e; cases e
    | some o => rw [q] at e; cases o <;> cases e <;> decide
  | ty _ => cases e
  | gl _ => cases e
  | _ => cases e; decide
theorem tyW_of {x : W} {t : HL.Ty} (O : IsiOk K γ T) (S : SimH K γ ρ h H) (e : HL.tyW h x = some t) (i : tyIn T t) : TyH K H (renW γ ρ x) (tyK γ t) := by
  cases x with
  | non => cases e; exact .of .non
  | bl b => cases e; exact .of (.bl b)
  | int j => cases e; exact .of (.int j)
  | str y => cases e; exact .of (.str y)
  | ref j =>
    unfold HL.tyW at e
    simp only at e
    cases q : h[j]? with
    | none => rw [q] at e; cases e
    | some o =>
      rw [q] at e
      have ob := S.ob j o q
      cases o with
      | lst xs => cases e; exact .lst (SqL.of ob)
      | rol xs => cases e; exact .lst (show RoL _ _ _ _ from ob).sq
      | tup xs => cases e; exact .tup ob
      | ins c fs =>
        cases e
        obtain ⟨dx, hd⟩ := ob
        obtain ⟨l, hl, hk⟩ := i
        have k := (O.cls c l hl).1 hk
        exact .of (.ins hd k.cl k.ha k.hn k.htk k.hm)
      | exc c fs =>
        cases e
        obtain ⟨dx, hd⟩ := ob
        obtain ⟨l, hl, hk⟩ := i
        exact .exc hd ((O.cls c l hl).2 hk)
  | _ => cases e
theorem isi1_of {t : HL.Ty} {c : W} {b : Bool} (O : IsiOk K γ T) (e : HL.isi1 T t c = some b) (bi : ∀ n, t = .bi n → n ∈ "NoneType" :: HL.biN) : tyIn T t ∧ isC (renW γ ρ c) = true ∧ PySem.W.kitOne K (tyK γ t) (clsOf (renW γ ρ c)) = some b := by
  unfold HL.isi1 at e
  split at e
  · rename_i a b' 
    split at e
    · rename_i hb
      cases e
      have ha := bi a rfl
      exact ⟨ha, rfl, kit_bi K a ha b' (List.contains_iff_mem.mp hb)⟩
    · cases e
  · rename_i a x
    split at e
    · rename_i hx
      cases e
      have ha := bi a rfl
      cases q : T.lookup x with
      | none => rw [q] at hx; cases hx
      | some m => exact ⟨ha, rfl, O.no x m q a ha⟩
    · cases e
  · rename_i k a
    split at e
    · rename_i l hl
      split at e
      · rename_i hk
        split at e
        · rename_i b'
          split at e
          · rename_i hb; cases e; exact ⟨⟨l, hl, hk⟩, rfl, O.bi a l hl b' (List.contains_iff_mem.mp hb)⟩
          · cases e
        · rename_i x
          split at e
          · rename_i hx
            cases e
            cases q : T.lookup x with
            | none => rw [q] at hx; cases hx
            | some m => exact ⟨⟨l, hl, hk⟩, rfl, O.ins a l hl x m q⟩
          · cases e
        · cases e
      · cases e
    · cases e
  · cases e
theorem isiN_of {t : HL.Ty} (O : IsiOk K γ T) (bi : ∀ n, t = .bi n → n ∈ "NoneType" :: HL.biN) : ∀ (cs : List W) (b : Bool), HL.isiN T t cs = some b → cs ≠ [] → tyIn T t ∧ (∀ c ∈ (cs.map (renW γ ρ)).take 1, isC c = true) ∧ PySem.W.kitAny K (tyK γ t) ((cs.map (renW γ ρ)).map clsOf) = some b
  | [], _, _, ne => absurd rfl ne
  | c :: cs, b, e, _ => by
    unfold HL.isiN at e
    cases q : HL.isi1 T t c with
    | none => rw [q] at e; cases e
    | some k =>
      rw [q] at e
      obtain ⟨ti, ic, kk⟩ := isi1_of (ρ := ρ) O q bi
      refine ⟨ti, ?_, ?_⟩
      · intro c' hc'
        rw [List.map_cons, List.take_succ_cons, List.take_zero] at hc'
        rw [List.mem_singleton.mp hc']; exact ic
      · rw [List.map_cons, List.map_cons]
        unfold PySem.W.kitAny
        rw [kk]
        cases k with
        | true => cases e; rfl
        | false =>
          simp only at e ⊢
          cases cs with
          | nil => cases e; rfl
          | cons c2 r => exact (isiN_of O bi (c2 :: r) b e (fun z => nomatch z)).2.2
theorem cs_isi (O : IsiOk K γ T) : CbS K γ (rIsiT K) (HL.bIsi T) := by
  intro ρ h H xs Q S w q
  unfold HL.bIsi at q
  split at q
  · rename_i x c
    split at q
    · rename_i b e
      have qq := q trivial
      unfold HL.isi at e
      cases q1 : HL.tyW h x with
      | none => rw [q1] at e; cases e
      | some t =>
        rw [q1] at e
        have bi : ∀ n, t = .bi n → n ∈ "NoneType" :: HL.biN := fun n z => by subst z; exact tyW_bi q1
        simp only at e
        split at e
        · rename_i i
          split at e
          · rename_i cs q2
            split at e
            · rename_i hcs
              obtain ⟨h1, h2⟩ := (Bool.and_eq_true _ _).mp hcs
              have ne : cs ≠ [] := fun z => by rw [z] at h2; cases h2
              obtain ⟨ti, _, kk⟩ := isiN_of (ρ := ρ) O bi cs b e ne
              refine ⟨_, _, _, b, rfl, tyW_of O S q1 ti, qq, .inr ⟨_, _, rfl, S.ob i _ q2, ?_, kk⟩⟩
              rw [List.all_map]
              refine List.all_eq_true.mpr fun c hc => ?_
              have := List.all_eq_true.mp h1 c hc
              cases c <;> first | rfl | cases this
            · cases e
          · cases e
        · obtain ⟨ti, ic, kk⟩ := isi1_of (ρ := ρ) O e bi
          exact ⟨_, _, _, b, rfl, tyW_of O S q1 ti, qq, .inl ⟨ic, kk⟩⟩
    · exact q.elim
  · exact q.elim
theorem nw_isi (x : List W) (h : Sh) : newOk (HL.bIsi T x h) = true := by
  unfold HL.bIsi; split
  · split <;> rfl
  · rfl
end
end L2
namespace L2
open PySem PySem.Spec PyProof.Rows
open HL (W SO Sh Sg OR DE DT DA DS Fn)
def sp_lawR (K : PySem.W.Frag) : Sp := fun vs H Q _ => match vs with
  | [x] => ∃ (a : Addr) (ns : List Int), x = .ref a ∧ RoL K H a (ns.map V.int) ∧ ns.length ≤ 63 ∧ ∀ H', Q (.bl true) H'
  | _ => False
def LawR (P : Program) (w : World) (K : PySem.W.Frag) (mg : Str → Option Value) (k : Nat) : Prop := ∃ f fd, mg "law" = some (.ref f) ∧ (∀ (s : Shared) (u : Value), BindsTo s fd ⟨[u], []⟩ [("_law_script", u)]) ∧ ∀ base : Heap, FnOk P w K mg base CX0 k f fd ["_law_script"] (sp_lawR K)
theorem walk_lawR {l : PySem.W.OpenLaw} {k : Nat} {q : Program} {loose : List Str} {XP : (Str → Option Value) → Heap → Prop} {YP : World → Heap → Prop} {d : DefRec} {K : Params → PySem.W.Frag} (hn : l.most = some 63) (hdf : d.params.defaults = []) (hr : Room k callerA)
    (hY : ∀ (w : World) (h : Heap), YP w h → (K w.params).In h) (hd : d.name = "law")
    (hF : ∀ (w : World) (mg : Str → Option Value) (h : Heap), (K w.params).In h → h.Ns mainGlobals mg → LawR l.prog w (K w.params) mg k) :
    PySem.W.WalkO q loose XP YP l.row.toRowW d [] (fun f vs => PySem.call f vs) :=
  L2.walk_of (n := 63) (k := k) (x := "_law_script") (CX := fun _ => CX0) (sp := fun w => sp_lawR (K w.params)) hn (by decide) hdf hr hY (fun w mg fa h KX G hm => by
    rw [hd] at hm
    obtain ⟨f, fd, m, b, ok⟩ := hF w mg h KX G
    rw [m] at hm
    cases hm
    exact ⟨fd, b, fun base _ _ => ok base⟩) (fun w H a ns hl hO hS => ⟨a, ns, rfl, by
      rcases hS with (h | h) | h
      · rcases hO a with z | ⟨o, xs, z⟩
        · rw [h] at z; cases z
        · rw [h] at z; cases z
      · exact .inl h
      · exact .inr h, hl, fun _ => rfl⟩) fun _ _ _ _ _ z => z
structure ConsOk (K : PySem.W.Frag) (γ : Str → Addr) (ρ : Nat → Addr) (cs : List SO) : Prop where
  ob : ∀ (i : Nat) (o : SO), cs[i]? = some o → ∀ H, ObS γ ρ K H (ρ i) o
  mu : ∀ o ∈ cs, mutO o = false
  wf : ∀ o ∈ cs, wfO cs.length o
theorem ConsOk.nil {K : PySem.W.Frag} {γ : Str → Addr} {ρ : Nat → Addr} : ConsOk K γ ρ [] := ⟨(fun i o e => by simp at e), (fun o h => by cases h), (fun o h => by cases h)⟩
theorem law_start {K : PySem.W.Frag} {γ : Str → Addr} {ρ : Nat → Addr} {cs : List SO} {H : Hp} {a : Addr} {ns : List Int} (c : ConsOk K γ ρ cs) (r : RoL K H a (ns.map V.int)) : SimH K γ (put ρ cs.length a) (cs ++ [.rol (ns.map W.int)]) H where
  ob := fun i o e => by
    rw [getElem?_snoc] at e
    by_cases h1 : i < cs.length
    · rw [if_pos h1] at e
      rw [← put_ag ρ cs.length a i h1]
      exact (c.ob i o e H).ren (c.wf o (List.mem_of_getElem? e)) (put_ag _ _ _)
    · rw [if_neg h1] at e
      by_cases h2 : i = cs.length
      · rw [if_pos h2] at e
        cases e
        rw [h2, put_at]
        show RoL K H a _
        rw [List.map_map]
        exact r
      · rw [if_neg h2] at e; cases e
  inj := fun i j o u e1 e2 m1 m2 q => by
    have mu : ∀ i o, (cs ++ [SO.rol (ns.map W.int)])[i]? = some o → mutO o = false := fun i o e => by
      rcases List.mem_append.mp (List.mem_of_getElem? e) with z | z
      · exact c.mu o z
      · rw [List.mem_singleton.mp z]; rfl
    rw [mu i o e1] at m1; cases m1
  wf := fun i o e => by
    rcases List.mem_append.mp (List.mem_of_getElem? e) with z | z
    · exact (c.wf o z).mono (by simp)
    · rw [List.mem_singleton.mp z]
      intro x hx
      obtain ⟨n, _, rfl⟩ := List.mem_map.mp hx
      trivial
theorem TopFn.qlaw {P : Program} {w : World} {K : PySem.W.Frag} {mg : Str → Option Value} {γ : Str → Addr} {ρ : Nat → Addr} {cs : List SO} {st : Stmt} {N : List Str} {k n : Nat} {bd : DS} (F : TopFn K mg "law" st) (S : FnScope N ["_law_script"] (defScope st)) (hn : N.length = n) (c : ConsOk K γ ρ cs)
    (hb : ∀ (kV doc pm : Value) (an : Option Addr) (cdv ct : Value) (us : List Value), us.length = 1 → bindArgs (PySem.W.fnOf "law" "law" (defArgs st) (defBody st) (defScope st) .none kV doc pm an cdv ct) ⟨us, []⟩ = pure ((["_law_script"] : List Str).zip us))
    (hbody : ∀ (base : Heap) (f : Addr) (cdv : Value) (A : Around) (outer : List Env) (s : Shared) (H : Hp) (E : XK), Room k (A.deeper (envOfC "law" (defScope st) s.heap.objs.size f cdv)) →
      QSs γ (cxOf CX0 P w K mg base N "law" (defScope st) f cdv A outer s H E).nox (defBody st) bd)
    (good : ∀ ns : List Int, ns.length ≤ 63 → ∃ h', HL.fnOf 1 n bd [.ref cs.length] (cs ++ [.rol (ns.map W.int)]) = .ok (.bl true) h') : LawR P w K mg (k + 1) := by
  subst hn
  obtain ⟨f, fd, F, m⟩ := F.ex
  refine ⟨f, fd, m, fun s u => ?_, fun base => F.ok S (fun vs H Q E h => ?_) fun cdv A outer s H vs Q E hr h => ?_⟩
  · obtain ⟨oc, od, kV, doc, pm, an, cdv, ct, osl, rfl, lk, hcd⟩ := F.ex
    exact .of_eq (hb kV doc pm an cdv ct [u] rfl)
  · match vs, h with
    | [x], _ => rfl
  · match vs, h with
    | [x], ⟨a, ns, e, r, hl, q⟩ =>
      refine ⟨_, hbody base f cdv A outer s H E hr, ?_⟩
      subst e
      have S0 := law_start c r
      obtain ⟨h', e⟩ := good ns hl
      have := fn_good (N := N) (us := [.ref cs.length]) (bd := bd) (Q := Q) (p := 1) S0 (fun x hx => by rw [List.mem_singleton.mp hx]; show cs.length < (cs ++ [_]).length; simp) (by
        rw [e]
        exact fun _ H1 _ _ _ => q H1)
      rw [show ([W.ref cs.length].map (renW γ (put ρ cs.length a))) = [V.ref a] by simp [renW, put_at]] at this
      exact this
section
variable {X : Cx} {γ : Str → Addr} {a : Expr} {da : DE} {pos p2 : Pos}
end
end L2
namespace L2
open PySem PySem.Spec PyProof.Rows
open HL (W SO Sh Sg OR DE DT DA DS Fn)
section
variable {X : Cx} {γ : Str → Addr} {a b c e o : Expr} {da db dc de d1 : DE} {pos pos' apos : Pos}
theorem q_gint {x : Str} {i : Int} {u : Value} (hg : Gl X x) (hm : X.mg x = some u) (r : RelV (.int i) u) (hd : (x == ("__debug__" : Str)) = false := by decide) : QE γ X (.Name x pos) (HL.dC (.int i)) :=
  (pe_glob hg hm r hd).imp fun σ H Q ⟨ρ, s, h, S, x⟩ => x ρ H (Nxt.refl _ _) S.hp trivial
theorem lookup_ren {ρ : Nat → Addr} (f : Str) : ∀ fs : List (Str × W), (renF γ ρ fs).lookup f = (fs.lookup f).map (renW γ ρ)
  | [] => rfl
  | (g, x) :: r => by
    unfold renF
    rw [List.map_cons]
    by_cases e : f = g
    · subst e; simp only [List.lookup, beq_self_eq_true, Option.map_some]
    · have : (f == g) = false := by simpa using e
      simp only [List.lookup, this]
      exact lookup_ren f r
theorem mem_lookup {f : Str} {v : W} : ∀ {fs : List (Str × W)}, fs.lookup f = some v → ∃ p ∈ fs, p.2 = v
  | (g, x) :: r, e => by
    by_cases q : f = g
    · subst q
      simp only [List.lookup, beq_self_eq_true, Option.some.injEq] at e
      exact ⟨(f, x), List.mem_cons_self, e⟩
    · have z : (f == g) = false := by simpa using q
      simp only [List.lookup, z] at e
      obtain ⟨p, hp, hv⟩ := mem_lookup e
      exact ⟨p, List.mem_cons_of_mem _ hp, hv⟩
theorem put_ren {ρ : Nat → Addr} (f : Str) (v : W) : ∀ fs : List (Str × W), renF γ ρ (HL.putW f v fs) = putF f (renW γ ρ v) (renF γ ρ fs)
  | [] => rfl
  | (g, x) :: r => by
    unfold HL.putW
    by_cases e : g = f
    · rw [if_pos e]; simp only [renF, List.map_cons, putF, if_pos e]
    · rw [if_neg e]
      have ih := put_ren (ρ := ρ) f v r
      simp only [renF, List.map_cons, putF, if_neg e] at ih ⊢
      rw [ih]
theorem wf_putW {n : Nat} {f : Str} {v : W} (wv : wf n v) : ∀ {fs : List (Str × W)}, (∀ p ∈ fs, wf n p.2) → ∀ p ∈ HL.putW f v fs, wf n p.2
  | [], _, p, hp => by
    unfold HL.putW at hp
    rw [List.mem_singleton.mp hp]; exact wv
  | (g, x) :: r, w, p, hp => by
    unfold HL.putW at hp
    by_cases e : g = f
    · rw [if_pos e] at hp
      rcases List.mem_cons.mp hp with z | z
      · rw [z]; exact wv
      · exact w p (List.mem_cons_of_mem _ z)
    · rw [if_neg e] at hp
      rcases List.mem_cons.mp hp with z | z
      · rw [z]; exact w (g, x) List.mem_cons_self
      · exact wf_putW wv (fun q hq => w q (List.mem_cons_of_mem _ hq)) p z
def FldOk (K : PySem.W.Frag) (γ : Str → Addr) (cs : List Str) (f : Str) : Prop := ∀ c ∈ cs, Cls K (γ c) ∧ NoAttr K (γ c) f
theorem q_fld {cs : List Str} {f : Str} (k : FldOk X.K γ cs f) (he : QE γ X e de) (hb : attributeBase e f X.env (eval e X.env) = eval e X.env := by rfl) : QE γ X (.Attribute e f pos) (HL.dFld cs f de) :=
  (pe_fld he hb).imp fun σ H Q ⟨ρ, s, h, S, x⟩ => by
    unfold HL.dFld at x
    refine ⟨ρ, s, h, S, GoodR.bind x fun v h1 ρ1 H1 _ n1 S1 w1 x1 => ?_⟩
    cases v with
    | ref i =>
      simp only [HL.getF] at x1
      cases q : h1[i]? with
      | none => rw [q] at x1; exact x1.elim
      | some ob =>
        rw [q] at x1
        cases ob with
        | ins c fs =>
          simp only at x1
          split at x1
          · rename_i v e1
            split at e1
            · rename_i hc
              obtain ⟨dx, ea⟩ := S1.ob i _ q
              have k1 := k c (by simpa using hc)
              refine ⟨ρ1 i, γ c, dx, renF γ ρ1 fs, renW γ ρ1 v, rfl, ea, k1.1, k1.2, by rw [lookup_ren, e1]; rfl, ?_⟩
              obtain ⟨p, hp, rfl⟩ := mem_lookup e1
              exact x1 ρ1 H1 (Nxt.refl _ _) S1 (S1.wf i _ q p hp)
            · cases e1
          · exact x1.elim
        | _ => exact x1.elim
    | _ => exact x1.elim
theorem qs_fld {cs : List Str} {f : Str} (k : FldOk X.K γ cs f) (ho : QE γ X o d1) (he : QE γ X e de) (hs : swapsWith e (some (.Attribute o f pos')) pos.line X.env = pure false := by rfl) : QS γ X (.Assign [.Attribute o f pos'] e pos) (HL.sFld cs f d1 de) :=
  (ps_fld ho he hs).imp fun D σ H ⟨ρ, s, h, S, x⟩ => by
    unfold HL.sFld at x
    refine ⟨ρ, s, h, S, ?_⟩
    cases q1 : de s h with
    | ok v h1 =>
      rw [q1] at x
      intro ρ1 H1 n1 S1 w1
      have T1 := S.next n1 S1
      refine ⟨ρ1, s, h1, T1, ?_⟩
      simp only [HL.R.bind] at x
      cases q2 : d1 s h1 with
      | ok xo h2 =>
        rw [q2] at x
        intro ρ2 H2 n2 S2 w2
        have T2 := T1.next n2 S2
        simp only at x
        cases xo with
        | ref i =>
          simp only [HL.setF] at x
          cases q : h2[i]? with
          | none => rw [q] at x; exact x.elim
          | some ob =>
            rw [q] at x
            cases ob with
            | ins c fs =>
              simp only at x
              by_cases hc : cs.contains c = true ∧ fs.length < 1000
              · rw [if_pos hc] at x
                obtain ⟨dx, ea⟩ := S2.ob i _ q
                have k1 := k c (by simpa using hc.1)
                have wv := w1.mono n2.le
                refine ⟨ρ2 i, γ c, dx, renF γ ρ2 fs, rfl, ea, k1.1, k1.2, by simp only [renF, List.length_map]; exact hc.2, ?_⟩
                have S3 : SimH X.K γ ρ2 (h2.set i (.ins c (HL.putW f v fs))) (upd H2 (ρ2 i) (.ins (γ c) dx (putF f (renW γ ρ2 v) (renF γ ρ2 fs)))) :=
                  S2.chg q rfl rfl (wf_putW wv (S2.wf i _ q)) ⟨dx, by rw [upd_same, put_ren]⟩
                have z := x ρ2 _ ((n1.trans n2).trans (Nxt.chg _ _ i _)) S3 (by rw [List.length_set]; exact T2.ws)
                rw [ren_ag w1 n2.ag, T2.eq]
                exact z
              · rw [if_neg hc] at x; exact x.elim
            | _ => exact x.elim
        | _ => exact x.elim
      | ex => rw [q2] at x; exact x.elim
      | er => rw [q2] at x; exact x.elim
    | ex => rw [q1] at x; exact x.elim
    | er => rw [q1] at x; exact x.elim
def tMethG (G : Addr → Sp → Prop) (m : Str) (ta : TE) (t : TA) : TE := fun σ H Q => ta σ H fun x H1 => ∃ a C dx fs sp, x = .ref a ∧ H1 a = some (.ins C dx fs) ∧ fs.lookup m = none ∧ G C sp ∧
  t σ H1 fun vs H2 => sp (x :: vs) H2 Q E0
variable {G : Addr → Sp → Prop} {m : Str} {es : List Expr} {ta : TE} {t : TA}
theorem pe_methG {pl : Sem Bool} (hG : ∀ C sp, G C sp → Cls X.K C ∧ ∃ k ps, MDef X.prog X.w X.K X.mg X.base k C m ps sp ∧ Room k X.A) (he : PE X o ta) (ha : PA X (e :: es) t)
    (hst : starEach (e :: es) X.env = (false, eval e X.env) :: starEach es X.env := by rfl) (hpl : (backTo pos (starEach es X.env)).any (·.1) = false := by rfl)
    (ht : eval (.Call (.Attribute o m apos) (e :: es) [] pos) X.env = (do
      let ov ← eval o X.env
      standAt apos.atName
      let (f, first) ← holding [ov] (getMethod ov m pl)
      callWith pos f first (backTo pos (starEach (e :: es) X.env)) (backToKw pos (keywordEach [] X.env))) := by rfl) :
    PE X (.Call (.Attribute o m apos) (e :: es) [] pos) (tMethG G m ta t) := by
  intro pins s σ H Q I h
  refine PySem.W.methodCall_KW (pl := pl) (thn (he pins s σ H _ I h) fun u s1 ⟨x, H1, I1, rx, a, C, dx, fs, sp, ex, ea, l, g, q⟩ => ?_) ht
  subst ex
  obtain rfl : u = Value.ref a := rx
  obtain ⟨c, k, ps, D, hr⟩ := hG C sp g
  obtain ⟨f, fd, F, fa, n, kp, b⟩ := D.ex
  refine getmeth_ok I1 ea c ⟨fa, n, kp⟩ l ?_
  refine PySem.W.callWith_K (first := [.ref a]) (h₀ := X.base) I.ok.mod.kin kp (thn (ha pos pins s1 σ H1 _ I1 q) fun us s2 ⟨vs, H2, I2, r, q2⟩ => ⟨I2.kIn, ?_⟩) hst hpl
  exact run_fn (us := .ref a :: us) (vs := .ref a :: vs) (dvs := []) (ds := []) F hr b .nil pass0 I2 (.cons rfl r) (by rw [List.append_nil]; exact q2)
theorem pe_methG0 {pl : Sem Bool} (hG : ∀ C sp, G C sp → Cls X.K C ∧ ∃ k ps, MDef X.prog X.w X.K X.mg X.base k C m ps sp ∧ Room k X.A) (he : PE X o ta)
    (ht : eval (.Call (.Attribute o m apos) [] [] pos) X.env = (do
      let ov ← eval o X.env
      standAt apos.atName
      let (f, first) ← holding [ov] (getMethod ov m pl)
      callWith pos f first (backTo pos (starEach [] X.env)) (backToKw pos (keywordEach [] X.env))) := by rfl) :
    PE X (.Call (.Attribute o m apos) [] [] pos) (tMethG G m ta tNil) := by
  intro pins s σ H Q I h
  refine PySem.W.methodCall_KW (pl := pl) (thn (he pins s σ H _ I h) fun u s1 ⟨x, H1, I1, rx, a, C, dx, fs, sp, ex, ea, l, g, q⟩ => ?_) ht
  subst ex
  obtain rfl : u = Value.ref a := rx
  obtain ⟨c, k, ps, D, hr⟩ := hG C sp g
  obtain ⟨f, fd, F, fa, n, kp, b⟩ := D.ex
  refine getmeth_ok I1 ea c ⟨fa, n, kp⟩ l ?_
  exact PySem.W.callWith_K0 (first := [.ref a]) I1.kIn kp (run_fn (us := [.ref a]) (vs := [.ref a]) (dvs := []) (ds := []) F hr b .nil pass0 I1 (.cons rfl .nil) q)
def MtOk (X : Cx) (γ : Str → Addr) (m : Str) (tb : List (Str × Fn)) : Prop := ∀ c f, tb.lookup c = some f → Cls X.K (γ c) ∧ ∃ k p n bd ps, f = HL.fnOf p n bd ∧ MDef X.prog X.w X.K X.mg X.base k (γ c) m ps (spF X.K γ p f) ∧ Room k X.A
theorem MtOk.nil : MtOk X γ m [] := fun c f e => by cases e
theorem MtOk.cons {tb : List (Str × Fn)} {c : Str} {k p n : Nat} {bd : DS} {ps : List Str} (h : Cls X.K (γ c)) (D : MDef X.prog X.w X.K X.mg X.base k (γ c) m ps (spF X.K γ p (HL.fnOf p n bd))) (hr : Room k X.A) (r : MtOk X γ m tb) : MtOk X γ m ((c, HL.fnOf p n bd) :: tb) := fun c' f e => by
  by_cases q : c' = c
  · subst q
    simp only [List.lookup, beq_self_eq_true, Option.some.injEq] at e
    subst e
    exact ⟨h, k, p, n, bd, ps, rfl, D, hr⟩
  · have z : (c' == c) = false := by simpa using q
    simp only [List.lookup, z] at e
    exact r c' f e
def MtG (X : Cx) (γ : Str → Addr) (m : Str) (tb : List (Str × Fn)) (C : Addr) (sp : Sp) : Prop := ∃ c f p n bd k ps, C = γ c ∧ tb.lookup c = some f ∧ f = HL.fnOf p n bd ∧ sp = spF X.K γ p f ∧ Cls X.K (γ c) ∧ MDef X.prog X.w X.K X.mg X.base k (γ c) m ps (spF X.K γ p f) ∧ Room k X.A
theorem MtG.ok {tb : List (Str × Fn)} : ∀ C sp, MtG X γ m tb C sp → Cls X.K C ∧ ∃ k ps, MDef X.prog X.w X.K X.mg X.base k C m ps sp ∧ Room k X.A := by
  rintro C sp ⟨c, f, p, n, bd, k, ps, rfl, e, rfl, rfl, h, D, hr⟩
  exact ⟨h, k, ps, D, hr⟩
theorem spF_of {K : PySem.W.Frag} {f : Fn} {p n : Nat} {bd : DS} {ρ : Nat → Addr} {h : Sh} {H : Hp} {us : List W} {Q : VK} {E : XK} (e : f = HL.fnOf p n bd) (S : SimH K γ ρ h H) (w : wfs h.length us) (x : GoodV K γ ρ h (f us h) Q) : spF K γ p f (us.map (renW γ ρ)) H Q E := by
  refine ⟨?_, ρ, h, us, S, w, rfl, x⟩
  rw [List.length_map]
  cases q : f us h with
  | ok v h' => rw [e] at q; exact fnOf_len q
  | ex => rw [q] at x; exact x.elim
  | er => rw [q] at x; exact x.elim
theorem meth_of {tb : List (Str × Fn)} {d : DA} (k : MtOk X γ m tb) (σ : St) (H : Hp) (Q : VK) (x : eE X.K γ (HL.dMeth tb m d1 d) σ H Q) : tMethG (MtG X γ m tb) m (eE X.K γ d1) (eA X.K γ d) σ H Q := by
  obtain ⟨ρ, s, h, S, x⟩ := x
  unfold HL.dMeth at x
  refine ⟨ρ, s, h, S, GoodR.bind x fun v h1 ρ1 H1 _ n1 S1 w1 x1 => ?_⟩
  split at x1
  · rename_i f e1
    cases v with
    | ref i =>
      simp only [HL.findM] at e1
      split at e1
      · rename_i c fs q
        split at e1
        · rename_i hl
          obtain ⟨dx, ea⟩ := S1.ob i _ q
          obtain ⟨hc, kk, p, n, bd, ps, ef, D, hr⟩ := k c f e1
          refine ⟨ρ1 i, γ c, dx, renF γ ρ1 fs, _, rfl, ea, by rw [lookup_ren, hl]; rfl, ⟨c, f, p, n, bd, kk, ps, rfl, e1, ef, rfl, hc, D, hr⟩, ?_⟩
          refine ⟨ρ1, s, h1, S.next n1 S1, GoodR.bind x1 fun us h2 ρ2 H2 _ n2 S2 w2 x2 => ?_⟩
          have wi : wf h2.length (.ref i) := w1.mono n2.le
          have z := spF_of (E := E0) (us := .ref i :: us) ef S2 (fun y hy => by
            rcases List.mem_cons.mp hy with r | r
            · rw [r]; exact wi
            · exact w2 y r) x2
          rw [List.map_cons] at z
          have e3 : renW γ ρ2 (.ref i) = renW γ ρ1 (.ref i) := (ren_ag w1 n2.ag).symm
          rw [e3] at z
          exact z
        · cases e1
      · cases e1
    | _ => cases e1
  · exact x1.elim
theorem q_meth {tb : List (Str × Fn)} {d : DA} {pl : Sem Bool} (k : MtOk X γ m tb) (he : QE γ X o d1) (ha : QA γ X (e :: es) d)
    (hst : starEach (e :: es) X.env = (false, eval e X.env) :: starEach es X.env := by rfl) (hpl : (backTo pos (starEach es X.env)).any (·.1) = false := by rfl)
    (ht : eval (.Call (.Attribute o m apos) (e :: es) [] pos) X.env = (do
      let ov ← eval o X.env
      standAt apos.atName
      let (f, first) ← holding [ov] (getMethod ov m pl)
      callWith pos f first (backTo pos (starEach (e :: es) X.env)) (backToKw pos (keywordEach [] X.env))) := by rfl) :
    QE γ X (.Call (.Attribute o m apos) (e :: es) [] pos) (HL.dMeth tb m d1 d) := (pe_methG (pl := pl) MtG.ok he ha hst hpl ht).imp (meth_of k)
theorem q_meth0 {tb : List (Str × Fn)} {pl : Sem Bool} (k : MtOk X γ m tb) (he : QE γ X o d1)
    (ht : eval (.Call (.Attribute o m apos) [] [] pos) X.env = (do
      let ov ← eval o X.env
      standAt apos.atName
      let (f, first) ← holding [ov] (getMethod ov m pl)
      callWith pos f first (backTo pos (starEach [] X.env)) (backToKw pos (keywordEach [] X.env))) := by rfl) :
    QE γ X (.Call (.Attribute o m apos) [] [] pos) (HL.dMeth tb m d1 HL.dNil) := (pe_methG0 (pl := pl) MtG.ok he ht).imp fun σ H Q x => by
  obtain ⟨ρ, s, h, S, x⟩ := meth_of k σ H Q x
  refine ⟨ρ, s, h, S, ?_⟩
  cases q : d1 s h with
  | ok v h1 =>
    rw [q] at x
    intro ρ1 H1 n1 S1 w1
    obtain ⟨a, C, dx, fs, sp, e1, e2, e3, e4, x⟩ := x ρ1 H1 n1 S1 w1
    obtain ⟨ρ2, s2, h2, S2, x⟩ := x
    exact ⟨a, C, dx, fs, sp, e1, e2, e3, e4, x ρ2 H1 (Nxt.refl _ _) S2.hp fun _ z => by cases z⟩
  | ex => rw [q] at x; exact x.elim
  | er => rw [q] at x; exact x.elim
structure NewOk (X : Cx) (γ : Str → Addr) (x : Str) (p : Nat) (f : Fn) (vs : List W) : Prop where
  at_ : X.mg x = some (.ref (γ x))
  ex : ∃ k g fd ps ds n bd, f = HL.fnOf p n bd ∧ Mk X.K (γ x) g ∧ FnOk X.prog X.w X.K X.mg X.base CX0 k g fd ps (spF X.K γ p f) ∧ Room (k + 1) X.A ∧ Binds X.K fd ps ds ∧ (∀ ρ, Vals (vs.map (renW γ ρ)) ds) ∧ ∀ n, wfs n vs
theorem renWs_const {vs : List W} (h : ∀ n, wfs n vs) (ρ ρ' : Nat → Addr) : vs.map (renW γ ρ) = vs.map (renW γ ρ') := rens_ag (h 0) fun i hi => absurd hi (Nat.not_lt_zero _)
theorem new_of {C : Str} {f : Fn} {p n : Nat} {bd : DS} {vs : List W} {d : DA} {ρ0 : Nat → Addr} (ef : f = HL.fnOf p n bd) (wv : ∀ n, wfs n vs) (σ : St) (H : Hp) (Q : VK) (x : eE X.K γ (HL.dNew C f vs d) σ H Q) : tMake (γ C) (spF X.K γ p f) (vs.map (renW γ ρ0)) E0 (eA X.K γ d) σ H Q := by
  obtain ⟨ρ, s, h, S, x⟩ := x
  unfold HL.dNew at x
  refine ⟨ρ, s, h, S, GoodR.bind x fun us h1 ρ1 H1 _ n1 S1 w1 x1 => ?_⟩
  intro y dx hy hdx ne
  have hdx' : upd H1 dx (.own y) y = none := by rw [upd_ne ne.symm]; exact hy
  have E1 : Ext H1 (upd (upd H1 dx (.own y)) y (.ins (γ C) dx [])) := (Ext.upd _ hdx).trans (Ext.upd _ hdx')
  have S2 := S1.push (p := y) (o := .ins C []) (fun q hq => by cases hq) E1 hy ⟨dx, upd_same⟩
  have w2 : wfs (h1 ++ [SO.ins C []]).length (.ref h1.length :: (us ++ vs)) := fun q hq => by
    rcases List.mem_cons.mp hq with r | r
    · rw [r]; show h1.length < (h1 ++ [_]).length; simp
    · rcases List.mem_append.mp r with r | r
      · exact (w1 q r).mono (by simp)
      · exact wv _ q r
  have n2 := Nxt.push h1 ρ1 (.ins C []) y
  have z := spF_of (E := E0) ef S2 w2 (Q := fun v H2 => v = .non ∧ Q (.ref y) H2) (GoodR.bind (x1.later n2) fun v h3 ρ3 H3 _ n3 S3 w3 x3 => by
    by_cases hv : v = .non
    · rw [if_pos hv] at x3
      subst hv
      refine ⟨rfl, ?_⟩
      have q := x3 ρ3 H3 (Nxt.refl _ _) S3 (Nat.lt_of_lt_of_le (by simp) n3.le)
      rw [show renW γ ρ3 (.ref h1.length) = V.ref y from congrArg V.ref (by rw [← n3.ag h1.length (by simp), put_at])] at q
      exact q
    · rw [if_neg hv] at x3; exact x3.elim)
  rw [List.map_cons, List.map_append] at z
  rw [show renW γ (put ρ1 h1.length y) (.ref h1.length) = V.ref y from congrArg V.ref (put_at _ _ _), ← rens_ag w1 (put_ag _ _ _), renWs_const wv _ ρ0] at z
  exact z
theorem q_new {x : Str} {p : Nat} {f : Fn} {vs : List W} {pp : Pos} {d : DA} (k : NewOk X γ x p f vs) (hg : Gl X x) (ha : QA γ X (e :: es) d) (hdb : (x == ("__debug__" : Str)) = false := by decide)
    (he : starEach (e :: es) X.env = (false, eval e X.env) :: starEach es X.env := by rfl) (hpl : (backTo pos (starEach es X.env)).any (·.1) = false := by rfl) : QE γ X (.Call (.Name x pp) (e :: es) [] pos) (HL.dNew x f vs d) := by
  obtain ⟨kk, g, fd, ps, ds, n, bd, ef, M, F, hr, hb, hv, wv⟩ := k.ex
  exact (pe_make M F hr hg k.at_ hb (hv fun _ => 0) pass0 ha hdb he hpl).imp (new_of ef wv)
end
end L2
namespace L2
open PySem PySem.Spec PyProof.Rows
open HL (W SO Sh Sg OR DE DT DA DS Fn)
section
variable {K : PySem.W.Frag} {γ : Str → Addr}
theorem os_sub : OpS K γ (rI0 fun i j => .int (i - j)) HL.oSub := fun ρ h H x y Q S wx wy q => by
  obtain ⟨i, j, e1, e2, _, q⟩ := os_int (K := K) (γ := γ) (c := fun _ _ => true) (C := fun _ _ => True) (f := fun i j => i - j) (fun _ _ _ => trivial) ρ h H x y Q S wx wy q
  exact ⟨i, j, e1, e2, q⟩
theorem os_mod : OpS K γ (rI (fun _ j => 0 < j) fun i j => .int (i % j)) HL.oMod := os_int fun _ _ h => of_decide_eq_true h
theorem os_div : OpS K γ (rI CDiv fun i j => .int (i / j)) HL.oDiv := os_int fun _ _ h => by
  obtain ⟨a, b⟩ := (Bool.and_eq_true _ _).mp h
  exact ⟨of_decide_eq_true a, of_decide_eq_true b⟩
end
section
variable {X : Cx} {γ : Str → Addr} {a b c e : Expr} {da db dc de : DE} {pos : Pos}
theorem v (i : Nat) {x : Str} (hN : X.N[i]? = some x := by rfl) (hv : Vis X.env.scope x := by first | exact Or.inl rfl | exact Or.inr (Or.inl rfl) | exact Or.inr (Or.inr rfl)) (hd : (x == ("__debug__" : Str)) = false := by decide)
    (hcd : (x == ("__classdict__" : Str)) = false := by decide) : QE γ X (.Name x pos) (HL.dVar i) := q_var hN hv hd hcd
theorem sset (i : Nat) {x : Str} {pos' : Pos} (hN : X.N.Nodup) (he : QE γ X e de) (hi : X.N[i]? = some x := by rfl) (hx : Loc X.env.scope x := by first | exact Or.inl rfl | exact Or.inr rfl) (hs : swapsWith e (some (.Name x pos')) pos.line X.env = pure false := by rfl) (hf : X.fn x = true ∨ X.env.scope.names.lookup x = some .local := by first | exact .inl rfl | exact .inr rfl | assumption) :
    QS γ X (.Assign [.Name x pos'] e pos) (HL.sSet i de) := qs_set hN hi hx he hs hf
theorem gn (i : Nat) {x : Str} (hN : X.N.Nodup) (hi : X.N[i]? = some x := by rfl) (hx : Loc X.env.scope x := by first | exact Or.inl rfl | exact Or.inr rfl) (hf : X.fn x = true ∨ X.env.scope.names.lookup x = some .local := by first | exact .inl rfl | exact .inr rfl | assumption) : QG γ X (.Name x pos) (HL.gName i) := qg_name hN hi hx hf
theorem pn (i : Nat) {x : Str} (hN : X.N.Nodup) (hi : X.N[i]? = some x := by rfl) (hx : Loc X.env.scope x := by first | exact Or.inl rfl | exact Or.inr rfl) (hf : X.fn x = true ∨ X.env.scope.names.lookup x = some .local := by first | exact .inl rfl | exact .inr rfl | assumption) : PG X (.Name x pos) (gName i) := pg_name hN hi hx hf
theorem b_Add (ha : QE γ X a da) (hb : QE γ X b db) : QE γ X (.BinOp a .Add b pos) (HL.dOp HL.oAdd da db) := q_op op_addA os_add nw_add ha hb
theorem b_Sub (ha : QE γ X a da) (hb : QE γ X b db) : QE γ X (.BinOp a .Sub b pos) (HL.dOp HL.oSub da db) := q_op op_sub os_sub nw_int ha hb
theorem b_Mult (ha : QE γ X a da) (hb : QE γ X b db) : QE γ X (.BinOp a .Mult b pos) (HL.dOp HL.oMul da db) := q_op op_mulA os_mul nw_mul ha hb
theorem b_Mod (ha : QE γ X a da) (hb : QE γ X b db) : QE γ X (.BinOp a .Mod b pos) (HL.dOp HL.oMod da db) := q_op op_mod os_mod nw_int ha hb
theorem b_FloorDiv (ha : QE γ X a da) (hb : QE γ X b db) : QE γ X (.BinOp a .FloorDiv b pos) (HL.dOp HL.oDiv da db) := q_op op_fdiv os_div nw_int ha hb
theorem c_Eq (hu : X.A.units + 64 < cLine) (ha : QE γ X a da) (hb : QE γ X b db) (hm : behindInMarks .Eq b = false := by rfl) : QE γ X (.Compare a [.Eq] [b] pos) (HL.dOp HL.oEq da db) := q_cmp (op_eqP hu) os_eq bo_eq.nw ha hb hm
theorem t_Eq (hu : X.A.units + 64 < cLine) (ha : QE γ X a da) (hb : QE γ X b db) (hm : behindInMarks .Eq b = false := by rfl) : QT γ X (.Compare a [.Eq] [b] pos) (HL.dT (HL.dOp HL.oEq da db)) := qt_cmp (op_eqP hu) os_eq bo_eq.nw bo_eq ha hb hm
theorem t_NotEq (hu : X.A.units + 64 < cLine) (ha : QE γ X a da) (hb : QE γ X b db) (hm : behindInMarks .NotEq b = false := by rfl) : QT γ X (.Compare a [.NotEq] [b] pos) (HL.dT (HL.dOp HL.oNe da db)) := qt_cmp (op_neP hu) os_ne bo_ne.nw bo_ne ha hb hm
theorem t_Is (ha : QE γ X a da) (hb : QE γ X b db) (hm : behindInMarks .Is b = false := by rfl) : QT γ X (.Compare a [.Is] [b] pos) (HL.dT (HL.dOp HL.oIs da db)) := qt_cmp op_isN os_isN bo_is.nw bo_is ha hb hm
theorem t_IsNot (ha : QE γ X a da) (hb : QE γ X b db) (hm : behindInMarks .IsNot b = false := by rfl) : QT γ X (.Compare a [.IsNot] [b] pos) (HL.dT (HL.dOp HL.oIsNot da db)) := qt_cmp op_notN os_notN bo_isnot.nw bo_isnot ha hb hm
theorem t_In (ha : QE γ X a da) (hb : QE γ X b db) (hm : behindInMarks .In b = false := by rfl) : QT γ X (.Compare a [.In] [b] pos) (HL.dT (HL.dOp HL.oIn da db)) := qt_cmp op_in_seq os_in bo_in.nw bo_in ha hb hm
theorem t_NotIn (ha : QE γ X a da) (hb : QE γ X b db) (hm : behindInMarks .NotIn b = false := by rfl) : QT γ X (.Compare a [.NotIn] [b] pos) (HL.dT (HL.dOp HL.oNotIn da db)) := qt_cmp op_notIn_seq os_notIn bo_notIn.nw bo_notIn ha hb hm
theorem c_LtE_LtE (ha : QE γ X a da) (hb : QE γ X b db) (hc : QE γ X c dc) (hm : lastMarks [.LtE, .LtE] [b, c] = false := by with_unfolding_all rfl) : QE γ X (.Compare a [.LtE, .LtE] [b, c] pos) (HL.dChain HL.oLe HL.oLe da db dc) := q_chain op_le os_cmp bo_cmp.nw bo_cmp op_le os_cmp bo_cmp.nw ha hb hc hm
theorem u_neg (ha : QE γ X a da) : QE γ X (.UnaryOp .USub a pos) (HL.dUn HL.oNeg da) := q_un un_neg us_neg nw_neg ha
theorem ix (ha : QE γ X a da) (hb : QE γ X b db) (hp : PlainIx b := by exact fun _ _ => rfl) : QE γ X (.Subscript a b pos) (HL.dOp HL.oIx da db) := q_ix ix_seq os_ix nw_ix ha hb hp
theorem boot_all : bootBuiltins (Str.ofString "all") = some (.builtin "all") := by kernel_rfl
theorem f_len {p : Pos} {es : List Expr} {d : DA} (hg : Gl X "len") (hm : X.mg "len" = none) (ha : QA γ X (e :: es) d) (he : starEach (e :: es) X.env = (false, eval e X.env) :: starEach es X.env := by rfl) (hpl : (backTo pos (starEach es X.env)).any (·.1) = false := by rfl) : QE γ X (.Call (.Name "len" p) (e :: es) [] pos) (HL.dB HL.bLen d) := q_callB call_len cs_len nw_len hg hm PySem.boot_len ha (by decide) (by decide) he hpl
theorem f_min (hc : X.calm = true) {p : Pos} {es : List Expr} {d : DA} (hg : Gl X "min") (hm : X.mg "min" = none) (ha : QA γ X (e :: es) d) (he : starEach (e :: es) X.env = (false, eval e X.env) :: starEach es X.env := by rfl) (hpl : (backTo pos (starEach es X.env)).any (·.1) = false := by rfl) : QE γ X (.Call (.Name "min" p) (e :: es) [] pos) (HL.dB HL.bMin2 d) := q_callB (call_min2F hc) cs_min2 nw_min2 hg hm PyProof.Rows.boot_min ha (by decide) (by decide) he hpl
theorem f_all (hc : X.calm = true) {p : Pos} {es : List Expr} {d : DA} (hg : Gl X "all") (hm : X.mg "all" = none) (ha : QA γ X (e :: es) d) (he : starEach (e :: es) X.env = (false, eval e X.env) :: starEach es X.env := by rfl) (hpl : (backTo pos (starEach es X.env)).any (·.1) = false := by rfl) : QE γ X (.Call (.Name "all" p) (e :: es) [] pos) (HL.dB HL.bAll d) := q_callB (call_all hc) cs_all nw_all hg hm boot_all ha (by decide) (by decide) he hpl
theorem f_int {p : Pos} {es : List Expr} {d : DA} (hg : Gl X "int") (hm : X.mg "int" = none) (ha : QA γ X (e :: es) d) (he : starEach (e :: es) X.env = (false, eval e X.env) :: starEach es X.env := by rfl) (hpl : (backTo pos (starEach es X.env)).any (·.1) = false := by rfl) : QE γ X (.Call (.Name "int" p) (e :: es) [] pos) (HL.dB HL.bInt d) := q_callTy call_int1F cs_int nw_bint hg hm PyProof.Rows.boot_int ha (by decide) (by decide) he hpl
theorem f_list {p : Pos} {es : List Expr} {d : DA} (hg : Gl X "list") (hm : X.mg "list" = none) (ha : QA γ X (e :: es) d) (he : starEach (e :: es) X.env = (false, eval e X.env) :: starEach es X.env := by rfl) (hpl : (backTo pos (starEach es X.env)).any (·.1) = false := by rfl) : QE γ X (.Call (.Name "list" p) (e :: es) [] pos) (HL.dB HL.bList d) := q_callTy call_list_of cs_list nw_blist hg hm PyProof.Rows.boot_list ha (by decide) (by decide) he hpl
theorem f_tuple {p : Pos} {es : List Expr} {d : DA} (hg : Gl X "tuple") (hm : X.mg "tuple" = none) (ha : QA γ X (e :: es) d) (he : starEach (e :: es) X.env = (false, eval e X.env) :: starEach es X.env := by rfl) (hpl : (backTo pos (starEach es X.env)).any (·.1) = false := by rfl) : QE γ X (.Call (.Name "tuple" p) (e :: es) [] pos) (HL.dB HL.bTuple d) := q_callTy call_tuple_of cs_tuple nw_btuple hg hm PyProof.Rows.boot_tuple ha (by decide) (by decide) he hpl
theorem f_isi {T : HL.CT} (O : IsiOk X.K γ T) {p : Pos} {es : List Expr} {d : DA} (hg : Gl X "isinstance") (hm : X.mg "isinstance" = none) (ha : QA γ X (e :: es) d) (he : starEach (e :: es) X.env = (false, eval e X.env) :: starEach es X.env := by rfl) (hpl : (backTo pos (starEach es X.env)).any (·.1) = false := by rfl) : QE γ X (.Call (.Name "isinstance" p) (e :: es) [] pos) (HL.dB (HL.bIsi T) d) := q_callB call_isiT (cs_isi O) nw_isi hg hm PyProof.Rows.boot_isinstance ha (by decide) (by decide) he hpl
end
end L2
namespace L2
open PySem PySem.Spec PyProof.Rows
open HL (W SO Sh Sg OR DE DT DA DS Fn)
structure MethB (K : PySem.W.Frag) (C : Addr) (m qual : Str) (st : Stmt) (ps : List Str) : Prop where
  ex : ∃ (f : Addr) (oc : Value) (od : Option Addr) (dV kV doc pm : Value) (an : Option Addr) (cdv ct : Value) (osl : Array (Option Value)),
    K.lookup f = some ⟨oc, od, .func (PySem.W.fnOf m qual (defArgs st) (defBody st) (defScope st) dV kV doc pm an cdv ct), osl⟩ ∧ PySem.W.codeIn K cdv qual = true ∧ PySem.W.keepIn K (.ref f) = true ∧ PySem.W.findIn K (.ref C) m = some (some (.ref f)) ∧ PySem.W.isFn K (.ref f) = true ∧
    Binds K (PySem.W.fnOf m qual (defArgs st) (defBody st) (defScope st) dV kV doc pm an cdv ct) ps []
theorem methB_mk {K : PySem.W.Frag} {C : Addr} {m qual : Str} {st : Stmt} {ps : List Str} {f : Addr} {oc : Value} {od an : Option Addr} {osl : Array (Option Value)} {dV kV doc pm cdv ct : Value}
    (a : PySem.W.findIn K (.ref C) m = some (some (.ref f))) (l : K.lookup f = some ⟨oc, od, .func (PySem.W.fnOf m qual (defArgs st) (defBody st) (defScope st) dV kV doc pm an cdv ct), osl⟩)
    (c : PySem.W.codeIn K cdv qual = true) (k : PySem.W.keepIn K (.ref f) = true) (n : PySem.W.isFn K (.ref f) = true) (b : Binds K (PySem.W.fnOf m qual (defArgs st) (defBody st) (defScope st) dV kV doc pm an cdv ct) ps []) : MethB K C m qual st ps := ⟨f, oc, od, dV, kV, doc, pm, an, cdv, ct, osl, l, c, k, a, n, b⟩
section
variable {P : Program} {w : World} {K : PySem.W.Frag} {mg : Str → Option Value} {base : Heap} {γ : Str → Addr}
theorem MethB.qdef {C : Addr} {m qual : Str} {st : Stmt} {N ps : List Str} {k p n : Nat} {bd : DS} (F : MethB K C m qual st ps) (S : FnScope N ps (defScope st)) (hp : ps.length = p) (hn : N.length = n)
    (hbody : ∀ (f : Addr) (cdv : Value) (A : Around) (outer : List Env) (s : Shared) (H : Hp) (E : XK), Room k (A.deeper (envOfC qual (defScope st) s.heap.objs.size f cdv)) →
      QSs γ (cxOf CX0 P w K mg base N qual (defScope st) f cdv A outer s H E).nox (defBody st) bd) : MDef P w K mg base (k + 1) C m ps (spF K γ p (HL.fnOf p n bd)) := by
  obtain ⟨f, oc, od, dV, kV, doc, pm, an, cdv, ct, osl, lk, hcd, kp, fi, isf, hb⟩ := F.ex
  refine ⟨f, _, fn_of lk hcd S (fun vs H Q E h => h.1.trans hp.symm) fun A outer s H vs Q E hr hsp => ⟨_, (hbody f cdv A outer s H E hr).nox, ?_⟩, fi, isf, kp, hb⟩
  obtain ⟨_, ρ, hh, us, S, wu, e, x⟩ := hsp
  rw [e]
  subst hn
  exact fn_good S wu x
structure MkC (K : PySem.W.Frag) (mg : Str → Option Value) (x : Str) (C : Addr) : Prop where
  at_ : mg x = some (.ref C)
  makes : PySem.W.makesIn K C = true
  kp : PySem.W.keepIn K (.ref C) = true
end
theorem newOk_of {X : Cx} {γ : Str → Addr} {x : Str} {k p n : Nat} {bd : DS} {ps : List Str} (M : MkC X.K X.mg x (γ x)) (D : MDef X.prog X.w X.K X.mg X.base k (γ x) "__init__" ps (spF X.K γ p (HL.fnOf p n bd))) (hr : Room (k + 1) X.A) : NewOk X γ x p (HL.fnOf p n bd) [] where
  at_ := M.at_
  ex := by
    obtain ⟨f, fd, F, a, nf, kp, b⟩ := D.ex
    exact ⟨k, f, fd, ps, [], n, bd, rfl, ⟨M.makes, a, nf, M.kp⟩, F, hr, b, fun _ => .nil, fun _ y hy => by cases hy⟩
end L2
namespace L2
open PySem PySem.Spec PyProof.Rows
open HL (W SO Sh Sg OR DE DT DA DS Fn)
structure MethD (K : PySem.W.Frag) (C : Addr) (m qual : Str) (st : Stmt) (ps : List Str) (vs : List W) : Prop where
  ex : ∃ (f : Addr) (oc : Value) (od : Option Addr) (dV kV doc pm : Value) (an : Option Addr) (cdv ct : Value) (osl : Array (Option Value)),
    K.lookup f = some ⟨oc, od, .func (PySem.W.fnOf m qual (defArgs st) (defBody st) (defScope st) dV kV doc pm an cdv ct), osl⟩ ∧ PySem.W.codeIn K cdv qual = true ∧ PySem.W.keepIn K (.ref f) = true ∧ PySem.W.findIn K (.ref C) m = some (some (.ref f)) ∧ PySem.W.isFn K (.ref f) = true ∧
    ∃ ds, Binds K (PySem.W.fnOf m qual (defArgs st) (defBody st) (defScope st) dV kV doc pm an cdv ct) ps ds ∧ ∀ (γ : Str → Addr) (ρ : Nat → Addr), Vals (vs.map (renW γ ρ)) ds
theorem methD_mk {K : PySem.W.Frag} {C : Addr} {m qual : Str} {st : Stmt} {ps : List Str} {vs : List W} {f : Addr} {oc : Value} {od an : Option Addr} {osl : Array (Option Value)} {kV doc pm cdv ct : Value} {da : Addr} {A : Array Value} {o1 : Value} {o2 : Option Addr} {o3 : Array (Option Value)}
    (a : PySem.W.findIn K (.ref C) m = some (some (.ref f))) (l : K.lookup f = some ⟨oc, od, .func (PySem.W.fnOf m qual (defArgs st) (defBody st) (defScope st) (.ref da) kV doc pm an cdv ct), osl⟩)
    (_d : K.lookup da = some ⟨o1, o2, .seq A, o3⟩) (c : PySem.W.codeIn K cdv qual = true) (k : PySem.W.keepIn K (.ref f) = true) (n : PySem.W.isFn K (.ref f) = true) (b : Binds K (PySem.W.fnOf m qual (defArgs st) (defBody st) (defScope st) (.ref da) kV doc pm an cdv ct) ps A.toList)
    (v : ∀ (γ : Str → Addr) (ρ : Nat → Addr), Vals (vs.map (renW γ ρ)) A.toList) : MethD K C m qual st ps vs := ⟨f, oc, od, .ref da, kV, doc, pm, an, cdv, ct, osl, l, c, k, a, n, A.toList, b, v⟩
structure NDef (P : Program) (w : World) (K : PySem.W.Frag) (mg : Str → Option Value) (base : Heap) (k : Nat) (C : Addr) (m : Str) (ps : List Str) (vs : List W) (sp : Sp) : Prop where
  ex : ∃ f fd ds, FnOk P w K mg base CX0 k f fd ps sp ∧ PySem.W.findIn K (.ref C) m = some (some (.ref f)) ∧ PySem.W.isFn K (.ref f) = true ∧ PySem.W.keepIn K (.ref f) = true ∧ Binds K fd ps ds ∧ ∀ (γ : Str → Addr) (ρ : Nat → Addr), Vals (vs.map (renW γ ρ)) ds
section
variable {P : Program} {w : World} {K : PySem.W.Frag} {mg : Str → Option Value} {base : Heap} {γ : Str → Addr}
theorem MethD.qdef {C : Addr} {m qual : Str} {st : Stmt} {N ps : List Str} {k p n : Nat} {bd : DS} {vs : List W} (F : MethD K C m qual st ps vs) (S : FnScope N ps (defScope st)) (hp : ps.length = p) (hn : N.length = n)
    (hbody : ∀ (f : Addr) (cdv : Value) (A : Around) (outer : List Env) (s : Shared) (H : Hp) (E : XK), Room k (A.deeper (envOfC qual (defScope st) s.heap.objs.size f cdv)) →
      QSs γ (cxOf CX0 P w K mg base N qual (defScope st) f cdv A outer s H E).nox (defBody st) bd) : NDef P w K mg base (k + 1) C m ps vs (spF K γ p (HL.fnOf p n bd)) := by
  obtain ⟨f, oc, od, dV, kV, doc, pm, an, cdv, ct, osl, lk, hcd, kp, fi, isf, ds, hb, hv⟩ := F.ex
  refine ⟨f, _, ds, fn_of lk hcd S (fun vs H Q E h => h.1.trans hp.symm) fun A outer s H vs Q E hr hsp => ⟨_, (hbody f cdv A outer s H E hr).nox, ?_⟩, fi, isf, kp, hb, hv⟩
  obtain ⟨_, ρ, hh, us, S, wu, e, x⟩ := hsp
  rw [e]
  subst hn
  exact fn_good S wu x
end
theorem newOk_ofD {X : Cx} {γ : Str → Addr} {x : Str} {k p n : Nat} {bd : DS} {ps : List Str} {vs : List W} (M : MkC X.K X.mg x (γ x)) (D : NDef X.prog X.w X.K X.mg X.base k (γ x) "__init__" ps vs (spF X.K γ p (HL.fnOf p n bd))) (hr : Room (k + 1) X.A) (hw : ∀ n, wfs n vs) : NewOk X γ x p (HL.fnOf p n bd) vs where
  at_ := M.at_
  ex := by
    obtain ⟨f, fd, ds, F, a, nf, kp, b, hv⟩ := D.ex
    exact ⟨k, f, fd, ps, ds, n, bd, rfl, ⟨M.makes, a, nf, M.kp⟩, F, hr, b, fun ρ => hv γ ρ, hw⟩
end L2
namespace L2
open PySem
end L2
namespace L2
open PySem PySem.Spec PyProof.Rows
open HL (W SO Sh Sg OR DE DT DA DS Fn)
structure Mk0 (K : PySem.W.Frag) (mg : Str → Option Value) (x : Str) (C : Addr) : Prop where
  at_ : mg x = some (.ref C)
  makes : PySem.W.makesIn K C = true
  init : PySem.W.findIn K (.ref C) "__init__" = some (some (.builtin "object.__init__"))
  kp : PySem.W.keepIn K (.ref C) = true
section
variable {X : Cx} {γ : Str → Addr} {a b c e o f : Expr} {es : List Expr} {da db dc de d1 d2 : DE} {pos pos' apos cpos : Pos}
def DEs : List (Str × Int) → List DictEntry → Prop
  | [], [] => True
  | (k, i) :: r, e :: es => (∃ t, e.key = .str k t) ∧ (∃ t, e.val = .int i t) ∧ DEs r es
  | _, _ => False
structure DctI (K : PySem.W.Frag) (mg : Str → Option Value) (w : World) (x : Str) (tb : List (Str × Int)) : Prop where
  ex : ∃ D es n, mg x = some (.ref D) ∧ K.lookup D = some { cls := .type "dict", data := .dict es n } ∧ PySem.W.KeysLit w.params es.toList ∧ (D == sysModules) = false ∧ DEs tb es.toList
end
def gm (mg : Str → Option Value) (x : Str) : Addr := match mg x with
  | some (.ref a) => a
  | _ => 0
theorem gm_of {mg : Str → Option Value} {x : Str} {C : Addr} (h : mg x = some (.ref C)) : gm mg x = C := by unfold gm; rw [h]
theorem FldOk.sub {K : PySem.W.Frag} {γ : Str → Addr} {cs ds : List Str} {f : Str} (h : FldOk K γ cs f) (s : ∀ c ∈ ds, c ∈ cs) : FldOk K γ ds f := fun c hc => h c (s c hc)
end L2
namespace L2
open PySem
theorem star_const (c : Const) (j : Nat) (p : Pos) (es : List Expr) (env : Env) : starEach (.Constant c j p :: es) env = (false, eval (.Constant c j p) env) :: starEach es env := rfl
end L2
namespace L2
open PySem PySem.Spec PyProof.Rows
end L2
namespace L2
open PySem PySem.Spec PyProof.Rows
open HL (W SO Sh Sg OR DE DT DA DS Fn)
section
variable {X : Cx} {K : PySem.W.Frag} {γ : Str → Addr} {a b c e o f i : Expr} {es : List Expr} {da db dc de d1 d2 di : DE} {d : DA} {pos pos' apos cpos p1 p2 : Pos}
def DEsN (mg : Str → Option Value) : List (Str × Str) → List DictEntry → Prop
  | [], [] => True
  | (k, g) :: r, e :: es => (∃ t, e.key = .str k t) ∧ mg g = some e.val ∧ DEsN mg r es
  | _, _ => False
structure DctN (K : PySem.W.Frag) (mg : Str → Option Value) (w : World) (x : Str) (tn : List (Str × Str)) : Prop where
  ex : ∃ D es n, mg x = some (.ref D) ∧ K.lookup D = some { cls := .type "dict", data := .dict es n } ∧ PySem.W.KeysLit w.params es.toList ∧ (D == sysModules) = false ∧ DEsN mg tn es.toList
def FtOk (X : Cx) (γ : Str → Addr) (tn : List (Str × Str)) (tb : List (Str × Fn)) : Prop := ∀ k f, tb.lookup k = some f → ∃ g kk p n bd ps, tn.lookup k = some g ∧ f = HL.fnOf p n bd ∧ Def X.prog X.w X.K X.mg X.base kk g ps (spF X.K γ p f) ∧ Room kk X.A
theorem FtOk.nil : FtOk X γ [] [] := fun k f e => by cases e
theorem FtOk.cons {k g : Str} {kk p n : Nat} {bd : DS} {ps : List Str} {tn : List (Str × Str)} {tb : List (Str × Fn)} (D : Def X.prog X.w X.K X.mg X.base kk g ps (spF X.K γ p (HL.fnOf p n bd))) (hr : Room kk X.A) (r : FtOk X γ tn tb) : FtOk X γ ((k, g) :: tn) ((k, HL.fnOf p n bd) :: tb) := fun k' f e => by
  by_cases q : k' = k
  · subst q
    simp only [List.lookup, beq_self_eq_true, Option.some.injEq] at e ⊢
    subst e
    exact ⟨g, kk, p, n, bd, ps, rfl, rfl, D, hr⟩
  · have z : (k' == k) = false := by simpa using q
    simp only [List.lookup, z] at e ⊢
    exact r k' f e
end
end L2
namespace HL
open PySem (Str)
def dMt0 (T : W → Sh → Bool) (f : W → Sh → R W) (o : DE) : DE := fun s h => (o s h).bind fun x h => if T x h = true then f x h else .er
def mPop : W → Sh → R W := fun x h => match x with
  | .ref i => (match h[i]? with
    | some (.lst ys) => (match ys[ys.length - 1]? with
      | some y => .ok y (h.set i (.lst ys.dropLast))
      | none => .er)
    | _ => .er)
  | _ => .er
def mInsert : W → List W → Sh → R W := fun x xs h => match x, xs with
  | .ref i, [.int 0, y] => (match h[i]? with
    | some (.lst ys) => if ys.length < LIM then .ok .non (h.set i (.lst (y :: ys))) else .er
    | _ => .er)
  | _, _ => .er
end HL
namespace L2
open PySem PySem.Spec PyProof.Rows
open HL (W SO Sh Sg OR DE DT DA DS Fn)
section
variable {X : Cx} {K : PySem.W.Frag} {γ : Str → Addr} {a b c e o f i : Expr} {es : List Expr} {da db dc de d1 d2 di : DE} {d : DA} {pos pos' apos cpos p1 p2 : Pos} {name : Str} {T id : String}
def Mt0S (K : PySem.W.Frag) (γ : Str → Addr) (r : V → List V → Hp → VK → Prop) (f : W → Sh → HL.R W) : Prop := ∀ ρ h H x Q, SimH K γ ρ h H → wf h.length x → GoodV K γ ρ h (f x h) Q → r (renW γ ρ x) [] H Q
theorem q_bm0 {r : V → List V → Hp → VK → Prop} {f : W → Sh → HL.R W} {t : W → Sh → Bool} (pa : PlainAttrs T) (slot : Slot T name id) (hty : typeOf (.builtin id) = pure (.type "method_descriptor")) (hm : MtR X id r) (ms : Mt0S X.K γ r f) (ts : TyS X.K γ T t) (ho : QE γ X o de)
    (hbase : attributeBase o name X.env (eval o X.env) = eval o X.env := by rfl) (hline : (apos.endLine == cpos.line) = true := by rfl) : QE γ X (.Call (.Attribute o name apos) [] [] cpos) (HL.dMt0 t f de) :=
  (pe_bm0 pa slot hty hm ho hbase hline).imp fun σ H Q z => by
    obtain ⟨ρ, s, h, S, z⟩ := z
    unfold HL.dMt0 at z
    refine ⟨ρ, s, h, S, GoodR.bind z fun v h1 ρ1 H1 _ n1 S1 w1 x1 => ?_⟩
    split at x1
    · rename_i ht
      exact ⟨ts ρ1 h1 H1 v S1 ht, ms ρ1 h1 H1 v Q S1 w1 x1⟩
    · exact x1.elim
theorem ms_pop : Mt0S K γ rPop HL.mPop := by
  intro ρ h H x Q S wx q
  unfold HL.mPop at q
  split at q
  · rename_i i
    split at q
    · rename_i ys e
      split at q
      · rename_i y ey
        refine ⟨ρ i, ys.map (renW γ ρ), renW γ ρ y, rfl, rfl, S.ob i _ e, by rw [List.length_map, List.getElem?_map, ey]; rfl, ?_⟩
        have S2 := S.chg (u := .lst ys.dropLast) (v := .lst (ys.dropLast.map (renW γ ρ))) e rfl rfl (fun z hz => S.wf _ _ e z (List.dropLast_subset _ hz)) upd_same
        have := q ρ _ (Nxt.chg _ _ _ _) S2 (by
          have w1 := S.wf _ _ e y (List.mem_of_getElem? ey)
          rw [List.length_set]; exact w1)
        rw [List.map_dropLast] at this
        exact this
      · exact q.elim
    · exact q.elim
  · exact q.elim
theorem q_pop (ho : QE γ X o de) (hbase : attributeBase o "pop" X.env (eval o X.env) = eval o X.env := by rfl) (hline : (apos.endLine == cpos.line) = true := by rfl) : QE γ X (.Call (.Attribute o "pop" apos) [] [] cpos) (HL.dMt0 HL.isLst HL.mPop de) :=
  q_bm0 PySem.F.plainAttrs_list PySem.F.slot_list_pop PySem.F.type_list_pop mt_pop ms_pop ts_lst ho hbase hline
def rInsert : V → List V → Hp → VK → Prop := fun x vs H Q => ∃ l xs y, x = .ref l ∧ vs = [.int 0, y] ∧ H l = some (.lst xs) ∧ xs.length < sizeLine ∧ Q .non (upd H l (.lst (y :: xs)))
theorem mt_insert : MtM X "list.insert" rInsert := by
  intro pins s σ H x vs v us Q I rx rv h
  obtain ⟨l, xs, y, rfl, rfl, hH, hz, q⟩ := h
  cases rx
  cases rv with
  | cons r0 rv =>
    obtain ⟨u, rfl, ru⟩ := vals1 rv
    obtain ⟨t, rfl⟩ := r0
    obtain ⟨z, its, n, r, hl, e⟩ := I.lstM hH
    refine call_meets F.slot_list_insert ⟨_, e, rfl⟩ F.entry_list_insert (F.args_list_insert_3 _ _ _) (AutoSeq1.list_insert_list_int_val_1 l its.toArray n 0 t u (by decide) (by rw [List.size_toArray]; omega)) ⟨e, ?_⟩
    refine ⟨.non, _, I.lset (its' := u :: its) hH e ?_ (.cons ru r) ?_, rfl, q⟩
    · simp
    · rw [List.length_cons]; omega
theorem ms_insert : MtS K γ rInsert HL.mInsert := by
  intro ρ h H x xs Q S wx wxs q
  unfold HL.mInsert at q
  split at q
  · rename_i i y
    split at q
    · rename_i ys e
      split at q
      · rename_i hl
        refine ⟨ρ i, ys.map (renW γ ρ), renW γ ρ y, rfl, rfl, S.ob i _ e, by rw [List.length_map]; exact lim_lt hl, ?_⟩
        have S2 := S.chg (u := .lst (y :: ys)) (v := .lst ((y :: ys).map (renW γ ρ))) e rfl rfl (by
          intro z hz
          rcases List.mem_cons.mp hz with z1 | z1
          · rw [z1]; exact wxs y (List.mem_cons_of_mem _ List.mem_cons_self)
          · exact S.wf _ _ e z z1) upd_same
        exact q ρ _ (Nxt.chg _ _ _ _) S2 trivial
      · exact q.elim
    · exact q.elim
  · exact q.elim
theorem q_insert (ho : QE γ X o de) (ha : QE γ X e da) (hb : QE γ X f db)
    (hbase : attributeBase o "insert" X.env (eval o X.env) = eval o X.env := by rfl)
    (hfew : ((backTo cpos (starEach [e, f] X.env)).all (fun x => !x.1) && (backToKw cpos (keywordEach [] X.env)).all (fun x => x.1.isSome)
      && decide ([e, f].length + ([] : List Keyword).length + (if ([] : List Keyword).isEmpty then 0 else 1) < 30)) = true := by rfl)
    (hline : (apos.endLine == cpos.line) = true := by rfl) (hs : starEach [e, f] X.env = (false, eval e X.env) :: starEach [f] X.env := by rfl) (hs2 : starEach [f] X.env = (false, eval f X.env) :: starEach [] X.env := by rfl) (hplain : (backTo cpos (starEach [f] X.env)).any (·.1) = false := by rfl) :
    QE γ X (.Call (.Attribute o "insert" apos) [e, f] [] cpos) (HL.dMt HL.isLst HL.mInsert de (HL.dCons da (HL.dCons db HL.dNil))) :=
  q_bm PySem.F.plainAttrs_list PySem.F.slot_list_insert PySem.F.type_list_insert mt_insert ms_insert ts_lst ho (qa_cons ha (qa_cons hb qa_nil hs2) hs) hbase hfew hline hs hplain
end
end L2
namespace HL
open PySem (Str)
def insW (c : Str) (h : Sh) (x : W) : Bool := match x with
  | .ref i => (match h[i]? with
    | some (.ins d _) => d == c
    | _ => false)
  | _ => false
def mRemove (c : Str) : W → List W → Sh → R W := fun x xs h => match x, xs with
  | .ref i, [y] => (match h[i]? with
    | some (.lst ys) => if ys.all (insW c h) = true ∧ y ∈ ys then .ok .non (h.set i (.lst (ys.erase y))) else .er
    | _ => .er)
  | _, _ => .er
def forE (p : Nat) (all : List W) (is : List Nat) (b : DS) : Nat → List W → DS
  | _, [], s, h => .nx s h
  | k, x :: xs, s, h => match gTup is (.ref h.length) s (h ++ [.tup [.int (k : Int), x]]) with
    | none => .er
    | some s1 => match b s1 (h ++ [.tup [.int (k : Int), x]]) with
      | .nx s2 h2 => if h2[p]? = some (.lst all) then forE p all is b (k + 1) xs s2 h2 else .er
      | .ct s2 h2 => if h2[p]? = some (.lst all) then forE p all is b (k + 1) xs s2 h2 else .er
      | .bk s2 h2 => .nx s2 h2
      | c => c
def sForE (a : DE) (is : List Nat) (b : DS) : DS := fun s h => match a s h with
  | .ok (.ref i) h => (match h[i]? with
    | some (.lst xs) => forE i xs is b 0 xs s h
    | _ => .er)
  | _ => .er
end HL
namespace L2
open PySem PySem.Spec PyProof.Rows
open HL (W SO Sh Sg OR DE DT DA DS Fn)
section
variable {X : Cx} {pins : List (Addr × Obj)} {σ : St} {H : Hp} {s : Shared} {h' : Heap}
theorem Inv.turnT {t' : Nat} {e it a : Addr} {o : HO} (I : Inv X pins σ H s) (fe : FpOk X pins H e) (fi : FpOk X pins H it) (k : ∀ b u, b ≠ e → b ≠ it → s.heap.get? b = some u → h'.get? b = some u) (hp : s.heap.objs.size ≤ a) (new : ObjOk X.prog X.w (upd H a o) h' a o) :
    Inv X pins σ (upd H a o) { s with heap := h', toks := t' } := by
  have hn := I.hok.fresh hp
  obtain ⟨e0, e1, e2, e3, e4, e5⟩ := fe
  obtain ⟨i0, i1, i2, i3, i4, i5⟩ := fi
  have nc : ∀ {b : Addr}, b ∉ [e, it] → b ≠ e ∧ b ≠ it := fun {b} hb => ⟨fun z => hb (by simp [z]), fun z => hb (by simp [z])⟩
  have na : ∀ {b : Addr} {u : Obj}, s.heap.get? b = some u → b ≠ a := fun {b u} q z => absurd (Nat.lt_of_lt_of_le (Heap.lt_size q) (by rw [z]; exact hp)) (Nat.lt_irrefl _)
  have nb : ∀ {b : Addr} {u : HO}, H b = some u → b ≠ a := fun {b u} q z => by rw [z, hn] at q; cases q
  refine I.step (g' := s.gens) (d' := s.drawn) (ch := [e, it]) (fun b hb => ?_) (fun b u _ _ hc q _ => k b u (nc hc).1 (nc hc).2 q) (fun b u _ _ hc q _ => ⟨u.slots, k b u (nc hc).1 (nc hc).2 q⟩) (fun b u _ q n => by rw [upd_ne (na q)]; exact n)
    (fun b u hc q => ⟨u, k b u (nc hc).1 (nc hc).2 q⟩) (fun b xs q => by rw [upd_ne (nb q)]; exact q) (fun b u v q => by rw [upd_ne (nb q)]; exact q) (fun b ps q => ⟨#[], by rw [upd_ne (nb q), q]; simp⟩) (fun m hm => ?_) (fun b u q => ?_) I.bare
  · rcases List.mem_cons.mp hb with z | z
    · subst z; exact ⟨e3, e1, e4, e5⟩
    · have z := List.mem_singleton.mp z
      subst z; exact ⟨i3, i1, i4, i5⟩
  · obtain ⟨u, es, ep, ho, r⟩ := hm
    exact ⟨u, es, ep, k _ u (Ne.symm e1) (Ne.symm i1) ho, r⟩
  · by_cases z : b = a
    · subst z; rw [upd_same] at q; cases q; exact new
    · rw [upd_ne z] at q
      have ne : ∀ {c : Addr} {v : HO}, H c = some v → c ≠ e ∧ c ≠ it := fun {c v} p => ⟨(fun z => by rw [z, e0] at p; cases p), (fun z => by rw [z, i0] at p; cases p)⟩
      refine (I.hok b u q).stay (fun c v hc p => ?_) (fun c p => by rw [upd_ne (nb p)]; exact p) fun c xs p => by rw [upd_ne (nb p)]; exact p
      rcases hc with hc | hc
      · rw [hc] at p ⊢; exact k b v (ne q).1 (ne q).2 p
      · exact k c v (ne hc).1 (ne hc).2 p
theorem Inv.turn2 {t' : Nat} {e it : Addr} (I : Inv X pins σ H s) (fe : FpOk X pins H e) (fi : FpOk X pins H it) (k : ∀ b u, b ≠ e → b ≠ it → s.heap.get? b = some u → h'.get? b = some u) : Inv X pins σ H { s with heap := h', toks := t' } := by
  obtain ⟨e0, e1, e2, e3, e4, e5⟩ := fe
  obtain ⟨i0, i1, i2, i3, i4, i5⟩ := fi
  have nc : ∀ {b : Addr}, b ∉ [e, it] → b ≠ e ∧ b ≠ it := fun {b} hb => ⟨fun z => hb (by simp [z]), fun z => hb (by simp [z])⟩
  refine I.step (g' := s.gens) (d' := s.drawn) (ch := [e, it]) (fun b hb => ?_) (fun b u _ _ hc q _ => k b u (nc hc).1 (nc hc).2 q) (fun b u _ _ hc q _ => ⟨u.slots, k b u (nc hc).1 (nc hc).2 q⟩) (fun b u _ q n => n)
    (fun b u hc q => ⟨u, k b u (nc hc).1 (nc hc).2 q⟩) (fun b xs q => q) (fun b u v q => q) (fun b ps q => ⟨#[], by rw [q]; simp⟩) (fun m hm => ?_) (fun b u q => ?_) I.bare
  · rcases List.mem_cons.mp hb with z | z
    · subst z; exact ⟨e3, e1, e4, e5⟩
    · have z := List.mem_singleton.mp z
      subst z; exact ⟨i3, i1, i4, i5⟩
  · obtain ⟨u, es, ep, ho, r⟩ := hm
    exact ⟨u, es, ep, k _ u (Ne.symm e1) (Ne.symm i1) ho, r⟩
  · have ne : ∀ {c : Addr} {v : HO}, H c = some v → c ≠ e ∧ c ≠ it := fun {c v} p => ⟨(fun z => by rw [z, e0] at p; cases p), (fun z => by rw [z, i0] at p; cases p)⟩
    refine (I.hok b u q).stay (fun c v hc p => ?_) (fun c p => p) fun c xs p => p
    rcases hc with hc | hc
    · rw [hc] at p ⊢; exact k b v (ne q).1 (ne q).2 p
    · exact k c v (ne hc).1 (ne hc).2 p
end
def Ite (a : Addr) : It :=
  ⟨fun i H => ∃ xs x, H a = some (.lst xs) ∧ xs[i]? = some x, fun i H v H' => ∃ T x, v = .ref T ∧ H T = none ∧ H' = upd H T (.tup [.int (i : Int), x]) ∧ ∀ xs, H a = some (.lst xs) → xs[i]? = some x, fun i H => ∃ xs, H a = some (.lst xs) ∧ xs.length ≤ i⟩
theorem turn_enum {P : Program} {w : World} {K : PySem.W.Frag} {elts : List Expr} {ctx : Nat} {tp : Pos} (a it e : Addr) (hei : e ≠ it) : Turn P w K (.Tuple elts ctx tp) (Ite a) [e, it] e (fun i h => (∃ old, IsEnum h e it i old) ∧ h.IsListIter it a i) where
  mem := by simp
  obj := fun i h st b hb => by
    obtain ⟨⟨old, he⟩, hi⟩ := st
    rcases List.mem_cons.mp hb with z | z
    · subst z
      exact ⟨_, he, fun v z => by have z' : Data.fields _ = Data.cell v := z; cases z'⟩
    · have z := List.mem_singleton.mp z
      subst z
      obtain ⟨o, q, c, d⟩ := hi
      exact ⟨o, q, fun v z => by rw [d] at z; cases z⟩
  keep := fun i h h' st k => ⟨⟨_, k e (by simp) _ st.1.choose_spec⟩, st.2.at fun o q => k it (by simp) o q⟩
  item := by
    intro X hP hw hK hc i pins s σ H E I hf st hg
    subst hP hw hK
    obtain ⟨⟨old, he⟩, hit⟩ := st
    obtain ⟨xs, x, hH, hx⟩ := hg
    obtain ⟨z, its, n, rv, hl, q⟩ := I.lstM hH
    obtain ⟨u, hu, ru⟩ := rv.get hx
    have fe := hf e (by simp)
    have fi := hf it (by simp)
    have isl : s.heap.IsList a its.toArray := ⟨_, q, rfl, n, rfl⟩
    refine wpAny_pyNext_enum_item he hit isl (x := u) (by simpa using hu) hei fun h' ho hit' hT hsz hk => ?_
    have hel : e < s.heap.objs.size := Heap.lt_size he
    refine ⟨_, rfl, wpAny_letOwnedTupleGo_enum ho fun h2 he2 hs2 => ?_⟩
    have hT2 : h2.get? s.heap.objs.size = some { cls := .type "tuple", data := .seq #[.int i s.toks, u] } := (hs2.2 _ (Nat.ne_of_gt hel)).trans hT
    have fr := I.hok.fresh (Nat.le_refl s.heap.objs.size)
    have I2 : Inv X pins σ (upd H s.heap.objs.size (.tup [.int (i : Int), x])) { s with heap := h2, toks := s.toks + 1 } := by
      refine I.turnT (t' := s.toks + 1) fe fi (fun b u hb hb2 z => ?_) (Nat.le_refl _) ?_
      · exact (hs2.2 b hb).trans (hk b u hb hb2 z)
      · exact ⟨by show 2 ≤ sizeLine; decide, [.int i s.toks, u], .cons ⟨_, rfl⟩ (.cons ru .nil), ⟨_, hT2, rfl, _, rfl⟩⟩
    refine ⟨.ref s.heap.objs.size, _, I2, rfl, ⟨_, x, rfl, fr, rfl, fun ys hy => ?_⟩, ⟨⟨_, he2⟩, hit'.at fun o z => (hs2.2 it hei.symm).trans z⟩, fun b hb => ?_⟩
    · rw [hH] at hy; cases hy; exact hx
    · have hb' : b ≠ s.heap.objs.size := by
        have : b < s.heap.objs.size := by
          rcases List.mem_cons.mp hb with z | z
          · rw [z]; exact hel
          · rw [List.mem_singleton.mp z]
            obtain ⟨o, q, _⟩ := hit
            exact Heap.lt_size q
        exact Nat.ne_of_lt this
      rw [upd_ne hb']
      exact (hf b hb).1
  done := by
    intro X hP hw hK hc i pins s σ H E I hf st hg
    subst hP hw hK
    obtain ⟨⟨old, he⟩, hit⟩ := st
    obtain ⟨xs, hH, hx⟩ := hg
    obtain ⟨z, its, n, rv, hl, q⟩ := I.lstM hH
    have isl : s.heap.IsList a its.toArray := ⟨_, q, rfl, n, rfl⟩
    exact wpAny_pyNext_enum_end (I.ok.hd hc) he hit isl (by simp; omega) fun h' eb => ⟨rfl, I.turn2 (t' := s.toks) (hf e (by simp)) (hf it (by simp)) fun b u _ hb2 z => eb b u hb2 z⟩
  self := fun _ _ _ _ _ st h => wpAny_pyIter_enum st.1.choose_spec h
section
variable {X : Cx} {γ : Str → Addr} {a : Expr} {da : DE} {pos : Pos}
def iEnA (ta : TA) : TI := fun σ H R => ta σ H fun vs H1 => ∃ l xs, vs = [.ref l] ∧ H1 l = some (.lst xs) ∧ R (Ite l) H1
theorem pi_enum {elts : List Expr} {ctx : Nat} {tp p : Pos} {ta : TA} (hg : Gl X "enumerate") (hm : X.mg "enumerate" = none) (ha : PA X [a] ta) (hs : starEach [a] X.env = [(false, eval a X.env)] := by rfl) : PI X (.Tuple elts ctx tp) (.Call (.Name "enumerate" p) [a] [] pos) (iEnA ta) := by
  intro pins s σ H R I h
  refine Call_ (ld_blt I hg hm PyProof.Rows.boot_enumerate (PyProof.Rows.callWith_type1 (thn (ha pos pins s σ H _ I h) fun us s1 ⟨vs, H1, I1, r1, q1⟩ => ?_) hs rfl))
  obtain ⟨l, xs, e, hH, q⟩ := q1
  subst e
  cases r1 with
  | cons r rr =>
    cases rr
    cases r
    obtain ⟨z, its, n, rv, hl, ql⟩ := I1.lstM hH
    refine call_enumerate_1 ql fun h' he hit hsz hk => ?_
    refine wpAny_pyIter_enum he ?_
    refine ⟨s1.heap.objs.size + 1, [s1.heap.objs.size + 1, s1.heap.objs.size], _, _, H1, rfl, I1.kept (t' := s1.toks) hk, turn_enum l s1.heap.objs.size (s1.heap.objs.size + 1) (Nat.succ_ne_self _), ⟨⟨_, he⟩, hit⟩, fun b hb => ?_, q⟩
    have hb' : s1.heap.objs.size ≤ b := by
      rcases List.mem_cons.mp hb with z | z
      · rw [z]; exact Nat.le_succ _
      · rw [List.mem_singleton.mp z]; exact Nat.le_refl _
    exact I1.fpOk hb' (I1.hok.fresh hb')
theorem forE_of {is : List Nat} {bd : DS} (D : Ends) (σ : St) (H : Hp) (x : eS X.K γ (HL.sForE da is bd) D σ H) : tFor (iEnA (eA X.K γ (HL.dCons da HL.dNil))) (eG X.K γ (HL.gTup is)) (eS X.K γ bd) D σ H := by
  obtain ⟨ρ, s, h, S, x⟩ := x
  unfold HL.sForE at x
  refine ⟨ρ, s, h, S, ?_⟩
  unfold HL.dCons HL.dNil
  cases q : da s h with
  | ex => rw [q] at x; exact x.elim
  | er => rw [q] at x; exact x.elim
  | ok v h1 =>
    rw [q] at x
    simp only [HL.R.bind]
    intro ρ1 H1 n1 S1 w1
    have T1 := S.next n1 S1
    cases v with
    | ref p =>
      simp only at x
      cases q1 : h1[p]? with
      | none => rw [q1] at x; exact x.elim
      | some ob =>
        rw [q1] at x
        cases ob with
        | lst ys =>
          simp only at x
          have wp : p < h1.length := w1 _ (List.mem_cons_self ..)
          refine ⟨ρ1 p, ys.map (renW γ ρ1), rfl, S1.ob p _ q1, ?_⟩
          let St' : Nat → St → Hp → Prop := fun i σ' H' => i ≤ ys.length ∧ ∃ ρ2 s2 h2, Sim X.K γ ρ2 s2 h2 σ' H' ∧ Nxt h1 ρ1 h2 ρ2 ∧ h2[p]? = some (.lst ys) ∧ GoodC X.K γ ρ2 h2 (HL.forE p ys is bd i (ys.drop i) s2 h2) D
          refine ⟨fun i m σ' H' => m = ys.length - i ∧ St' i σ' H', ⟨_, rfl, Nat.zero_le _, ρ1, s, h1, T1, Nxt.refl _ _, q1, GoodC.later x n1⟩, ?_⟩
          rintro i m σ' H' ⟨rfl, hi, ρ2, s2, h2, T2, n2, st2, g2⟩
          have oH := T2.hp.ob p _ st2
          rw [← n2.ag p wp] at oH
          have oH : H' (ρ1 p) = some (.lst (ys.map (renW γ ρ2))) := oH
          cases e : ys[i]? with
          | none =>
            have hl : ys.length ≤ i := List.getElem?_eq_none_iff.mp e
            rw [List.drop_eq_nil_of_le hl] at g2
            refine .inl ⟨⟨_, oH, by rw [List.length_map]; exact hl⟩, ?_⟩
            have z := g2 ρ2 H' (Nxt.refl _ _) T2.hp T2.ws
            rw [T2.eq]; exact z
          | some y =>
            obtain ⟨hlt, ey⟩ := List.getElem?_eq_some_iff.mp e
            have e2 : (ys.map (renW γ ρ2))[i]? = some (renW γ ρ2 y) := by rw [List.getElem?_map, e]; rfl
            refine .inr ⟨⟨_, _, oH, e2⟩, St' (i + 1), fun σ3 H3 z => ⟨_, by omega, rfl, z⟩, fun v H3 hv => ?_⟩
            obtain ⟨T, xv, rfl, hT, rfl, hx⟩ := hv
            have ex : xv = renW γ ρ2 y := Option.some.inj ((hx _ oH).symm.trans e2)
            subst ex
            have wy : wf h2.length y := T2.hp.wf p _ st2 y (List.mem_of_getElem? e)
            have wt : wfO h2.length (.tup [.int (i : Int), y]) := by
              intro z hz
              rcases List.mem_cons.mp hz with z1 | z1
              · rw [z1]; trivial
              · rw [List.mem_singleton.mp z1]; exact wy
            have S3 : SimH X.K γ (put ρ2 h2.length T) (h2 ++ [.tup [.int (i : Int), y]]) (upd H' T (.tup [.int (i : Int), renW γ ρ2 y])) := T2.hp.push wt (Ext.upd _ hT) hT (.inl (.inl upd_same))
            have n3 := Nxt.push h2 ρ2 (.tup [.int (i : Int), y]) T
            have T3 := T2.next n3 S3
            rw [List.drop_eq_getElem_cons hlt, ey] at g2
            unfold HL.forE at g2
            cases q3 : HL.gTup is (.ref h2.length) s2 (h2 ++ [.tup [.int (i : Int), y]]) with
            | none => rw [q3] at g2; exact g2.elim
            | some s3 =>
              rw [q3] at g2
              simp only at g2
              refine ⟨put ρ2 h2.length T, s2, _, .ref h2.length, T3, (congrArg V.ref (put_at _ _ _)).symm, (show h2.length < (h2 ++ [_]).length by simp), s3, q3, fun w3 => ⟨put ρ2 h2.length T, s3, _, ⟨S3, w3, rfl⟩, ?_⟩⟩
              have n23 := n2.trans n3
              cases q4 : bd s3 (h2 ++ [.tup [.int (i : Int), y]]) with
              | nx s4 h4 =>
                rw [q4] at g2
                simp only at g2
                split at g2
                · rename_i st4
                  exact fun ρ4 H4 n4 S4 w4 => ⟨hlt, ρ4, s4, h4, ⟨S4, w4, rfl⟩, n23.trans n4, st4, GoodC.later (GoodC.later g2 n3) n4⟩
                · exact g2.elim
              | ct s4 h4 =>
                rw [q4] at g2
                simp only at g2
                split at g2
                · rename_i st4
                  exact fun ρ4 H4 n4 S4 w4 => ⟨hlt, ρ4, s4, h4, ⟨S4, w4, rfl⟩, n23.trans n4, st4, GoodC.later (GoodC.later g2 n3) n4⟩
                · exact g2.elim
              | bk s4 h4 => rw [q4] at g2; exact GoodC.later (c := .bk s4 h4) (D := { D with bk := D.nx }) g2 n3
              | rt v4 h4 => rw [q4] at g2; exact GoodC.later (c := .rt v4 h4) g2 n3
              | ex => rw [q4] at g2; exact g2.elim
              | er => rw [q4] at g2; exact g2.elim
        | _ => exact x.elim
    | _ => exact x.elim
theorem qs_forE {elts : List Expr} {ctx : Nat} {tp p cpos : Pos} {body : List Stmt} {is : List Nat} {bd : DS} (hp : PassesOwn (model X.prog X.w) X.A X.env X.xe) (hc : X.calm = true) (hg : Gl X "enumerate") (hm : X.mg "enumerate" = none) (ha : QE γ X a da) (ht : QG γ X (.Tuple elts ctx tp) (HL.gTup is)) (hb : QSs γ X body bd)
    (hs : ∀ x, foldedSetIterable (.Call (.Name "enumerate" p) [a] [] cpos) X.env x = pure x := by intro _; rfl) (h1 : starEach [a] X.env = [(false, eval a X.env)] := by rfl) : QS γ X (.For (.Tuple elts ctx tp) (.Call (.Name "enumerate" p) [a] [] cpos) body [] pos) (HL.sForE da is bd) :=
  (ps_for hp hc (pi_enum hg hm (qa_cons ha qa_nil h1) h1) ht hb hs).imp forE_of
end
end L2
namespace L2
open PySem PySem.Spec PyProof.Rows PySem.W
structure EqOk (K : PySem.W.Frag) (C : Addr) : Prop where
  eq : findIn K (.ref C) "__eq__" = some (some (.builtin "object.__eq__"))
  ob : subIn K (.ref C) (.type "object") = some true
section
variable {prog : Program} {w : World} {A : Around} {E : Value → Shared → Prop} {s : Shared} {K : PySem.W.Frag} {x y C : Addr} {ox oy : Obj} {odx ody : Option Obj}
theorem check_oeq {M : Model} (X : K.In s.heap) (e : EqOk K C) (Ix : InstAt s.heap x ox C odx) {Q : Unit → Shared → Prop} (hq : Q () s) : wpAny M A (checkBuiltinCall "object.__eq__" ⟨[.ref x, .ref y], []⟩) Q E s := by
  simp only [checkBuiltinCall, F.cmpKind_eq, F.cmpSplit_eq]
  refine wpAny_bind ?_
  unfold isInstance
  refine wpAny_bind (Ix.type.here ?_)
  refine (looks_subIn X e.ob).here ?_
  have ar := F.cmpArgs_eq (.ref x) (.ref y)
  cases hsig : Manifest.signature? "object.__eq__" with
  | none => exact wpAny_pure hq
  | some sig =>
    simp only [argsOk, hsig] at ar
    have h2 : Bind.checkArgs "object.__eq__" sig ⟨[.ref x, .ref y], []⟩ = pure () := ar
    show wpAny M A (Bind.checkArgs "object.__eq__" sig ⟨[.ref x, .ref y], []⟩) Q E s
    rw [h2]
    exact wpAny_pure hq
theorem call_oeq (X : K.In s.heap) (e : EqOk K C) (Ix : InstAt s.heap x ox C odx) (gx : s.heap.get? x = some ox) (gy : s.heap.get? y = some oy) (nt : ox.cls ≠ .type "tuple") (ne : x ≠ y) {Q : Value → Shared → Prop} (hq : Q .notImplemented s) :
    wpAny (model prog w) A (call (.builtin "object.__eq__") [.ref x, .ref y]) Q E s :=
  wpAny_call (codeAny_call_builtin F.cmp_object.eq.plain F.cmpEntry_eq (check_oeq X e Ix (objEq_entry_other ne gx gy nt hq)))
theorem try_oeq (X : K.In s.heap) (e : EqOk K C) (Ix : InstAt s.heap x ox C odx) (gx : s.heap.get? x = some ox) (gy : s.heap.get? y = some oy) (nt : ox.cls ≠ .type "tuple") (ne : x ≠ y) {Q : Option Value → Shared → Prop} (hq : Q none s) :
    wpAny (model prog w) A (tryCompare (.ref x) "__eq__" (.ref y)) Q E s := by
  unfold tryCompare
  refine wpAny_bind ?_
  simp only [callSpecialIfBound?, bindSpecialIfBound?]
  refine wpAny_holding (wpAny_bind (wpAny_bind (wpAny_bind (Ix.type.here ((looks_findIn X e.eq).here ?_)))))
  have fin : wpAny (model prog w) A (call (.builtin "object.__eq__") ([.ref x] ++ [.ref y]) >>= fun v => pure (some v)) (fun r s' => wpAny (model prog w) A (match r with | some .notImplemented | none => pure none | some v => pure (some v)) Q E s') E s :=
    wpAny_bind (call_oeq X e Ix gx gy nt ne (wpAny_pure (wpAny_pure hq)))
  simp only [F.cmp_object.eq.bind]
  refine wpAny_bind (wpAny_askSetting (wpAny_ite ?_))
  split
  · exact wpAny_bind (wpAny_pure (wpAny_pure fin))
  · exact wpAny_tryCatch (wpAny_bind (wpAny_pure (wpAny_pure fin)))
theorem rich_oeq (hu : A.units < cLine) (X : K.In s.heap) (e : EqOk K C) (Ix : InstAt s.heap x ox C odx) (Iy : InstAt s.heap y oy C ody) (gx : s.heap.get? x = some ox) (gy : s.heap.get? y = some oy) (nx : ox.cls ≠ .type "tuple") (ny : oy.cls ≠ .type "tuple") (ne : x ≠ y) {Q : Value → Shared → Prop} (hq : Q (.bool false) s) :
    wpAny (model prog w) A (richCompare .Eq (.ref x) (.ref y)) Q E s := by
  unfold richCompare
  simp only [oneThing_ref, cmpInfo_Eq]
  refine wpAny_holding (wpAny_bind (wpAny_cRoomFor hu ?_))
  refine wpAny_bind (Ix.type.here (wpAny_bind (Iy.type.here ?_)))
  split
  · rename_i q; simp at q
  · refine wpAny_bind (wpAny_pure ?_)
    simp only [Bool.false_eq_true, if_false]
    refine wpAny_bind (try_oeq X e Ix gx gy nx ne ?_)
    simp only [Bool.not_false, if_true]
    refine wpAny_bind (try_oeq X e Iy gy gx ny (Ne.symm ne) ?_)
    refine wpAny_bind (wpAny_rule ?_)
    refine wpAny_bind (wpAny_isSame_ref_other ne gx gy nx ?_)
    exact wpAny_pure hq
theorem eqb_other (hu : A.units < cLine) (X : K.In s.heap) (e : EqOk K C) (Ix : InstAt s.heap x ox C odx) (Iy : InstAt s.heap y oy C ody) (gx : s.heap.get? x = some ox) (gy : s.heap.get? y = some oy) (nx : ox.cls ≠ .type "tuple") (ny : oy.cls ≠ .type "tuple") (ne : x ≠ y) {Q : Bool → Shared → Prop} (hq : Q false s) :
    wpAny (model prog w) A (eqBool (.ref x) (.ref y)) Q E s := by
  unfold eqBool
  refine wpAny_holding ?_
  show wpAny _ _ (if (Value.ref x == Value.ref y) = true then _ else _) Q E s
  rw [if_neg (by simpa using ne)]
  exact wpAny_bind (rich_oeq hu X e Ix Iy gx gy nx ny ne (wpAny_truthy_bool hq))
theorem eqb_same {Q : Bool → Shared → Prop} {M : Model} (hq : Q true s) : wpAny M A (eqBool (.ref x) (.ref x)) Q E s := by
  unfold eqBool
  refine wpAny_holding ?_
  show wpAny _ _ (if (Value.ref x == Value.ref x) = true then _ else _) Q E s
  rw [if_pos (by simp)]
  exact wpAny_bind (wpAny_rule (wpAny_pure hq))
end
section
open AutoSeq1 (wpAny_loadPart')
theorem rm_loop (l : Addr) (its : Array Value) (n : Nat) (v : Value) (e : Value → Bool) (j : Nat) (hj : j < its.size) (hit : e its[j] = true) (hno : ∀ (q : Nat) (hq : q < its.size), q < j → e its[q] = false) (hz : its.size ≤ sizeLine) (d : Nat) : ∀ i : Nat, i + d = j →
    Meets (Builtin.«list.remove.loop» ⟨[.ref l, v, rawInt i], []⟩) (fun A R s => s.heap.get? l = some { cls := .type "list", dict := none, data := .seq its n, slots := #[] } ∧ (∀ y, y ∈ its → SeqAt.EqAt A.in1 s y v (e y)) ∧ R (.ok (.ret .none)) { s with heap := s.heap.update l (Obj.mapSeq fun xs => xs.eraseIdxIfInBounds j) }) := by
  induction d with
  | zero =>
    intro i ij prog w A R s z
    obtain ⟨hp, g, dr, tk, os⟩ := s
    obtain ⟨gl, he, hR⟩ := z
    have ij : i = j := ij
    subst ij
    wp_walk using wpAny_loadPart' gl
    rw [show its[((i : Nat) : Int).toNat]? = some its[i] by simp [hj]]
    refine wpAny_bind (he _ (Array.getElem_mem hj) prog w _ _ ?_)
    rw [hit]
    have z2 : (its.eraseIdxIfInBounds i).size ≤ sizeLine + 1 := Nat.le_trans (MeetsSeq.size_erased its i) (Nat.le_succ_of_le hz)
    wp_walk using (wpAny_updateSeq gl rfl (hz := hz) (_hz' := z2)), wpAny_loadPart' gl
    simpa using hR
  | succ d ih =>
    intro i ij prog w A R s z
    obtain ⟨hp, g, dr, tk, os⟩ := s
    obtain ⟨gl, he, hR⟩ := z
    have lt : i < its.size := by omega
    wp_walk using wpAny_loadPart' gl
    rw [show its[((i : Nat) : Int).toNat]? = some its[i] by simp [lt]]
    refine wpAny_bind (he _ (Array.getElem_mem lt) prog w _ _ ?_)
    rw [hno i lt (by omega)]
    wp_walk
    rw [show ((i : Int) + 1) = ((i + 1 : Nat) : Int) by push_cast; rfl]
    exact ⟨plainId_quiet MeetsSeq.plain_remove_loop _, codeAny_builtin MeetsSeq.entry_remove_loop (by
      rw [Around.under_plainId MeetsSeq.plain_remove_loop _]
      exact ih (i + 1) (by omega) prog w A R _ ⟨gl, he, hR⟩)⟩
theorem rm_meets (l : Addr) (its : Array Value) (n : Nat) (v : Value) (e : Value → Bool) (j : Nat) (hj : j < its.size) (hit : e its[j] = true) (hno : ∀ (q : Nat) (hq : q < its.size), q < j → e its[q] = false) (hz : its.size ≤ sizeLine) :
    Meets (Builtin.«list.remove» ⟨[.ref l, v], []⟩) (fun A R s => s.heap.get? l = some { cls := .type "list", dict := none, data := .seq its n, slots := #[] } ∧ (∀ y, y ∈ its → SeqAt.EqAt A.in1 s y v (e y)) ∧ R (.ok (.ret .none)) { s with heap := s.heap.update l (Obj.mapSeq fun xs => xs.eraseIdxIfInBounds j) }) := by
  intro prog w A R s z
  obtain ⟨hp, g, dr, tk, os⟩ := s
  obtain ⟨gl, he, hR⟩ := z
  wp_walk using wpAny_loadPart' gl
  exact ⟨plainId_quiet MeetsSeq.plain_remove_loop _, codeAny_builtin MeetsSeq.entry_remove_loop (by
    rw [Around.under_plainId MeetsSeq.plain_remove_loop _]
    exact rm_loop l its n v e j hj hit hno hz j 0 (Nat.zero_add _) prog w A R _ ⟨gl, he, hR⟩)⟩
end
section
variable {X : Cx} {γ : Str → Addr} {a b c e o f i : Expr} {da db dc de d1 d2 di : HL.DE} {pos pos' apos cpos p1 p2 : Pos}
def rRemove (C : Addr) : V → List V → Hp → VK → Prop := fun x vs H Q => ∃ l xs p j, x = .ref l ∧ vs = [.ref p] ∧ H l = some (.lst xs) ∧ (∀ z ∈ xs, ∃ a dx fs, z = .ref a ∧ H a = some (.ins C dx fs)) ∧ xs[j]? = some (.ref p) ∧ (∀ q, q < j → xs[q]? ≠ some (.ref p)) ∧ Q .non (upd H l (.lst (xs.eraseIdx j)))
theorem mt_remove {C : Addr} (hu : X.A.units + 64 < cLine) (ec : EqOk X.K C) : MtM X "list.remove" (rRemove C) := by
  intro pins s σ H x vs v us Q I rx rv h
  obtain ⟨l, xs, p, j, rfl, rfl, hH, hall, hj, hno, q⟩ := h
  cases rx
  obtain ⟨u, rfl, ru⟩ := rv.one
  cases ru
  obtain ⟨z, its, n, r, hl, g⟩ := I.lstM hH
  obtain ⟨w', hw, rw'⟩ := r.get hj
  cases rw'
  have jl : j < its.length := (List.getElem?_eq_some_iff.mp hw).1
  have ej : its[j] = .ref p := (List.getElem?_eq_some_iff.mp hw).2
  have look : ∀ {a dx : Addr} {fs : List (Str × V)}, H a = some (.ins C dx fs) → ∃ od, InstAt s.heap a (instObj C dx) C (some od) ∧ s.heap.get? a = some (instObj C dx) := by
    intro a dx fs ha
    obtain ⟨mA, om, _⟩ := ins_get I.hok ha
    obtain ⟨od, io, _⟩ := om.look
    obtain ⟨_, _, _, g, _⟩ := (show ObjOk X.prog X.w H s.heap a (.ins C dx fs) from I.hok a _ ha)
    exact ⟨od, io, g⟩
  have hp : ∃ dx fs, H p = some (.ins C dx fs) := by
    obtain ⟨a, dx, fs, e1, e2⟩ := hall _ (List.mem_of_getElem? hj)
    cases e1
    exact ⟨dx, fs, e2⟩
  obtain ⟨dxp, fsp, hp⟩ := hp
  obtain ⟨odp, ip, gp⟩ := look hp
  refine call_meets F.slot_list_remove ⟨_, g, rfl⟩ F.entry_list_remove (F.args_list_remove_2 _ _)
    (rm_meets l its.toArray n (.ref p) (fun y => y == .ref p) j (by rw [List.size_toArray]; exact jl) (by show (its.toArray[j] == Value.ref p) = true; rw [List.getElem_toArray, ej]; simp) (fun k hk hkj => ?_) (by rw [List.size_toArray]; omega)) ⟨g, fun y hy => ?_, ?_⟩
  · rw [List.size_toArray] at hk
    have hk' : k < xs.length := by omega
    obtain ⟨u, hu', ru⟩ := r.get (List.getElem?_eq_getElem hk')
    obtain ⟨a, dx, fs, e1, e2⟩ := hall _ (List.getElem_mem hk')
    rw [e1] at ru
    cases ru
    have eu : its[k] = .ref a := (List.getElem?_eq_some_iff.mp hu').2
    show (its.toArray[k] == Value.ref p) = false
    rw [List.getElem_toArray, eu]
    have : a ≠ p := fun z => hno k hkj (by rw [List.getElem?_eq_getElem hk', e1, z])
    simpa using this
  · have hy : y ∈ its := by simpa using hy
    obtain ⟨k, hk, ek⟩ := List.getElem_of_mem hy
    have hk' : k < xs.length := by omega
    obtain ⟨u, hu', ru⟩ := r.get (List.getElem?_eq_getElem hk')
    obtain ⟨a, dx, fs, e1, e2⟩ := hall _ (List.getElem_mem hk')
    rw [e1] at ru
    cases ru
    have eu : its[k] = .ref a := (List.getElem?_eq_some_iff.mp hu').2
    have ey : y = .ref a := ek.symm.trans eu
    subst ey
    intro prog w E Q' hq
    by_cases ha : a = p
    · subst ha
      have t : (Value.ref a == Value.ref a) = true := by simp
      rw [t] at hq
      exact eqb_same hq
    · have t : (Value.ref a == Value.ref p) = false := by simpa using ha
      rw [t] at hq
      obtain ⟨oda, ia, ga⟩ := look e2
      exact eqb_other (show X.A.units + 1 < cLine by omega) I.kIn ec ia ip ga gp (by intro z; cases z) (by intro z; cases z) ha hq
  · refine ⟨.non, _, I.lset (its' := its.eraseIdx j) hH g ?_ (r.eraseIdx j) ?_, rfl, q⟩
    · show its.toArray.eraseIdxIfInBounds j = (its.eraseIdx j).toArray
      rw [List.eraseIdxIfInBounds_toArray]
    · have := len_erase xs j
      omega
end
section
variable {X : Cx} {K : PySem.W.Frag} {γ : Str → Addr} {a b c e o f i : Expr} {da db dc de d1 d2 di : HL.DE} {pos pos' apos cpos p1 p2 : Pos}
theorem insW_ref {c : Str} {h : HL.Sh} {x : HL.W} (q : HL.insW c h x = true) : ∃ k fs, x = .ref k ∧ h[k]? = some (.ins c fs) := by
  unfold HL.insW at q
  split at q
  · rename_i k
    split at q
    · rename_i d fs e
      have : d = c := eq_of_beq q
      subst this
      exact ⟨k, fs, rfl, e⟩
    · cases q
  · cases q
theorem erase_first {y : HL.W} : ∀ {xs : List HL.W}, y ∈ xs → ∃ j, xs[j]? = some y ∧ (∀ m, m < j → xs[m]? ≠ some y) ∧ xs.erase y = xs.eraseIdx j
  | [], h => nomatch h
  | x :: xs, h => by
    by_cases e : x = y
    · subst e
      exact ⟨0, rfl, fun m hm => by omega, by rw [List.erase_cons_head]; rfl⟩
    · obtain ⟨j, h1, h2, h3⟩ := erase_first (xs := xs) ((List.mem_cons.mp h).resolve_left fun z => e z.symm)
      refine ⟨j + 1, h1, fun m hm => ?_, ?_⟩
      · cases m with
        | zero => intro z; exact e (Option.some.inj z)
        | succ m => exact h2 m (by omega)
      · rw [List.erase_cons_tail (by simpa using e), h3]; rfl
theorem erase_map {α β : Type} (g : α → β) : ∀ (xs : List α) (j : Nat), (xs.map g).eraseIdx j = (xs.eraseIdx j).map g
  | [], _ => rfl
  | _ :: _, 0 => rfl
  | x :: xs, j + 1 => by simp only [List.map_cons, List.eraseIdx_cons_succ, erase_map g xs j]
theorem ms_remove (c : Str) : MtS K γ (rRemove (γ c)) (HL.mRemove c) := by
  intro ρ h H x xs Q S wx wxs q
  unfold HL.mRemove at q
  split at q
  · rename_i i y
    split at q
    · rename_i ys e
      split at q
      · rename_i hc
        obtain ⟨hall, hy⟩ := hc
        rw [List.all_eq_true] at hall
        obtain ⟨k, fs, rfl, ek⟩ := insW_ref (hall y hy)
        obtain ⟨j, ej, fj, rj⟩ := erase_first hy
        refine ⟨ρ i, ys.map (renW γ ρ), ρ k, j, rfl, rfl, S.ob i _ e, ?_, ?_, ?_, ?_⟩
        · intro z hz
          obtain ⟨u, hu, rfl⟩ := List.mem_map.mp hz
          obtain ⟨k', fs', rfl, ek'⟩ := insW_ref (hall u hu)
          obtain ⟨dx, hd⟩ := S.ob k' _ ek'
          exact ⟨ρ k', dx, renF γ ρ fs', rfl, hd⟩
        · rw [List.getElem?_map, ej]; rfl
        · intro m hm em
          rw [List.getElem?_map] at em
          cases eu : ys[m]? with
          | none => rw [eu] at em; cases em
          | some u =>
            rw [eu] at em
            obtain ⟨k', fs', rfl, ek'⟩ := insW_ref (hall u (List.mem_of_getElem? eu))
            have er : ρ k' = ρ k := by
              injection em with em
              injection em
            have := S.inj k' k _ _ ek' ek rfl rfl er
            subst this
            exact fj m hm eu
        · have S2 := S.chg (u := .lst (ys.erase (.ref k))) (v := .lst ((ys.erase (.ref k)).map (renW γ ρ))) e rfl rfl (fun z hz => S.wf _ _ e z (List.mem_of_mem_erase hz)) upd_same
          have := q ρ _ (Nxt.chg _ _ _ _) S2 trivial
          rw [rj, ← erase_map] at this
          exact this
      · exact q.elim
    · exact q.elim
  · exact q.elim
theorem q_remove {c : Str} (hu : X.A.units + 64 < cLine) (ec : EqOk X.K (γ c)) (ho : QE γ X o de) (ha : QE γ X e db)
    (hbase : attributeBase o "remove" X.env (eval o X.env) = eval o X.env := by rfl)
    (hfew : ((backTo cpos (starEach [e] X.env)).all (fun x => !x.1) && (backToKw cpos (keywordEach [] X.env)).all (fun x => x.1.isSome)
      && decide ([e].length + ([] : List Keyword).length + (if ([] : List Keyword).isEmpty then 0 else 1) < 30)) = true := by rfl)
    (hline : (apos.endLine == cpos.line) = true := by rfl) (hs : starEach [e] X.env = (false, eval e X.env) :: starEach [] X.env := by rfl) (hplain : (backTo cpos (starEach [] X.env)).any (·.1) = false := by rfl) :
    QE γ X (.Call (.Attribute o "remove" apos) [e] [] cpos) (HL.dMt HL.isLst (HL.mRemove c) de (HL.dCons db HL.dNil)) :=
  q_bm PySem.F.plainAttrs_list PySem.F.slot_list_remove PySem.F.type_list_remove (mt_remove hu ec) (ms_remove c) ts_lst ho (qa_cons ha qa_nil hs) hbase hfew hline hs hplain
end
end L2
namespace HL
def intW : W → Bool
  | .int _ => true
  | _ => false
def toI : W → Int
  | .int i => i
  | _ => 0
def bSum : List W → Sh → OR := fun xs h => match xs with
  | [x] => (match lstW h x with
    | some ys => if ys.all intW = true then .val (.int (ys.map toI).sum) else .er
    | none => .er)
  | _ => .er
end HL
namespace L2
open PySem PySem.Spec PyProof.Rows
open HL (W SO Sh Sg OR DE DT DA DS Fn)
section
variable {X : Cx} {K : PySem.W.Frag} {γ : Str → Addr} {a b e : Expr} {da db : DE} {pos p1 p2 pos2 : Pos}
theorem ints_ren {ρ : Nat → Addr} : ∀ {ys : List W}, ys.all HL.intW = true → ∃ ns : List Int, ys = ns.map W.int ∧ ys.map (renW γ ρ) = ns.map V.int
  | [], _ => ⟨[], rfl, rfl⟩
  | y :: ys, h => by
    rw [List.all_cons, Bool.and_eq_true] at h
    obtain ⟨ns, e1, e2⟩ := ints_ren (ρ := ρ) h.2
    cases y with
    | int i => exact ⟨i :: ns, by rw [e1]; rfl, by rw [List.map_cons, e2]; rfl⟩
    | _ => cases h.1
theorem SimH.ext {ρ : Nat → Addr} {h : Sh} {H H' : Hp} (S : SimH K γ ρ h H) (E : Ext H H') : SimH K γ ρ h H' where
  ob := fun i u e => (S.ob i u e).at fun z => E _ (by cases q : H (ρ i) with | none => exact absurd q z | some _ => rfl)
  inj := S.inj
  wf := S.wf
def rSum (K : PySem.W.Frag) : List V → Hp → VK → Prop := fun xs H Q => ∃ (a : Addr) (ns : List Int), xs = [.ref a] ∧ SqL K H a (ns.map V.int) ∧ Q (.int ns.sum) H
theorem call_sum (hc : X.calm = true) : CallR X (.builtin "sum") (rSum X.K) := by
  intro pins s σ H xs us Q I r h
  obtain ⟨a, ns, rfl, hq, q⟩ := h
  obtain ⟨u, rfl, ru⟩ := vals1 r
  cases ru
  obtain ⟨its, rv, p, _⟩ := I.list hq
  have hi : IntsAre its ns := intsAre_of rv
  obtain ⟨ys, hx⟩ := hi.allInts.items
  have hl' : s.heap.IsList a (intItems ys) := hx ▸ p.isList
  refine sum_intListG (I.ok.hd hc) hl' fun h' tk t' hk => ?_
  have e1 : ns = ys.toList.map (·.1) := by
    rw [← nums_intItems, ← hx]
    exact (show numsOf its.toArray.toList = ns from hi.numsOf).symm
  have e2 : preSum (numAt ys) ys.size = ns.sum := by
    rw [preSum_eq, List.take_of_length_le (by simp), e1]
  rw [e2]
  exact ⟨.int ns.sum, H, I.kept hk, ⟨_, rfl⟩, q⟩
theorem toI_map (ns : List Int) : (ns.map W.int).map HL.toI = ns := by
  induction ns with
  | nil => rfl
  | cons n ns ih => rw [List.map_cons, List.map_cons, ih]; rfl
theorem cs_sum : CbS K γ (rSum K) HL.bSum := by
  intro ρ h H xs Q S w q
  unfold HL.bSum at q
  split at q
  · split at q
    · rename_i ys e
      split at q
      · rename_i hb
        obtain ⟨p, rfl, sq, w⟩ := lstW_sq S e
        obtain ⟨ns, e1, e2⟩ := ints_ren (γ := γ) (ρ := ρ) hb
        refine ⟨_, ns, rfl, by rw [← e2]; exact sq, ?_⟩
        have := q trivial
        rw [e1, toI_map] at this
        exact this
      · exact q.elim
    · exact q.elim
  · exact q.elim
theorem nw_sum (x : List W) (h : Sh) : newOk (HL.bSum x h) = true := by
  unfold HL.bSum; split
  · split
    · split <;> rfl
    · rfl
  · rfl
theorem f_sum (hc : X.calm = true) {p : Pos} {es : List Expr} {d : DA} (hg : Gl X "sum") (hm : X.mg "sum" = none) (ha : QA γ X (e :: es) d) (he : starEach (e :: es) X.env = (false, eval e X.env) :: starEach es X.env := by rfl) (hpl : (backTo pos (starEach es X.env)).any (·.1) = false := by rfl) : QE γ X (.Call (.Name "sum" p) (e :: es) [] pos) (HL.dB HL.bSum d) := q_callB (call_sum hc) cs_sum nw_sum hg hm PyProof.Rows.boot_sum ha (by decide) (by decide) he hpl
end
theorem binds_two {K : PySem.W.Frag} {fd : FuncData} {ps : List Str} {ds : List Value} (hl : ps.length = ds.length + 2) (h : ∀ (s : Shared) (u v : Value), K.In s.heap → BindsTo s fd ⟨[u, v], []⟩ (ps.zip ([u, v] ++ ds))) : Binds K fd ps ds := fun s us X e => by
  rw [List.length_append, hl] at e
  match us, e with
  | [u, v], _ => exact h s u v X
  | [], e => simp at e
  | [_], e => simp at e; omega
  | _ :: _ :: _ :: _, e => simp at e; omega
end L2
namespace K43
open HL
open PySem (Str)
def CTab : CT := []
def consts : List SO := []
def b__law_cell : DS := (sSeq (sSet 2 (dOp oAdd (dOp oMul (dC (.int 7919)) (dVar 1)) (dC (.int 11))))
    (sSeq (sIf (dT (dOp oNe (dVar 0) (dB bLst dNil))) (sSeq (sSet 2 (dOp oAdd (dOp oAdd (dVar 2) (dOp oMul (dOp oIx (dVar 0) (dOp oMod (dVar 1) (dB bLen (dCons (dVar 0) dNil)))) (dC (.int 48271)))) (dOp oMul (dC (.int 96810)) (dVar 1))))
    (sSet 2 (dOp oAdd (dVar 2) (dOp oMul (dOp oDiv (dVar 1) (dB bLen (dCons (dVar 0) dNil))) (dC (.int 7919)))))) sNx)
    (sSeq (sSet 3 (dOp oMod (dVar 2) (dC (.int 2147483647))))
    (sSeq (sSet 3 (dOp oMod (dOp oMul (dVar 3) (dVar 3)) (dC (.int 2147483629))))
    (sRet (dOp oMod (dOp oAdd (dOp oAdd (dOp oMul (dVar 3) (dVar 3)) (dOp oMul (dC (.int 69621)) (dVar 3))) (dVar 1)) (dC (.int 2147483587))))))))
abbrev f__law_cell : Fn := fnOf 2 4 b__law_cell
def b__law_word : DS := (sRet (dOp oIx (dB bLst (dCons (dOp oMod (dVar 0) (dC (.int 65536))) (dCons (dC (.int 65535)) (dCons (dC (.int 0)) dNil)))) (dOp oDiv (dOp oMod (dOp oDiv (dVar 0) (dC (.int 65536))) (dC (.int 9))) (dC (.int 4)))))
abbrev f__law_word : Fn := fnOf 1 1 b__law_word
def b__law_words : DS := (sRet (dComp (iRange1 (dVar 2)) 1 [0, 1] (gName 0) tTrue (dCall f__law_word (dCons (dCall f__law_cell (dCons (dVar 1) (dCons (dOp oAdd (dVar 2) (dVar 0)) dNil))) dNil))))
abbrev f__law_words : Fn := fnOf 3 3 b__law_words
def b_Slow_init : DS := (sSeq (sFld ["Slow"] "cells" (dVar 0) (dB bList (dCons (dVar 1) dNil)))
    (sSeq (sFld ["Slow"] "lines_told" (dVar 0) (dC (.int 0)))
    (sFld ["Slow"] "lines_put" (dVar 0) (dC (.int 0)))))
abbrev f_Slow_init : Fn := fnOf 2 2 b_Slow_init
def b_is_number : DS := (sRet (dAnd (dB (bIsi CTab) (dCons (dVar 0) (dCons (dC (.ty "int")) dNil))) (dNot (dB (bIsi CTab) (dCons (dVar 0) (dCons (dC (.ty "bool")) dNil))))))
abbrev f_is_number : Fn := fnOf 1 1 b_is_number
def b_Near_init : DS := (sSeq (sIf (tOr (tNot (dT (dCall f_is_number (dCons (dVar 2) dNil)))) (dT (dOp oNotIn (dVar 2) (dB bTup (dCons (dC (.int 1)) (dCons (dC (.int 2)) (dCons (dC (.int 4)) dNil))))))) sNever sNx)
    (sSeq (sFld ["Near"] "slow" (dVar 0) (dVar 1))
    (sSeq (sFld ["Near"] "sets" (dVar 0) (dVar 2))
    (sFld ["Near"] "rooms" (dVar 0) (dComp (iRange1 (dVar 2)) 1 [] (gName 0) tTrue (dB bLst dNil))))))
abbrev f_Near_init : Fn := fnOf 3 3 b_Near_init
def b__law_whole : DS := (sRet (dAnd (dB (bIsi CTab) (dCons (dVar 0) (dCons (dC (.ty "int")) dNil))) (dAnd (dNot (dB (bIsi CTab) (dCons (dVar 0) (dCons (dC (.ty "bool")) dNil)))) (dOp oEq (dVar 0) (dVar 1)))))
abbrev f__law_whole : Fn := fnOf 2 2 b__law_whole
def b_Slow_writes : DS := (sRet (dFld ["Slow"] "lines_put" (dVar 0)))
abbrev f_Slow_writes : Fn := fnOf 1 1 b_Slow_writes
def tb_writes : List (Str × Fn) := [("Slow", f_Slow_writes)]
def b_Slow_reads : DS := (sRet (dFld ["Slow"] "lines_told" (dVar 0)))
abbrev f_Slow_reads : Fn := fnOf 1 1 b_Slow_reads
def tb_reads : List (Str × Fn) := [("Slow", f_Slow_reads)]
def b__law_alike__r0 : DS := (sSeq (sIf (dT (dB (bIsi CTab) (dCons (dVar 1) (dCons (dC (.ty "tuple")) dNil)))) (sSeq (sIf (tOr (tNot (dT (dB (bIsi CTab) (dCons (dVar 0) (dCons (dC (.ty "tuple")) dNil))))) (dT (dOp oNe (dB bLen (dCons (dVar 0) dNil)) (dB bLen (dCons (dVar 1) dNil))))) (sRet (dC (.bl false))) sNx)
    sNever) sNx)
    (sRet (dAnd (dOp oEq (dB (bIsi CTab) (dCons (dVar 0) (dCons (dC (.ty "bool")) dNil))) (dB (bIsi CTab) (dCons (dVar 1) (dCons (dC (.ty "bool")) dNil)))) (dAnd (dB (bIsi CTab) (dCons (dVar 0) (dCons (dC (.ty "int")) dNil))) (dOp oEq (dVar 0) (dVar 1))))))
abbrev f__law_alike__r0 : Fn := fnOf 2 2 b__law_alike__r0
def b__law_alike__r1 : DS := (sSeq (sIf (dT (dB (bIsi CTab) (dCons (dVar 1) (dCons (dC (.ty "tuple")) dNil)))) (sSeq (sIf (tOr (tNot (dT (dB (bIsi CTab) (dCons (dVar 0) (dCons (dC (.ty "tuple")) dNil))))) (dT (dOp oNe (dB bLen (dCons (dVar 0) dNil)) (dB bLen (dCons (dVar 1) dNil))))) (sRet (dC (.bl false))) sNx)
    (sRet (dB bAll (dCons (dComp (iRange1 (dB bLen (dCons (dVar 1) dNil))) 1 [0, 1] (gName 0) tTrue (dCall f__law_alike__r0 (dCons (dOp oIx (dVar 1) (dVar 0)) (dCons (dOp oIx (dVar 2) (dVar 0)) dNil)))) dNil)))) sNx)
    (sRet (dAnd (dOp oEq (dB (bIsi CTab) (dCons (dVar 0) (dCons (dC (.ty "bool")) dNil))) (dB (bIsi CTab) (dCons (dVar 1) (dCons (dC (.ty "bool")) dNil)))) (dAnd (dB (bIsi CTab) (dCons (dVar 0) (dCons (dC (.ty "int")) dNil))) (dOp oEq (dVar 0) (dVar 1))))))
abbrev f__law_alike__r1 : Fn := fnOf 2 2 b__law_alike__r1
def b__law_alike__r2 : DS := (sSeq (sIf (dT (dB (bIsi CTab) (dCons (dVar 1) (dCons (dC (.ty "tuple")) dNil)))) (sSeq (sIf (tOr (tNot (dT (dB (bIsi CTab) (dCons (dVar 0) (dCons (dC (.ty "tuple")) dNil))))) (dT (dOp oNe (dB bLen (dCons (dVar 0) dNil)) (dB bLen (dCons (dVar 1) dNil))))) (sRet (dC (.bl false))) sNx)
    (sRet (dB bAll (dCons (dComp (iRange1 (dB bLen (dCons (dVar 1) dNil))) 1 [0, 1] (gName 0) tTrue (dCall f__law_alike__r1 (dCons (dOp oIx (dVar 1) (dVar 0)) (dCons (dOp oIx (dVar 2) (dVar 0)) dNil)))) dNil)))) sNx)
    (sRet (dAnd (dOp oEq (dB (bIsi CTab) (dCons (dVar 0) (dCons (dC (.ty "bool")) dNil))) (dB (bIsi CTab) (dCons (dVar 1) (dCons (dC (.ty "bool")) dNil)))) (dAnd (dB (bIsi CTab) (dCons (dVar 0) (dCons (dC (.ty "int")) dNil))) (dOp oEq (dVar 0) (dVar 1))))))
abbrev f__law_alike__r2 : Fn := fnOf 2 2 b__law_alike__r2
def b__law_alike__r3 : DS := (sSeq (sIf (dT (dB (bIsi CTab) (dCons (dVar 1) (dCons (dC (.ty "tuple")) dNil)))) (sSeq (sIf (tOr (tNot (dT (dB (bIsi CTab) (dCons (dVar 0) (dCons (dC (.ty "tuple")) dNil))))) (dT (dOp oNe (dB bLen (dCons (dVar 0) dNil)) (dB bLen (dCons (dVar 1) dNil))))) (sRet (dC (.bl false))) sNx)
    (sRet (dB bAll (dCons (dComp (iRange1 (dB bLen (dCons (dVar 1) dNil))) 1 [0, 1] (gName 0) tTrue (dCall f__law_alike__r2 (dCons (dOp oIx (dVar 1) (dVar 0)) (dCons (dOp oIx (dVar 2) (dVar 0)) dNil)))) dNil)))) sNx)
    (sRet (dAnd (dOp oEq (dB (bIsi CTab) (dCons (dVar 0) (dCons (dC (.ty "bool")) dNil))) (dB (bIsi CTab) (dCons (dVar 1) (dCons (dC (.ty "bool")) dNil)))) (dAnd (dB (bIsi CTab) (dCons (dVar 0) (dCons (dC (.ty "int")) dNil))) (dOp oEq (dVar 0) (dVar 1))))))
abbrev f__law_alike__r3 : Fn := fnOf 2 2 b__law_alike__r3
def b__law_alike : DS := (sSeq (sIf (dT (dB (bIsi CTab) (dCons (dVar 1) (dCons (dC (.ty "tuple")) dNil)))) (sSeq (sIf (tOr (tNot (dT (dB (bIsi CTab) (dCons (dVar 0) (dCons (dC (.ty "tuple")) dNil))))) (dT (dOp oNe (dB bLen (dCons (dVar 0) dNil)) (dB bLen (dCons (dVar 1) dNil))))) (sRet (dC (.bl false))) sNx)
    (sRet (dB bAll (dCons (dComp (iRange1 (dB bLen (dCons (dVar 1) dNil))) 1 [0, 1] (gName 0) tTrue (dCall f__law_alike__r3 (dCons (dOp oIx (dVar 1) (dVar 0)) (dCons (dOp oIx (dVar 2) (dVar 0)) dNil)))) dNil)))) sNx)
    (sRet (dAnd (dOp oEq (dB (bIsi CTab) (dCons (dVar 0) (dCons (dC (.ty "bool")) dNil))) (dB (bIsi CTab) (dCons (dVar 1) (dCons (dC (.ty "bool")) dNil)))) (dAnd (dB (bIsi CTab) (dCons (dVar 0) (dCons (dC (.ty "int")) dNil))) (dOp oEq (dVar 0) (dVar 1))))))
abbrev f__law_alike : Fn := fnOf 2 2 b__law_alike
def b_Line_told : DS := (sRet (dB bTup (dCons (dFld ["Line"] "number" (dVar 0)) (dCons (dB bTuple (dCons (dFld ["Line"] "words" (dVar 0)) dNil)) (dCons (dFld ["Line"] "changed" (dVar 0)) dNil)))))
abbrev f_Line_told : Fn := fnOf 1 1 b_Line_told
def tb_told : List (Str × Fn) := [("Line", f_Line_told)]
def b_lines_told : DS := (sRet (dB bTuple (dCons (dComp (iSeq (dVar 0)) 1 [] (gName 0) tTrue (dMeth tb_told "told" (dVar 0) dNil)) dNil)))
abbrev f_lines_told : Fn := fnOf 1 1 b_lines_told
def b_Near_held : DS := (sRet (dB bTuple (dCons (dComp (iSeq (dFld ["Near"] "rooms" (dVar 0))) 1 [] (gName 0) tTrue (dCall f_lines_told (dCons (dVar 0) dNil))) dNil)))
abbrev f_Near_held : Fn := fnOf 1 1 b_Near_held
def tb_held : List (Str × Fn) := [("Near", f_Near_held)]
def b__law_held : DS := (sRet (dB bTuple (dCons (dComp (iSeq (dVar 0)) 1 [1] (gName 0) tTrue (dB bTuple (dCons (dComp (iSeq (dVar 0)) 1 [1] (gName 0) tTrue (dB bTup (dCons (dOp oIx (dVar 0) (dC (.int 0))) (dCons (dB bTuple (dCons (dSl (dVar 1) (dPart (dOp oMul (dC (.int 4)) (dOp oIx (dVar 0) (dC (.int 0))))) (dPart (dOp oAdd (dOp oMul (dC (.int 4)) (dOp oIx (dVar 0) (dC (.int 0)))) (dC (.int 4))))) dNil)) (dCons (dOp oIx (dVar 0) (dC (.int 1))) dNil))))) dNil))) dNil)))
abbrev f__law_held : Fn := fnOf 2 2 b__law_held
def b__law_stands : DS := (sSeq (sIf (tOr (tNot (dT (dCall f__law_whole (dCons (dMeth tb_reads "reads" (dVar 1) dNil) (dCons (dOp oIx (dVar 2) (dC (.int 1))) dNil))))) (tNot (dT (dCall f__law_whole (dCons (dMeth tb_writes "writes" (dVar 1) dNil) (dCons (dOp oIx (dVar 2) (dC (.int 2))) dNil)))))) (sRet (dC (.bl false))) sNx)
    (sRet (dCall f__law_alike (dCons (dMeth tb_held "held" (dVar 0) dNil) (dCons (dCall f__law_held (dCons (dOp oIx (dVar 2) (dC (.int 0))) (dCons (dVar 3) dNil))) dNil)))))
abbrev f__law_stands : Fn := fnOf 4 4 b__law_stands
def b__law_address : DS := (sSeq (sSet 3 (dCall f__law_cell (dCons (dVar 0) (dCons (dVar 1) dNil))))
    (sSeq (sSet 4 (dOp oMod (dCall f__law_cell (dCons (dVar 0) (dCons (dOp oAdd (dC (.int 3)) (dOp oMod (dOp oDiv (dVar 3) (dC (.int 6))) (dC (.int 4)))) dNil))) (dVar 2)))
    (sSeq (sSet 5 (dOp oIx (dB bLst (dCons (dC (.int 4)) (dCons (dC (.int 8)) (dCons (dC (.int 16)) (dCons (dC (.int 1)) (dCons (dC (.int 2)) dNil)))))) (dOp oMod (dCall f__law_cell (dCons (dVar 0) (dCons (dC (.int 7)) dNil))) (dC (.int 5)))))
    (sSeq (sSet 6 (dOp oMod (dOp oAdd (dCall f__law_cell (dCons (dVar 0) (dCons (dC (.int 3)) dNil))) (dOp oMul (dVar 5) (dOp oMod (dOp oDiv (dVar 3) (dC (.int 24))) (dC (.int 5))))) (dVar 2)))
    (sRet (dOp oIx (dB bLst (dCons (dVar 4) (dCons (dVar 4) (dCons (dVar 6) (dCons (dVar 6) (dCons (dVar 6) (dCons (dOp oMod (dOp oDiv (dVar 3) (dC (.int 24))) (dVar 2)) dNil))))))) (dOp oMod (dVar 3) (dC (.int 6)))))))))
abbrev f__law_address : Fn := fnOf 3 7 b__law_address
def b__law_deed_by : DS := (sSeq (sSet 3 (dCall f__law_cell (dCons (dVar 0) (dCons (dOp oAdd (dC (.int 40)) (dVar 1)) dNil))))
    (sSeq (sSet 4 (dOp oIx (dB bLst (dCons (dOp oMod (dOp oDiv (dVar 3) (dC (.int 11))) (dC (.int 65536))) (dCons (dOp oMod (dOp oDiv (dVar 3) (dC (.int 11))) (dC (.int 3))) dNil))) (dOp oMod (dOp oDiv (dVar 3) (dC (.int 7))) (dC (.int 2)))))
    (sSeq (sSet 5 (dB bLst (dCons (dC (.str "get")) (dCons (dC (.str "get")) (dCons (dC (.str "get")) (dCons (dC (.str "put")) (dCons (dC (.str "put")) (dCons (dC (.str "put")) (dCons (dC (.str "put")) (dCons (dC (.str "cost")) (dCons (dC (.str "look")) (dCons (dC (.str "look")) (dCons (dC (.str "settle")) dNil)))))))))))))
    (sRet (dB bTup (dCons (dOp oIx (dVar 5) (dOp oMod (dVar 3) (dC (.int 11)))) (dCons (dCall f__law_address (dCons (dVar 0) (dCons (dOp oAdd (dC (.int 100)) (dVar 1)) (dCons (dVar 2) dNil)))) (dCons (dVar 4) dNil))))))))
abbrev f__law_deed_by : Fn := fnOf 3 6 b__law_deed_by
def b_is_within : DS := (sRet (dAnd (dCall f_is_number (dCons (dVar 0) dNil)) (dChain oLe oLe (dVar 1) (dVar 0) (dVar 2))))
abbrev f_is_within : Fn := fnOf 3 3 b_is_within
def b_Slow_size : DS := (sRet (dB bLen (dCons (dFld ["Slow"] "cells" (dVar 0)) dNil)))
abbrev f_Slow_size : Fn := fnOf 1 1 b_Slow_size
def tb_size : List (Str × Fn) := [("Slow", f_Slow_size)]
def b_Near_refuse_no_place : DS := (sIf (tNot (dT (dCall f_is_within (dCons (dVar 1) (dCons (dC (.int 0)) (dCons (dOp oSub (dMeth tb_size "size" (dFld ["Near"] "slow" (dVar 0)) dNil) (dC (.int 1))) dNil)))))) sNever sNx)
abbrev f_Near_refuse_no_place : Fn := fnOf 2 2 b_Near_refuse_no_place
def tb_refuse_no_place : List (Str × Fn) := [("Near", f_Near_refuse_no_place)]
def b_Near_room_of : DS := (sRet (dOp oIx (dFld ["Near"] "rooms" (dVar 0)) (dOp oMod (dVar 1) (dFld ["Near"] "sets" (dVar 0)))))
abbrev f_Near_room_of : Fn := fnOf 2 2 b_Near_room_of
def tb_room_of : List (Str × Fn) := [("Near", f_Near_room_of)]
def b_Near_found : DS := (sSeq (sFor (iSeq (dMeth tb_room_of "room_of" (dVar 0) (dCons (dVar 1) dNil))) (gName 2) (sIf (dT (dOp oEq (dFld ["Line"] "number" (dVar 2)) (dVar 1))) (sRet (dVar 2)) sNx))
    (sRet (dC .non)))
abbrev f_Near_found : Fn := fnOf 2 3 b_Near_found
def tb_found : List (Str × Fn) := [("Near", f_Near_found)]
def b_Near_cost : DS := (sSeq (sDrop (dMeth tb_refuse_no_place "refuse_no_place" (dVar 0) (dCons (dVar 1) dNil)))
    (sSeq (sSet 2 (dOp oDiv (dVar 1) (dC (.int 4))))
    (sSeq (sIf (dT (dOp oIsNot (dMeth tb_found "found" (dVar 0) (dCons (dVar 2) dNil)) (dC .non))) (sRet (dC (.int 1))) sNx)
    (sSeq (sSet 3 (dMeth tb_room_of "room_of" (dVar 0) (dCons (dVar 2) dNil)))
    (sSeq (sIf (tAnd (dT (dOp oEq (dB bLen (dCons (dVar 3) dNil)) (dC (.int 2)))) (dT (dFld ["Line"] "changed" (dOp oIx (dVar 3) (dUn oNeg (dC (.int 1))))))) (sRet (dC (.int 9))) sNx)
    (sRet (dC (.int 5))))))))
abbrev f_Near_cost : Fn := fnOf 2 4 b_Near_cost
def tb_cost : List (Str × Fn) := [("Near", f_Near_cost)]
def b__law_cost : DS := (sSeq (sSet 2 (dOp oIx (dOp oIx (dVar 0) (dC (.int 0))) (dOp oMod (dVar 1) (dB bLen (dCons (dOp oIx (dVar 0) (dC (.int 0))) dNil)))))
    (sSeq (sIf (dT (dOp oNe (dComp (iSeq (dVar 2)) 1 [1] (gName 0) (dT (dOp oEq (dOp oIx (dVar 0) (dC (.int 0))) (dVar 1))) (dVar 0)) (dB bLst dNil))) (sRet (dC (.int 1))) sNx)
    (sRet (dIf (tAnd (dT (dOp oEq (dB bLen (dCons (dVar 2) dNil)) (dC (.int 2)))) (dT (dOp oIx (dOp oIx (dVar 2) (dC (.int 1))) (dC (.int 1))))) (dC (.int 9)) (dC (.int 5))))))
abbrev f__law_cost : Fn := fnOf 2 3 b__law_cost
def b_Slow_refuse_no_line : DS := (sIf (tNot (dT (dCall f_is_within (dCons (dVar 1) (dCons (dC (.int 0)) (dCons (dOp oSub (dOp oDiv (dB bLen (dCons (dFld ["Slow"] "cells" (dVar 0)) dNil)) (dC (.int 4))) (dC (.int 1))) dNil)))))) sNever sNx)
abbrev f_Slow_refuse_no_line : Fn := fnOf 2 2 b_Slow_refuse_no_line
def tb_refuse_no_line : List (Str × Fn) := [("Slow", f_Slow_refuse_no_line)]
def b_Slow_put_four : DS := (sSeq (sDrop (dMeth tb_refuse_no_line "refuse_no_line" (dVar 0) (dCons (dVar 1) dNil)))
    (sSeq (sFld ["Slow"] "lines_put" (dVar 0) (dOp oAdd (dFld ["Slow"] "lines_put" (dVar 0)) (dC (.int 1))))
    (sForE (dVar 2) [3, 4] (sSub (dFld ["Slow"] "cells" (dVar 0)) (dOp oAdd (dOp oMul (dC (.int 4)) (dVar 1)) (dVar 3)) (dVar 4)))))
abbrev f_Slow_put_four : Fn := fnOf 3 5 b_Slow_put_four
def tb_put_four : List (Str × Fn) := [("Slow", f_Slow_put_four)]
def b_Near_write_back : DS := (sIf (dT (dFld ["Line"] "changed" (dVar 1))) (sSeq (sDrop (dMeth tb_put_four "put_four" (dFld ["Near"] "slow" (dVar 0)) (dCons (dFld ["Line"] "number" (dVar 1)) (dCons (dFld ["Line"] "words" (dVar 1)) dNil))))
    (sFld ["Line"] "changed" (dVar 1) (dC (.bl false)))) sNx)
abbrev f_Near_write_back : Fn := fnOf 2 2 b_Near_write_back
def tb_write_back : List (Str × Fn) := [("Near", f_Near_write_back)]
def b_Line_init : DS := (sSeq (sFld ["Line"] "number" (dVar 0) (dVar 1))
    (sSeq (sFld ["Line"] "words" (dVar 0) (dB bList (dCons (dVar 2) dNil)))
    (sFld ["Line"] "changed" (dVar 0) (dVar 3))))
abbrev f_Line_init : Fn := fnOf 4 4 b_Line_init
def b_Slow_four : DS := (sSeq (sDrop (dMeth tb_refuse_no_line "refuse_no_line" (dVar 0) (dCons (dVar 1) dNil)))
    (sSeq (sFld ["Slow"] "lines_told" (dVar 0) (dOp oAdd (dFld ["Slow"] "lines_told" (dVar 0)) (dC (.int 1))))
    (sRet (dB bTuple (dCons (dSl (dFld ["Slow"] "cells" (dVar 0)) (dPart (dOp oMul (dC (.int 4)) (dVar 1))) (dPart (dOp oAdd (dOp oMul (dC (.int 4)) (dVar 1)) (dC (.int 4))))) dNil)))))
abbrev f_Slow_four : Fn := fnOf 2 2 b_Slow_four
def tb_four : List (Str × Fn) := [("Slow", f_Slow_four)]
def b_Near_asked : DS := (sSeq (sSet 2 (dMeth tb_room_of "room_of" (dVar 0) (dCons (dVar 1) dNil)))
    (sSeq (sSet 3 (dMeth tb_found "found" (dVar 0) (dCons (dVar 1) dNil)))
    (sSeq (sIf (dT (dOp oIsNot (dVar 3) (dC .non))) (sDrop (dMt isLst (mRemove "Line") (dVar 2) (dCons (dVar 3) dNil))) (sSeq (sIf (dT (dOp oEq (dB bLen (dCons (dVar 2) dNil)) (dC (.int 2)))) (sDrop (dMeth tb_write_back "write_back" (dVar 0) (dCons (dMt0 isLst mPop (dVar 2)) dNil))) sNx)
    (sSet 3 (dNew "Line" f_Line_init [] (dCons (dVar 1) (dCons (dMeth tb_four "four" (dFld ["Near"] "slow" (dVar 0)) (dCons (dVar 1) dNil)) (dCons (dC (.bl false)) dNil)))))))
    (sSeq (sDrop (dMt isLst mInsert (dVar 2) (dCons (dC (.int 0)) (dCons (dVar 3) dNil))))
    (sRet (dVar 3))))))
abbrev f_Near_asked : Fn := fnOf 2 4 b_Near_asked
def tb_asked : List (Str × Fn) := [("Near", f_Near_asked)]
def b_Near_get : DS := (sSeq (sDrop (dMeth tb_refuse_no_place "refuse_no_place" (dVar 0) (dCons (dVar 1) dNil)))
    (sRet (dOp oIx (dFld ["Line"] "words" (dMeth tb_asked "asked" (dVar 0) (dCons (dOp oDiv (dVar 1) (dC (.int 4))) dNil))) (dOp oMod (dVar 1) (dC (.int 4))))))
abbrev f_Near_get : Fn := fnOf 2 2 b_Near_get
def tb_get : List (Str × Fn) := [("Near", f_Near_get)]
def b_Near_put : DS := (sSeq (sDrop (dMeth tb_refuse_no_place "refuse_no_place" (dVar 0) (dCons (dVar 1) dNil)))
    (sSeq (sSet 3 (dMeth tb_asked "asked" (dVar 0) (dCons (dOp oDiv (dVar 1) (dC (.int 4))) dNil)))
    (sSeq (sSub (dFld ["Line"] "words" (dVar 3)) (dOp oMod (dVar 1) (dC (.int 4))) (dVar 2))
    (sFld ["Line"] "changed" (dVar 3) (dC (.bl true))))))
abbrev f_Near_put : Fn := fnOf 3 4 b_Near_put
def tb_put : List (Str × Fn) := [("Near", f_Near_put)]
def b_Slow_word_at : DS := (sRet (dOp oIx (dFld ["Slow"] "cells" (dVar 0)) (dVar 1)))
abbrev f_Slow_word_at : Fn := fnOf 2 2 b_Slow_word_at
def tb_word_at : List (Str × Fn) := [("Slow", f_Slow_word_at)]
def b_Near_look : DS := (sSeq (sDrop (dMeth tb_refuse_no_place "refuse_no_place" (dVar 0) (dCons (dVar 1) dNil)))
    (sSeq (sSet 2 (dMeth tb_found "found" (dVar 0) (dCons (dOp oDiv (dVar 1) (dC (.int 4))) dNil)))
    (sSeq (sIf (dT (dOp oIs (dVar 2) (dC .non))) (sRet (dMeth tb_word_at "word_at" (dFld ["Near"] "slow" (dVar 0)) (dCons (dVar 1) dNil))) sNx)
    (sRet (dOp oIx (dFld ["Line"] "words" (dVar 2)) (dOp oMod (dVar 1) (dC (.int 4))))))))
abbrev f_Near_look : Fn := fnOf 2 3 b_Near_look
def tb_look : List (Str × Fn) := [("Near", f_Near_look)]
def b_Near_settle : DS := (sFor (iSeq (dFld ["Near"] "rooms" (dVar 0))) (gName 1) (sFor (iSeq (dVar 1)) (gName 2) (sDrop (dMeth tb_write_back "write_back" (dVar 0) (dCons (dVar 2) dNil)))))
abbrev f_Near_settle : Fn := fnOf 1 3 b_Near_settle
def tb_settle : List (Str × Fn) := [("Near", f_Near_settle)]
def b__law_did : DS := (sSeq (sIf (dT (dOp oEq (dOp oIx (dVar 1) (dC (.int 0))) (dC (.str "get")))) (sRet (dMeth tb_get "get" (dVar 0) (dCons (dOp oIx (dVar 1) (dC (.int 1))) dNil))) sNx)
    (sSeq (sIf (dT (dOp oEq (dOp oIx (dVar 1) (dC (.int 0))) (dC (.str "put")))) (sRet (dMeth tb_put "put" (dVar 0) (dCons (dOp oIx (dVar 1) (dC (.int 1))) (dCons (dOp oIx (dVar 1) (dC (.int 2))) dNil)))) sNx)
    (sSeq (sIf (dT (dOp oEq (dOp oIx (dVar 1) (dC (.int 0))) (dC (.str "cost")))) (sRet (dMeth tb_cost "cost" (dVar 0) (dCons (dOp oIx (dVar 1) (dC (.int 1))) dNil))) sNx)
    (sSeq (sIf (dT (dOp oEq (dOp oIx (dVar 1) (dC (.int 0))) (dC (.str "look")))) (sRet (dMeth tb_look "look" (dVar 0) (dCons (dOp oIx (dVar 1) (dC (.int 1))) dNil))) sNx)
    (sRet (dMeth tb_settle "settle" (dVar 0) dNil))))))
abbrev f__law_did : Fn := fnOf 2 2 b__law_did
def b__law_settled : DS := (sSeq (sSet 1 (dB bSum (dCons (dComp (iSeq (dOp oIx (dVar 0) (dC (.int 0)))) 1 [] (gName 0) tTrue (dB bLen (dCons (dComp (iSeq (dVar 0)) 1 [] (gName 0) (dT (dOp oIx (dVar 0) (dC (.int 1)))) (dVar 0)) dNil))) dNil)))
    (sRet (dB bTup (dCons (dComp (iSeq (dOp oIx (dVar 0) (dC (.int 0)))) 1 [] (gName 0) tTrue (dComp (iSeq (dVar 0)) 1 [] (gName 0) tTrue (dB bTup (dCons (dOp oIx (dVar 0) (dC (.int 0))) (dCons (dC (.bl false)) dNil))))) (dCons (dOp oIx (dVar 0) (dC (.int 1))) (dCons (dOp oAdd (dOp oIx (dVar 0) (dC (.int 2))) (dVar 1)) dNil))))))
abbrev f__law_settled : Fn := fnOf 1 2 b__law_settled
def b__law_asked : DS := (sSeq (sSet 3 (dComp (iSeq (dOp oIx (dVar 0) (dC (.int 0)))) 1 [] (gName 0) tTrue (dB bList (dCons (dVar 0) dNil))))
    (sSeq (sSet 4 (dOp oMod (dVar 1) (dB bLen (dCons (dVar 3) dNil))))
    (sSeq (sSet 5 (dOp oIx (dVar 3) (dVar 4)))
    (sSeq (sSet 6 (dOp oIx (dVar 0) (dC (.int 1))))
    (sSeq (sSet 7 (dOp oIx (dVar 0) (dC (.int 2))))
    (sSeq (sSet 8 (dComp (iSeq (dVar 5)) 1 [1] (gName 0) (dT (dOp oEq (dOp oIx (dVar 0) (dC (.int 0))) (dVar 1))) (dVar 0)))
    (sSeq (sSet 9 (dComp (iSeq (dVar 5)) 1 [1] (gName 0) (dT (dOp oNe (dOp oIx (dVar 0) (dC (.int 0))) (dVar 1))) (dVar 0)))
    (sSeq (sIf (dT (dOp oEq (dVar 8) (dB bLst dNil))) (sSeq (sSet 6 (dOp oAdd (dVar 6) (dC (.int 1))))
    (sSeq (sSet 8 (dB bLst (dCons (dB bTup (dCons (dVar 1) (dCons (dC (.bl false)) dNil))) dNil)))
    (sIf (dT (dOp oEq (dB bLen (dCons (dVar 9) dNil)) (dC (.int 2)))) (sSeq (sSet 7 (dOp oAdd (dVar 7) (dB bInt (dCons (dOp oIx (dOp oIx (dVar 9) (dC (.int 1))) (dC (.int 1))) dNil))))
    (sSet 9 (dSl (dVar 9) dNoPart (dPart (dC (.int 1)))))) sNx))) sNx)
    (sSeq (sSub (dVar 3) (dVar 4) (dOp oAdd (dB bLst (dCons (dB bTup (dCons (dVar 1) (dCons (dOr (dOp oIx (dOp oIx (dVar 8) (dC (.int 0))) (dC (.int 1))) (dVar 2)) dNil))) dNil)) (dVar 9)))
    (sRet (dB bTup (dCons (dVar 3) (dCons (dVar 6) (dCons (dVar 7) dNil))))))))))))))
abbrev f__law_asked : Fn := fnOf 3 10 b__law_asked
def b__law_behind : DS := (sSeq (sIf (dT (dOp oEq (dOp oIx (dVar 1) (dC (.int 0))) (dC (.str "settle")))) (sRet (dCall f__law_settled (dCons (dVar 0) dNil))) sNx)
    (sSeq (sIf (dT (dOp oIn (dOp oIx (dVar 1) (dC (.int 0))) (dB bTup (dCons (dC (.str "get")) (dCons (dC (.str "put")) dNil))))) (sRet (dCall f__law_asked (dCons (dVar 0) (dCons (dOp oDiv (dOp oIx (dVar 1) (dC (.int 1))) (dC (.int 4))) (dCons (dOp oEq (dOp oIx (dVar 1) (dC (.int 0))) (dC (.str "put"))) dNil))))) sNx)
    (sRet (dVar 0))))
abbrev f__law_behind : Fn := fnOf 2 2 b__law_behind
def b_law : DS := (sSeq (sSet 1 (dOp oAdd (dC (.int 4)) (dOp oMul (dC (.int 4)) (dOp oMod (dCall f__law_cell (dCons (dVar 0) (dCons (dC (.int 1)) dNil))) (dC (.int 16))))))
    (sSeq (sSet 2 (dCall f__law_words (dCons (dVar 0) (dCons (dC (.int 200)) (dCons (dVar 1) dNil)))))
    (sSeq (sSet 3 (dNew "Slow" f_Slow_init [] (dCons (dB bTuple (dCons (dVar 2) dNil)) dNil)))
    (sSeq (sSet 4 (dOp oIx (dB bLst (dCons (dC (.int 1)) (dCons (dC (.int 2)) (dCons (dC (.int 4)) dNil)))) (dOp oMod (dCall f__law_cell (dCons (dVar 0) (dCons (dC (.int 2)) dNil))) (dC (.int 3)))))
    (sSeq (sIf (tAnd (dT (dOp oEq (dVar 4) (dC (.int 2)))) (dT (dOp oEq (dOp oMod (dOp oDiv (dCall f__law_cell (dCons (dVar 0) (dCons (dC (.int 2)) dNil))) (dC (.int 3))) (dC (.int 2))) (dC (.int 0))))) (sSet 5 (dNew "Near" f_Near_init [.int 2] (dCons (dVar 3) dNil))) (sSet 5 (dNew "Near" f_Near_init [] (dCons (dVar 3) (dCons (dVar 4) dNil)))))
    (sSeq (sSet 6 (dB bTup (dCons (dComp (iRange1 (dVar 4)) 1 [] (gName 0) tTrue (dB bLst dNil)) (dCons (dC (.int 0)) (dCons (dC (.int 0)) dNil)))))
    (sSeq (sIf (tNot (dT (dCall f__law_stands (dCons (dVar 5) (dCons (dVar 3) (dCons (dVar 6) (dCons (dVar 2) dNil))))))) (sRet (dC (.bl false))) sNx)
    (sSeq (sFor (iRange1 (dB bMin2 (dCons (dOp oAdd (dB bLen (dCons (dVar 0) dNil)) (dC (.int 6))) (dCons (dC (.int 30)) dNil)))) (gName 7) (sSeq (sSet 8 (dCall f__law_deed_by (dCons (dVar 0) (dCons (dVar 7) (dCons (dVar 1) dNil)))))
    (sSeq (sIf (tAnd (dT (dOp oEq (dOp oIx (dVar 8) (dC (.int 0))) (dC (.str "put")))) (dT (dOp oEq (dOp oMod (dCall f__law_cell (dCons (dVar 0) (dCons (dOp oAdd (dC (.int 700)) (dVar 7)) dNil))) (dC (.int 4))) (dC (.int 1))))) (sSet 8 (dB bTup (dCons (dC (.str "put")) (dCons (dOp oIx (dVar 8) (dC (.int 1))) (dCons (dOp oIx (dVar 2) (dOp oIx (dVar 8) (dC (.int 1)))) dNil))))) sNx)
    (sSeq (sIf (tNot (dT (dCall f__law_whole (dCons (dMeth tb_cost "cost" (dVar 5) (dCons (dOp oIx (dVar 8) (dC (.int 1))) dNil)) (dCons (dCall f__law_cost (dCons (dVar 6) (dCons (dOp oDiv (dOp oIx (dVar 8) (dC (.int 1))) (dC (.int 4))) dNil))) dNil))))) (sRet (dC (.bl false))) sNx)
    (sSeq (sSet 9 (dCall f__law_address (dCons (dVar 0) (dCons (dOp oAdd (dC (.int 300)) (dVar 7)) (dCons (dVar 1) dNil)))))
    (sSeq (sIf (tNot (dT (dCall f__law_whole (dCons (dMeth tb_cost "cost" (dVar 5) (dCons (dVar 9) dNil)) (dCons (dCall f__law_cost (dCons (dVar 6) (dCons (dOp oDiv (dVar 9) (dC (.int 4))) dNil))) dNil))))) (sRet (dC (.bl false))) sNx)
    (sSeq (sDrop (dCall f__law_did (dCons (dVar 5) (dCons (dVar 8) dNil))))
    (sSeq (sSet 6 (dCall f__law_behind (dCons (dVar 6) (dCons (dVar 8) dNil))))
    (sSeq (sIf (dT (dOp oEq (dOp oIx (dVar 8) (dC (.int 0))) (dC (.str "put")))) (sSub (dVar 2) (dOp oIx (dVar 8) (dC (.int 1))) (dOp oIx (dVar 8) (dC (.int 2)))) sNx)
    (sIf (tNot (dT (dCall f__law_stands (dCons (dVar 5) (dCons (dVar 3) (dCons (dVar 6) (dCons (dVar 2) dNil))))))) (sRet (dC (.bl false))) sNx))))))))))
    (sRet (dC (.bl true)))))))))))
abbrev f_law : Fn := fnOf 1 10 b_law
end K43
namespace K43
open PySem L2
seal PS PE PA PSs PT PI PG PW PO
def top (i : Nat) : Stmt := PySem.Challenge.pw_rowmill_k43_lines_held.main.body.getD i (.Pass ⟨0, 0, 0, 0⟩)
abbrev s__law_cell : Stmt := top 17
theorem sc__law_cell : FnScope ["_law_script", "_law_k", "_law_cell_here", "_law_more"] ["_law_script", "_law_k"] (defScope s__law_cell) := ⟨rfl, rfl, rfl, by decide +kernel, rfl, by decide +kernel, by decide +kernel⟩
abbrev s__law_word : Stmt := top 18
theorem sc__law_word : FnScope ["_law_cell_here"] ["_law_cell_here"] (defScope s__law_word) := ⟨rfl, rfl, rfl, by decide +kernel, rfl, by decide +kernel, by decide +kernel⟩
abbrev s__law_words : Stmt := top 19
theorem sc__law_words : FnScope ["_law_script", "_law_k", "_law_many"] ["_law_script", "_law_k", "_law_many"] (defScope s__law_words) := ⟨rfl, rfl, rfl, by decide +kernel, rfl, by decide +kernel, by decide +kernel⟩
abbrev s_Slow_init : Stmt := inClass (top 15) 0
theorem sc_Slow_init : FnScope ["self", "words"] ["self", "words"] (defScope s_Slow_init) := ⟨rfl, rfl, rfl, by decide +kernel, rfl, by decide +kernel, by decide +kernel⟩
abbrev s_is_number : Stmt := top 7
theorem sc_is_number : FnScope ["thing"] ["thing"] (defScope s_is_number) := ⟨rfl, rfl, rfl, by decide +kernel, rfl, by decide +kernel, by decide +kernel⟩
abbrev s_Near_init : Stmt := inClass (top 12) 0
theorem sc_Near_init : FnScope ["self", "slow", "sets"] ["self", "slow", "sets"] (defScope s_Near_init) := ⟨rfl, rfl, rfl, by decide +kernel, rfl, by decide +kernel, by decide +kernel⟩
abbrev s__law_whole : Stmt := top 23
theorem sc__law_whole : FnScope ["_law_found", "_law_due"] ["_law_found", "_law_due"] (defScope s__law_whole) := ⟨rfl, rfl, rfl, by decide +kernel, rfl, by decide +kernel, by decide +kernel⟩
abbrev s_Slow_writes : Stmt := inClass (top 15) 6
theorem sc_Slow_writes : FnScope ["self"] ["self"] (defScope s_Slow_writes) := ⟨rfl, rfl, rfl, by decide +kernel, rfl, by decide +kernel, by decide +kernel⟩
abbrev s_Slow_reads : Stmt := inClass (top 15) 5
theorem sc_Slow_reads : FnScope ["self"] ["self"] (defScope s_Slow_reads) := ⟨rfl, rfl, rfl, by decide +kernel, rfl, by decide +kernel, by decide +kernel⟩
abbrev s__law_alike__r0 : Stmt := top 28
theorem sc__law_alike__r0 : FnScope ["_law_found", "_law_due"] ["_law_found", "_law_due"] (defScope s__law_alike__r0) := ⟨rfl, rfl, rfl, by decide +kernel, rfl, by decide +kernel, by decide +kernel⟩
abbrev s__law_alike__r1 : Stmt := top 28
theorem sc__law_alike__r1 : FnScope ["_law_found", "_law_due"] ["_law_found", "_law_due"] (defScope s__law_alike__r1) := ⟨rfl, rfl, rfl, by decide +kernel, rfl, by decide +kernel, by decide +kernel⟩
abbrev s__law_alike__r2 : Stmt := top 28
theorem sc__law_alike__r2 : FnScope ["_law_found", "_law_due"] ["_law_found", "_law_due"] (defScope s__law_alike__r2) := ⟨rfl, rfl, rfl, by decide +kernel, rfl, by decide +kernel, by decide +kernel⟩
abbrev s__law_alike__r3 : Stmt := top 28
theorem sc__law_alike__r3 : FnScope ["_law_found", "_law_due"] ["_law_found", "_law_due"] (defScope s__law_alike__r3) := ⟨rfl, rfl, rfl, by decide +kernel, rfl, by decide +kernel, by decide +kernel⟩
abbrev s__law_alike : Stmt := top 28
theorem sc__law_alike : FnScope ["_law_found", "_law_due"] ["_law_found", "_law_due"] (defScope s__law_alike) := ⟨rfl, rfl, rfl, by decide +kernel, rfl, by decide +kernel, by decide +kernel⟩
abbrev s_Line_told : Stmt := inClass (top 11) 1
theorem sc_Line_told : FnScope ["self"] ["self"] (defScope s_Line_told) := ⟨rfl, rfl, rfl, by decide +kernel, rfl, by decide +kernel, by decide +kernel⟩
abbrev s_lines_told : Stmt := top 13
theorem sc_lines_told : FnScope ["room"] ["room"] (defScope s_lines_told) := ⟨rfl, rfl, rfl, by decide +kernel, rfl, by decide +kernel, by decide +kernel⟩
abbrev s_Near_held : Stmt := inClass (top 12) 11
theorem sc_Near_held : FnScope ["self"] ["self"] (defScope s_Near_held) := ⟨rfl, rfl, rfl, by decide +kernel, rfl, by decide +kernel, by decide +kernel⟩
abbrev s__law_held : Stmt := top 24
theorem sc__law_held : FnScope ["_law_rooms", "_law_words_here"] ["_law_rooms", "_law_words_here"] (defScope s__law_held) := ⟨rfl, rfl, rfl, by decide +kernel, rfl, by decide +kernel, by decide +kernel⟩
abbrev s__law_stands : Stmt := top 30
theorem sc__law_stands : FnScope ["_law_near", "_law_slow", "_law_state", "_law_words_here"] ["_law_near", "_law_slow", "_law_state", "_law_words_here"] (defScope s__law_stands) := ⟨rfl, rfl, rfl, by decide +kernel, rfl, by decide +kernel, by decide +kernel⟩
abbrev s__law_address : Stmt := top 20
theorem sc__law_address : FnScope ["_law_script", "_law_k", "_law_many", "_law_cell_here", "_law_spot", "_law_stride", "_law_far"] ["_law_script", "_law_k", "_law_many"] (defScope s__law_address) := ⟨rfl, rfl, rfl, by decide +kernel, rfl, by decide +kernel, by decide +kernel⟩
abbrev s__law_deed_by : Stmt := top 21
theorem sc__law_deed_by : FnScope ["_law_script", "_law_k", "_law_many", "_law_cell_here", "_law_word_here", "_law_some"] ["_law_script", "_law_k", "_law_many"] (defScope s__law_deed_by) := ⟨rfl, rfl, rfl, by decide +kernel, rfl, by decide +kernel, by decide +kernel⟩
abbrev s_is_within : Stmt := top 8
theorem sc_is_within : FnScope ["thing", "low", "high"] ["thing", "low", "high"] (defScope s_is_within) := ⟨rfl, rfl, rfl, by decide +kernel, rfl, by decide +kernel, by decide +kernel⟩
abbrev s_Slow_size : Stmt := inClass (top 15) 8
theorem sc_Slow_size : FnScope ["self"] ["self"] (defScope s_Slow_size) := ⟨rfl, rfl, rfl, by decide +kernel, rfl, by decide +kernel, by decide +kernel⟩
abbrev s_Near_refuse_no_place : Stmt := inClass (top 12) 1
theorem sc_Near_refuse_no_place : FnScope ["self", "address"] ["self", "address"] (defScope s_Near_refuse_no_place) := ⟨rfl, rfl, rfl, by decide +kernel, rfl, by decide +kernel, by decide +kernel⟩
abbrev s_Near_room_of : Stmt := inClass (top 12) 2
theorem sc_Near_room_of : FnScope ["self", "number"] ["self", "number"] (defScope s_Near_room_of) := ⟨rfl, rfl, rfl, by decide +kernel, rfl, by decide +kernel, by decide +kernel⟩
abbrev s_Near_found : Stmt := inClass (top 12) 3
theorem sc_Near_found : FnScope ["self", "number", "line"] ["self", "number"] (defScope s_Near_found) := ⟨rfl, rfl, rfl, by decide +kernel, rfl, by decide +kernel, by decide +kernel⟩
abbrev s_Near_cost : Stmt := inClass (top 12) 8
theorem sc_Near_cost : FnScope ["self", "address", "number", "room"] ["self", "address"] (defScope s_Near_cost) := ⟨rfl, rfl, rfl, by decide +kernel, rfl, by decide +kernel, by decide +kernel⟩
abbrev s__law_cost : Stmt := top 26
theorem sc__law_cost : FnScope ["_law_state", "_law_number", "_law_room"] ["_law_state", "_law_number"] (defScope s__law_cost) := ⟨rfl, rfl, rfl, by decide +kernel, rfl, by decide +kernel, by decide +kernel⟩
abbrev s_Slow_refuse_no_line : Stmt := inClass (top 15) 1
theorem sc_Slow_refuse_no_line : FnScope ["self", "k"] ["self", "k"] (defScope s_Slow_refuse_no_line) := ⟨rfl, rfl, rfl, by decide +kernel, rfl, by decide +kernel, by decide +kernel⟩
abbrev s_Slow_put_four : Stmt := inClass (top 15) 3
theorem sc_Slow_put_four : FnScope ["self", "k", "words", "offset", "word"] ["self", "k", "words"] (defScope s_Slow_put_four) := ⟨rfl, rfl, rfl, by decide +kernel, rfl, by decide +kernel, by decide +kernel⟩
abbrev s_Near_write_back : Stmt := inClass (top 12) 4
theorem sc_Near_write_back : FnScope ["self", "line"] ["self", "line"] (defScope s_Near_write_back) := ⟨rfl, rfl, rfl, by decide +kernel, rfl, by decide +kernel, by decide +kernel⟩
abbrev s_Line_init : Stmt := inClass (top 11) 0
theorem sc_Line_init : FnScope ["self", "number", "words", "changed"] ["self", "number", "words", "changed"] (defScope s_Line_init) := ⟨rfl, rfl, rfl, by decide +kernel, rfl, by decide +kernel, by decide +kernel⟩
abbrev s_Slow_four : Stmt := inClass (top 15) 2
theorem sc_Slow_four : FnScope ["self", "k"] ["self", "k"] (defScope s_Slow_four) := ⟨rfl, rfl, rfl, by decide +kernel, rfl, by decide +kernel, by decide +kernel⟩
abbrev s_Near_asked : Stmt := inClass (top 12) 5
theorem sc_Near_asked : FnScope ["self", "number", "room", "line"] ["self", "number"] (defScope s_Near_asked) := ⟨rfl, rfl, rfl, by decide +kernel, rfl, by decide +kernel, by decide +kernel⟩
abbrev s_Near_get : Stmt := inClass (top 12) 6
theorem sc_Near_get : FnScope ["self", "address"] ["self", "address"] (defScope s_Near_get) := ⟨rfl, rfl, rfl, by decide +kernel, rfl, by decide +kernel, by decide +kernel⟩
abbrev s_Near_put : Stmt := inClass (top 12) 7
theorem sc_Near_put : FnScope ["self", "address", "word", "line"] ["self", "address", "word"] (defScope s_Near_put) := ⟨rfl, rfl, rfl, by decide +kernel, rfl, by decide +kernel, by decide +kernel⟩
abbrev s_Slow_word_at : Stmt := inClass (top 15) 4
theorem sc_Slow_word_at : FnScope ["self", "address"] ["self", "address"] (defScope s_Slow_word_at) := ⟨rfl, rfl, rfl, by decide +kernel, rfl, by decide +kernel, by decide +kernel⟩
abbrev s_Near_look : Stmt := inClass (top 12) 9
theorem sc_Near_look : FnScope ["self", "address", "line"] ["self", "address"] (defScope s_Near_look) := ⟨rfl, rfl, rfl, by decide +kernel, rfl, by decide +kernel, by decide +kernel⟩
abbrev s_Near_settle : Stmt := inClass (top 12) 10
theorem sc_Near_settle : FnScope ["self", "room", "line"] ["self"] (defScope s_Near_settle) := ⟨rfl, rfl, rfl, by decide +kernel, rfl, by decide +kernel, by decide +kernel⟩
abbrev s__law_did : Stmt := top 22
theorem sc__law_did : FnScope ["_law_near", "_law_deed"] ["_law_near", "_law_deed"] (defScope s__law_did) := ⟨rfl, rfl, rfl, by decide +kernel, rfl, by decide +kernel, by decide +kernel⟩
abbrev s__law_settled : Stmt := top 27
theorem sc__law_settled : FnScope ["_law_state", "_law_many"] ["_law_state"] (defScope s__law_settled) := ⟨rfl, rfl, rfl, by decide +kernel, rfl, by decide +kernel, by decide +kernel⟩
abbrev s__law_asked : Stmt := top 25
theorem sc__law_asked : FnScope ["_law_state", "_law_number", "_law_changed", "_law_rooms", "_law_place", "_law_room", "_law_told", "_law_put", "_law_here", "_law_rest"] ["_law_state", "_law_number", "_law_changed"] (defScope s__law_asked) := ⟨rfl, rfl, rfl, by decide +kernel, rfl, by decide +kernel, by decide +kernel⟩
abbrev s__law_behind : Stmt := top 29
theorem sc__law_behind : FnScope ["_law_state", "_law_deed"] ["_law_state", "_law_deed"] (defScope s__law_behind) := ⟨rfl, rfl, rfl, by decide +kernel, rfl, by decide +kernel, by decide +kernel⟩
abbrev s_law : Stmt := top 31
theorem sc_law : FnScope ["_law_script", "_law_many", "_law_words_here", "_law_slow", "_law_sets", "_law_near", "_law_state", "_law_k", "_law_deed", "_law_other"] ["_law_script"] (defScope s_law) := ⟨rfl, rfl, rfl, by decide +kernel, rfl, by decide +kernel, by decide +kernel⟩
structure Txt (w : World) (K : PySem.W.Frag) (γ : Str → Addr) (mg : Str → Option Value) : Prop where
  z_all : mg "all" = none
  z_bool : mg "bool" = none
  z_enumerate : mg "enumerate" = none
  z_int : mg "int" = none
  z_isinstance : mg "isinstance" = none
  z_len : mg "len" = none
  z_list : mg "list" = none
  z_min : mg "min" = none
  z_range : mg "range" = none
  z_sum : mg "sum" = none
  z_tuple : mg "tuple" = none
  isi : IsiOk K γ CTab
  cls_Slow : Cls K (γ "Slow")
  mk_Slow : MkC K mg "Slow" (γ "Slow")
  cls_Near : Cls K (γ "Near")
  mk_Near : MkC K mg "Near" (γ "Near")
  cls_Line : Cls K (γ "Line")
  mk_Line : MkC K mg "Line" (γ "Line")
  eq_Line : EqOk K (γ "Line")
  fld_cells : FldOk K γ ["Slow"] "cells"
  fld_changed : FldOk K γ ["Line"] "changed"
  fld_lines_put : FldOk K γ ["Slow"] "lines_put"
  fld_lines_told : FldOk K γ ["Slow"] "lines_told"
  fld_number : FldOk K γ ["Line"] "number"
  fld_rooms : FldOk K γ ["Near"] "rooms"
  fld_sets : FldOk K γ ["Near"] "sets"
  fld_slow : FldOk K γ ["Near"] "slow"
  fld_words : FldOk K γ ["Line"] "words"
  c_ROOM : ∃ u, mg "ROOM" = some u ∧ RelV (.int 2) u
section
variable {P : Program} {w : World} {K : PySem.W.Frag} {mg : Str → Option Value} {base : Heap} {γ : Str → Addr}
theorem ok__law_cell (T : Txt w K γ mg)  (F : TopFn K mg "_law_cell" s__law_cell) : Def P w K mg base 1 "_law_cell" ["_law_script", "_law_k"] (spF K γ 2 f__law_cell) := by
  refine F.qdef (k := 0) sc__law_cell rfl rfl (fun _ _ _ _ _ _ us hl => match us, hl with | [_, _], _ => rfl) (bd := b__law_cell) fun f cdv A outer s H E hr => ?_
  unfold b__law_cell
  exact (qs_cons (sset 2 sc__law_cell.nd (b_Add (b_Mult q_int (v 1)) q_int))
    (qs_cons (qs_if (t_NotEq (room64 hr) (v 0) (q_lst qa_nil)) (qs_cons (sset 2 sc__law_cell.nd (b_Add (b_Add (v 2) (b_Mult (ix (v 0) (b_Mod (v 1) (f_len rfl T.z_len (qa_cons (v 0) qa_nil)))) q_int)) (b_Mult q_int (v 1))))
    (qs_one (sset 2 sc__law_cell.nd (b_Add (v 2) (b_Mult (b_FloorDiv (v 1) (f_len rfl T.z_len (qa_cons (v 0) qa_nil))) q_int))))) qs_nil)
    (qs_cons (sset 3 sc__law_cell.nd (b_Mod (v 2) q_int))
    (qs_cons (sset 3 sc__law_cell.nd (b_Mod (b_Mult (v 3) (v 3)) q_int))
    (qs_one (qs_ret (b_Mod (b_Add (b_Add (b_Mult (v 3) (v 3)) (b_Mult q_int (v 3))) (v 1)) q_int)))))))
theorem ok__law_word (T : Txt w K γ mg)  (F : TopFn K mg "_law_word" s__law_word) : Def P w K mg base 1 "_law_word" ["_law_cell_here"] (spF K γ 1 f__law_word) := by
  refine F.qdef (k := 0) sc__law_word rfl rfl (fun _ _ _ _ _ _ us hl => match us, hl with | [_], _ => rfl) (bd := b__law_word) fun f cdv A outer s H E hr => ?_
  unfold b__law_word
  exact (qs_one (qs_ret (ix (q_lst (qa_cons (b_Mod (v 0) q_int) (qa_cons q_int (qa_cons q_int qa_nil)))) (b_FloorDiv (b_Mod (b_FloorDiv (v 0) q_int) q_int) q_int))))
theorem ok__law_words (T : Txt w K γ mg) (D__law_word : Def P w K mg base 1 "_law_word" ["_law_cell_here"] (spF K γ 1 f__law_word)) (D__law_cell : Def P w K mg base 1 "_law_cell" ["_law_script", "_law_k"] (spF K γ 2 f__law_cell)) (F : TopFn K mg "_law_words" s__law_words) : Def P w K mg base 2 "_law_words" ["_law_script", "_law_k", "_law_many"] (spF K γ 3 f__law_words) := by
  refine F.qdef (k := 1) sc__law_words rfl rfl (fun _ _ _ _ _ _ us hl => match us, hl with | [_, _, _], _ => rfl) (bd := b__law_words) fun f cdv A outer s H E hr => ?_
  unfold b__law_words
  exact (qs_one (qs_ret (q_comp (cs := ["_law_script", "_law_k"]) (ts := ["_law_j"]) (js := [0, 1]) (cap_mk _ rfl rfl rfl rfl (by decide +kernel) (by decide +kernel) rfl) rfl rfl (qi_range1 rfl T.z_range (v 2)) (fun _ _ _ => (gn 0 (show List.Nodup (["_law_j", "_law_script", "_law_k"] : List Str) by decide +kernel))) (fun _ _ _ => qts_nil) (fun _ _ _ => (q_call D__law_word (hr.mono (by decide)) (by rfl) (qa_cons (q_call D__law_cell (hr.mono (by decide)) (by rfl) (qa_cons (v 1) (qa_cons (b_Add (v 2) (v 0)) qa_nil))) qa_nil))))))
theorem ok_Slow_init (T : Txt w K γ mg)  (F : MethB K (γ "Slow") "__init__" "Slow.__init__" s_Slow_init ["self", "words"]) : MDef P w K mg base 1 (γ "Slow") "__init__" ["self", "words"] (spF K γ 2 f_Slow_init) := by
  refine F.qdef (k := 0) sc_Slow_init rfl rfl (bd := b_Slow_init) fun f cdv A outer s H E hr => ?_
  unfold b_Slow_init
  exact (qs_cons (qs_fld T.fld_cells (v 0) (f_list rfl T.z_list (qa_cons (v 1) qa_nil)))
    (qs_cons (qs_fld T.fld_lines_told (v 0) q_int)
    (qs_one (qs_fld T.fld_lines_put (v 0) q_int))))
theorem ok_is_number (T : Txt w K γ mg)  (F : TopFn K mg "is_number" s_is_number) : Def P w K mg base 1 "is_number" ["thing"] (spF K γ 1 f_is_number) := by
  refine F.qdef (k := 0) sc_is_number rfl rfl (fun _ _ _ _ _ _ us hl => match us, hl with | [_], _ => rfl) (bd := b_is_number) fun f cdv A outer s H E hr => ?_
  unfold b_is_number
  exact (qs_one (qs_ret (q_and (f_isi T.isi rfl T.z_isinstance (qa_cons (v 0) (qa_cons (q_ty rfl T.z_int PyProof.Rows.boot_int) qa_nil))) (q_one (q_not (f_isi T.isi rfl T.z_isinstance (qa_cons (v 0) (qa_cons (q_ty rfl T.z_bool PyProof.Rows.boot_bool) qa_nil))))))))
theorem ok_Near_init (T : Txt w K γ mg) (D_is_number : Def P w K mg base 1 "is_number" ["thing"] (spF K γ 1 f_is_number)) (F : MethB K (γ "Near") "__init__" "Near.__init__" s_Near_init ["self", "slow", "sets"]) : MDef P w K mg base 2 (γ "Near") "__init__" ["self", "slow", "sets"] (spF K γ 3 f_Near_init) := by
  refine F.qdef (k := 1) sc_Near_init rfl rfl (bd := b_Near_init) fun f cdv A outer s H E hr => ?_
  unfold b_Near_init
  exact (qs_cons (qs_if (qt_w (qw_or (qt_not (qt_e (q_call D_is_number (hr.mono (by decide)) (by rfl) (qa_cons (v 2) qa_nil)))) (qw_or1 (t_NotIn (v 2) (q_tup (qa_cons q_int (qa_cons q_int (qa_cons q_int qa_nil)))))))) (qs_one qs_never) qs_nil)
    (qs_cons (qs_fld T.fld_slow (v 0) (v 1))
    (qs_cons (qs_fld T.fld_sets (v 0) (v 2))
    (qs_one (qs_fld T.fld_rooms (v 0) (q_comp (cs := []) (ts := ["number"]) (js := []) (cap_mk _ rfl rfl rfl rfl (by decide +kernel) (by decide +kernel) rfl) rfl rfl (qi_range1 rfl T.z_range (v 2)) (fun _ _ _ => (gn 0 (show List.Nodup (["number"] : List Str) by decide +kernel))) (fun _ _ _ => qts_nil) (fun _ _ _ => (q_lst qa_nil))))))))
theorem ok_N_Near_init (T : Txt w K γ mg) (D_is_number : Def P w K mg base 1 "is_number" ["thing"] (spF K γ 1 f_is_number)) (F : MethD K (γ "Near") "__init__" "Near.__init__" s_Near_init ["self", "slow", "sets"] [.int 2]) : NDef P w K mg base 2 (γ "Near") "__init__" ["self", "slow", "sets"] [.int 2] (spF K γ 3 f_Near_init) := by
  refine F.qdef (k := 1) sc_Near_init rfl rfl (bd := b_Near_init) fun f cdv A outer s H E hr => ?_
  unfold b_Near_init
  exact (qs_cons (qs_if (qt_w (qw_or (qt_not (qt_e (q_call D_is_number (hr.mono (by decide)) (by rfl) (qa_cons (v 2) qa_nil)))) (qw_or1 (t_NotIn (v 2) (q_tup (qa_cons q_int (qa_cons q_int (qa_cons q_int qa_nil)))))))) (qs_one qs_never) qs_nil)
    (qs_cons (qs_fld T.fld_slow (v 0) (v 1))
    (qs_cons (qs_fld T.fld_sets (v 0) (v 2))
    (qs_one (qs_fld T.fld_rooms (v 0) (q_comp (cs := []) (ts := ["number"]) (js := []) (cap_mk _ rfl rfl rfl rfl (by decide +kernel) (by decide +kernel) rfl) rfl rfl (qi_range1 rfl T.z_range (v 2)) (fun _ _ _ => (gn 0 (show List.Nodup (["number"] : List Str) by decide +kernel))) (fun _ _ _ => qts_nil) (fun _ _ _ => (q_lst qa_nil))))))))
theorem ok__law_whole (T : Txt w K γ mg)  (F : TopFn K mg "_law_whole" s__law_whole) : Def P w K mg base 1 "_law_whole" ["_law_found", "_law_due"] (spF K γ 2 f__law_whole) := by
  refine F.qdef (k := 0) sc__law_whole rfl rfl (fun _ _ _ _ _ _ us hl => match us, hl with | [_, _], _ => rfl) (bd := b__law_whole) fun f cdv A outer s H E hr => ?_
  unfold b__law_whole
  exact (qs_one (qs_ret (q_and (f_isi T.isi rfl T.z_isinstance (qa_cons (v 0) (qa_cons (q_ty rfl T.z_int PyProof.Rows.boot_int) qa_nil))) (q_and (q_not (f_isi T.isi rfl T.z_isinstance (qa_cons (v 0) (qa_cons (q_ty rfl T.z_bool PyProof.Rows.boot_bool) qa_nil)))) (q_one (c_Eq (room64 hr) (v 0) (v 1)))))))
theorem ok_Slow_writes (T : Txt w K γ mg)  (F : MethB K (γ "Slow") "writes" "Slow.writes" s_Slow_writes ["self"]) : MDef P w K mg base 1 (γ "Slow") "writes" ["self"] (spF K γ 1 f_Slow_writes) := by
  refine F.qdef (k := 0) sc_Slow_writes rfl rfl (bd := b_Slow_writes) fun f cdv A outer s H E hr => ?_
  unfold b_Slow_writes
  exact (qs_one (qs_ret (q_fld T.fld_lines_put (v 0))))
theorem ok_Slow_reads (T : Txt w K γ mg)  (F : MethB K (γ "Slow") "reads" "Slow.reads" s_Slow_reads ["self"]) : MDef P w K mg base 1 (γ "Slow") "reads" ["self"] (spF K γ 1 f_Slow_reads) := by
  refine F.qdef (k := 0) sc_Slow_reads rfl rfl (bd := b_Slow_reads) fun f cdv A outer s H E hr => ?_
  unfold b_Slow_reads
  exact (qs_one (qs_ret (q_fld T.fld_lines_told (v 0))))
theorem ok__law_alike__r0 (T : Txt w K γ mg)  (F : TopFn K mg "_law_alike" s__law_alike__r0) : Def P w K mg base 1 "_law_alike" ["_law_found", "_law_due"] (spF K γ 2 f__law_alike__r0) := by
  refine F.qdef (k := 0) sc__law_alike__r0 rfl rfl (fun _ _ _ _ _ _ us hl => match us, hl with | [_, _], _ => rfl) (bd := b__law_alike__r0) fun f cdv A outer s H E hr => ?_
  unfold b__law_alike__r0
  exact (qs_cons (qs_if (qt_e (f_isi T.isi rfl T.z_isinstance (qa_cons (v 1) (qa_cons (q_ty rfl T.z_tuple PyProof.Rows.boot_tuple) qa_nil)))) (qs_cons (qs_if (qt_w (qw_or (qt_not (qt_e (f_isi T.isi rfl T.z_isinstance (qa_cons (v 0) (qa_cons (q_ty rfl T.z_tuple PyProof.Rows.boot_tuple) qa_nil))))) (qw_or1 (t_NotEq (room64 hr) (f_len rfl T.z_len (qa_cons (v 0) qa_nil)) (f_len rfl T.z_len (qa_cons (v 1) qa_nil)))))) (qs_one (qs_ret q_bl)) qs_nil)
    (qs_one qs_never)) qs_nil)
    (qs_one (qs_ret (q_and (c_Eq (room64 hr) (f_isi T.isi rfl T.z_isinstance (qa_cons (v 0) (qa_cons (q_ty rfl T.z_bool PyProof.Rows.boot_bool) qa_nil))) (f_isi T.isi rfl T.z_isinstance (qa_cons (v 1) (qa_cons (q_ty rfl T.z_bool PyProof.Rows.boot_bool) qa_nil)))) (q_and (f_isi T.isi rfl T.z_isinstance (qa_cons (v 0) (qa_cons (q_ty rfl T.z_int PyProof.Rows.boot_int) qa_nil))) (q_one (c_Eq (room64 hr) (v 0) (v 1))))))))
theorem ok__law_alike__r1 (T : Txt w K γ mg) (D__law_alike__r0 : Def P w K mg base 1 "_law_alike" ["_law_found", "_law_due"] (spF K γ 2 f__law_alike__r0)) (F : TopFn K mg "_law_alike" s__law_alike__r1) : Def P w K mg base 2 "_law_alike" ["_law_found", "_law_due"] (spF K γ 2 f__law_alike__r1) := by
  refine F.qdef (k := 1) sc__law_alike__r1 rfl rfl (fun _ _ _ _ _ _ us hl => match us, hl with | [_, _], _ => rfl) (bd := b__law_alike__r1) fun f cdv A outer s H E hr => ?_
  unfold b__law_alike__r1
  exact (qs_cons (qs_if (qt_e (f_isi T.isi rfl T.z_isinstance (qa_cons (v 1) (qa_cons (q_ty rfl T.z_tuple PyProof.Rows.boot_tuple) qa_nil)))) (qs_cons (qs_if (qt_w (qw_or (qt_not (qt_e (f_isi T.isi rfl T.z_isinstance (qa_cons (v 0) (qa_cons (q_ty rfl T.z_tuple PyProof.Rows.boot_tuple) qa_nil))))) (qw_or1 (t_NotEq (room64 hr) (f_len rfl T.z_len (qa_cons (v 0) qa_nil)) (f_len rfl T.z_len (qa_cons (v 1) qa_nil)))))) (qs_one (qs_ret q_bl)) qs_nil)
    (qs_one (qs_ret (f_all rfl rfl T.z_all (qa_cons (q_comp (cs := ["_law_found", "_law_due"]) (ts := ["_law_k"]) (js := [0, 1]) (cap_mk _ rfl rfl rfl rfl (by decide +kernel) (by decide +kernel) rfl) rfl rfl (qi_range1 rfl T.z_range (f_len rfl T.z_len (qa_cons (v 1) qa_nil))) (fun _ _ _ => (gn 0 (show List.Nodup (["_law_k", "_law_found", "_law_due"] : List Str) by decide +kernel))) (fun _ _ _ => qts_nil) (fun _ _ _ => (q_call D__law_alike__r0 (hr.mono (by decide)) (by rfl) (qa_cons (ix (v 1) (v 0)) (qa_cons (ix (v 2) (v 0)) qa_nil))))) qa_nil))))) qs_nil)
    (qs_one (qs_ret (q_and (c_Eq (room64 hr) (f_isi T.isi rfl T.z_isinstance (qa_cons (v 0) (qa_cons (q_ty rfl T.z_bool PyProof.Rows.boot_bool) qa_nil))) (f_isi T.isi rfl T.z_isinstance (qa_cons (v 1) (qa_cons (q_ty rfl T.z_bool PyProof.Rows.boot_bool) qa_nil)))) (q_and (f_isi T.isi rfl T.z_isinstance (qa_cons (v 0) (qa_cons (q_ty rfl T.z_int PyProof.Rows.boot_int) qa_nil))) (q_one (c_Eq (room64 hr) (v 0) (v 1))))))))
theorem ok__law_alike__r2 (T : Txt w K γ mg) (D__law_alike__r1 : Def P w K mg base 2 "_law_alike" ["_law_found", "_law_due"] (spF K γ 2 f__law_alike__r1)) (F : TopFn K mg "_law_alike" s__law_alike__r2) : Def P w K mg base 3 "_law_alike" ["_law_found", "_law_due"] (spF K γ 2 f__law_alike__r2) := by
  refine F.qdef (k := 2) sc__law_alike__r2 rfl rfl (fun _ _ _ _ _ _ us hl => match us, hl with | [_, _], _ => rfl) (bd := b__law_alike__r2) fun f cdv A outer s H E hr => ?_
  unfold b__law_alike__r2
  exact (qs_cons (qs_if (qt_e (f_isi T.isi rfl T.z_isinstance (qa_cons (v 1) (qa_cons (q_ty rfl T.z_tuple PyProof.Rows.boot_tuple) qa_nil)))) (qs_cons (qs_if (qt_w (qw_or (qt_not (qt_e (f_isi T.isi rfl T.z_isinstance (qa_cons (v 0) (qa_cons (q_ty rfl T.z_tuple PyProof.Rows.boot_tuple) qa_nil))))) (qw_or1 (t_NotEq (room64 hr) (f_len rfl T.z_len (qa_cons (v 0) qa_nil)) (f_len rfl T.z_len (qa_cons (v 1) qa_nil)))))) (qs_one (qs_ret q_bl)) qs_nil)
    (qs_one (qs_ret (f_all rfl rfl T.z_all (qa_cons (q_comp (cs := ["_law_found", "_law_due"]) (ts := ["_law_k"]) (js := [0, 1]) (cap_mk _ rfl rfl rfl rfl (by decide +kernel) (by decide +kernel) rfl) rfl rfl (qi_range1 rfl T.z_range (f_len rfl T.z_len (qa_cons (v 1) qa_nil))) (fun _ _ _ => (gn 0 (show List.Nodup (["_law_k", "_law_found", "_law_due"] : List Str) by decide +kernel))) (fun _ _ _ => qts_nil) (fun _ _ _ => (q_call D__law_alike__r1 (hr.mono (by decide)) (by rfl) (qa_cons (ix (v 1) (v 0)) (qa_cons (ix (v 2) (v 0)) qa_nil))))) qa_nil))))) qs_nil)
    (qs_one (qs_ret (q_and (c_Eq (room64 hr) (f_isi T.isi rfl T.z_isinstance (qa_cons (v 0) (qa_cons (q_ty rfl T.z_bool PyProof.Rows.boot_bool) qa_nil))) (f_isi T.isi rfl T.z_isinstance (qa_cons (v 1) (qa_cons (q_ty rfl T.z_bool PyProof.Rows.boot_bool) qa_nil)))) (q_and (f_isi T.isi rfl T.z_isinstance (qa_cons (v 0) (qa_cons (q_ty rfl T.z_int PyProof.Rows.boot_int) qa_nil))) (q_one (c_Eq (room64 hr) (v 0) (v 1))))))))
theorem ok__law_alike__r3 (T : Txt w K γ mg) (D__law_alike__r2 : Def P w K mg base 3 "_law_alike" ["_law_found", "_law_due"] (spF K γ 2 f__law_alike__r2)) (F : TopFn K mg "_law_alike" s__law_alike__r3) : Def P w K mg base 4 "_law_alike" ["_law_found", "_law_due"] (spF K γ 2 f__law_alike__r3) := by
  refine F.qdef (k := 3) sc__law_alike__r3 rfl rfl (fun _ _ _ _ _ _ us hl => match us, hl with | [_, _], _ => rfl) (bd := b__law_alike__r3) fun f cdv A outer s H E hr => ?_
  unfold b__law_alike__r3
  exact (qs_cons (qs_if (qt_e (f_isi T.isi rfl T.z_isinstance (qa_cons (v 1) (qa_cons (q_ty rfl T.z_tuple PyProof.Rows.boot_tuple) qa_nil)))) (qs_cons (qs_if (qt_w (qw_or (qt_not (qt_e (f_isi T.isi rfl T.z_isinstance (qa_cons (v 0) (qa_cons (q_ty rfl T.z_tuple PyProof.Rows.boot_tuple) qa_nil))))) (qw_or1 (t_NotEq (room64 hr) (f_len rfl T.z_len (qa_cons (v 0) qa_nil)) (f_len rfl T.z_len (qa_cons (v 1) qa_nil)))))) (qs_one (qs_ret q_bl)) qs_nil)
    (qs_one (qs_ret (f_all rfl rfl T.z_all (qa_cons (q_comp (cs := ["_law_found", "_law_due"]) (ts := ["_law_k"]) (js := [0, 1]) (cap_mk _ rfl rfl rfl rfl (by decide +kernel) (by decide +kernel) rfl) rfl rfl (qi_range1 rfl T.z_range (f_len rfl T.z_len (qa_cons (v 1) qa_nil))) (fun _ _ _ => (gn 0 (show List.Nodup (["_law_k", "_law_found", "_law_due"] : List Str) by decide +kernel))) (fun _ _ _ => qts_nil) (fun _ _ _ => (q_call D__law_alike__r2 (hr.mono (by decide)) (by rfl) (qa_cons (ix (v 1) (v 0)) (qa_cons (ix (v 2) (v 0)) qa_nil))))) qa_nil))))) qs_nil)
    (qs_one (qs_ret (q_and (c_Eq (room64 hr) (f_isi T.isi rfl T.z_isinstance (qa_cons (v 0) (qa_cons (q_ty rfl T.z_bool PyProof.Rows.boot_bool) qa_nil))) (f_isi T.isi rfl T.z_isinstance (qa_cons (v 1) (qa_cons (q_ty rfl T.z_bool PyProof.Rows.boot_bool) qa_nil)))) (q_and (f_isi T.isi rfl T.z_isinstance (qa_cons (v 0) (qa_cons (q_ty rfl T.z_int PyProof.Rows.boot_int) qa_nil))) (q_one (c_Eq (room64 hr) (v 0) (v 1))))))))
theorem ok__law_alike (T : Txt w K γ mg) (D__law_alike__r3 : Def P w K mg base 4 "_law_alike" ["_law_found", "_law_due"] (spF K γ 2 f__law_alike__r3)) (F : TopFn K mg "_law_alike" s__law_alike) : Def P w K mg base 5 "_law_alike" ["_law_found", "_law_due"] (spF K γ 2 f__law_alike) := by
  refine F.qdef (k := 4) sc__law_alike rfl rfl (fun _ _ _ _ _ _ us hl => match us, hl with | [_, _], _ => rfl) (bd := b__law_alike) fun f cdv A outer s H E hr => ?_
  unfold b__law_alike
  exact (qs_cons (qs_if (qt_e (f_isi T.isi rfl T.z_isinstance (qa_cons (v 1) (qa_cons (q_ty rfl T.z_tuple PyProof.Rows.boot_tuple) qa_nil)))) (qs_cons (qs_if (qt_w (qw_or (qt_not (qt_e (f_isi T.isi rfl T.z_isinstance (qa_cons (v 0) (qa_cons (q_ty rfl T.z_tuple PyProof.Rows.boot_tuple) qa_nil))))) (qw_or1 (t_NotEq (room64 hr) (f_len rfl T.z_len (qa_cons (v 0) qa_nil)) (f_len rfl T.z_len (qa_cons (v 1) qa_nil)))))) (qs_one (qs_ret q_bl)) qs_nil)
    (qs_one (qs_ret (f_all rfl rfl T.z_all (qa_cons (q_comp (cs := ["_law_found", "_law_due"]) (ts := ["_law_k"]) (js := [0, 1]) (cap_mk _ rfl rfl rfl rfl (by decide +kernel) (by decide +kernel) rfl) rfl rfl (qi_range1 rfl T.z_range (f_len rfl T.z_len (qa_cons (v 1) qa_nil))) (fun _ _ _ => (gn 0 (show List.Nodup (["_law_k", "_law_found", "_law_due"] : List Str) by decide +kernel))) (fun _ _ _ => qts_nil) (fun _ _ _ => (q_call D__law_alike__r3 (hr.mono (by decide)) (by rfl) (qa_cons (ix (v 1) (v 0)) (qa_cons (ix (v 2) (v 0)) qa_nil))))) qa_nil))))) qs_nil)
    (qs_one (qs_ret (q_and (c_Eq (room64 hr) (f_isi T.isi rfl T.z_isinstance (qa_cons (v 0) (qa_cons (q_ty rfl T.z_bool PyProof.Rows.boot_bool) qa_nil))) (f_isi T.isi rfl T.z_isinstance (qa_cons (v 1) (qa_cons (q_ty rfl T.z_bool PyProof.Rows.boot_bool) qa_nil)))) (q_and (f_isi T.isi rfl T.z_isinstance (qa_cons (v 0) (qa_cons (q_ty rfl T.z_int PyProof.Rows.boot_int) qa_nil))) (q_one (c_Eq (room64 hr) (v 0) (v 1))))))))
theorem ok_Line_told (T : Txt w K γ mg)  (F : MethB K (γ "Line") "told" "Line.told" s_Line_told ["self"]) : MDef P w K mg base 1 (γ "Line") "told" ["self"] (spF K γ 1 f_Line_told) := by
  refine F.qdef (k := 0) sc_Line_told rfl rfl (bd := b_Line_told) fun f cdv A outer s H E hr => ?_
  unfold b_Line_told
  exact (qs_one (qs_ret (q_tup (qa_cons (q_fld T.fld_number (v 0)) (qa_cons (f_tuple rfl T.z_tuple (qa_cons (q_fld T.fld_words (v 0)) qa_nil)) (qa_cons (q_fld T.fld_changed (v 0)) qa_nil))))))
theorem ok_lines_told (T : Txt w K γ mg) (D_Line_told : MDef P w K mg base 1 (γ "Line") "told" ["self"] (spF K γ 1 f_Line_told)) (F : TopFn K mg "lines_told" s_lines_told) : Def P w K mg base 2 "lines_told" ["room"] (spF K γ 1 f_lines_told) := by
  refine F.qdef (k := 1) sc_lines_told rfl rfl (fun _ _ _ _ _ _ us hl => match us, hl with | [_], _ => rfl) (bd := b_lines_told) fun f cdv A outer s H E hr => ?_
  unfold b_lines_told
  exact (qs_one (qs_ret (f_tuple rfl T.z_tuple (qa_cons (q_comp (cs := []) (ts := ["line"]) (js := []) (cap_mk _ rfl rfl rfl rfl (by decide +kernel) (by decide +kernel) rfl) rfl rfl (qi_seq (v 0)) (fun _ _ _ => (gn 0 (show List.Nodup (["line"] : List Str) by decide +kernel))) (fun _ _ _ => qts_nil) (fun _ _ _ => (q_meth0 (MtOk.cons T.cls_Line D_Line_told (hr.mono (by decide)) MtOk.nil) (v 0)))) qa_nil))))
theorem ok_Near_held (T : Txt w K γ mg) (D_lines_told : Def P w K mg base 2 "lines_told" ["room"] (spF K γ 1 f_lines_told)) (F : MethB K (γ "Near") "held" "Near.held" s_Near_held ["self"]) : MDef P w K mg base 3 (γ "Near") "held" ["self"] (spF K γ 1 f_Near_held) := by
  refine F.qdef (k := 2) sc_Near_held rfl rfl (bd := b_Near_held) fun f cdv A outer s H E hr => ?_
  unfold b_Near_held
  exact (qs_one (qs_ret (f_tuple rfl T.z_tuple (qa_cons (q_comp (cs := []) (ts := ["room"]) (js := []) (cap_mk _ rfl rfl rfl rfl (by decide +kernel) (by decide +kernel) rfl) rfl rfl (qi_seq (q_fld T.fld_rooms (v 0))) (fun _ _ _ => (gn 0 (show List.Nodup (["room"] : List Str) by decide +kernel))) (fun _ _ _ => qts_nil) (fun _ _ _ => (q_call D_lines_told (hr.mono (by decide)) (by rfl) (qa_cons (v 0) qa_nil)))) qa_nil))))
theorem ok__law_held (T : Txt w K γ mg)  (F : TopFn K mg "_law_held" s__law_held) : Def P w K mg base 1 "_law_held" ["_law_rooms", "_law_words_here"] (spF K γ 2 f__law_held) := by
  refine F.qdef (k := 0) sc__law_held rfl rfl (fun _ _ _ _ _ _ us hl => match us, hl with | [_, _], _ => rfl) (bd := b__law_held) fun f cdv A outer s H E hr => ?_
  unfold b__law_held
  exact (qs_one (qs_ret (f_tuple rfl T.z_tuple (qa_cons (q_comp (cs := ["_law_words_here"]) (ts := ["_law_room"]) (js := [1]) (cap_mk _ rfl rfl rfl rfl (by decide +kernel) (by decide +kernel) rfl) rfl rfl (qi_seq (v 0)) (fun _ _ _ => (gn 0 (show List.Nodup (["_law_room", "_law_words_here"] : List Str) by decide +kernel))) (fun _ _ _ => qts_nil) (fun _ _ _ => (f_tuple rfl T.z_tuple (qa_cons (q_comp (cs := ["_law_words_here"]) (ts := ["_law_row"]) (js := [1]) (cap_mk _ rfl rfl rfl rfl (by decide +kernel) (by decide +kernel) rfl) rfl rfl (qi_seq (v 0)) (fun _ _ _ => (gn 0 (show List.Nodup (["_law_row", "_law_words_here"] : List Str) by decide +kernel))) (fun _ _ _ => qts_nil) (fun _ _ _ => (q_tup (qa_cons (ix (v 0) q_int) (qa_cons (f_tuple rfl T.z_tuple (qa_cons (q_sl (v 1) (qo_some (b_Mult q_int (ix (v 0) q_int))) (qo_some (b_Add (b_Mult q_int (ix (v 0) q_int)) q_int))) qa_nil)) (qa_cons (ix (v 0) q_int) qa_nil)))))) qa_nil)))) qa_nil))))
theorem ok__law_stands (T : Txt w K γ mg) (D__law_whole : Def P w K mg base 1 "_law_whole" ["_law_found", "_law_due"] (spF K γ 2 f__law_whole)) (D_Slow_writes : MDef P w K mg base 1 (γ "Slow") "writes" ["self"] (spF K γ 1 f_Slow_writes)) (D_Slow_reads : MDef P w K mg base 1 (γ "Slow") "reads" ["self"] (spF K γ 1 f_Slow_reads)) (D__law_alike : Def P w K mg base 5 "_law_alike" ["_law_found", "_law_due"] (spF K γ 2 f__law_alike)) (D_Near_held : MDef P w K mg base 3 (γ "Near") "held" ["self"] (spF K γ 1 f_Near_held)) (D__law_held : Def P w K mg base 1 "_law_held" ["_law_rooms", "_law_words_here"] (spF K γ 2 f__law_held)) (F : TopFn K mg "_law_stands" s__law_stands) : Def P w K mg base 6 "_law_stands" ["_law_near", "_law_slow", "_law_state", "_law_words_here"] (spF K γ 4 f__law_stands) := by
  refine F.qdef (k := 5) sc__law_stands rfl rfl (fun _ _ _ _ _ _ us hl => match us, hl with | [_, _, _, _], _ => rfl) (bd := b__law_stands) fun f cdv A outer s H E hr => ?_
  unfold b__law_stands
  exact (qs_cons (qs_if (qt_w (qw_or (qt_not (qt_e (q_call D__law_whole (hr.mono (by decide)) (by rfl) (qa_cons (q_meth0 (MtOk.cons T.cls_Slow D_Slow_reads (hr.mono (by decide)) MtOk.nil) (v 1)) (qa_cons (ix (v 2) q_int) qa_nil))))) (qw_or1 (qt_not (qt_e (q_call D__law_whole (hr.mono (by decide)) (by rfl) (qa_cons (q_meth0 (MtOk.cons T.cls_Slow D_Slow_writes (hr.mono (by decide)) MtOk.nil) (v 1)) (qa_cons (ix (v 2) q_int) qa_nil)))))))) (qs_one (qs_ret q_bl)) qs_nil)
    (qs_one (qs_ret (q_call D__law_alike (hr.mono (by decide)) (by rfl) (qa_cons (q_meth0 (MtOk.cons T.cls_Near D_Near_held (hr.mono (by decide)) MtOk.nil) (v 0)) (qa_cons (q_call D__law_held (hr.mono (by decide)) (by rfl) (qa_cons (ix (v 2) q_int) (qa_cons (v 3) qa_nil))) qa_nil))))))
theorem ok__law_address (T : Txt w K γ mg) (D__law_cell : Def P w K mg base 1 "_law_cell" ["_law_script", "_law_k"] (spF K γ 2 f__law_cell)) (F : TopFn K mg "_law_address" s__law_address) : Def P w K mg base 2 "_law_address" ["_law_script", "_law_k", "_law_many"] (spF K γ 3 f__law_address) := by
  refine F.qdef (k := 1) sc__law_address rfl rfl (fun _ _ _ _ _ _ us hl => match us, hl with | [_, _, _], _ => rfl) (bd := b__law_address) fun f cdv A outer s H E hr => ?_
  unfold b__law_address
  exact (qs_cons (sset 3 sc__law_address.nd (q_call D__law_cell (hr.mono (by decide)) (by rfl) (qa_cons (v 0) (qa_cons (v 1) qa_nil))))
    (qs_cons (sset 4 sc__law_address.nd (b_Mod (q_call D__law_cell (hr.mono (by decide)) (by rfl) (qa_cons (v 0) (qa_cons (b_Add q_int (b_Mod (b_FloorDiv (v 3) q_int) q_int)) qa_nil))) (v 2)))
    (qs_cons (sset 5 sc__law_address.nd (ix (q_lst (qa_cons q_int (qa_cons q_int (qa_cons q_int (qa_cons q_int (qa_cons q_int qa_nil)))))) (b_Mod (q_call D__law_cell (hr.mono (by decide)) (by rfl) (qa_cons (v 0) (qa_cons q_int qa_nil))) q_int)))
    (qs_cons (sset 6 sc__law_address.nd (b_Mod (b_Add (q_call D__law_cell (hr.mono (by decide)) (by rfl) (qa_cons (v 0) (qa_cons q_int qa_nil))) (b_Mult (v 5) (b_Mod (b_FloorDiv (v 3) q_int) q_int))) (v 2)))
    (qs_one (qs_ret (ix (q_lst (qa_cons (v 4) (qa_cons (v 4) (qa_cons (v 6) (qa_cons (v 6) (qa_cons (v 6) (qa_cons (b_Mod (b_FloorDiv (v 3) q_int) (v 2)) qa_nil))))))) (b_Mod (v 3) q_int))))))))
theorem ok__law_deed_by (T : Txt w K γ mg) (D__law_cell : Def P w K mg base 1 "_law_cell" ["_law_script", "_law_k"] (spF K γ 2 f__law_cell)) (D__law_address : Def P w K mg base 2 "_law_address" ["_law_script", "_law_k", "_law_many"] (spF K γ 3 f__law_address)) (F : TopFn K mg "_law_deed_by" s__law_deed_by) : Def P w K mg base 3 "_law_deed_by" ["_law_script", "_law_k", "_law_many"] (spF K γ 3 f__law_deed_by) := by
  refine F.qdef (k := 2) sc__law_deed_by rfl rfl (fun _ _ _ _ _ _ us hl => match us, hl with | [_, _, _], _ => rfl) (bd := b__law_deed_by) fun f cdv A outer s H E hr => ?_
  unfold b__law_deed_by
  refine qs_cons (sset 3 sc__law_deed_by.nd (q_call D__law_cell (hr.mono (by decide)) (by rfl) (qa_cons (v 0) (qa_cons (b_Add q_int (v 1)) qa_nil)))) ?_
  refine qs_cons (sset 4 sc__law_deed_by.nd (ix (q_lst (qa_cons (b_Mod (b_FloorDiv (v 3) q_int) q_int) (qa_cons (b_Mod (b_FloorDiv (v 3) q_int) q_int) qa_nil))) (b_Mod (b_FloorDiv (v 3) q_int) q_int))) ?_
  refine qs_cons ?_ ?_
  · refine sset 5 sc__law_deed_by.nd ?_
    refine q_lst ?_; (repeat (refine qa_cons ?_ ?_ ?_; rotate_left 2; exact star_const _ _ _ _ _; (first | exact q_str | exact q_int | exact q_non | exact q_bl))); exact qa_nil
  exact (qs_one (qs_ret (q_tup (qa_cons (ix (v 5) (b_Mod (v 3) q_int)) (qa_cons (q_call D__law_address (hr.mono (by decide)) (by rfl) (qa_cons (v 0) (qa_cons (b_Add q_int (v 1)) (qa_cons (v 2) qa_nil)))) (qa_cons (v 4) qa_nil))))))
theorem ok_is_within (T : Txt w K γ mg) (D_is_number : Def P w K mg base 1 "is_number" ["thing"] (spF K γ 1 f_is_number)) (F : TopFn K mg "is_within" s_is_within) : Def P w K mg base 2 "is_within" ["thing", "low", "high"] (spF K γ 3 f_is_within) := by
  refine F.qdef (k := 1) sc_is_within rfl rfl (fun _ _ _ _ _ _ us hl => match us, hl with | [_, _, _], _ => rfl) (bd := b_is_within) fun f cdv A outer s H E hr => ?_
  unfold b_is_within
  exact (qs_one (qs_ret (q_and (q_call D_is_number (hr.mono (by decide)) (by rfl) (qa_cons (v 0) qa_nil)) (q_one (c_LtE_LtE (v 1) (v 0) (v 2))))))
theorem ok_Slow_size (T : Txt w K γ mg)  (F : MethB K (γ "Slow") "size" "Slow.size" s_Slow_size ["self"]) : MDef P w K mg base 1 (γ "Slow") "size" ["self"] (spF K γ 1 f_Slow_size) := by
  refine F.qdef (k := 0) sc_Slow_size rfl rfl (bd := b_Slow_size) fun f cdv A outer s H E hr => ?_
  unfold b_Slow_size
  exact (qs_one (qs_ret (f_len rfl T.z_len (qa_cons (q_fld T.fld_cells (v 0)) qa_nil))))
theorem ok_Near_refuse_no_place (T : Txt w K γ mg) (D_is_within : Def P w K mg base 2 "is_within" ["thing", "low", "high"] (spF K γ 3 f_is_within)) (D_Slow_size : MDef P w K mg base 1 (γ "Slow") "size" ["self"] (spF K γ 1 f_Slow_size)) (F : MethB K (γ "Near") "refuse_no_place" "Near.refuse_no_place" s_Near_refuse_no_place ["self", "address"]) : MDef P w K mg base 3 (γ "Near") "refuse_no_place" ["self", "address"] (spF K γ 2 f_Near_refuse_no_place) := by
  refine F.qdef (k := 2) sc_Near_refuse_no_place rfl rfl (bd := b_Near_refuse_no_place) fun f cdv A outer s H E hr => ?_
  unfold b_Near_refuse_no_place
  exact (qs_one (qs_if (qt_not (qt_e (q_call D_is_within (hr.mono (by decide)) (by rfl) (qa_cons (v 1) (qa_cons q_int (qa_cons (b_Sub (q_meth0 (MtOk.cons T.cls_Slow D_Slow_size (hr.mono (by decide)) MtOk.nil) (q_fld T.fld_slow (v 0))) q_int) qa_nil)))))) (qs_one qs_never) qs_nil))
theorem ok_Near_room_of (T : Txt w K γ mg)  (F : MethB K (γ "Near") "room_of" "Near.room_of" s_Near_room_of ["self", "number"]) : MDef P w K mg base 1 (γ "Near") "room_of" ["self", "number"] (spF K γ 2 f_Near_room_of) := by
  refine F.qdef (k := 0) sc_Near_room_of rfl rfl (bd := b_Near_room_of) fun f cdv A outer s H E hr => ?_
  unfold b_Near_room_of
  exact (qs_one (qs_ret (ix (q_fld T.fld_rooms (v 0)) (b_Mod (v 1) (q_fld T.fld_sets (v 0))))))
theorem ok_Near_found (T : Txt w K γ mg) (D_Near_room_of : MDef P w K mg base 1 (γ "Near") "room_of" ["self", "number"] (spF K γ 2 f_Near_room_of)) (F : MethB K (γ "Near") "found" "Near.found" s_Near_found ["self", "number"]) : MDef P w K mg base 2 (γ "Near") "found" ["self", "number"] (spF K γ 2 f_Near_found) := by
  refine F.qdef (k := 1) sc_Near_found rfl rfl (bd := b_Near_found) fun f cdv A outer s H E hr => ?_
  unfold b_Near_found
  exact (qs_cons (qs_for PassesOwn.never rfl (qi_seq (q_meth (MtOk.cons T.cls_Near D_Near_room_of (hr.mono (by decide)) MtOk.nil) (v 0) (qa_cons (v 1) qa_nil))) (gn 2 sc_Near_found.nd) (qs_one (qs_if (t_Eq (room64 hr) (q_fld T.fld_number (v 2)) (v 1)) (qs_one (qs_ret (v 2))) qs_nil)))
    (qs_one (qs_ret q_non)))
theorem ok_Near_cost (T : Txt w K γ mg) (D_Near_refuse_no_place : MDef P w K mg base 3 (γ "Near") "refuse_no_place" ["self", "address"] (spF K γ 2 f_Near_refuse_no_place)) (D_Near_found : MDef P w K mg base 2 (γ "Near") "found" ["self", "number"] (spF K γ 2 f_Near_found)) (D_Near_room_of : MDef P w K mg base 1 (γ "Near") "room_of" ["self", "number"] (spF K γ 2 f_Near_room_of)) (F : MethB K (γ "Near") "cost" "Near.cost" s_Near_cost ["self", "address"]) : MDef P w K mg base 4 (γ "Near") "cost" ["self", "address"] (spF K γ 2 f_Near_cost) := by
  refine F.qdef (k := 3) sc_Near_cost rfl rfl (bd := b_Near_cost) fun f cdv A outer s H E hr => ?_
  unfold b_Near_cost
  exact (qs_cons (qs_expr (q_meth (MtOk.cons T.cls_Near D_Near_refuse_no_place (hr.mono (by decide)) MtOk.nil) (v 0) (qa_cons (v 1) qa_nil)))
    (qs_cons (sset 2 sc_Near_cost.nd (b_FloorDiv (v 1) q_int))
    (qs_cons (qs_if (t_IsNot (q_meth (MtOk.cons T.cls_Near D_Near_found (hr.mono (by decide)) MtOk.nil) (v 0) (qa_cons (v 2) qa_nil)) q_non) (qs_one (qs_ret q_int)) qs_nil)
    (qs_cons (sset 3 sc_Near_cost.nd (q_meth (MtOk.cons T.cls_Near D_Near_room_of (hr.mono (by decide)) MtOk.nil) (v 0) (qa_cons (v 2) qa_nil)))
    (qs_cons (qs_if (qt_w (qw_and (t_Eq (room64 hr) (f_len rfl T.z_len (qa_cons (v 3) qa_nil)) (q_gint (by rfl) T.c_ROOM.choose_spec.1 T.c_ROOM.choose_spec.2)) (qw_and1 (qt_e (q_fld T.fld_changed (ix (v 3) (u_neg q_int))))))) (qs_one (qs_ret q_int)) qs_nil)
    (qs_one (qs_ret q_int)))))))
theorem ok__law_cost (T : Txt w K γ mg)  (F : TopFn K mg "_law_cost" s__law_cost) : Def P w K mg base 1 "_law_cost" ["_law_state", "_law_number"] (spF K γ 2 f__law_cost) := by
  refine F.qdef (k := 0) sc__law_cost rfl rfl (fun _ _ _ _ _ _ us hl => match us, hl with | [_, _], _ => rfl) (bd := b__law_cost) fun f cdv A outer s H E hr => ?_
  unfold b__law_cost
  exact (qs_cons (sset 2 sc__law_cost.nd (ix (ix (v 0) q_int) (b_Mod (v 1) (f_len rfl T.z_len (qa_cons (ix (v 0) q_int) qa_nil)))))
    (qs_cons (qs_if (t_NotEq (room64 hr) (q_comp (cs := ["_law_number"]) (ts := ["_law_row"]) (js := [1]) (cap_mk _ rfl rfl rfl rfl (by decide +kernel) (by decide +kernel) rfl) rfl rfl (qi_seq (v 2)) (fun _ _ _ => (gn 0 (show List.Nodup (["_law_row", "_law_number"] : List Str) by decide +kernel))) (fun _ _ _ => (qts_one (t_Eq (room64 hr) (ix (v 0) q_int) (v 1)))) (fun _ _ _ => (v 0))) (q_lst qa_nil)) (qs_one (qs_ret q_int)) qs_nil)
    (qs_one (qs_ret (q_if (qt_w (qw_and (t_Eq (room64 hr) (f_len rfl T.z_len (qa_cons (v 2) qa_nil)) q_int) (qw_and1 (qt_e (ix (ix (v 2) q_int) q_int))))) q_int q_int)))))
theorem ok_Slow_refuse_no_line (T : Txt w K γ mg) (D_is_within : Def P w K mg base 2 "is_within" ["thing", "low", "high"] (spF K γ 3 f_is_within)) (F : MethB K (γ "Slow") "refuse_no_line" "Slow.refuse_no_line" s_Slow_refuse_no_line ["self", "k"]) : MDef P w K mg base 3 (γ "Slow") "refuse_no_line" ["self", "k"] (spF K γ 2 f_Slow_refuse_no_line) := by
  refine F.qdef (k := 2) sc_Slow_refuse_no_line rfl rfl (bd := b_Slow_refuse_no_line) fun f cdv A outer s H E hr => ?_
  unfold b_Slow_refuse_no_line
  exact (qs_one (qs_if (qt_not (qt_e (q_call D_is_within (hr.mono (by decide)) (by rfl) (qa_cons (v 1) (qa_cons q_int (qa_cons (b_Sub (b_FloorDiv (f_len rfl T.z_len (qa_cons (q_fld T.fld_cells (v 0)) qa_nil)) q_int) q_int) qa_nil)))))) (qs_one qs_never) qs_nil))
theorem ok_Slow_put_four (T : Txt w K γ mg) (D_Slow_refuse_no_line : MDef P w K mg base 3 (γ "Slow") "refuse_no_line" ["self", "k"] (spF K γ 2 f_Slow_refuse_no_line)) (F : MethB K (γ "Slow") "put_four" "Slow.put_four" s_Slow_put_four ["self", "k", "words"]) : MDef P w K mg base 4 (γ "Slow") "put_four" ["self", "k", "words"] (spF K γ 3 f_Slow_put_four) := by
  refine F.qdef (k := 3) sc_Slow_put_four rfl rfl (bd := b_Slow_put_four) fun f cdv A outer s H E hr => ?_
  unfold b_Slow_put_four
  exact (qs_cons (qs_expr (q_meth (MtOk.cons T.cls_Slow D_Slow_refuse_no_line (hr.mono (by decide)) MtOk.nil) (v 0) (qa_cons (v 1) qa_nil)))
    (qs_cons (qs_fld T.fld_lines_put (v 0) (b_Add (q_fld T.fld_lines_put (v 0)) q_int))
    (qs_one (qs_forE PassesOwn.never rfl rfl T.z_enumerate (v 2) (qg_tup (is := [3, 4]) rfl (pgs_cons (pn 3 sc_Slow_put_four.nd) (pgs_cons (pn 4 sc_Slow_put_four.nd) pgs_nil))) (qs_one (qs_sub (v 4) (q_fld T.fld_cells (v 0)) (b_Add (b_Mult q_int (v 1)) (v 3))))))))
theorem ok_Near_write_back (T : Txt w K γ mg) (D_Slow_put_four : MDef P w K mg base 4 (γ "Slow") "put_four" ["self", "k", "words"] (spF K γ 3 f_Slow_put_four)) (F : MethB K (γ "Near") "write_back" "Near.write_back" s_Near_write_back ["self", "line"]) : MDef P w K mg base 5 (γ "Near") "write_back" ["self", "line"] (spF K γ 2 f_Near_write_back) := by
  refine F.qdef (k := 4) sc_Near_write_back rfl rfl (bd := b_Near_write_back) fun f cdv A outer s H E hr => ?_
  unfold b_Near_write_back
  exact (qs_one (qs_if (qt_e (q_fld T.fld_changed (v 1))) (qs_cons (qs_expr (q_meth (MtOk.cons T.cls_Slow D_Slow_put_four (hr.mono (by decide)) MtOk.nil) (q_fld T.fld_slow (v 0)) (qa_cons (q_fld T.fld_number (v 1)) (qa_cons (q_fld T.fld_words (v 1)) qa_nil))))
    (qs_one (qs_fld T.fld_changed (v 1) q_bl))) qs_nil))
theorem ok_Line_init (T : Txt w K γ mg)  (F : MethB K (γ "Line") "__init__" "Line.__init__" s_Line_init ["self", "number", "words", "changed"]) : MDef P w K mg base 1 (γ "Line") "__init__" ["self", "number", "words", "changed"] (spF K γ 4 f_Line_init) := by
  refine F.qdef (k := 0) sc_Line_init rfl rfl (bd := b_Line_init) fun f cdv A outer s H E hr => ?_
  unfold b_Line_init
  exact (qs_cons (qs_fld T.fld_number (v 0) (v 1))
    (qs_cons (qs_fld T.fld_words (v 0) (f_list rfl T.z_list (qa_cons (v 2) qa_nil)))
    (qs_one (qs_fld T.fld_changed (v 0) (v 3)))))
theorem ok_Slow_four (T : Txt w K γ mg) (D_Slow_refuse_no_line : MDef P w K mg base 3 (γ "Slow") "refuse_no_line" ["self", "k"] (spF K γ 2 f_Slow_refuse_no_line)) (F : MethB K (γ "Slow") "four" "Slow.four" s_Slow_four ["self", "k"]) : MDef P w K mg base 4 (γ "Slow") "four" ["self", "k"] (spF K γ 2 f_Slow_four) := by
  refine F.qdef (k := 3) sc_Slow_four rfl rfl (bd := b_Slow_four) fun f cdv A outer s H E hr => ?_
  unfold b_Slow_four
  exact (qs_cons (qs_expr (q_meth (MtOk.cons T.cls_Slow D_Slow_refuse_no_line (hr.mono (by decide)) MtOk.nil) (v 0) (qa_cons (v 1) qa_nil)))
    (qs_cons (qs_fld T.fld_lines_told (v 0) (b_Add (q_fld T.fld_lines_told (v 0)) q_int))
    (qs_one (qs_ret (f_tuple rfl T.z_tuple (qa_cons (q_sl (q_fld T.fld_cells (v 0)) (qo_some (b_Mult q_int (v 1))) (qo_some (b_Add (b_Mult q_int (v 1)) q_int))) qa_nil))))))
theorem ok_Near_asked (T : Txt w K γ mg) (D_Near_room_of : MDef P w K mg base 1 (γ "Near") "room_of" ["self", "number"] (spF K γ 2 f_Near_room_of)) (D_Near_found : MDef P w K mg base 2 (γ "Near") "found" ["self", "number"] (spF K γ 2 f_Near_found)) (D_Near_write_back : MDef P w K mg base 5 (γ "Near") "write_back" ["self", "line"] (spF K γ 2 f_Near_write_back)) (D_Line_init : MDef P w K mg base 1 (γ "Line") "__init__" ["self", "number", "words", "changed"] (spF K γ 4 f_Line_init)) (D_Slow_four : MDef P w K mg base 4 (γ "Slow") "four" ["self", "k"] (spF K γ 2 f_Slow_four)) (F : MethB K (γ "Near") "asked" "Near.asked" s_Near_asked ["self", "number"]) : MDef P w K mg base 6 (γ "Near") "asked" ["self", "number"] (spF K γ 2 f_Near_asked) := by
  refine F.qdef (k := 5) sc_Near_asked rfl rfl (bd := b_Near_asked) fun f cdv A outer s H E hr => ?_
  unfold b_Near_asked
  exact (qs_cons (sset 2 sc_Near_asked.nd (q_meth (MtOk.cons T.cls_Near D_Near_room_of (hr.mono (by decide)) MtOk.nil) (v 0) (qa_cons (v 1) qa_nil)))
    (qs_cons (sset 3 sc_Near_asked.nd (q_meth (MtOk.cons T.cls_Near D_Near_found (hr.mono (by decide)) MtOk.nil) (v 0) (qa_cons (v 1) qa_nil)))
    (qs_cons (qs_if (t_IsNot (v 3) q_non) (qs_one (qs_expr (q_remove (room64 hr) T.eq_Line (v 2) (v 3)))) (qs_cons (qs_if (t_Eq (room64 hr) (f_len rfl T.z_len (qa_cons (v 2) qa_nil)) (q_gint (by rfl) T.c_ROOM.choose_spec.1 T.c_ROOM.choose_spec.2)) (qs_one (qs_expr (q_meth (MtOk.cons T.cls_Near D_Near_write_back (hr.mono (by decide)) MtOk.nil) (v 0) (qa_cons (q_pop (v 2)) qa_nil)))) qs_nil)
    (qs_one (sset 3 sc_Near_asked.nd (q_new (newOk_of T.mk_Line D_Line_init (hr.mono (by decide))) (by rfl) (qa_cons (v 1) (qa_cons (q_meth (MtOk.cons T.cls_Slow D_Slow_four (hr.mono (by decide)) MtOk.nil) (q_fld T.fld_slow (v 0)) (qa_cons (v 1) qa_nil)) (qa_cons q_bl qa_nil))))))))
    (qs_cons (qs_expr (q_insert (v 2) q_int (v 3)))
    (qs_one (qs_ret (v 3)))))))
theorem ok_Near_get (T : Txt w K γ mg) (D_Near_refuse_no_place : MDef P w K mg base 3 (γ "Near") "refuse_no_place" ["self", "address"] (spF K γ 2 f_Near_refuse_no_place)) (D_Near_asked : MDef P w K mg base 6 (γ "Near") "asked" ["self", "number"] (spF K γ 2 f_Near_asked)) (F : MethB K (γ "Near") "get" "Near.get" s_Near_get ["self", "address"]) : MDef P w K mg base 7 (γ "Near") "get" ["self", "address"] (spF K γ 2 f_Near_get) := by
  refine F.qdef (k := 6) sc_Near_get rfl rfl (bd := b_Near_get) fun f cdv A outer s H E hr => ?_
  unfold b_Near_get
  exact (qs_cons (qs_expr (q_meth (MtOk.cons T.cls_Near D_Near_refuse_no_place (hr.mono (by decide)) MtOk.nil) (v 0) (qa_cons (v 1) qa_nil)))
    (qs_one (qs_ret (ix (q_fld T.fld_words (q_meth (MtOk.cons T.cls_Near D_Near_asked (hr.mono (by decide)) MtOk.nil) (v 0) (qa_cons (b_FloorDiv (v 1) q_int) qa_nil))) (b_Mod (v 1) q_int)))))
theorem ok_Near_put (T : Txt w K γ mg) (D_Near_refuse_no_place : MDef P w K mg base 3 (γ "Near") "refuse_no_place" ["self", "address"] (spF K γ 2 f_Near_refuse_no_place)) (D_Near_asked : MDef P w K mg base 6 (γ "Near") "asked" ["self", "number"] (spF K γ 2 f_Near_asked)) (F : MethB K (γ "Near") "put" "Near.put" s_Near_put ["self", "address", "word"]) : MDef P w K mg base 7 (γ "Near") "put" ["self", "address", "word"] (spF K γ 3 f_Near_put) := by
  refine F.qdef (k := 6) sc_Near_put rfl rfl (bd := b_Near_put) fun f cdv A outer s H E hr => ?_
  unfold b_Near_put
  exact (qs_cons (qs_expr (q_meth (MtOk.cons T.cls_Near D_Near_refuse_no_place (hr.mono (by decide)) MtOk.nil) (v 0) (qa_cons (v 1) qa_nil)))
    (qs_cons (sset 3 sc_Near_put.nd (q_meth (MtOk.cons T.cls_Near D_Near_asked (hr.mono (by decide)) MtOk.nil) (v 0) (qa_cons (b_FloorDiv (v 1) q_int) qa_nil)))
    (qs_cons (qs_sub (v 2) (q_fld T.fld_words (v 3)) (b_Mod (v 1) q_int))
    (qs_one (qs_fld T.fld_changed (v 3) q_bl)))))
theorem ok_Slow_word_at (T : Txt w K γ mg)  (F : MethB K (γ "Slow") "word_at" "Slow.word_at" s_Slow_word_at ["self", "address"]) : MDef P w K mg base 1 (γ "Slow") "word_at" ["self", "address"] (spF K γ 2 f_Slow_word_at) := by
  refine F.qdef (k := 0) sc_Slow_word_at rfl rfl (bd := b_Slow_word_at) fun f cdv A outer s H E hr => ?_
  unfold b_Slow_word_at
  exact (qs_one (qs_ret (ix (q_fld T.fld_cells (v 0)) (v 1))))
theorem ok_Near_look (T : Txt w K γ mg) (D_Near_refuse_no_place : MDef P w K mg base 3 (γ "Near") "refuse_no_place" ["self", "address"] (spF K γ 2 f_Near_refuse_no_place)) (D_Near_found : MDef P w K mg base 2 (γ "Near") "found" ["self", "number"] (spF K γ 2 f_Near_found)) (D_Slow_word_at : MDef P w K mg base 1 (γ "Slow") "word_at" ["self", "address"] (spF K γ 2 f_Slow_word_at)) (F : MethB K (γ "Near") "look" "Near.look" s_Near_look ["self", "address"]) : MDef P w K mg base 4 (γ "Near") "look" ["self", "address"] (spF K γ 2 f_Near_look) := by
  refine F.qdef (k := 3) sc_Near_look rfl rfl (bd := b_Near_look) fun f cdv A outer s H E hr => ?_
  unfold b_Near_look
  exact (qs_cons (qs_expr (q_meth (MtOk.cons T.cls_Near D_Near_refuse_no_place (hr.mono (by decide)) MtOk.nil) (v 0) (qa_cons (v 1) qa_nil)))
    (qs_cons (sset 2 sc_Near_look.nd (q_meth (MtOk.cons T.cls_Near D_Near_found (hr.mono (by decide)) MtOk.nil) (v 0) (qa_cons (b_FloorDiv (v 1) q_int) qa_nil)))
    (qs_cons (qs_if (t_Is (v 2) q_non) (qs_one (qs_ret (q_meth (MtOk.cons T.cls_Slow D_Slow_word_at (hr.mono (by decide)) MtOk.nil) (q_fld T.fld_slow (v 0)) (qa_cons (v 1) qa_nil)))) qs_nil)
    (qs_one (qs_ret (ix (q_fld T.fld_words (v 2)) (b_Mod (v 1) q_int)))))))
theorem ok_Near_settle (T : Txt w K γ mg) (D_Near_write_back : MDef P w K mg base 5 (γ "Near") "write_back" ["self", "line"] (spF K γ 2 f_Near_write_back)) (F : MethB K (γ "Near") "settle" "Near.settle" s_Near_settle ["self"]) : MDef P w K mg base 6 (γ "Near") "settle" ["self"] (spF K γ 1 f_Near_settle) := by
  refine F.qdef (k := 5) sc_Near_settle rfl rfl (bd := b_Near_settle) fun f cdv A outer s H E hr => ?_
  unfold b_Near_settle
  exact (qs_one (qs_for PassesOwn.never rfl (qi_seq (q_fld T.fld_rooms (v 0))) (gn 1 sc_Near_settle.nd) (qs_one (qs_for PassesOwn.never rfl (qi_seq (v 1)) (gn 2 sc_Near_settle.nd) (qs_one (qs_expr (q_meth (MtOk.cons T.cls_Near D_Near_write_back (hr.mono (by decide)) MtOk.nil) (v 0) (qa_cons (v 2) qa_nil))))))))
theorem ok__law_did (T : Txt w K γ mg) (D_Near_get : MDef P w K mg base 7 (γ "Near") "get" ["self", "address"] (spF K γ 2 f_Near_get)) (D_Near_put : MDef P w K mg base 7 (γ "Near") "put" ["self", "address", "word"] (spF K γ 3 f_Near_put)) (D_Near_cost : MDef P w K mg base 4 (γ "Near") "cost" ["self", "address"] (spF K γ 2 f_Near_cost)) (D_Near_look : MDef P w K mg base 4 (γ "Near") "look" ["self", "address"] (spF K γ 2 f_Near_look)) (D_Near_settle : MDef P w K mg base 6 (γ "Near") "settle" ["self"] (spF K γ 1 f_Near_settle)) (F : TopFn K mg "_law_did" s__law_did) : Def P w K mg base 8 "_law_did" ["_law_near", "_law_deed"] (spF K γ 2 f__law_did) := by
  refine F.qdef (k := 7) sc__law_did rfl rfl (fun _ _ _ _ _ _ us hl => match us, hl with | [_, _], _ => rfl) (bd := b__law_did) fun f cdv A outer s H E hr => ?_
  unfold b__law_did
  exact (qs_cons (qs_if (t_Eq (room64 hr) (ix (v 1) q_int) q_str) (qs_one (qs_ret (q_meth (MtOk.cons T.cls_Near D_Near_get (hr.mono (by decide)) MtOk.nil) (v 0) (qa_cons (ix (v 1) q_int) qa_nil)))) qs_nil)
    (qs_cons (qs_if (t_Eq (room64 hr) (ix (v 1) q_int) q_str) (qs_one (qs_ret (q_meth (MtOk.cons T.cls_Near D_Near_put (hr.mono (by decide)) MtOk.nil) (v 0) (qa_cons (ix (v 1) q_int) (qa_cons (ix (v 1) q_int) qa_nil))))) qs_nil)
    (qs_cons (qs_if (t_Eq (room64 hr) (ix (v 1) q_int) q_str) (qs_one (qs_ret (q_meth (MtOk.cons T.cls_Near D_Near_cost (hr.mono (by decide)) MtOk.nil) (v 0) (qa_cons (ix (v 1) q_int) qa_nil)))) qs_nil)
    (qs_cons (qs_if (t_Eq (room64 hr) (ix (v 1) q_int) q_str) (qs_one (qs_ret (q_meth (MtOk.cons T.cls_Near D_Near_look (hr.mono (by decide)) MtOk.nil) (v 0) (qa_cons (ix (v 1) q_int) qa_nil)))) qs_nil)
    (qs_one (qs_ret (q_meth0 (MtOk.cons T.cls_Near D_Near_settle (hr.mono (by decide)) MtOk.nil) (v 0))))))))
theorem ok__law_settled (T : Txt w K γ mg)  (F : TopFn K mg "_law_settled" s__law_settled) : Def P w K mg base 1 "_law_settled" ["_law_state"] (spF K γ 1 f__law_settled) := by
  refine F.qdef (k := 0) sc__law_settled rfl rfl (fun _ _ _ _ _ _ us hl => match us, hl with | [_], _ => rfl) (bd := b__law_settled) fun f cdv A outer s H E hr => ?_
  unfold b__law_settled
  exact (qs_cons (sset 1 sc__law_settled.nd (f_sum rfl rfl T.z_sum (qa_cons (q_comp (cs := []) (ts := ["_law_room"]) (js := []) (cap_mk _ rfl rfl rfl rfl (by decide +kernel) (by decide +kernel) rfl) rfl rfl (qi_seq (ix (v 0) q_int)) (fun _ _ _ => (gn 0 (show List.Nodup (["_law_room"] : List Str) by decide +kernel))) (fun _ _ _ => qts_nil) (fun _ _ _ => (f_len rfl T.z_len (qa_cons (q_comp (cs := []) (ts := ["_law_row"]) (js := []) (cap_mk _ rfl rfl rfl rfl (by decide +kernel) (by decide +kernel) rfl) rfl rfl (qi_seq (v 0)) (fun _ _ _ => (gn 0 (show List.Nodup (["_law_row"] : List Str) by decide +kernel))) (fun _ _ _ => (qts_one (qt_e (ix (v 0) q_int)))) (fun _ _ _ => (v 0))) qa_nil)))) qa_nil)))
    (qs_one (qs_ret (q_tup (qa_cons (q_comp (cs := []) (ts := ["_law_room"]) (js := []) (cap_mk _ rfl rfl rfl rfl (by decide +kernel) (by decide +kernel) rfl) rfl rfl (qi_seq (ix (v 0) q_int)) (fun _ _ _ => (gn 0 (show List.Nodup (["_law_room"] : List Str) by decide +kernel))) (fun _ _ _ => qts_nil) (fun _ _ _ => (q_comp (cs := []) (ts := ["_law_row"]) (js := []) (cap_mk _ rfl rfl rfl rfl (by decide +kernel) (by decide +kernel) rfl) rfl rfl (qi_seq (v 0)) (fun _ _ _ => (gn 0 (show List.Nodup (["_law_row"] : List Str) by decide +kernel))) (fun _ _ _ => qts_nil) (fun _ _ _ => (q_tup (qa_cons (ix (v 0) q_int) (qa_cons q_bl qa_nil))))))) (qa_cons (ix (v 0) q_int) (qa_cons (b_Add (ix (v 0) q_int) (v 1)) qa_nil)))))))
theorem ok__law_asked (T : Txt w K γ mg)  (F : TopFn K mg "_law_asked" s__law_asked) : Def P w K mg base 1 "_law_asked" ["_law_state", "_law_number", "_law_changed"] (spF K γ 3 f__law_asked) := by
  refine F.qdef (k := 0) sc__law_asked rfl rfl (fun _ _ _ _ _ _ us hl => match us, hl with | [_, _, _], _ => rfl) (bd := b__law_asked) fun f cdv A outer s H E hr => ?_
  unfold b__law_asked
  exact (qs_cons (qs_comp (i := 3) sc__law_asked.nd (cs := []) (ts := ["_law_room"]) (js := []) (cap_mk _ rfl rfl rfl rfl (by decide +kernel) (by decide +kernel) rfl) rfl rfl (qi_seq (ix (v 0) q_int)) (fun _ _ _ => (gn 0 (show List.Nodup (["_law_room"] : List Str) by decide +kernel))) (fun _ _ _ => qts_nil) (fun _ _ _ => (f_list rfl T.z_list (qa_cons (v 0) qa_nil))))
    (qs_cons (sset 4 sc__law_asked.nd (b_Mod (v 1) (f_len rfl T.z_len (qa_cons (v 3) qa_nil))))
    (qs_cons (sset 5 sc__law_asked.nd (ix (v 3) (v 4)))
    (qs_cons (sset 6 sc__law_asked.nd (ix (v 0) q_int))
    (qs_cons (sset 7 sc__law_asked.nd (ix (v 0) q_int))
    (qs_cons (qs_comp (i := 8) sc__law_asked.nd (cs := ["_law_number"]) (ts := ["_law_row"]) (js := [1]) (cap_mk _ rfl rfl rfl rfl (by decide +kernel) (by decide +kernel) rfl) rfl rfl (qi_seq (v 5)) (fun _ _ _ => (gn 0 (show List.Nodup (["_law_row", "_law_number"] : List Str) by decide +kernel))) (fun _ _ _ => (qts_one (t_Eq (room64 hr) (ix (v 0) q_int) (v 1)))) (fun _ _ _ => (v 0)))
    (qs_cons (qs_comp (i := 9) sc__law_asked.nd (cs := ["_law_number"]) (ts := ["_law_row"]) (js := [1]) (cap_mk _ rfl rfl rfl rfl (by decide +kernel) (by decide +kernel) rfl) rfl rfl (qi_seq (v 5)) (fun _ _ _ => (gn 0 (show List.Nodup (["_law_row", "_law_number"] : List Str) by decide +kernel))) (fun _ _ _ => (qts_one (t_NotEq (room64 hr) (ix (v 0) q_int) (v 1)))) (fun _ _ _ => (v 0)))
    (qs_cons (qs_if (t_Eq (room64 hr) (v 8) (q_lst qa_nil)) (qs_cons (sset 6 sc__law_asked.nd (b_Add (v 6) q_int))
    (qs_cons (sset 8 sc__law_asked.nd (q_lst (qa_cons (q_tup (qa_cons (v 1) (qa_cons q_bl qa_nil))) qa_nil)))
    (qs_one (qs_if (t_Eq (room64 hr) (f_len rfl T.z_len (qa_cons (v 9) qa_nil)) q_int) (qs_cons (sset 7 sc__law_asked.nd (b_Add (v 7) (f_int rfl T.z_int (qa_cons (ix (ix (v 9) q_int) q_int) qa_nil))))
    (qs_one (sset 9 sc__law_asked.nd (q_sl (v 9) qo_none (qo_some q_int))))) qs_nil)))) qs_nil)
    (qs_cons (qs_sub (b_Add (q_lst (qa_cons (q_tup (qa_cons (v 1) (qa_cons (q_or (ix (ix (v 8) q_int) q_int) (q_one (v 2))) qa_nil))) qa_nil)) (v 9)) (v 3) (v 4))
    (qs_one (qs_ret (q_tup (qa_cons (v 3) (qa_cons (v 6) (qa_cons (v 7) qa_nil)))))))))))))))
theorem ok__law_behind (T : Txt w K γ mg) (D__law_settled : Def P w K mg base 1 "_law_settled" ["_law_state"] (spF K γ 1 f__law_settled)) (D__law_asked : Def P w K mg base 1 "_law_asked" ["_law_state", "_law_number", "_law_changed"] (spF K γ 3 f__law_asked)) (F : TopFn K mg "_law_behind" s__law_behind) : Def P w K mg base 2 "_law_behind" ["_law_state", "_law_deed"] (spF K γ 2 f__law_behind) := by
  refine F.qdef (k := 1) sc__law_behind rfl rfl (fun _ _ _ _ _ _ us hl => match us, hl with | [_, _], _ => rfl) (bd := b__law_behind) fun f cdv A outer s H E hr => ?_
  unfold b__law_behind
  exact (qs_cons (qs_if (t_Eq (room64 hr) (ix (v 1) q_int) q_str) (qs_one (qs_ret (q_call D__law_settled (hr.mono (by decide)) (by rfl) (qa_cons (v 0) qa_nil)))) qs_nil)
    (qs_cons (qs_if (t_In (ix (v 1) q_int) (q_tup (qa_cons q_str (qa_cons q_str qa_nil)))) (qs_one (qs_ret (q_call D__law_asked (hr.mono (by decide)) (by rfl) (qa_cons (v 0) (qa_cons (b_FloorDiv (ix (v 1) q_int) q_int) (qa_cons (c_Eq (room64 hr) (ix (v 1) q_int) q_str) qa_nil)))))) qs_nil)
    (qs_one (qs_ret (v 0)))))
theorem ok_law (T : Txt w K γ mg) {ρ : Nat → Addr} (C : ConsOk K γ ρ consts) (D__law_cell : ∀ base, Def P w K mg base 1 "_law_cell" ["_law_script", "_law_k"] (spF K γ 2 f__law_cell)) (D__law_words : ∀ base, Def P w K mg base 2 "_law_words" ["_law_script", "_law_k", "_law_many"] (spF K γ 3 f__law_words)) (D_Slow_init : ∀ base, MDef P w K mg base 1 (γ "Slow") "__init__" ["self", "words"] (spF K γ 2 f_Slow_init)) (D_Near_init : ∀ base, MDef P w K mg base 2 (γ "Near") "__init__" ["self", "slow", "sets"] (spF K γ 3 f_Near_init)) (D_N_Near_init : ∀ base, NDef P w K mg base 2 (γ "Near") "__init__" ["self", "slow", "sets"] [.int 2] (spF K γ 3 f_Near_init)) (D__law_stands : ∀ base, Def P w K mg base 6 "_law_stands" ["_law_near", "_law_slow", "_law_state", "_law_words_here"] (spF K γ 4 f__law_stands)) (D__law_deed_by : ∀ base, Def P w K mg base 3 "_law_deed_by" ["_law_script", "_law_k", "_law_many"] (spF K γ 3 f__law_deed_by)) (D__law_whole : ∀ base, Def P w K mg base 1 "_law_whole" ["_law_found", "_law_due"] (spF K γ 2 f__law_whole)) (D_Near_cost : ∀ base, MDef P w K mg base 4 (γ "Near") "cost" ["self", "address"] (spF K γ 2 f_Near_cost)) (D__law_cost : ∀ base, Def P w K mg base 1 "_law_cost" ["_law_state", "_law_number"] (spF K γ 2 f__law_cost)) (D__law_address : ∀ base, Def P w K mg base 2 "_law_address" ["_law_script", "_law_k", "_law_many"] (spF K γ 3 f__law_address)) (D__law_did : ∀ base, Def P w K mg base 8 "_law_did" ["_law_near", "_law_deed"] (spF K γ 2 f__law_did)) (D__law_behind : ∀ base, Def P w K mg base 2 "_law_behind" ["_law_state", "_law_deed"] (spF K γ 2 f__law_behind)) (F : TopFn K mg "law" s_law) (good : ∀ ns : List Int, ns.length ≤ 63 → ∃ h', f_law [.ref consts.length] (consts ++ [.rol (ns.map HL.W.int)]) = .ok (.bl true) h') : LawR P w K mg 9 := by
  refine F.qlaw (k := 8) (γ := γ) sc_law rfl C (fun _ _ _ _ _ _ us hl => match us, hl with | [_], _ => rfl) (bd := b_law) (fun base f cdv A outer s H E hr => ?_) good
  replace D__law_cell := D__law_cell base
  replace D__law_words := D__law_words base
  replace D_Slow_init := D_Slow_init base
  replace D_Near_init := D_Near_init base
  replace D_N_Near_init := D_N_Near_init base
  replace D__law_stands := D__law_stands base
  replace D__law_deed_by := D__law_deed_by base
  replace D__law_whole := D__law_whole base
  replace D_Near_cost := D_Near_cost base
  replace D__law_cost := D__law_cost base
  replace D__law_address := D__law_address base
  replace D__law_did := D__law_did base
  replace D__law_behind := D__law_behind base
  unfold b_law
  exact (qs_cons (sset 1 sc_law.nd (b_Add q_int (b_Mult q_int (b_Mod (q_call D__law_cell (hr.mono (by decide)) (by rfl) (qa_cons (v 0) (qa_cons q_int qa_nil))) q_int))))
    (qs_cons (sset 2 sc_law.nd (q_call D__law_words (hr.mono (by decide)) (by rfl) (qa_cons (v 0) (qa_cons q_int (qa_cons (v 1) qa_nil)))))
    (qs_cons (sset 3 sc_law.nd (q_new (newOk_of T.mk_Slow D_Slow_init (hr.mono (by decide))) (by rfl) (qa_cons (f_tuple rfl T.z_tuple (qa_cons (v 2) qa_nil)) qa_nil)))
    (qs_cons (sset 4 sc_law.nd (ix (q_lst (qa_cons q_int (qa_cons q_int (qa_cons q_int qa_nil)))) (b_Mod (q_call D__law_cell (hr.mono (by decide)) (by rfl) (qa_cons (v 0) (qa_cons q_int qa_nil))) q_int)))
    (qs_cons (qs_if (qt_w (qw_and (t_Eq (room64 hr) (v 4) q_int) (qw_and1 (t_Eq (room64 hr) (b_Mod (b_FloorDiv (q_call D__law_cell (hr.mono (by decide)) (by rfl) (qa_cons (v 0) (qa_cons q_int qa_nil))) q_int) q_int) q_int)))) (qs_one (sset 5 sc_law.nd (q_new (newOk_ofD T.mk_Near D_N_Near_init (hr.mono (by decide)) (fun _ => by simp only [wfs, wf, List.mem_cons, List.not_mem_nil, or_false]; rintro _ rfl; trivial)) (by rfl) (qa_cons (v 3) qa_nil)))) (qs_one (sset 5 sc_law.nd (q_new (newOk_of T.mk_Near D_Near_init (hr.mono (by decide))) (by rfl) (qa_cons (v 3) (qa_cons (v 4) qa_nil))))))
    (qs_cons (sset 6 sc_law.nd (q_tup (qa_cons (q_comp (cs := []) (ts := ["_law_number"]) (js := []) (cap_mk _ rfl rfl rfl rfl (by decide +kernel) (by decide +kernel) rfl) rfl rfl (qi_range1 rfl T.z_range (v 4)) (fun _ _ _ => (gn 0 (show List.Nodup (["_law_number"] : List Str) by decide +kernel))) (fun _ _ _ => qts_nil) (fun _ _ _ => (q_lst qa_nil))) (qa_cons q_int (qa_cons q_int qa_nil)))))
    (qs_cons (qs_if (qt_not (qt_e (q_call D__law_stands (hr.mono (by decide)) (by rfl) (qa_cons (v 5) (qa_cons (v 3) (qa_cons (v 6) (qa_cons (v 2) qa_nil))))))) (qs_one (qs_ret q_bl)) qs_nil)
    (qs_cons (qs_for PassesOwn.never rfl (qi_range1 rfl T.z_range (f_min rfl rfl T.z_min (qa_cons (b_Add (f_len rfl T.z_len (qa_cons (v 0) qa_nil)) q_int) (qa_cons q_int qa_nil)))) (gn 7 sc_law.nd) (qs_cons (sset 8 sc_law.nd (q_call D__law_deed_by (hr.mono (by decide)) (by rfl) (qa_cons (v 0) (qa_cons (v 7) (qa_cons (v 1) qa_nil)))))
    (qs_cons (qs_if (qt_w (qw_and (t_Eq (room64 hr) (ix (v 8) q_int) q_str) (qw_and1 (t_Eq (room64 hr) (b_Mod (q_call D__law_cell (hr.mono (by decide)) (by rfl) (qa_cons (v 0) (qa_cons (b_Add q_int (v 7)) qa_nil))) q_int) q_int)))) (qs_one (sset 8 sc_law.nd (q_tup (qa_cons q_str (qa_cons (ix (v 8) q_int) (qa_cons (ix (v 2) (ix (v 8) q_int)) qa_nil)))))) qs_nil)
    (qs_cons (qs_if (qt_not (qt_e (q_call D__law_whole (hr.mono (by decide)) (by rfl) (qa_cons (q_meth (MtOk.cons T.cls_Near D_Near_cost (hr.mono (by decide)) MtOk.nil) (v 5) (qa_cons (ix (v 8) q_int) qa_nil)) (qa_cons (q_call D__law_cost (hr.mono (by decide)) (by rfl) (qa_cons (v 6) (qa_cons (b_FloorDiv (ix (v 8) q_int) q_int) qa_nil))) qa_nil))))) (qs_one (qs_ret q_bl)) qs_nil)
    (qs_cons (sset 9 sc_law.nd (q_call D__law_address (hr.mono (by decide)) (by rfl) (qa_cons (v 0) (qa_cons (b_Add q_int (v 7)) (qa_cons (v 1) qa_nil)))))
    (qs_cons (qs_if (qt_not (qt_e (q_call D__law_whole (hr.mono (by decide)) (by rfl) (qa_cons (q_meth (MtOk.cons T.cls_Near D_Near_cost (hr.mono (by decide)) MtOk.nil) (v 5) (qa_cons (v 9) qa_nil)) (qa_cons (q_call D__law_cost (hr.mono (by decide)) (by rfl) (qa_cons (v 6) (qa_cons (b_FloorDiv (v 9) q_int) qa_nil))) qa_nil))))) (qs_one (qs_ret q_bl)) qs_nil)
    (qs_cons (qs_expr (q_call D__law_did (hr.mono (by decide)) (by rfl) (qa_cons (v 5) (qa_cons (v 8) qa_nil))))
    (qs_cons (sset 6 sc_law.nd (q_call D__law_behind (hr.mono (by decide)) (by rfl) (qa_cons (v 6) (qa_cons (v 8) qa_nil))))
    (qs_cons (qs_if (t_Eq (room64 hr) (ix (v 8) q_int) q_str) (qs_one (qs_sub (ix (v 8) q_int) (v 2) (ix (v 8) q_int))) qs_nil)
    (qs_one (qs_if (qt_not (qt_e (q_call D__law_stands (hr.mono (by decide)) (by rfl) (qa_cons (v 5) (qa_cons (v 3) (qa_cons (v 6) (qa_cons (v 2) qa_nil))))))) (qs_one (qs_ret q_bl)) qs_nil)))))))))))
    (qs_one (qs_ret q_bl))))))))))
theorem all (T : Txt w K γ mg) {ρ : Nat → Addr} (C : ConsOk K γ ρ consts) (F__law_cell : TopFn K mg "_law_cell" s__law_cell) (F__law_word : TopFn K mg "_law_word" s__law_word) (F__law_words : TopFn K mg "_law_words" s__law_words) (F_Slow_init : MethB K (γ "Slow") "__init__" "Slow.__init__" s_Slow_init ["self", "words"]) (F_is_number : TopFn K mg "is_number" s_is_number) (F_Near_init : MethB K (γ "Near") "__init__" "Near.__init__" s_Near_init ["self", "slow", "sets"]) (F_N_Near_init : MethD K (γ "Near") "__init__" "Near.__init__" s_Near_init ["self", "slow", "sets"] [.int 2]) (F__law_whole : TopFn K mg "_law_whole" s__law_whole) (F_Slow_writes : MethB K (γ "Slow") "writes" "Slow.writes" s_Slow_writes ["self"]) (F_Slow_reads : MethB K (γ "Slow") "reads" "Slow.reads" s_Slow_reads ["self"]) (F__law_alike__r0 : TopFn K mg "_law_alike" s__law_alike__r0) (F__law_alike__r1 : TopFn K mg "_law_alike" s__law_alike__r1) (F__law_alike__r2 : TopFn K mg "_law_alike" s__law_alike__r2) (F__law_alike__r3 : TopFn K mg "_law_alike" s__law_alike__r3) (F__law_alike : TopFn K mg "_law_alike" s__law_alike) (F_Line_told : MethB K (γ "Line") "told" "Line.told" s_Line_told ["self"]) (F_lines_told : TopFn K mg "lines_told" s_lines_told) (F_Near_held : MethB K (γ "Near") "held" "Near.held" s_Near_held ["self"]) (F__law_held : TopFn K mg "_law_held" s__law_held) (F__law_stands : TopFn K mg "_law_stands" s__law_stands) (F__law_address : TopFn K mg "_law_address" s__law_address) (F__law_deed_by : TopFn K mg "_law_deed_by" s__law_deed_by) (F_is_within : TopFn K mg "is_within" s_is_within) (F_Slow_size : MethB K (γ "Slow") "size" "Slow.size" s_Slow_size ["self"]) (F_Near_refuse_no_place : MethB K (γ "Near") "refuse_no_place" "Near.refuse_no_place" s_Near_refuse_no_place ["self", "address"]) (F_Near_room_of : MethB K (γ "Near") "room_of" "Near.room_of" s_Near_room_of ["self", "number"]) (F_Near_found : MethB K (γ "Near") "found" "Near.found" s_Near_found ["self", "number"]) (F_Near_cost : MethB K (γ "Near") "cost" "Near.cost" s_Near_cost ["self", "address"]) (F__law_cost : TopFn K mg "_law_cost" s__law_cost) (F_Slow_refuse_no_line : MethB K (γ "Slow") "refuse_no_line" "Slow.refuse_no_line" s_Slow_refuse_no_line ["self", "k"]) (F_Slow_put_four : MethB K (γ "Slow") "put_four" "Slow.put_four" s_Slow_put_four ["self", "k", "words"]) (F_Near_write_back : MethB K (γ "Near") "write_back" "Near.write_back" s_Near_write_back ["self", "line"]) (F_Line_init : MethB K (γ "Line") "__init__" "Line.__init__" s_Line_init ["self", "number", "words", "changed"]) (F_Slow_four : MethB K (γ "Slow") "four" "Slow.four" s_Slow_four ["self", "k"]) (F_Near_asked : MethB K (γ "Near") "asked" "Near.asked" s_Near_asked ["self", "number"]) (F_Near_get : MethB K (γ "Near") "get" "Near.get" s_Near_get ["self", "address"]) (F_Near_put : MethB K (γ "Near") "put" "Near.put" s_Near_put ["self", "address", "word"]) (F_Slow_word_at : MethB K (γ "Slow") "word_at" "Slow.word_at" s_Slow_word_at ["self", "address"]) (F_Near_look : MethB K (γ "Near") "look" "Near.look" s_Near_look ["self", "address"]) (F_Near_settle : MethB K (γ "Near") "settle" "Near.settle" s_Near_settle ["self"]) (F__law_did : TopFn K mg "_law_did" s__law_did) (F__law_settled : TopFn K mg "_law_settled" s__law_settled) (F__law_asked : TopFn K mg "_law_asked" s__law_asked) (F__law_behind : TopFn K mg "_law_behind" s__law_behind) (F_law : TopFn K mg "law" s_law) (good : ∀ ns : List Int, ns.length ≤ 63 → ∃ h', f_law [.ref consts.length] (consts ++ [.rol (ns.map HL.W.int)]) = .ok (.bl true) h') : LawR P w K mg 9 := by
  have D__law_cell : ∀ base, Def P w K mg base 1 "_law_cell" ["_law_script", "_law_k"] (spF K γ 2 f__law_cell) := fun base => ok__law_cell T  F__law_cell
  have D__law_word : ∀ base, Def P w K mg base 1 "_law_word" ["_law_cell_here"] (spF K γ 1 f__law_word) := fun base => ok__law_word T  F__law_word
  have D__law_words : ∀ base, Def P w K mg base 2 "_law_words" ["_law_script", "_law_k", "_law_many"] (spF K γ 3 f__law_words) := fun base => ok__law_words T (D__law_word base) (D__law_cell base) F__law_words
  have D_Slow_init : ∀ base, MDef P w K mg base 1 (γ "Slow") "__init__" ["self", "words"] (spF K γ 2 f_Slow_init) := fun base => ok_Slow_init T  F_Slow_init
  have D_is_number : ∀ base, Def P w K mg base 1 "is_number" ["thing"] (spF K γ 1 f_is_number) := fun base => ok_is_number T  F_is_number
  have D_Near_init : ∀ base, MDef P w K mg base 2 (γ "Near") "__init__" ["self", "slow", "sets"] (spF K γ 3 f_Near_init) := fun base => ok_Near_init T (D_is_number base) F_Near_init
  have D_N_Near_init : ∀ base, NDef P w K mg base 2 (γ "Near") "__init__" ["self", "slow", "sets"] [.int 2] (spF K γ 3 f_Near_init) := fun base => ok_N_Near_init T (D_is_number base) F_N_Near_init
  have D__law_whole : ∀ base, Def P w K mg base 1 "_law_whole" ["_law_found", "_law_due"] (spF K γ 2 f__law_whole) := fun base => ok__law_whole T  F__law_whole
  have D_Slow_writes : ∀ base, MDef P w K mg base 1 (γ "Slow") "writes" ["self"] (spF K γ 1 f_Slow_writes) := fun base => ok_Slow_writes T  F_Slow_writes
  have D_Slow_reads : ∀ base, MDef P w K mg base 1 (γ "Slow") "reads" ["self"] (spF K γ 1 f_Slow_reads) := fun base => ok_Slow_reads T  F_Slow_reads
  have D__law_alike__r0 : ∀ base, Def P w K mg base 1 "_law_alike" ["_law_found", "_law_due"] (spF K γ 2 f__law_alike__r0) := fun base => ok__law_alike__r0 T  F__law_alike__r0
  have D__law_alike__r1 : ∀ base, Def P w K mg base 2 "_law_alike" ["_law_found", "_law_due"] (spF K γ 2 f__law_alike__r1) := fun base => ok__law_alike__r1 T (D__law_alike__r0 base) F__law_alike__r1
  have D__law_alike__r2 : ∀ base, Def P w K mg base 3 "_law_alike" ["_law_found", "_law_due"] (spF K γ 2 f__law_alike__r2) := fun base => ok__law_alike__r2 T (D__law_alike__r1 base) F__law_alike__r2
  have D__law_alike__r3 : ∀ base, Def P w K mg base 4 "_law_alike" ["_law_found", "_law_due"] (spF K γ 2 f__law_alike__r3) := fun base => ok__law_alike__r3 T (D__law_alike__r2 base) F__law_alike__r3
  have D__law_alike : ∀ base, Def P w K mg base 5 "_law_alike" ["_law_found", "_law_due"] (spF K γ 2 f__law_alike) := fun base => ok__law_alike T (D__law_alike__r3 base) F__law_alike
  have D_Line_told : ∀ base, MDef P w K mg base 1 (γ "Line") "told" ["self"] (spF K γ 1 f_Line_told) := fun base => ok_Line_told T  F_Line_told
  have D_lines_told : ∀ base, Def P w K mg base 2 "lines_told" ["room"] (spF K γ 1 f_lines_told) := fun base => ok_lines_told T (D_Line_told base) F_lines_told
  have D_Near_held : ∀ base, MDef P w K mg base 3 (γ "Near") "held" ["self"] (spF K γ 1 f_Near_held) := fun base => ok_Near_held T (D_lines_told base) F_Near_held
  have D__law_held : ∀ base, Def P w K mg base 1 "_law_held" ["_law_rooms", "_law_words_here"] (spF K γ 2 f__law_held) := fun base => ok__law_held T  F__law_held
  have D__law_stands : ∀ base, Def P w K mg base 6 "_law_stands" ["_law_near", "_law_slow", "_law_state", "_law_words_here"] (spF K γ 4 f__law_stands) := fun base => ok__law_stands T (D__law_whole base) (D_Slow_writes base) (D_Slow_reads base) (D__law_alike base) (D_Near_held base) (D__law_held base) F__law_stands
  have D__law_address : ∀ base, Def P w K mg base 2 "_law_address" ["_law_script", "_law_k", "_law_many"] (spF K γ 3 f__law_address) := fun base => ok__law_address T (D__law_cell base) F__law_address
  have D__law_deed_by : ∀ base, Def P w K mg base 3 "_law_deed_by" ["_law_script", "_law_k", "_law_many"] (spF K γ 3 f__law_deed_by) := fun base => ok__law_deed_by T (D__law_cell base) (D__law_address base) F__law_deed_by
  have D_is_within : ∀ base, Def P w K mg base 2 "is_within" ["thing", "low", "high"] (spF K γ 3 f_is_within) := fun base => ok_is_within T (D_is_number base) F_is_within
  have D_Slow_size : ∀ base, MDef P w K mg base 1 (γ "Slow") "size" ["self"] (spF K γ 1 f_Slow_size) := fun base => ok_Slow_size T  F_Slow_size
  have D_Near_refuse_no_place : ∀ base, MDef P w K mg base 3 (γ "Near") "refuse_no_place" ["self", "address"] (spF K γ 2 f_Near_refuse_no_place) := fun base => ok_Near_refuse_no_place T (D_is_within base) (D_Slow_size base) F_Near_refuse_no_place
  have D_Near_room_of : ∀ base, MDef P w K mg base 1 (γ "Near") "room_of" ["self", "number"] (spF K γ 2 f_Near_room_of) := fun base => ok_Near_room_of T  F_Near_room_of
  have D_Near_found : ∀ base, MDef P w K mg base 2 (γ "Near") "found" ["self", "number"] (spF K γ 2 f_Near_found) := fun base => ok_Near_found T (D_Near_room_of base) F_Near_found
  have D_Near_cost : ∀ base, MDef P w K mg base 4 (γ "Near") "cost" ["self", "address"] (spF K γ 2 f_Near_cost) := fun base => ok_Near_cost T (D_Near_refuse_no_place base) (D_Near_found base) (D_Near_room_of base) F_Near_cost
  have D__law_cost : ∀ base, Def P w K mg base 1 "_law_cost" ["_law_state", "_law_number"] (spF K γ 2 f__law_cost) := fun base => ok__law_cost T  F__law_cost
  have D_Slow_refuse_no_line : ∀ base, MDef P w K mg base 3 (γ "Slow") "refuse_no_line" ["self", "k"] (spF K γ 2 f_Slow_refuse_no_line) := fun base => ok_Slow_refuse_no_line T (D_is_within base) F_Slow_refuse_no_line
  have D_Slow_put_four : ∀ base, MDef P w K mg base 4 (γ "Slow") "put_four" ["self", "k", "words"] (spF K γ 3 f_Slow_put_four) := fun base => ok_Slow_put_four T (D_Slow_refuse_no_line base) F_Slow_put_four
  have D_Near_write_back : ∀ base, MDef P w K mg base 5 (γ "Near") "write_back" ["self", "line"] (spF K γ 2 f_Near_write_back) := fun base => ok_Near_write_back T (D_Slow_put_four base) F_Near_write_back
  have D_Line_init : ∀ base, MDef P w K mg base 1 (γ "Line") "__init__" ["self", "number", "words", "changed"] (spF K γ 4 f_Line_init) := fun base => ok_Line_init T  F_Line_init
  have D_Slow_four : ∀ base, MDef P w K mg base 4 (γ "Slow") "four" ["self", "k"] (spF K γ 2 f_Slow_four) := fun base => ok_Slow_four T (D_Slow_refuse_no_line base) F_Slow_four
  have D_Near_asked : ∀ base, MDef P w K mg base 6 (γ "Near") "asked" ["self", "number"] (spF K γ 2 f_Near_asked) := fun base => ok_Near_asked T (D_Near_room_of base) (D_Near_found base) (D_Near_write_back base) (D_Line_init base) (D_Slow_four base) F_Near_asked
  have D_Near_get : ∀ base, MDef P w K mg base 7 (γ "Near") "get" ["self", "address"] (spF K γ 2 f_Near_get) := fun base => ok_Near_get T (D_Near_refuse_no_place base) (D_Near_asked base) F_Near_get
  have D_Near_put : ∀ base, MDef P w K mg base 7 (γ "Near") "put" ["self", "address", "word"] (spF K γ 3 f_Near_put) := fun base => ok_Near_put T (D_Near_refuse_no_place base) (D_Near_asked base) F_Near_put
  have D_Slow_word_at : ∀ base, MDef P w K mg base 1 (γ "Slow") "word_at" ["self", "address"] (spF K γ 2 f_Slow_word_at) := fun base => ok_Slow_word_at T  F_Slow_word_at
  have D_Near_look : ∀ base, MDef P w K mg base 4 (γ "Near") "look" ["self", "address"] (spF K γ 2 f_Near_look) := fun base => ok_Near_look T (D_Near_refuse_no_place base) (D_Near_found base) (D_Slow_word_at base) F_Near_look
  have D_Near_settle : ∀ base, MDef P w K mg base 6 (γ "Near") "settle" ["self"] (spF K γ 1 f_Near_settle) := fun base => ok_Near_settle T (D_Near_write_back base) F_Near_settle
  have D__law_did : ∀ base, Def P w K mg base 8 "_law_did" ["_law_near", "_law_deed"] (spF K γ 2 f__law_did) := fun base => ok__law_did T (D_Near_get base) (D_Near_put base) (D_Near_cost base) (D_Near_look base) (D_Near_settle base) F__law_did
  have D__law_settled : ∀ base, Def P w K mg base 1 "_law_settled" ["_law_state"] (spF K γ 1 f__law_settled) := fun base => ok__law_settled T  F__law_settled
  have D__law_asked : ∀ base, Def P w K mg base 1 "_law_asked" ["_law_state", "_law_number", "_law_changed"] (spF K γ 3 f__law_asked) := fun base => ok__law_asked T  F__law_asked
  have D__law_behind : ∀ base, Def P w K mg base 2 "_law_behind" ["_law_state", "_law_deed"] (spF K γ 2 f__law_behind) := fun base => ok__law_behind T (D__law_settled base) (D__law_asked base) F__law_behind
  exact ok_law T C D__law_cell D__law_words D_Slow_init D_Near_init D_N_Near_init D__law_stands D__law_deed_by D__law_whole D_Near_cost D__law_cost D__law_address D__law_did D__law_behind F_law good
end
end K43
namespace K43
open HL
open PySem (Str)
local macro_rules | `(tactic| simp! only [$ls,*]) => `(tactic| simp only [fnOf, start, sSeq, sRet, sRetN, sSet, sDrop, sIf, sNx, sFld, sSub, dB, dCons, dNil, dVar, dC, dOp, dUn, dFld, dMeth, dCall, dNew, dT, tNot, tAnd, tOr, tTrue, dNot, dAnd, dOr, dChain, R.bind, OR.fin, oAdd, oSub, oInt, oMul, oDiv, oMod, oLe, oCmp, truW, oNeg, List.map_cons, List.map_nil, List.length_cons, List.length_nil, List.cons_append, List.nil_append, List.replicate, List.getElem?_cons_zero, List.getElem?_cons_succ, List.set_cons_zero, List.set_cons_succ, Nat.reduceAdd, Nat.reduceSub, Nat.zero_add, if_true, if_false, Bool.not_true, Bool.not_false, Bool.false_eq_true, reduceIte, reduceCtorEq, decide_true, decide_false, Bool.and_true, Bool.and_self, $ls,*])
def Has (h : Sh) (L : List (Nat × SO)) : Prop := (L.map Prod.fst).Nodup ∧ ∀ x ∈ L, h[x.1]? = some x.2
section
variable {h : Sh} {L L' : List (Nat × SO)} {i : Nat} {o o' : SO}
theorem Has.perm (H : Has h L) (p : L.Perm L') : Has h L' := ⟨(p.map _).nodup_iff.mp H.1, fun x hx => H.2 x (p.symm.subset hx)⟩
theorem Has.get (H : Has h L) (m : (i, o) ∈ L) : h[i]? = some o := H.2 _ m
theorem Has.lt (H : Has h L) (m : (i, o) ∈ L) : i < h.length := by
  have := H.get m
  exact (List.getElem?_eq_some_iff.mp this).1
theorem Has.set (H : Has h ((i, o) :: L)) : Has (h.set i o') ((i, o') :: L) := by
  have lt := H.lt (List.mem_cons_self ..)
  refine ⟨H.1, fun x hx => ?_⟩
  rcases List.mem_cons.mp hx with rfl | hx
  · simp only [List.getElem?_set, lt, if_true]
  · have : i ≠ x.1 := by
      intro e
      have n := (List.nodup_cons.mp H.1).1
      exact n (List.mem_map.mpr ⟨x, hx, e.symm⟩)
    simp only [List.getElem?_set, this, if_false]
    exact H.2 x (List.mem_cons_of_mem _ hx)
theorem Has.app (H : Has h L) (l : Sh) : Has (h ++ l) L := ⟨H.1, fun x hx => by
  have := H.2 x hx
  rw [List.getElem?_append_left (List.getElem?_eq_some_iff.mp this).1]
  exact this⟩
theorem Has.new (H : Has h L) (o : SO) : Has (h ++ [o]) ((h.length, o) :: L) := by
  refine ⟨List.nodup_cons.mpr ⟨?_, H.1⟩, fun x hx => ?_⟩
  · intro m
    obtain ⟨x, hx, e⟩ := List.mem_map.mp m
    have := (List.getElem?_eq_some_iff.mp (H.2 x hx)).1
    omega
  · rcases List.mem_cons.mp hx with rfl | hx
    · simp only [List.getElem?_append_right (Nat.le_refl _), Nat.sub_self, List.getElem?_cons_zero]
    · exact (H.app [o]).2 x hx
theorem Has.tail (H : Has h ((i, o) :: L)) : Has h L := ⟨(List.nodup_cons.mp H.1).2, fun x hx => H.2 x (List.mem_cons_of_mem _ hx)⟩
theorem Has.left (H : Has h (L ++ L')) : Has h L := ⟨by have := H.1; rw [List.map_append] at this; exact (List.nodup_append.mp this).1, fun x hx => H.2 x (List.mem_append_left _ hx)⟩
theorem Has.ne {j : Nat} {p : SO} (H : Has h ((i, o) :: L)) (m : (j, p) ∈ L) : i ≠ j := by
  intro e
  exact (List.nodup_cons.mp H.1).1 (List.mem_map.mpr ⟨_, m, e.symm⟩)
end
theorem getF_of {h : Sh} {i : Nat} {c f : Str} {fs : List (Str × W)} {cs : List Str} {v : W} (e : h[i]? = some (.ins c fs)) (hc : cs.contains c = true) (hf : fs.lookup f = some v) : getF cs f (.ref i) h = some v := by
  simp only [getF, e, hc, if_true, hf]
theorem findM_of {h : Sh} {i : Nat} {c m : Str} {fs : List (Str × W)} {tb : List (Str × Fn)} (e : h[i]? = some (.ins c fs)) (hf : fs.lookup m = none) : findM tb m (.ref i) h = tb.lookup c := by
  simp only [findM, e, hf, if_true]
theorem setF_of {h : Sh} {i : Nat} {c f : Str} {fs : List (Str × W)} {cs : List Str} {v : W} (e : h[i]? = some (.ins c fs)) (hc : cs.contains c = true) (hf : fs.length < 1000) : setF cs f (.ref i) v h = .ok .non (h.set i (.ins c (putW f v fs))) := by
  simp only [setF, e, hc, hf, true_and, if_true]
structure Ln where
  p : Nat
  q : Nat
  n : Int
  ws : List Int
  ch : Bool
def Ln.objs (l : Ln) : List (Nat × SO) := [(l.p, .ins "Line" [("number", .int l.n), ("words", .ref l.q), ("changed", .bl l.ch)]), (l.q, .lst (l.ws.map .int))]
structure Rm where
  p : Nat
  ls : List Ln
def Rm.objs (r : Rm) : List (Nat × SO) := (r.p, .lst (r.ls.map fun l => .ref l.p)) :: r.ls.flatMap Ln.objs
structure Co where
  n : Nat
  s : Nat
  c : Nat
  r : Nat
  k : Nat
  cells : List Int
  told : Int
  put : Int
def Co.objs (m : Co) : List (Nat × SO) := [(m.n, .ins "Near" [("slow", .ref m.s), ("sets", .int m.k), ("rooms", .ref m.r)]), (m.s, .ins "Slow" [("cells", .ref m.c), ("lines_told", .int m.told), ("lines_put", .int m.put)]), (m.c, .lst (m.cells.map .int))]
section
variable {h : Sh} {F : List (Nat × SO)} {m : Co}
theorem Co.near (H : Has h (m.objs ++ F)) : h[m.n]? = some (.ins "Near" [("slow", .ref m.s), ("sets", .int m.k), ("rooms", .ref m.r)]) := H.get (by simp only [Co.objs]; exact List.mem_cons_self ..)
theorem Co.slow (H : Has h (m.objs ++ F)) : h[m.s]? = some (.ins "Slow" [("cells", .ref m.c), ("lines_told", .int m.told), ("lines_put", .int m.put)]) := H.get (by simp only [Co.objs]; exact List.mem_cons_of_mem _ (List.mem_cons_self ..))
theorem Co.cellsAt (H : Has h (m.objs ++ F)) : h[m.c]? = some (.lst (m.cells.map .int)) := H.get (by simp only [Co.objs]; exact List.mem_cons_of_mem _ (List.mem_cons_of_mem _ (List.mem_cons_self ..)))
theorem number_ok (a : Int) (h : Sh) : f_is_number [.int a] h = .ok (.bl true) h := rfl
theorem within_ok (a lo hi : Int) (h : Sh) (h1 : lo ≤ a) (h2 : a ≤ hi) : f_is_within [.int a, .int lo, .int hi] h = .ok (.bl true) h := by
  have e := number_ok a h
  simp! only [b_is_within, e, h1, h2]
theorem size_ok (H : Has h (m.objs ++ F)) : f_Slow_size [.ref m.s] h = .ok (.int m.cells.length) h := by
  have e1 : getF ["Slow"] "cells" (.ref m.s) h = some (.ref m.c) := getF_of (Co.slow H) (by decide) rfl
  simp! only [b_Slow_size, e1, bLen, seqW, lstW, Co.cellsAt H, Option.or, List.length_map]
theorem place_ok (H : Has h (m.objs ++ F)) {a : Int} (h1 : 0 ≤ a) (h2 : a < m.cells.length) : f_Near_refuse_no_place [.ref m.n, .int a] h = .ok .non h := by
  have e1 : getF ["Near"] "slow" (.ref m.n) h = some (.ref m.s) := getF_of (Co.near H) (by decide) rfl
  have e2 : findM tb_size "size" (.ref m.s) h = some f_Slow_size := findM_of (Co.slow H) rfl
  have e3 := size_ok H
  have e4 := within_ok a 0 ((m.cells.length : Int) - 1) h h1 (by omega)
  simp! only [b_Near_refuse_no_place, e1, e2, e3, e4]
theorem line_ok (H : Has h (m.objs ++ F)) {a : Int} (h1 : 0 ≤ a) (h2 : 4 * a + 4 ≤ m.cells.length) : f_Slow_refuse_no_line [.ref m.s, .int a] h = .ok .non h := by
  have e1 : getF ["Slow"] "cells" (.ref m.s) h = some (.ref m.c) := getF_of (Co.slow H) (by decide) rfl
  have e4 := within_ok a 0 ((m.cells.length : Int) / 4 - 1) h h1 (by omega)
  simp! only [b_Slow_refuse_no_line, e1, bLen, seqW, lstW, Co.cellsAt H, Option.or, List.length_map, e4, show (decide ((0 : Int) < 4) && decide ((4 : Int) < 1073741824)) = true from rfl]
end
section
variable {h : Sh} {F : List (Nat × SO)} {m : Co}
theorem Has.upd {A B : List (Nat × SO)} {i : Nat} {o o' : SO} (H : Has h (A ++ (i, o) :: B)) : Has (h.set i o') (A ++ (i, o') :: B) :=
  ((H.perm (List.perm_middle)).set (o' := o')).perm List.perm_middle.symm
theorem atW_of {xs : List W} {i : Int} {v : W} (h0 : 0 ≤ i) (e : xs[i.toNat]? = some v) : atW xs i = some v := by
  have lt := (List.getElem?_eq_some_iff.mp e).1
  have : i < (xs.length : Int) := by omega
  simp only [atW, ixW, h0, this, if_true, Option.bind_some, e]
theorem room_ok {ps : List Nat} {p : Nat} (H : Has h (m.objs ++ F)) (hr : (m.r, SO.lst (ps.map .ref)) ∈ F) (hk : 0 < m.k) (k : Int) (hp : ps[(k % m.k).toNat]? = some p) : f_Near_room_of [.ref m.n, .int k] h = .ok (.ref p) h := by
  have e1 : getF ["Near"] "rooms" (.ref m.n) h = some (.ref m.r) := getF_of (Co.near H) (by decide) rfl
  have e2 : getF ["Near"] "sets" (.ref m.n) h = some (.int m.k) := getF_of (Co.near H) (by decide) rfl
  have e3 : h[m.r]? = some (.lst (ps.map .ref)) := H.get (List.mem_append_right _ hr)
  have hk' : (0 : Int) < m.k := by omega
  have e4 : atW (ps.map W.ref) (k % m.k) = some (.ref p) := atW_of (Int.emod_nonneg _ (by omega)) (by rw [List.getElem?_map, hp]; rfl)
  simp! only [b_Near_room_of, e1, e2, hk', oIx, seqW, lstW, e3, Option.or, e4]
theorem found_loop (t : It) (ls : List Ln) (k : Int) (n : Nat) (H : ∀ l ∈ ls, h[l.p]? = some (.ins "Line" [("number", .int l.n), ("words", .ref l.q), ("changed", .bl l.ch)])) (ht : t.stays h) : ∀ y, 
    (∀ l, ls.find? (fun l => decide (l.n = k)) = some l → forW t (gName 2) (sIf (dT (dOp oEq (dFld ["Line"] "number" (dVar 2)) (dVar 1))) (sRet (dVar 2)) sNx) (ls.map fun l => .ref l.p) [some (.ref n), some (.int k), y] h = .rt (.ref l.p) h) ∧
    (ls.find? (fun l => decide (l.n = k)) = none → ∃ y', forW t (gName 2) (sIf (dT (dOp oEq (dFld ["Line"] "number" (dVar 2)) (dVar 1))) (sRet (dVar 2)) sNx) (ls.map fun l => .ref l.p) [some (.ref n), some (.int k), y] h = .nx [some (.ref n), some (.int k), y'] h) := by
  induction ls with
  | nil => exact fun y => ⟨fun l e => (by cases e), fun _ => ⟨y, rfl⟩⟩
  | cons l ls ih =>
    intro y
    have ih' := ih (fun x hx => H x (List.mem_cons_of_mem _ hx)) (some (.ref l.p))
    have e1 : getF ["Line"] "number" (.ref l.p) h = some (.int l.n) := getF_of (H l (List.mem_cons_self ..)) (by decide) rfl
    by_cases e : l.n = k
    · have f1 : (l :: ls).find? (fun l => decide (l.n = k)) = some l := by rw [List.find?_cons, decide_eq_true e]
      refine ⟨fun l' e' => ?_, fun e' => ?_⟩
      · rw [f1] at e'; cases e'
        simp! only [forW, gName, e1, oEq, eqH, e]
      · rw [f1] at e'; cases e'
    · have f1 : (l :: ls).find? (fun l => decide (l.n = k)) = ls.find? (fun l => decide (l.n = k)) := by rw [List.find?_cons, decide_eq_false e]
      rw [f1]
      have st : ∀ z, forW t (gName 2) (sIf (dT (dOp oEq (dFld ["Line"] "number" (dVar 2)) (dVar 1))) (sRet (dVar 2)) sNx) ((l :: ls).map fun l => .ref l.p) [some (.ref n), some (.int k), z] h = forW t (gName 2) (sIf (dT (dOp oEq (dFld ["Line"] "number" (dVar 2)) (dVar 1))) (sRet (dVar 2)) sNx) (ls.map fun l => .ref l.p) [some (.ref n), some (.int k), some (.ref l.p)] h := by
        intro z
        rw [List.map_cons, forW]
        simp! only [gName, e1, oEq, eqH, e, ht]
      rw [st y]
      exact ih'
def refOf : Option Ln → W
  | some l => .ref l.p
  | none => .non
theorem found_ok {ps : List Nat} {rm : Rm} (H : Has h (m.objs ++ F)) (hr : (m.r, SO.lst (ps.map .ref)) ∈ F) (hk : 0 < m.k) (k : Int) (hp : ps[(k % m.k).toNat]? = some rm.p) (hm : ∀ x ∈ rm.objs, x ∈ F) : f_Near_found [.ref m.n, .int k] h = .ok (refOf (rm.ls.find? (fun l => decide (l.n = k)))) h := by
  have e1 : findM tb_room_of "room_of" (.ref m.n) h = some f_Near_room_of := findM_of (Co.near H) rfl
  have e2 := room_ok H hr hk k hp
  have e3 : lstW h (.ref rm.p) = some (rm.ls.map fun l => .ref l.p) := by
    have : h[rm.p]? = some (.lst (rm.ls.map fun l => .ref l.p)) := H.get (List.mem_append_right _ (hm _ (List.mem_cons_self ..)))
    simp only [lstW, this]
  have e4 := found_loop (.lst rm.p (rm.ls.map fun (l : Ln) => W.ref l.p)) rm.ls k m.n (h := h) (fun l hl => H.get (List.mem_append_right _ (hm _ (List.mem_cons_of_mem _ (List.mem_flatMap.mpr ⟨l, hl, List.mem_cons_self ..⟩))))) e3 none
  cases f : rm.ls.find? (fun l => decide (l.n = k)) with
  | some l =>
    have e5 := e4.1 l f
    simp! only [b_Near_found, sFor, iSeq, e1, e2, e3, It.items, e5, refOf]
  | none =>
    obtain ⟨y, e5⟩ := e4.2 f
    simp! only [b_Near_found, sFor, iSeq, e1, e2, e3, It.items, e5, refOf]
def putAt (cells : List Int) (i : Nat) : List Int → List Int
  | [] => cells
  | w :: ws => putAt (cells.set i w) (i + 1) ws
theorem putAt_len (ws : List Int) : ∀ (cells : List Int) (i : Nat), (putAt cells i ws).length = cells.length := by
  induction ws with
  | nil => intros; rfl
  | cons w ws ih => intro cells i; rw [putAt, ih, List.length_set]
def cellS : DS := sSub (dFld ["Slow"] "cells" (dVar 0)) (dOp oAdd (dOp oMul (dC (.int 4)) (dVar 1)) (dVar 3)) (dVar 4)
theorem put_loop (q : Nat) (all : List Int) (k : Nat) (ws : List Int) : ∀ (j : Nat) (h : Sh) (m : Co) (y3 y4 : Option W), Has h (m.objs ++ F) → (q, SO.lst (all.map .int)) ∈ F → 4 * k + j + ws.length ≤ m.cells.length → 
    ∃ h' y3' y4', forE q (all.map .int) [3, 4] cellS j (ws.map .int) [some (.ref m.s), some (.int k), some (.ref q), y3, y4] h = .nx [some (.ref m.s), some (.int k), some (.ref q), y3', y4'] h' ∧ Has h' ({ m with cells := putAt m.cells (4 * k + j) ws }.objs ++ F) := by
  induction ws with
  | nil => intro j h m y3 y4 H _ _; exact ⟨h, y3, y4, rfl, H⟩
  | cons w ws ih =>
    intro j h0 m y3 y4 H0 hq hl
    rw [List.length_cons] at hl
    have H := H0.app [.tup [.int (j : Int), .int w]]
    have gt : gTup [3, 4] (.ref h0.length) [some (.ref m.s), some (.int k), some (.ref q), y3, y4] (h0 ++ [.tup [.int (j : Int), .int w]]) = some [some (.ref m.s), some (.int k), some (.ref q), some (.int (j : Int)), some (.int w)] := by
      have : (h0 ++ [SO.tup [.int (j : Int), .int w]])[h0.length]? = some (.tup [.int (j : Int), .int w]) := by rw [List.getElem?_append_right (Nat.le_refl _), Nat.sub_self]; rfl
      simp only [gTup, tupW, this, List.length_cons, List.length_nil, if_true, setAll, List.set_cons_succ, List.set_cons_zero]
    rw [List.map_cons, forE, gt]
    generalize h0 ++ [SO.tup [.int (j : Int), .int w]] = h at H
    have e1 : getF ["Slow"] "cells" (.ref m.s) h = some (.ref m.c) := getF_of (Co.slow H) (by decide) rfl
    have e2 : mulOk 4 (k : Int) = true := rfl
    have e3 : ixW (m.cells.map W.int).length (4 * (k : Int) + (j : Int)) = some (4 * k + j) := by
      have a : (0 : Int) ≤ 4 * (k : Int) + (j : Int) := by omega
      have b : 4 * (k : Int) + (j : Int) < ((m.cells.map W.int).length : Int) := by rw [List.length_map]; omega
      have c : (4 * (k : Int) + (j : Int)).toNat = 4 * k + j := by omega
      simp only [ixW, a, b, if_true, c]
    have H2 : Has (h.set m.c (.lst ((m.cells.map W.int).set (4 * k + j) (.int w)))) ({ m with cells := m.cells.set (4 * k + j) w }.objs ++ F) := by
      have := Has.upd (A := [(m.n, SO.ins "Near" [("slow", .ref m.s), ("sets", .int m.k), ("rooms", .ref m.r)]), (m.s, SO.ins "Slow" [("cells", .ref m.c), ("lines_told", .int m.told), ("lines_put", .int m.put)])]) (o' := .lst ((m.cells.set (4 * k + j) w).map .int)) H
      rw [← List.map_set]
      exact this
    have e4 : (h.set m.c (.lst ((m.cells.map W.int).set (4 * k + j) (.int w))))[q]? = some (.lst (all.map .int)) := H2.get (List.mem_append_right _ hq)
    obtain ⟨h', y3', y4', e5, H3⟩ := ih (j + 1) _ { m with cells := m.cells.set (4 * k + j) w } (some (.int j)) (some (.int w)) H2 hq (by rw [List.length_set]; omega)
    refine ⟨h', y3', y4', ?_, H3⟩
    have b1 : cellS [some (.ref m.s), some (.int k), some (.ref q), some (.int (j : Int)), some (.int w)] h = .nx [some (.ref m.s), some (.int k), some (.ref q), some (.int (j : Int)), some (.int w)] (h.set m.c (.lst ((m.cells.map W.int).set (4 * k + j) (.int w)))) := by
      unfold cellS
      simp! only [e1, e2, Co.cellsAt H, e3]
    simp only [b1, e4, if_true]
    exact e5
theorem put_four_ok (H : Has h (m.objs ++ F)) {q : Nat} {ws : List Int} {k : Nat} (hq : (q, SO.lst (ws.map .int)) ∈ F) (hw : ws.length = 4) (hk : 4 * k + 4 ≤ m.cells.length) : ∃ h', f_Slow_put_four [.ref m.s, .int k, .ref q] h = .ok .non h' ∧ Has h' ({ m with cells := putAt m.cells (4 * k) ws, put := m.put + 1 }.objs ++ F) := by
  have e1 : findM tb_refuse_no_line "refuse_no_line" (.ref m.s) h = some f_Slow_refuse_no_line := findM_of (Co.slow H) rfl
  have e2 := line_ok H (a := k) (by omega) (by omega)
  have e3 : getF ["Slow"] "lines_put" (.ref m.s) h = some (.int m.put) := getF_of (Co.slow H) (by decide) rfl
  have e4 := setF_of (f := "lines_put") (cs := ["Slow"]) (v := .int (m.put + 1)) (Co.slow H) (by decide) (by simp only [List.length_cons, List.length_nil]; omega)
  have H2 : Has (h.set m.s (.ins "Slow" (putW "lines_put" (.int (m.put + 1)) [("cells", .ref m.c), ("lines_told", .int m.told), ("lines_put", .int m.put)]))) ({ m with put := m.put + 1 }.objs ++ F) :=
    Has.upd (A := [(m.n, SO.ins "Near" [("slow", .ref m.s), ("sets", .int m.k), ("rooms", .ref m.r)])]) (o' := .ins "Slow" [("cells", .ref m.c), ("lines_told", .int m.told), ("lines_put", .int (m.put + 1))]) H
  have e5 : (h.set m.s (.ins "Slow" (putW "lines_put" (.int (m.put + 1)) [("cells", .ref m.c), ("lines_told", .int m.told), ("lines_put", .int m.put)])))[q]? = some (.lst (ws.map .int)) := H2.get (List.mem_append_right _ hq)
  obtain ⟨h', y3, y4, e6, H3⟩ := put_loop q ws k ws 0 _ { m with put := m.put + 1 } none none H2 hq (by show 4 * k + 0 + ws.length ≤ m.cells.length; omega)
  refine ⟨h', ?_, H3⟩
  simp! only [b_Slow_put_four, e1, e2, e3, e4, sForE, e5]
  dsimp only at e6
  unfold cellS at e6
  rw [e6]
def wb (m : Co) (l : Ln) : Co := if l.ch = true then { m with cells := putAt m.cells (4 * l.n.toNat) l.ws, put := m.put + 1 } else m
theorem write_back_ok {l : Ln} (H : Has h (m.objs ++ (l.objs ++ F))) (hw : l.ws.length = 4) (h0 : 0 ≤ l.n) (hk : 4 * l.n + 4 ≤ m.cells.length) : ∃ h', f_Near_write_back [.ref m.n, .ref l.p] h = .ok .non h' ∧ Has h' ((wb m l).objs ++ ({ l with ch := false }.objs ++ F)) := by
  have hl : h[l.p]? = some (.ins "Line" [("number", .int l.n), ("words", .ref l.q), ("changed", .bl l.ch)]) := H.get (List.mem_append_right _ (List.mem_cons_self ..))
  have e1 : getF ["Line"] "changed" (.ref l.p) h = some (.bl l.ch) := getF_of hl (by decide) rfl
  cases hc : l.ch with
  | false =>
    rw [hc] at e1
    refine ⟨h, by simp! only [b_Near_write_back, e1], ?_⟩
    have : wb m l = m := by unfold wb; rw [hc]; rfl
    rw [this]
    have e : { l with ch := false } = l := by cases l; cases hc; rfl
    rw [e]; exact H
  | true =>
    rw [hc] at e1
    have e2 : getF ["Near"] "slow" (.ref m.n) h = some (.ref m.s) := getF_of (Co.near H) (by decide) rfl
    have e3 : findM tb_put_four "put_four" (.ref m.s) h = some f_Slow_put_four := findM_of (Co.slow H) rfl
    have e4 : getF ["Line"] "number" (.ref l.p) h = some (.int l.n) := getF_of hl (by decide) rfl
    have e5 : getF ["Line"] "words" (.ref l.p) h = some (.ref l.q) := getF_of hl (by decide) rfl
    obtain ⟨h', e6, H2⟩ := put_four_ok H (q := l.q) (ws := l.ws) (k := l.n.toNat) (List.mem_append_left _ (List.mem_cons_of_mem _ (List.mem_cons_self ..))) hw (by omega)
    have en : ((l.n.toNat : Nat) : Int) = l.n := by omega
    rw [en] at e6
    have hl2 : h'[l.p]? = some (.ins "Line" [("number", .int l.n), ("words", .ref l.q), ("changed", .bl l.ch)]) := H2.get (List.mem_append_right _ (List.mem_cons_self ..))
    have e7 := setF_of (f := "changed") (cs := ["Line"]) (v := .bl false) hl2 (by decide) (by simp only [List.length_cons, List.length_nil]; omega)
    refine ⟨h'.set l.p (.ins "Line" [("number", .int l.n), ("words", .ref l.q), ("changed", .bl false)]), by simp! only [b_Near_write_back, e1, e2, e3, e4, e5, e6, e7]; rfl, ?_⟩
    have ew : wb m l = { m with cells := putAt m.cells (4 * l.n.toNat) l.ws, put := m.put + 1 } := by unfold wb; rw [hc]; rfl
    rw [ew]
    exact Has.upd (A := ({ m with cells := putAt m.cells (4 * l.n.toNat) l.ws, put := m.put + 1 } : Co).objs) (o' := .ins "Line" [("number", .int l.n), ("words", .ref l.q), ("changed", .bl false)]) H2
end
section
variable {h : Sh} {F : List (Nat × SO)} {m : Co}
def four (cells : List Int) (k : Nat) : List Int := (cells.drop (4 * k)).take 4
theorem four_len {cells : List Int} {k : Nat} (hk : 4 * k + 4 ≤ cells.length) : (four cells k).length = 4 := by
  simp only [four, List.length_take, List.length_drop]; omega
theorem four_ok (H : Has h (m.objs ++ F)) {k : Nat} (hk : 4 * k + 4 ≤ m.cells.length) : ∃ h' t, f_Slow_four [.ref m.s, .int k] h = .ok (.ref t) h' ∧ Has h' ((t, SO.tup ((four m.cells k).map .int)) :: ({ m with told := m.told + 1 }.objs ++ F)) := by
  have e1 : findM tb_refuse_no_line "refuse_no_line" (.ref m.s) h = some f_Slow_refuse_no_line := findM_of (Co.slow H) rfl
  have e2 := line_ok H (a := k) (by omega) (by omega)
  have e3 : getF ["Slow"] "lines_told" (.ref m.s) h = some (.int m.told) := getF_of (Co.slow H) (by decide) rfl
  have e4 := setF_of (f := "lines_told") (cs := ["Slow"]) (v := .int (m.told + 1)) (Co.slow H) (by decide) (by simp only [List.length_cons, List.length_nil]; omega)
  have H2 : Has (h.set m.s (.ins "Slow" [("cells", .ref m.c), ("lines_told", .int (m.told + 1)), ("lines_put", .int m.put)])) ({ m with told := m.told + 1 }.objs ++ F) :=
    Has.upd (A := [(m.n, SO.ins "Near" [("slow", .ref m.s), ("sets", .int m.k), ("rooms", .ref m.r)])]) (o' := .ins "Slow" [("cells", .ref m.c), ("lines_told", .int (m.told + 1)), ("lines_put", .int m.put)]) H
  have e4 : setF ["Slow"] "lines_told" (.ref m.s) (.int (m.told + 1)) h = .ok .non (h.set m.s (.ins "Slow" [("cells", .ref m.c), ("lines_told", .int (m.told + 1)), ("lines_put", .int m.put)])) := e4
  generalize hh : h.set m.s (.ins "Slow" [("cells", .ref m.c), ("lines_told", .int (m.told + 1)), ("lines_put", .int m.put)]) = h1 at H2 e4
  have e5 : getF ["Slow"] "cells" (.ref m.s) h1 = some (.ref m.c) := getF_of (Co.slow (m := { m with told := m.told + 1 }) H2) (by decide) rfl
  have e6 : lstW h1 (.ref m.c) = some (m.cells.map .int) := by
    have := Co.cellsAt (m := { m with told := m.told + 1 }) H2
    simp only [lstW, this]
  have e7 : mulOk 4 (k : Int) = true := rfl
  have e8 : cutW (m.cells.map .int) (some (4 * (k : Int))) (some (4 * (k : Int) + 4)) = (four m.cells k).map W.int := by
    have a : ¬ (4 * (k : Int) < 0) := by omega
    have b : ¬ (4 * (k : Int) + 4 < 0) := by omega
    have c : min (4 * (k : Int)).toNat m.cells.length = 4 * k := by omega
    have d : min (4 * (k : Int) + 4).toNat m.cells.length = 4 * k + 4 := by omega
    have f : 4 * k + 4 - 4 * k = 4 := by omega
    simp only [cutW, sIx, a, b, if_false, List.length_map, c, d, f, four, List.map_take, List.map_drop]
  have e9 : lstW (h1 ++ [SO.lst ((four m.cells k).map .int)]) (.ref h1.length) = some ((four m.cells k).map .int) := by
    simp only [lstW, List.getElem?_append_right (Nat.le_refl _), Nat.sub_self, List.getElem?_cons_zero]
  refine ⟨h1 ++ [SO.lst ((four m.cells k).map .int)] ++ [SO.tup ((four m.cells k).map .int)], (h1 ++ [SO.lst ((four m.cells k).map .int)]).length, ?_, (H2.app _).new _⟩
  simp! only [b_Slow_four, e1, e2, e3, e4, dSl, dPart, oSl, e5, e6, e7, e8, bTuple, e9]
theorem line_new_ok {L : List (Nat × SO)} {t : Nat} {ws : List Int} (k : Int) (H : Has h ((t, SO.tup (ws.map .int)) :: L)) : ∃ h', f_Line_init [.ref h.length, .int k, .ref t, .bl false] (h ++ [.ins "Line" []]) = .ok .non h' ∧ Has h' (({ p := h.length, q := h.length + 1, n := k, ws := ws, ch := false } : Ln).objs ++ L) := by
  have H1 := H.new (.ins "Line" [])
  have g1 : (h ++ [SO.ins "Line" []])[h.length]? = some (.ins "Line" []) := H1.get (List.mem_cons_self ..)
  have e1 : setF ["Line"] "number" (.ref h.length) (.int k) (h ++ [SO.ins "Line" []]) = .ok .non ((h ++ [SO.ins "Line" []]).set h.length (.ins "Line" [("number", .int k)])) := setF_of g1 (by decide) (by simp only [List.length_nil]; omega)
  have H2 := H1.set (o' := .ins "Line" [("number", .int k)])
  have l2 : ((h ++ [SO.ins "Line" []]).set h.length (.ins "Line" [("number", .int k)])).length = h.length + 1 := by rw [List.length_set, List.length_append]; rfl
  generalize (h ++ [SO.ins "Line" []]).set h.length (.ins "Line" [("number", .int k)]) = h2 at e1 H2 l2
  have g2 : seqW h2 (.ref t) = some (ws.map .int) := by
    have : h2[t]? = some (.tup (ws.map .int)) := H2.get (List.mem_cons_of_mem _ (List.mem_cons_self ..))
    simp only [seqW, lstW, tupW, this, Option.or]
  have H3 := H2.new (.lst (ws.map .int))
  rw [l2] at H3
  have g3 : (h2 ++ [SO.lst (ws.map .int)])[h.length]? = some (.ins "Line" [("number", .int k)]) := H3.get (List.mem_cons_of_mem _ (List.mem_cons_self ..))
  have e3 : setF ["Line"] "words" (.ref h.length) (.ref (h.length + 1)) (h2 ++ [SO.lst (ws.map .int)]) = .ok .non ((h2 ++ [SO.lst (ws.map .int)]).set h.length (.ins "Line" [("number", .int k), ("words", .ref (h.length + 1))])) := setF_of g3 (by decide) (by simp only [List.length_cons, List.length_nil]; omega)
  have H4 := (H3.perm (List.Perm.swap ..)).set (o' := .ins "Line" [("number", .int k), ("words", .ref (h.length + 1))])
  generalize (h2 ++ [SO.lst (ws.map .int)]).set h.length (.ins "Line" [("number", .int k), ("words", .ref (h.length + 1))]) = h4 at e3 H4
  have g4 : h4[h.length]? = some (.ins "Line" [("number", .int k), ("words", .ref (h.length + 1))]) := H4.get (List.mem_cons_self ..)
  have e4 : setF ["Line"] "changed" (.ref h.length) (.bl false) h4 = .ok .non (h4.set h.length (.ins "Line" [("number", .int k), ("words", .ref (h.length + 1)), ("changed", .bl false)])) := setF_of g4 (by decide) (by simp only [List.length_cons, List.length_nil]; omega)
  refine ⟨h4.set h.length (.ins "Line" [("number", .int k), ("words", .ref (h.length + 1)), ("changed", .bl false)]), ?_, ?_⟩
  · simp! only [b_Line_init, e1, bList, g2, l2, e3, e4]
  · have H5 := H4.set (o' := .ins "Line" [("number", .int k), ("words", .ref (h.length + 1)), ("changed", .bl false)])
    refine Has.tail (i := t) (o := SO.tup (ws.map .int)) (H5.perm ?_)
    exact (List.perm_middle (l₁ := [_, _])).symm.symm
end
theorem Has.sub {h : Sh} {L L' : List (Nat × SO)} (H : Has h L) (s : L'.Sublist L) : Has h L' := ⟨H.1.sublist (s.map _), fun x hx => H.2 x (s.subset hx)⟩
inductive Asked (m : Co) (rm : Rm) (k : Nat) : Co → Rm → Ln → Prop
  | found (xs : List Ln) (l : Ln) (ys : List Ln) (e : rm.ls = xs ++ l :: ys) (n : l.n = k) : Asked m rm k m { rm with ls := l :: (xs ++ ys) } l
  | room (l : Ln) (no : ∀ x ∈ rm.ls, x.n ≠ k) (len : rm.ls.length < 2) (n : l.n = k) (ws : l.ws = four m.cells k) (ch : l.ch = false) : Asked m rm k { m with told := m.told + 1 } { rm with ls := l :: rm.ls } l
  | full (x z l : Ln) (e : rm.ls = [x, z]) (no : ∀ x ∈ rm.ls, x.n ≠ k) (n : l.n = k) (ws : l.ws = four (wb m z).cells k) (ch : l.ch = false) : Asked m rm k { wb m z with told := (wb m z).told + 1 } { rm with ls := [l, x] } l
theorem sSeq_nx {a b : DS} {s s' : Sg} {h h' : Sh} (e : a s h = .nx s' h') : sSeq a b s h = b s' h' := by unfold sSeq; rw [e]
theorem fn_rt {p n : Nat} {b : DS} {vs : List W} {h h' : Sh} {v : W} (hp : vs.length = p) (e : b (start n vs) h = .rt v h') : fnOf p n b vs h = .ok v h' := by simp only [fnOf, hp, if_true, e]
theorem fn_nx {p n : Nat} {b : DS} {vs : List W} {h h' : Sh} {s' : Sg} (hp : vs.length = p) (e : b (start n vs) h = .nx s' h') : fnOf p n b vs h = .ok .non h' := by simp only [fnOf, hp, if_true, e]
section
variable {h : Sh} {F : List (Nat × SO)} {m : Co}
theorem insert_ok {A B : List (Nat × SO)} {p : Nat} {ys : List W} {s : Sg} {y : W} (H : Has h (A ++ (p, SO.lst ys) :: B)) (h2 : s[2]? = some (some (.ref p))) (h3 : s[3]? = some (some y)) (hl : ys.length < LIM) :
    sDrop (dMt isLst mInsert (dVar 2) (dCons (dC (.int 0)) (dCons (dVar 3) dNil))) s h = .nx s (h.set p (.lst (y :: ys))) := by
  have g : h[p]? = some (.lst ys) := H.get (List.mem_append_right _ (List.mem_cons_self ..))
  simp! only [dMt, h2, h3, isLst, lstW, g, Option.isSome_some, mInsert, hl]
theorem fetch_ok (H : Has h (m.objs ++ F)) (k : Nat) (hk : 4 * k + 4 ≤ m.cells.length) (y2 y3 : Option W) : ∃ (h' : Sh) (l : Ln), sSet 3 (dNew "Line" f_Line_init [] (dCons (dVar 1) (dCons (dMeth tb_four "four" (dFld ["Near"] "slow" (dVar 0)) (dCons (dVar 1) dNil)) (dCons (dC (.bl false)) dNil)))) [some (.ref m.n), some (.int k), y2, y3] h = .nx [some (.ref m.n), some (.int k), y2, some (.ref l.p)] h' ∧ Has h' ({ m with told := m.told + 1 }.objs ++ (l.objs ++ F)) ∧ l.n = k ∧ l.ws = four m.cells k ∧ l.ch = false := by
  have e1 : getF ["Near"] "slow" (.ref m.n) h = some (.ref m.s) := getF_of (Co.near H) (by decide) rfl
  have e2 : findM tb_four "four" (.ref m.s) h = some f_Slow_four := findM_of (Co.slow H) rfl
  obtain ⟨h1, t, e3, H1⟩ := four_ok H hk
  obtain ⟨h2, e4, H2⟩ := line_new_ok (k : Int) H1
  refine ⟨h2, { p := h1.length, q := h1.length + 1, n := k, ws := four m.cells k, ch := false }, ?_, H2.perm ?_, rfl, rfl, rfl⟩
  · simp! only [e1, e2, e3, List.append_nil, e4]
  · rw [← List.append_assoc, ← List.append_assoc]
    exact List.Perm.append_right _ List.perm_append_comm
theorem asked_ok {ps : List Nat} {rm : Rm} (H : Has h (m.objs ++ ((m.r, SO.lst (ps.map .ref)) :: (rm.objs ++ F)))) (hk : 0 < m.k) (k : Nat) (hp : ps[((k : Int) % m.k).toNat]? = some rm.p) (hl : 4 * k + 4 ≤ m.cells.length) (h2 : rm.ls.length ≤ 2) (hw : ∀ l ∈ rm.ls, l.ws.length = 4 ∧ 0 ≤ l.n ∧ 4 * l.n + 4 ≤ m.cells.length) :
    ∃ h' m' rm' l, f_Near_asked [.ref m.n, .int k] h = .ok (.ref l.p) h' ∧ Has h' (m'.objs ++ ((m.r, SO.lst (ps.map .ref)) :: (rm'.objs ++ F))) ∧ Asked m rm k m' rm' l := by
  have e1 : findM tb_room_of "room_of" (.ref m.n) h = some f_Near_room_of := findM_of (Co.near H) rfl
  have e2 := room_ok H (List.mem_cons_self ..) hk k hp
  have e3 : findM tb_found "found" (.ref m.n) h = some f_Near_found := findM_of (Co.near H) rfl
  have e4 := found_ok H (List.mem_cons_self ..) hk k hp (fun x hx => List.mem_cons_of_mem _ (List.mem_append_left _ hx))
  have g1 : h[rm.p]? = some (.lst (rm.ls.map fun l => .ref l.p)) := H.get (List.mem_append_right _ (List.mem_cons_of_mem _ (List.mem_cons_self ..)))
  have lim : (2 : Nat) < LIM := by decide
  have s1 : sSet 2 (dMeth tb_room_of "room_of" (dVar 0) (dCons (dVar 1) dNil)) (start 4 [.ref m.n, .int k]) h = .nx [some (.ref m.n), some (.int k), some (.ref rm.p), none] h := by simp! only [e1, e2]
  cases f : rm.ls.find? (fun l => decide (l.n = (k : Int))) with
  | some l =>
    rw [f] at e4
    obtain ⟨fn, xs, ys, es, _⟩ := List.find?_eq_some_iff_append.mp f
    have fn : l.n = k := of_decide_eq_true fn
    have pm : rm.ls.Perm (l :: (xs ++ ys)) := by rw [es]; exact List.perm_middle
    have pf : (rm.ls.flatMap Ln.objs).Perm (l.objs ++ (xs ++ ys).flatMap Ln.objs) := List.Perm.flatMap_right _ pm
    have ne : W.ref l.p ∉ xs.map fun (l : Ln) => W.ref l.p := by
      intro mm
      obtain ⟨x, hx, ex⟩ := List.mem_map.mp mm
      have H' : Has h (l.objs ++ (xs ++ ys).flatMap Ln.objs) := by
        have := H.sub (L' := rm.ls.flatMap Ln.objs) (((List.sublist_append_left _ _).trans ((List.sublist_cons_self _ _).trans (List.Sublist.refl (rm.objs ++ F)))).trans ((List.sublist_cons_self _ _).trans (List.sublist_append_right _ _)))
        exact this.perm pf
      have := H'.ne (j := x.p) (List.mem_cons_of_mem _ (List.mem_flatMap.mpr ⟨x, List.mem_append_left _ hx, List.mem_cons_self ..⟩))
      injection ex with ex
      exact this ex.symm
    have er : (rm.ls.map fun (l : Ln) => W.ref l.p).erase (.ref l.p) = (xs ++ ys).map fun (l : Ln) => W.ref l.p := by
      rw [es, List.map_append, List.map_cons, List.erase_append_right _ ne, List.erase_cons_head, List.map_append]
    have ai : (rm.ls.map fun (l : Ln) => W.ref l.p).all (insW "Line" h) = true := by
      rw [List.all_eq_true]
      intro w hw
      obtain ⟨x, hx, rfl⟩ := List.mem_map.mp hw
      have : h[x.p]? = some (.ins "Line" [("number", .int x.n), ("words", .ref x.q), ("changed", .bl x.ch)]) := H.get (List.mem_append_right _ (List.mem_cons_of_mem _ (List.mem_append_left _ (List.mem_cons_of_mem _ (List.mem_flatMap.mpr ⟨x, hx, List.mem_cons_self ..⟩)))))
      simp only [insW, this, beq_self_eq_true]
    have mi : W.ref l.p ∈ rm.ls.map fun (l : Ln) => W.ref l.p := by
      rw [es]; exact List.mem_map.mpr ⟨l, List.mem_append_right _ (List.mem_cons_self ..), rfl⟩
    have H1 : Has (h.set rm.p (.lst ((xs ++ ys).map fun (l : Ln) => W.ref l.p))) ((m.objs ++ [(m.r, SO.lst (ps.map .ref))]) ++ (rm.p, SO.lst ((xs ++ ys).map fun (l : Ln) => W.ref l.p)) :: (rm.ls.flatMap Ln.objs ++ F)) := by
      have := Has.upd (h := h) (A := m.objs ++ [(m.r, SO.lst (ps.map .ref))]) (i := rm.p) (o := .lst (rm.ls.map fun (l : Ln) => W.ref l.p)) (B := rm.ls.flatMap Ln.objs ++ F) (o' := .lst ((xs ++ ys).map fun (l : Ln) => W.ref l.p)) (by rw [List.append_assoc]; exact H)
      exact this
    have H2 := H1.upd (o' := .lst ((l :: (xs ++ ys)).map fun (l : Ln) => W.ref l.p))
    have len : ((xs ++ ys).map fun (l : Ln) => W.ref l.p).length < LIM := by
      have := pm.length_eq
      rw [List.length_map]
      simp only [List.length_cons] at this
      omega
    have e5 := insert_ok (s := [some (.ref m.n), some (.int k), some (.ref rm.p), some (.ref l.p)]) (y := .ref l.p) H1 rfl rfl len
    refine ⟨((h.set rm.p (.lst ((xs ++ ys).map fun (l : Ln) => W.ref l.p))).set rm.p (.lst ((l :: (xs ++ ys)).map fun (l : Ln) => W.ref l.p))), m, { rm with ls := l :: (xs ++ ys) }, l, fn_rt rfl ?_, ?_, Asked.found xs l ys es fn⟩
    · unfold b_Near_asked
      rw [sSeq_nx s1, sSeq_nx (s' := [some (.ref m.n), some (.int k), some (.ref rm.p), some (.ref l.p)]) (h' := h) (by simp! only [e3, e4, refOf])]
      rw [sSeq_nx (s' := [some (.ref m.n), some (.int k), some (.ref rm.p), some (.ref l.p)]) (h' := h.set rm.p (.lst ((xs ++ ys).map fun (l : Ln) => W.ref l.p))) (by simp! only [oIsNot, dMt, isLst, lstW, g1, Option.isSome_some, mRemove, ai, mi, true_and, er, and_self])]
      rw [sSeq_nx e5]
      rfl
    · refine H2.perm ?_
      rw [List.append_assoc]
      refine List.Perm.append_left _ (List.Perm.cons _ ?_)
      refine List.Perm.cons _ ?_
      exact List.Perm.append_right _ pf
  | none =>
    rw [f] at e4
    have no : ∀ x ∈ rm.ls, x.n ≠ (k : Int) := by
      intro x hx e
      have := List.find?_eq_none.mp f x hx
      exact this (decide_eq_true e)
    have s2 : sSet 3 (dMeth tb_found "found" (dVar 0) (dCons (dVar 1) dNil)) [some (.ref m.n), some (.int k), some (.ref rm.p), none] h = .nx [some (.ref m.n), some (.int k), some (.ref rm.p), some .non] h := by simp! only [e3, e4, refOf]
    have sl : seqW h (.ref rm.p) = some (rm.ls.map fun l => .ref l.p) := by simp only [seqW, lstW, g1, Option.or]
    by_cases hf : rm.ls.length = 2
    · obtain ⟨x, z, es⟩ : ∃ x z, rm.ls = [x, z] := by
        match hh : rm.ls, hf with
        | [x, z], _ => exact ⟨x, z, rfl⟩
      have ew : findM tb_write_back "write_back" (.ref m.n) h = some f_Near_write_back := findM_of (Co.near H) rfl
      have H1 : Has (h.set rm.p (.lst [W.ref x.p])) ((m.objs ++ [(m.r, SO.lst (ps.map .ref))]) ++ (rm.p, SO.lst [W.ref x.p]) :: (rm.ls.flatMap Ln.objs ++ F)) :=
        Has.upd (h := h) (A := m.objs ++ [(m.r, SO.lst (ps.map .ref))]) (i := rm.p) (o := .lst (rm.ls.map fun (l : Ln) => W.ref l.p)) (B := rm.ls.flatMap Ln.objs ++ F) (o' := .lst [W.ref x.p]) (by rw [List.append_assoc]; exact H)
      have H1' : Has (h.set rm.p (.lst [W.ref x.p])) (m.objs ++ (z.objs ++ ((m.r, SO.lst (ps.map .ref)) :: (rm.p, SO.lst [W.ref x.p]) :: (x.objs ++ F)))) := by
        refine H1.perm ?_
        rw [es, List.append_assoc]
        refine List.Perm.append_left _ ?_
        refine (List.perm_append_comm (l₁ := z.objs)).trans ?_ |>.symm
        refine List.Perm.cons _ (List.Perm.cons _ ?_)
        show (x.objs ++ F ++ z.objs).Perm ([x, z].flatMap Ln.objs ++ F)
        simp only [List.flatMap_cons, List.flatMap_nil, List.append_nil, List.append_assoc]
        exact List.Perm.append_left _ List.perm_append_comm
      obtain ⟨wz, nz, kz⟩ := hw z (by rw [es]; exact List.mem_cons_of_mem _ (List.mem_cons_self ..))
      obtain ⟨h1, e5, H2⟩ := write_back_ok H1' wz nz kz
      have H2' : Has h1 ((wb m z).objs ++ ((m.r, SO.lst (ps.map .ref)) :: (rm.p, SO.lst [W.ref x.p]) :: (x.objs ++ F))) := H2.sub (List.Sublist.append_left (List.sublist_append_right _ _) _)
      have wn : (wb m z).n = m.n := by unfold wb; split <;> rfl
      have wl : (wb m z).cells.length = m.cells.length := by unfold wb; split <;> simp only [putAt_len]
      obtain ⟨h2', l, e6, H3, ln, lw, lc⟩ := fetch_ok H2' k (by rw [wl]; exact hl) (some (.ref rm.p)) (some .non)
      rw [wn] at e6
      have H4 : Has h2' ((({ wb m z with told := (wb m z).told + 1 } : Co).objs ++ (l.objs ++ [(m.r, SO.lst (ps.map .ref))])) ++ (rm.p, SO.lst [W.ref x.p]) :: (x.objs ++ F)) := by
        simp only [List.append_assoc]; exact H3
      have e7 := insert_ok (s := [some (.ref m.n), some (.int k), some (.ref rm.p), some (.ref l.p)]) (y := .ref l.p) H4 rfl rfl (by show 1 < LIM; decide)
      have H5 := H4.upd (o' := .lst [W.ref l.p, W.ref x.p])
      refine ⟨h2'.set rm.p (.lst [W.ref l.p, W.ref x.p]), _, { rm with ls := [l, x] }, l, fn_rt rfl ?_, ?_, Asked.full x z l es no ln lw lc⟩
      · unfold b_Near_asked
        rw [sSeq_nx s1, sSeq_nx s2]
        rw [sSeq_nx (s' := [some (.ref m.n), some (.int k), some (.ref rm.p), some (.ref l.p)]) (h' := h2') ?_]
        · rw [sSeq_nx e7]
          rfl
        · have t1 : sSeq (sIf (dT (dOp oEq (dB bLen (dCons (dVar 2) dNil)) (dC (.int 2)))) (sDrop (dMeth tb_write_back "write_back" (dVar 0) (dCons (dMt0 isLst mPop (dVar 2)) dNil))) sNx) (sSet 3 (dNew "Line" f_Line_init [] (dCons (dVar 1) (dCons (dMeth tb_four "four" (dFld ["Near"] "slow" (dVar 0)) (dCons (dVar 1) dNil)) (dCons (dC (.bl false)) dNil))))) [some (.ref m.n), some (.int k), some (.ref rm.p), some .non] h = .nx [some (.ref m.n), some (.int k), some (.ref rm.p), some (.ref l.p)] h2' := by
            refine (sSeq_nx (s' := [some (.ref m.n), some (.int k), some (.ref rm.p), some .non]) (h' := h1) ?_).trans e6
            rw [es] at g1 sl
            simp! only [bLen, sl, oEq, eqH, ew, dMt0, isLst, lstW, g1, Option.isSome_some, mPop, List.dropLast, e5, Int.ofNat_eq_coe, show (((0 + 1 + 1 : Nat) : Int) = 2) from rfl]
          simp only [sIf, dT, dOp, dVar, dC, List.getElem?_cons_succ, List.getElem?_cons_zero, R.bind, oIsNot, OR.fin, truW, decide_true, Bool.not_true, Bool.false_eq_true, if_false]
          exact t1
      · refine H5.perm ?_
        simp only [List.append_assoc]
        refine List.Perm.append_left _ ?_
        show (l.objs ++ ((m.r, SO.lst (ps.map .ref)) :: (rm.p, SO.lst [W.ref l.p, W.ref x.p]) :: (x.objs ++ F))).Perm ((m.r, SO.lst (ps.map .ref)) :: (rm.p, SO.lst [W.ref l.p, W.ref x.p]) :: ([l, x].flatMap Ln.objs ++ F))
        simp only [List.flatMap_cons, List.flatMap_nil, List.append_nil, List.append_assoc]
        exact (List.perm_middle).trans (List.Perm.cons _ (List.perm_middle))
    · have hf' : rm.ls.length < 2 := by omega
      obtain ⟨h2', l, e6, H3, ln, lw, lc⟩ := fetch_ok H k hl (some (.ref rm.p)) (some .non)
      have H4 : Has h2' ((({ m with told := m.told + 1 } : Co).objs ++ (l.objs ++ [(m.r, SO.lst (ps.map .ref))])) ++ (rm.p, SO.lst (rm.ls.map fun (l : Ln) => W.ref l.p)) :: (rm.ls.flatMap Ln.objs ++ F)) := by
        simp only [List.append_assoc]; exact H3
      have e7 := insert_ok (s := [some (.ref m.n), some (.int k), some (.ref rm.p), some (.ref l.p)]) (y := .ref l.p) H4 rfl rfl (by rw [List.length_map]; omega)
      have H5 := H4.upd (o' := .lst ((l :: rm.ls).map fun (l : Ln) => W.ref l.p))
      refine ⟨h2'.set rm.p (.lst ((l :: rm.ls).map fun (l : Ln) => W.ref l.p)), _, { rm with ls := l :: rm.ls }, l, fn_rt rfl ?_, ?_, Asked.room l no hf' ln lw lc⟩
      · unfold b_Near_asked
        rw [sSeq_nx s1, sSeq_nx s2]
        rw [sSeq_nx (s' := [some (.ref m.n), some (.int k), some (.ref rm.p), some (.ref l.p)]) (h' := h2') ?_]
        · rw [sSeq_nx e7]
          rfl
        · have hi : ¬ ((rm.ls.length : Int) = 2) := by omega
          have t1 : sSeq (sIf (dT (dOp oEq (dB bLen (dCons (dVar 2) dNil)) (dC (.int 2)))) (sDrop (dMeth tb_write_back "write_back" (dVar 0) (dCons (dMt0 isLst mPop (dVar 2)) dNil))) sNx) (sSet 3 (dNew "Line" f_Line_init [] (dCons (dVar 1) (dCons (dMeth tb_four "four" (dFld ["Near"] "slow" (dVar 0)) (dCons (dVar 1) dNil)) (dCons (dC (.bl false)) dNil))))) [some (.ref m.n), some (.int k), some (.ref rm.p), some .non] h = .nx [some (.ref m.n), some (.int k), some (.ref rm.p), some (.ref l.p)] h2' := by
            refine (sSeq_nx (s' := [some (.ref m.n), some (.int k), some (.ref rm.p), some .non]) (h' := h) ?_).trans e6
            simp! only [bLen, sl, oEq, eqH, List.length_map, hi]
          simp only [sIf, dT, dOp, dVar, dC, List.getElem?_cons_succ, List.getElem?_cons_zero, R.bind, oIsNot, OR.fin, truW, decide_true, Bool.not_true, Bool.false_eq_true, if_false]
          exact t1
      · refine H5.perm ?_
        simp only [List.append_assoc]
        refine List.Perm.append_left _ ?_
        show (l.objs ++ ((m.r, SO.lst (ps.map .ref)) :: (rm.p, SO.lst ((l :: rm.ls).map fun (l : Ln) => W.ref l.p)) :: (rm.ls.flatMap Ln.objs ++ F))).Perm ((m.r, SO.lst (ps.map .ref)) :: (rm.p, SO.lst ((l :: rm.ls).map fun (l : Ln) => W.ref l.p)) :: ((l :: rm.ls).flatMap Ln.objs ++ F))
        simp only [List.flatMap_cons, List.append_assoc]
        exact (List.perm_middle).trans (List.Perm.cons _ (List.perm_middle))
end
theorem four_putAt_aux (ws : List Int) : ∀ (cells : List Int) (i j : Nat), i + ws.length ≤ cells.length → (putAt cells i ws)[j]? = if i ≤ j ∧ j < i + ws.length then ws[j - i]? else cells[j]? := by
  induction ws with
  | nil => intro cells i j _; rw [putAt, if_neg (by simp only [List.length_nil]; omega)]
  | cons w ws ih =>
    intro cells i j hl
    rw [List.length_cons] at hl
    rw [putAt, ih _ _ _ (by rw [List.length_set]; omega), List.getElem?_set, List.length_cons]
    by_cases e : j = i
    · subst e
      have : j < cells.length := by omega
      rw [if_neg (by omega), if_pos rfl, if_pos this, if_pos (by omega), Nat.sub_self]; rfl
    · by_cases h1 : i + 1 ≤ j ∧ j < i + 1 + ws.length
      · rw [if_pos h1, if_pos (by omega)]
        obtain ⟨d, hd⟩ : ∃ d, j - i = d + 1 := ⟨j - i - 1, by omega⟩
        rw [hd, List.getElem?_cons_succ, show j - (i + 1) = d by omega]
      · rw [if_neg h1, if_neg (by omega), if_neg (by omega)]
theorem four_get (cells : List Int) (k j : Nat) : (four cells k)[j]? = if j < 4 then cells[4 * k + j]? else none := by
  unfold four
  rw [List.getElem?_take, List.getElem?_drop]
theorem four_putAt {cells ws : List Int} {e : Nat} (hw : ws.length = 4) (hl : 4 * e + 4 ≤ cells.length) (k : Nat) : four (putAt cells (4 * e) ws) k = if k = e then ws else four cells k := by
  apply List.ext_getElem?
  intro j
  rw [four_get]
  by_cases hk : k = e
  · subst hk
    rw [if_pos rfl]
    by_cases hj : j < 4
    · rw [if_pos hj, four_putAt_aux _ _ _ _ (by omega), if_pos (by omega), show 4 * k + j - 4 * k = j by omega]
    · rw [if_neg hj, List.getElem?_eq_none (by omega)]
  · rw [if_neg hk, four_get]
    by_cases hj : j < 4
    · rw [if_pos hj, if_pos hj, four_putAt_aux _ _ _ _ (by omega), if_neg (by omega)]
    · rw [if_neg hj, if_neg hj]
theorem four_set {cells : List Int} {a : Nat} {w : Int} (k : Nat) : four (cells.set a w) k = if k = a / 4 then (four cells k).set (a % 4) w else four cells k := by
  apply List.ext_getElem?
  intro j
  rw [four_get, List.getElem?_set]
  by_cases hk : k = a / 4
  · rw [if_pos hk, List.getElem?_set, four_get]
    by_cases hj : j < 4
    · rw [if_pos hj]
      by_cases e : a = 4 * k + j
      · have e' : a % 4 = j := by omega
        rw [if_pos e, if_pos e']
        by_cases hl : a < cells.length
        · rw [if_pos hl]
          have : a % 4 < (four cells k).length := by simp only [four, List.length_take, List.length_drop]; omega
          rw [if_pos this]
        · rw [if_neg hl]
          have : ¬ a % 4 < (four cells k).length := by simp only [four, List.length_take, List.length_drop]; omega
          rw [if_neg this]
      · have e' : ¬ a % 4 = j := by omega
        rw [if_neg e, if_neg e', if_pos hj]
    · have e' : ¬ a % 4 = j := by omega
      rw [if_neg hj, if_neg e', if_neg hj]
  · rw [if_neg hk, four_get]
    by_cases hj : j < 4
    · have : ¬ a = 4 * k + j := by omega
      rw [if_pos hj, if_pos hj, if_neg this]
    · rw [if_neg hj, if_neg hj]
theorem four_ext {c d : List Int} (hl : c.length = d.length) (h4 : c.length % 4 = 0) (h : ∀ k, 4 * k + 4 ≤ c.length → four c k = four d k) : c = d := by
  apply List.ext_getElem?
  intro j
  by_cases hj : j < c.length
  · have := h (j / 4) (by omega)
    have e := congrArg (fun l => l[j % 4]?) this
    simp only [four_get] at e
    rw [if_pos (by omega), if_pos (by omega), show 4 * (j / 4) + j % 4 = j by omega] at e
    exact e
  · rw [List.getElem?_eq_none (by omega), List.getElem?_eq_none (by omega)]
structure RoomOk (c : List Int) (kk j : Nat) (r : Rm) : Prop where
  two : r.ls.length ≤ 2
  nd : (r.ls.map Ln.n).Nodup
  len : ∀ l ∈ r.ls, l.ws.length = 4
  pos : ∀ l ∈ r.ls, 0 ≤ l.n
  lt : ∀ l ∈ r.ls, 4 * l.n + 4 ≤ c.length
  mine : ∀ l ∈ r.ls, (l.n % kk).toNat = j
  same : ∀ l ∈ r.ls, l.ch = false → l.ws = four c l.n.toNat
structure WF (m : Co) (rs : List Rm) : Prop where
  k0 : 0 < m.k
  len : rs.length = m.k
  c4 : m.cells.length % 4 = 0
  ok : ∀ j r, rs[j]? = some r → RoomOk m.cells m.k j r
def inRoom (k : Nat) (r : Rm) : Option (List Int) := (r.ls.find? (fun l => decide (l.n = (k : Int)))).map Ln.ws
def lineOf (c : List Int) (rs : List Rm) (kk k : Nat) : List Int := ((rs[k % kk]?).bind (inRoom k)).getD (four c k)
theorem find_perm {p : Ln → Bool} {xs ys : List Ln} {l : Ln} (h : p l = false) : (xs ++ l :: ys).find? p = (xs ++ ys).find? p := by
  rw [List.find?_append, List.find?_cons, h, List.find?_append]
theorem inRoom_none {k : Nat} {r : Rm} (h : ∀ l ∈ r.ls, l.n ≠ (k : Int)) : inRoom k r = none := by
  unfold inRoom
  rw [List.find?_eq_none.mpr (fun x hx => by rw [decide_eq_false (h x hx)]; exact Bool.false_ne_true)]
  rfl
theorem inRoom_some {k : Nat} {r : Rm} {l : Ln} (nd : (r.ls.map Ln.n).Nodup) (hl : l ∈ r.ls) (h : l.n = (k : Int)) : inRoom k r = some l.ws := by
  unfold inRoom
  have : r.ls.find? (fun l => decide (l.n = (k : Int))) = some l := by
    obtain ⟨xs, ys, e⟩ := List.append_of_mem hl
    rw [e] at nd ⊢
    rw [List.map_append, List.map_cons] at nd
    rw [List.find?_append, List.find?_eq_none.mpr ?_, List.find?_cons, decide_eq_true h]
    · rfl
    · intro x hx
      have := (List.nodup_append.mp nd).2.2 x.n (List.mem_map.mpr ⟨x, hx, rfl⟩) l.n (List.mem_cons_self ..)
      rw [decide_eq_false (by rw [← h]; exact this)]; exact Bool.false_ne_true
  rw [this]; rfl
structure Wrote (c c' : List Int) (e : Nat) (ws : List Int) : Prop where
  len : c'.length = c.length
  here : four c' e = ws
  else_ : ∀ k, k ≠ e → four c' k = four c k
theorem wb_wrote {m : Co} {l : Ln} (hw : l.ws.length = 4) (h0 : 0 ≤ l.n) (hl : 4 * l.n + 4 ≤ m.cells.length) (hs : l.ch = false → l.ws = four m.cells l.n.toNat) : Wrote m.cells (wb m l).cells l.n.toNat l.ws := by
  unfold wb
  cases hc : l.ch with
  | true =>
    rw [if_pos rfl]
    have e := four_putAt (cells := m.cells) (e := l.n.toNat) hw (by omega)
    refine ⟨putAt_len _ _ _, ?_, fun k hk => ?_⟩
    · show four (putAt m.cells (4 * l.n.toNat) l.ws) l.n.toNat = _
      rw [e, if_pos rfl]
    · show four (putAt m.cells (4 * l.n.toNat) l.ws) k = _
      rw [e, if_neg hk]
  | false => rw [if_neg Bool.false_ne_true]; exact ⟨rfl, (hs hc).symm, fun _ _ => rfl⟩
theorem RoomOk.wrote {c c' : List Int} {kk j e : Nat} {ws : List Int} {r : Rm} (R : RoomOk c kk j r) (W : Wrote c c' e ws) (ne : ∀ l ∈ r.ls, l.n.toNat = e → l.ws = ws) : RoomOk c' kk j r where
  two := R.two
  nd := R.nd
  len := R.len
  pos := R.pos
  lt := by rw [W.len]; exact R.lt
  mine := R.mine
  same l hl hc := by
    by_cases h : l.n.toNat = e
    · rw [h, W.here]; exact ne l hl h
    · rw [W.else_ _ h]; exact R.same l hl hc
theorem set_get {rs : List Rm} {i j : Nat} {r : Rm} (hi : i < rs.length) : (rs.set i r)[j]? = if j = i then some r else rs[j]? := by
  rw [List.getElem?_set]
  by_cases h : i = j
  · rw [if_pos h, if_pos h.symm, if_pos hi]
  · rw [if_neg h, if_neg (fun e => h e.symm)]
theorem intmod {k kk : Nat} : ((k : Int) % (kk : Int)).toNat = k % kk := by omega
theorem mod_lt {m : Co} {rs : List Rm} (W : WF m rs) (k : Nat) : k % m.k < rs.length := by rw [W.len]; exact Nat.mod_lt _ W.k0
structure Kept (m : Co) (rs : List Rm) (m' : Co) (rs' : List Rm) : Prop where
  wf : WF m' rs'
  n : m'.n = m.n
  s : m'.s = m.s
  c : m'.c = m.c
  r : m'.r = m.r
  k : m'.k = m.k
  cl : m'.cells.length = m.cells.length
  ps : rs'.map Rm.p = rs.map Rm.p
theorem map_set_p {rs : List Rm} {i : Nat} {r r' : Rm} (h : rs[i]? = some r) (e : r'.p = r.p) : (rs.set i r').map Rm.p = rs.map Rm.p := by
  rw [List.map_set]
  apply List.ext_getElem?
  intro j
  rw [List.getElem?_set]
  by_cases hj : i = j
  · subst hj
    have lt := (List.getElem?_eq_some_iff.mp h).1
    rw [if_pos rfl, if_pos (by rw [List.length_map]; exact lt), List.getElem?_map, h, e]; rfl
  · rw [if_neg hj]
theorem lineOf_set {c : List Int} {rs : List Rm} {kk k i : Nat} {r : Rm} (hi : i < rs.length) : lineOf c (rs.set i r) kk k = if k % kk = i then (inRoom k r).getD (four c k) else lineOf c rs kk k := by
  unfold lineOf
  rw [set_get hi]
  by_cases h : k % kk = i
  · rw [if_pos h, if_pos h]; rfl
  · rw [if_neg h, if_neg h]
theorem lineOf_at {c : List Int} {rs : List Rm} {kk k : Nat} {r : Rm} (h : rs[k % kk]? = some r) : lineOf c rs kk k = (inRoom k r).getD (four c k) := by
  unfold lineOf; rw [h]; rfl
theorem RoomOk.perm {c : List Int} {kk j : Nat} {r r' : Rm} (R : RoomOk c kk j r) (p : r'.ls.Perm r.ls) : RoomOk c kk j r' where
  two := by rw [p.length_eq]; exact R.two
  nd := (p.map _).nodup_iff.mpr R.nd
  len l hl := R.len l (p.subset hl)
  pos l hl := R.pos l (p.subset hl)
  lt l hl := R.lt l (p.subset hl)
  mine l hl := R.mine l (p.subset hl)
  same l hl := R.same l (p.subset hl)
theorem inRoom_perm {k : Nat} {r r' : Rm} (nd : (r.ls.map Ln.n).Nodup) (p : r'.ls.Perm r.ls) : inRoom k r' = inRoom k r := by
  by_cases h : ∃ l ∈ r.ls, l.n = (k : Int)
  · obtain ⟨l, hl, e⟩ := h
    rw [inRoom_some nd hl e, inRoom_some ((p.map _).nodup_iff.mpr nd) (p.symm.subset hl) e]
  · rw [inRoom_none (fun l hl e => h ⟨l, hl, e⟩), inRoom_none (fun l hl e => h ⟨l, p.subset hl, e⟩)]
theorem asked_model {m m' : Co} {rs : List Rm} {rm rm' : Rm} {l : Ln} {k : Nat} (W : WF m rs) (hr : rs[k % m.k]? = some rm) (hk : 4 * k + 4 ≤ m.cells.length) (A : Asked m rm k m' rm' l) :
    Kept m rs m' (rs.set (k % m.k) rm') ∧ (∃ rest, rm'.ls = l :: rest) ∧ rm'.p = rm.p ∧ l.n = k ∧ l.ws = lineOf m.cells rs m.k k ∧ ∀ k', lineOf m'.cells (rs.set (k % m.k) rm') m.k k' = lineOf m.cells rs m.k k' := by
  have R := W.ok _ _ hr
  have lt := mod_lt W k
  cases A with
  | found xs l ys e n =>
    have pm : (l :: (xs ++ ys)).Perm rm.ls := by rw [e]; exact List.perm_middle.symm
    have R' : RoomOk m.cells m.k (k % m.k) { rm with ls := l :: (xs ++ ys) } := R.perm pm
    refine ⟨⟨⟨W.k0, by rw [List.length_set]; exact W.len, W.c4, fun j r hj => ?_⟩, rfl, rfl, rfl, rfl, rfl, rfl, map_set_p hr rfl⟩, ⟨_, rfl⟩, rfl, n, ?_, fun k' => ?_⟩
    · rw [set_get lt] at hj
      split at hj
      · rename_i e; cases hj; rw [e]; exact R'
      · exact W.ok j r hj
    · rw [lineOf_at hr, inRoom_some R.nd (by rw [e]; exact List.mem_append_right _ (List.mem_cons_self ..)) n]; rfl
    · rw [lineOf_set lt]
      split
      · rename_i e'
        rw [lineOf_at (by rw [e']; exact hr), inRoom_perm R.nd pm]
      · rfl
  | room l no len n ws ch =>
    have R' : RoomOk m.cells m.k (k % m.k) { rm with ls := l :: rm.ls } := by
      refine ⟨by show rm.ls.length + 1 ≤ 2; omega, List.nodup_cons.mpr ⟨?_, R.nd⟩, ?_, ?_, ?_, ?_, ?_⟩
      · intro mm
        obtain ⟨x, hx, ex⟩ := List.mem_map.mp mm
        exact no x hx (ex.trans n)
      · intro x hx
        rcases List.mem_cons.mp hx with rfl | hx
        · rw [ws]; exact four_len hk
        · exact R.len x hx
      · intro x hx
        rcases List.mem_cons.mp hx with rfl | hx
        · omega
        · exact R.pos x hx
      · intro x hx
        rcases List.mem_cons.mp hx with rfl | hx
        · omega
        · exact R.lt x hx
      · intro x hx
        rcases List.mem_cons.mp hx with rfl | hx
        · rw [n]; exact intmod
        · exact R.mine x hx
      · intro x hx hc
        rcases List.mem_cons.mp hx with rfl | hx
        · rw [ws, n]; rfl
        · exact R.same x hx hc
    refine ⟨⟨⟨W.k0, by rw [List.length_set]; exact W.len, W.c4, fun j r hj => ?_⟩, rfl, rfl, rfl, rfl, rfl, rfl, map_set_p hr rfl⟩, ⟨_, rfl⟩, rfl, n, ?_, fun k' => ?_⟩
    · rw [set_get lt] at hj
      split at hj
      · rename_i e; cases hj; rw [e]; exact R'
      · exact W.ok j r hj
    · rw [lineOf_at hr, inRoom_none no]; exact ws
    · rw [lineOf_set lt]
      split
      · rename_i e'
        rw [lineOf_at (by rw [e']; exact hr)]
        by_cases hkk : k' = k
        · subst hkk
          rw [inRoom_some (r := { rm with ls := l :: rm.ls }) R'.nd (List.mem_cons_self ..) n, inRoom_none no, ws]; rfl
        · have : inRoom k' { rm with ls := l :: rm.ls } = inRoom k' rm := by
            unfold inRoom
            rw [List.find?_cons, decide_eq_false (by rw [n]; omega)]
          rw [this]
      · rfl
  | full x z l e no n ws ch =>
    have hx : x ∈ rm.ls := by rw [e]; exact List.mem_cons_self ..
    have hz : z ∈ rm.ls := by rw [e]; exact List.mem_cons_of_mem _ (List.mem_cons_self ..)
    have xz : x.n ≠ z.n := by
      have := R.nd
      rw [e] at this
      intro h
      simp only [List.map_cons, List.map_nil, List.nodup_cons, List.mem_singleton] at this
      exact this.1 h
    have Wr := wb_wrote (m := m) (R.len z hz) (R.pos z hz) (R.lt z hz) (R.same z hz)
    have zp := R.pos z hz
    have zk : z.n.toNat ≠ k := fun h => no z hz (by omega)
    have f1 : (wb m z).n = m.n ∧ (wb m z).s = m.s ∧ (wb m z).c = m.c ∧ (wb m z).r = m.r ∧ (wb m z).k = m.k := by unfold wb; split <;> exact ⟨rfl, rfl, rfl, rfl, rfl⟩
    have R' : RoomOk (wb m z).cells m.k (k % m.k) { rm with ls := [l, x] } := by
      have hk' : 4 * k + 4 ≤ (wb m z).cells.length := by rw [Wr.len]; exact hk
      refine ⟨by show 2 ≤ 2; omega, ?_, ?_, ?_, ?_, ?_, ?_⟩
      · simp only [List.map_cons, List.map_nil, List.nodup_cons, List.mem_singleton, List.not_mem_nil, not_false_eq_true, List.nodup_nil, and_true]
        intro h; exact no x hx (by rw [← h]; exact n)
      all_goals intro y hy; rcases List.mem_cons.mp hy with rfl | hy
      · rw [ws]; exact four_len hk'
      · rw [List.mem_singleton.mp hy]; exact R.len x hx
      · omega
      · rw [List.mem_singleton.mp hy]; exact R.pos x hx
      · omega
      · rw [List.mem_singleton.mp hy, Wr.len]; exact R.lt x hx
      · rw [n]; exact intmod
      · rw [List.mem_singleton.mp hy]; exact R.mine x hx
      · intro _; rw [ws, n]; rfl
      · intro hc
        rw [List.mem_singleton.mp hy] at hc ⊢
        have xp := R.pos x hx
        rw [Wr.else_ _ (fun h => xz (by omega))]
        exact R.same x hx hc
    refine ⟨⟨⟨?_, by rw [List.length_set]; exact W.len.trans f1.2.2.2.2.symm, ?_, fun j r hj => ?_⟩, f1.1, f1.2.1, f1.2.2.1, f1.2.2.2.1, f1.2.2.2.2, Wr.len, map_set_p hr rfl⟩, ⟨_, rfl⟩, rfl, n, ?_, fun k' => ?_⟩
    · show 0 < (wb m z).k; rw [f1.2.2.2.2]; exact W.k0
    · show (wb m z).cells.length % 4 = 0; rw [Wr.len]; exact W.c4
    · show RoomOk (wb m z).cells (wb m z).k j r
      rw [f1.2.2.2.2]
      rw [set_get lt] at hj
      split at hj
      · rename_i e; cases hj; rw [e]; exact R'
      · rename_i hj'
        have Rj := W.ok j r hj
        refine Rj.wrote Wr fun y hy ey => ?_
        exfalso
        have a := Rj.mine y hy
        have b := R.mine z hz
        have yp := Rj.pos y hy
        have : y.n = z.n := by omega
        rw [this, b] at a
        exact hj' a.symm
    · rw [lineOf_at hr, inRoom_none no, ws, Wr.else_ _ (Ne.symm zk)]; rfl
    · rw [lineOf_set lt]
      show (if k' % m.k = k % m.k then (inRoom k' { rm with ls := [l, x] }).getD (four (wb m z).cells k') else lineOf (wb m z).cells rs m.k k') = _
      have lz : ∀ k', k' ≠ z.n.toNat → lineOf (wb m z).cells rs m.k k' = lineOf m.cells rs m.k k' := by
        intro k' h; unfold lineOf; rw [Wr.else_ _ h]
      split
      · rename_i e'
        rw [lineOf_at (by rw [e']; exact hr)]
        by_cases hkk : k' = k
        · subst hkk
          rw [inRoom_some (r := { rm with ls := [l, x] }) R'.nd (List.mem_cons_self ..) n, inRoom_none no, ws, Wr.else_ _ (Ne.symm zk)]; rfl
        · by_cases hkz : k' = z.n.toNat
          · have zk' : z.n = (k' : Int) := by omega
            rw [inRoom_some R.nd hz zk', inRoom_none ?_, hkz, Wr.here]; rfl
            intro y hy
            rcases List.mem_cons.mp hy with rfl | hy
            · rw [n]; omega
            · rw [List.mem_singleton.mp hy, ← zk']; exact xz
          · have : inRoom k' { rm with ls := [l, x] } = inRoom k' rm := by
              unfold inRoom
              rw [e, List.find?_cons, decide_eq_false (by rw [n]; omega), List.find?_cons, List.find?_cons, List.find?_cons, decide_eq_false (show ¬ z.n = (k' : Int) by omega)]
            rw [this, Wr.else_ _ hkz]
      · rename_i hne
        refine lz k' fun h => ?_
        have b := R.mine z hz
        have : z.n = (k' : Int) := by omega
        rw [this, intmod] at b
        exact hne b
def chg (rs : List Rm) (k : Nat) : Prop := ∃ r ∈ rs, ∃ l ∈ r.ls, l.n = (k : Int) ∧ l.ch = true
theorem mem_set {rs : List Rm} {i : Nat} {r x : Rm} (h : x ∈ rs.set i r) : x = r ∨ ∃ j, j ≠ i ∧ rs[j]? = some x := by
  obtain ⟨j, e⟩ := List.mem_iff_getElem?.mp h
  rw [List.getElem?_set] at e
  by_cases hj : i = j
  · rw [if_pos hj] at e
    split at e
    · cases e; exact .inl rfl
    · cases e
  · rw [if_neg hj] at e
    exact .inr ⟨j, fun z => hj z.symm, e⟩
theorem asked_chg {m m' : Co} {rs : List Rm} {rm rm' : Rm} {l : Ln} {k : Nat} (W : WF m rs) (hr : rs[k % m.k]? = some rm) (A : Asked m rm k m' rm' l) :
    (∀ k', chg (rs.set (k % m.k) rm') k' → four m'.cells k' = four m.cells k') ∧ four m'.cells k = four m.cells k := by
  have R := W.ok _ _ hr
  cases A with
  | found xs l ys e n => exact ⟨fun _ _ => rfl, rfl⟩
  | room l no len n ws ch => exact ⟨fun _ _ => rfl, rfl⟩
  | full x z l e no n ws ch =>
    have hx : x ∈ rm.ls := by rw [e]; exact List.mem_cons_self ..
    have hz : z ∈ rm.ls := by rw [e]; exact List.mem_cons_of_mem _ (List.mem_cons_self ..)
    have xz : x.n ≠ z.n := by
      have := R.nd
      rw [e] at this
      intro h
      simp only [List.map_cons, List.map_nil, List.nodup_cons, List.mem_singleton] at this
      exact this.1 h
    have Wr := wb_wrote (m := m) (R.len z hz) (R.pos z hz) (R.lt z hz) (R.same z hz)
    have zp := R.pos z hz
    refine ⟨fun k' hk' => ?_, Wr.else_ _ (fun h => no z hz (by omega))⟩
    refine Wr.else_ _ fun h => ?_
    have zk : z.n = (k' : Int) := by omega
    obtain ⟨r, hr', y, hy, yn, yc⟩ := hk'
    rcases mem_set hr' with rfl | ⟨j, hj, ej⟩
    · rcases List.mem_cons.mp hy with rfl | hy
      · rw [ch] at yc; cases yc
      · rw [List.mem_singleton.mp hy] at yn
        exact xz (yn.trans zk.symm)
    · have a := (W.ok _ _ ej).mine y hy
      have b := R.mine z hz
      rw [yn] at a
      rw [zk] at b
      exact hj (a.symm.trans b)
abbrev SL := Int × Bool
def sl (l : Ln) : SL := (l.n, l.ch)
def sr (r : Rm) : List SL := r.ls.map sl
def ss (rs : List Rm) : List (List SL) := rs.map sr
def atS (S : List (List SL)) (i : Nat) : List SL := (S[i]?).getD []
def isK (k : Nat) (e : SL) : Bool := decide (e.1 = (k : Int))
def b2i (b : Bool) : Int := if b = true then 1 else 0
def askS (s : List SL) (k : Nat) : List SL × Int × Int := match s.find? (isK k) with
  | some e => (e :: s.filter (fun e => !isK k e), 0, 0)
  | none => (match s with
    | [x, z] => ([((k : Int), false), x], 1, b2i z.2)
    | s => (((k : Int), false) :: s, 1, 0))
theorem atS_of {rs : List Rm} {i : Nat} {r : Rm} (h : rs[i]? = some r) : atS (ss rs) i = sr r := by
  unfold atS ss
  rw [List.getElem?_map, h]; rfl
theorem find_none {rm : Rm} {k : Nat} (no : ∀ x ∈ rm.ls, x.n ≠ (k : Int)) : (sr rm).find? (isK k) = none := by
  rw [List.find?_eq_none]
  intro e he
  obtain ⟨x, hx, rfl⟩ := List.mem_map.mp he
  show ¬ decide (x.n = (k : Int)) = true
  rw [decide_eq_false (no x hx)]; exact Bool.false_ne_true
theorem asked_fun {m m' : Co} {rm rm' : Rm} {l : Ln} {k : Nat} (nd : (rm.ls.map Ln.n).Nodup) (A : Asked m rm k m' rm' l) : askS (sr rm) k = (sr rm', m'.told - m.told, m'.put - m.put) := by
  cases A with
  | found xs l ys e n =>
    have ne : ∀ x, x ∈ xs ∨ x ∈ ys → x.n ≠ (k : Int) := by
      rw [e, List.map_append, List.map_cons] at nd
      have nd2 := List.nodup_append.mp nd
      intro x hx z
      rcases hx with hx | hx
      · exact nd2.2.2 x.n (List.mem_map.mpr ⟨x, hx, rfl⟩) l.n (List.mem_cons_self ..) (z.trans n.symm)
      · exact (List.nodup_cons.mp nd2.2.1).1 (List.mem_map.mpr ⟨x, hx, z.trans n.symm⟩)
    have es : sr rm = xs.map sl ++ sl l :: ys.map sl := by unfold sr; rw [e, List.map_append, List.map_cons]
    have kl : isK k (sl l) = true := decide_eq_true n
    have kx : ∀ e ∈ xs.map sl, isK k e = false := by
      intro e he
      obtain ⟨x, hx, rfl⟩ := List.mem_map.mp he
      exact decide_eq_false (ne x (.inl hx))
    have ky : ∀ e ∈ ys.map sl, isK k e = false := by
      intro e he
      obtain ⟨x, hx, rfl⟩ := List.mem_map.mp he
      exact decide_eq_false (ne x (.inr hx))
    have f1 : (sr rm).find? (isK k) = some (sl l) := by
      rw [es, List.find?_append, List.find?_eq_none.mpr (fun e he => by rw [kx e he]; exact Bool.false_ne_true), List.find?_cons, kl]; rfl
    have f2 : (sr rm).filter (fun e => !isK k e) = xs.map sl ++ ys.map sl := by
      rw [es, List.filter_append, List.filter_cons, kl]
      simp only [Bool.not_true, Bool.false_eq_true, if_false]
      rw [List.filter_eq_self.mpr (fun e he => by rw [kx e he]; rfl), List.filter_eq_self.mpr (fun e he => by rw [ky e he]; rfl)]
    unfold askS
    rw [f1]
    simp only [f2]
    show (sl l :: (xs.map sl ++ ys.map sl), (0 : Int), (0 : Int)) = ((l :: (xs ++ ys)).map sl, m.told - m.told, m.put - m.put)
    rw [List.map_cons, List.map_append, Int.sub_self, Int.sub_self]
  | room l no len n ws ch =>
    unfold askS
    rw [find_none no]
    have hl : sl l = ((k : Int), false) := by unfold sl; rw [n, ch]
    show _ = (sl l :: rm.ls.map sl, m.told + 1 - m.told, m.put - m.put)
    rw [hl, Int.sub_self, show m.told + 1 - m.told = 1 by omega]
    unfold sr
    match hh : rm.ls, len with
    | [], _ => rfl
    | [x], _ => rfl
  | full x z l e no n ws ch =>
    unfold askS
    rw [find_none no]
    have hl : sl l = ((k : Int), false) := by unfold sl; rw [n, ch]
    have ht : (wb m z).told + 1 - m.told = 1 := by unfold wb; split <;> first | (simp only; omega) | omega
    have hp : (wb m z).put - m.put = b2i z.ch := by
      unfold wb b2i
      split
      · simp only; omega
      · omega
    show _ = ([sl l, sl x], (wb m z).told + 1 - m.told, (wb m z).put - m.put)
    rw [hl, ht, hp]
    unfold sr
    rw [e]
    rfl
theorem ss_set (rs : List Rm) (i : Nat) (r : Rm) : ss (rs.set i r) = (ss rs).set i (sr r) := by
  unfold ss; rw [List.map_set]
def getS (S : List (List SL)) (kk k : Nat) : List (List SL) × Int × Int := (S.set (k % kk) (askS (atS S (k % kk)) k).1, (askS (atS S (k % kk)) k).2)
def putH : List SL → List SL
  | e :: t => (e.1, true) :: t
  | [] => []
def putS (S : List (List SL)) (kk k : Nat) : List (List SL) × Int × Int := (S.set (k % kk) (putH (askS (atS S (k % kk)) k).1), (askS (atS S (k % kk)) k).2)
def costS (S : List (List SL)) (kk k : Nat) : Int := match (atS S (k % kk)).find? (isK k) with
  | some _ => 1
  | none => (match atS S (k % kk) with
    | [_, z] => if z.2 = true then 9 else 5
    | _ => 5)
def St (m : Co) (rs : List Rm) (F : List (Nat × SO)) (h : Sh) : Prop := Has h (m.objs ++ ((m.r, SO.lst ((rs.map Rm.p).map .ref)) :: (rs.flatMap Rm.objs ++ F)))
theorem set_mid {α : Type} (A : List α) (x y : α) (B : List α) : (A ++ x :: B).set A.length y = A ++ y :: B := by
  induction A with
  | nil => rfl
  | cons a A ih => simp only [List.cons_append, List.length_cons, List.set_cons_succ, ih]
theorem split_at {α : Type} {xs : List α} {i : Nat} {x : α} (h : xs[i]? = some x) : ∃ A B, xs = A ++ x :: B ∧ A.length = i := by
  obtain ⟨lt, e⟩ := List.getElem?_eq_some_iff.mp h
  refine ⟨xs.take i, xs.drop (i + 1), ?_, by rw [List.length_take]; omega⟩
  subst e
  rw [List.getElem_cons_drop]; exact (List.take_append_drop i xs).symm
section
variable {h : Sh} {F : List (Nat × SO)} {m : Co} {rs : List Rm}
theorem St.open {i : Nat} {rm : Rm} (S : St m rs F h) (hr : rs[i]? = some rm) : ∃ G, Has h (m.objs ++ ((m.r, SO.lst ((rs.map Rm.p).map .ref)) :: (rm.objs ++ (G ++ F)))) ∧ ∀ m' rm' h', m'.r = m.r → rm'.p = rm.p → Has h' (m'.objs ++ ((m.r, SO.lst ((rs.map Rm.p).map .ref)) :: (rm'.objs ++ (G ++ F)))) → St m' (rs.set i rm') F h' := by
  obtain ⟨A, B, e, hA⟩ := split_at hr
  refine ⟨(A ++ B).flatMap Rm.objs, ?_, fun m' rm' h' e1 e2 H => ?_⟩
  · refine Has.perm S ?_
    refine List.Perm.append_left _ (List.Perm.cons _ ?_)
    rw [← List.append_assoc]
    refine List.Perm.append_right _ ?_
    rw [e]
    exact List.Perm.flatMap_right _ (List.perm_middle (a := rm))
  · unfold St
    rw [map_set_p hr e2, e1]
    refine H.perm ?_
    refine List.Perm.append_left _ (List.Perm.cons _ ?_)
    rw [← List.append_assoc]
    refine List.Perm.append_right _ ?_
    rw [e, ← hA, set_mid]
    exact (List.Perm.flatMap_right _ (List.perm_middle (a := rm'))).symm
theorem St.room (W : WF m rs) (k : Nat) : ∃ rm, rs[k % m.k]? = some rm ∧ (rs.map Rm.p)[((k : Int) % m.k).toNat]? = some rm.p := by
  have lt := mod_lt W k
  refine ⟨rs[k % m.k], List.getElem?_eq_getElem lt, ?_⟩
  rw [intmod, List.getElem?_map, List.getElem?_eq_getElem lt]; rfl
theorem St.asked (S : St m rs F h) (W : WF m rs) (k : Nat) (hk : 4 * k + 4 ≤ m.cells.length) : ∃ h' m' rm' l rest, f_Near_asked [.ref m.n, .int k] h = .ok (.ref l.p) h' ∧ St m' (rs.set (k % m.k) rm') F h' ∧ Kept m rs m' (rs.set (k % m.k) rm') ∧ rm'.ls = l :: rest ∧ l.n = k ∧ l.ws = lineOf m.cells rs m.k k ∧ (∀ k', lineOf m'.cells (rs.set (k % m.k) rm') m.k k' = lineOf m.cells rs m.k k') ∧ (∀ k', chg (rs.set (k % m.k) rm') k' → four m'.cells k' = four m.cells k') ∧ four m'.cells k = four m.cells k ∧ askS (atS (ss rs) (k % m.k)) k = (sr rm', m'.told - m.told, m'.put - m.put) := by
  obtain ⟨rm, hr, hp⟩ := St.room W k
  have R := W.ok _ _ hr
  obtain ⟨G, H, back⟩ := S.open hr
  obtain ⟨h', m', rm', l, e, H', A⟩ := asked_ok H W.k0 k hp hk R.two (fun l hl => ⟨R.len l hl, R.pos l hl, R.lt l hl⟩)
  obtain ⟨K, ⟨rest, er⟩, ep, ln, lw, li⟩ := asked_model W hr hk A
  exact ⟨h', m', rm', l, rest, e, back m' rm' h' K.r ep H', K, er, ln, lw, li, (asked_chg W hr A).1, (asked_chg W hr A).2, by rw [atS_of hr]; exact asked_fun R.nd A⟩
theorem St.core (S : St m rs F h) : Has h (m.objs ++ ((m.r, SO.lst ((rs.map Rm.p).map .ref)) :: (rs.flatMap Rm.objs ++ F))) := S
theorem St.line {i : Nat} {rm : Rm} {l : Ln} (S : St m rs F h) (hr : rs[i]? = some rm) (hl : l ∈ rm.ls) : h[l.p]? = some (.ins "Line" [("number", .int l.n), ("words", .ref l.q), ("changed", .bl l.ch)]) ∧ h[l.q]? = some (.lst (l.ws.map .int)) := by
  obtain ⟨G, H, _⟩ := S.open hr
  exact ⟨H.get (List.mem_append_right _ (List.mem_cons_of_mem _ (List.mem_append_left _ (List.mem_cons_of_mem _ (List.mem_flatMap.mpr ⟨l, hl, List.mem_cons_self ..⟩))))), H.get (List.mem_append_right _ (List.mem_cons_of_mem _ (List.mem_append_left _ (List.mem_cons_of_mem _ (List.mem_flatMap.mpr ⟨l, hl, List.mem_cons_of_mem _ (List.mem_cons_self ..)⟩)))))⟩
theorem lt4 : decide ((0 : Int) < 4) = true := rfl
theorem lt30 : decide ((4 : Int) < 1073741824) = true := rfl
theorem div4 (a : Nat) : (a : Int) / 4 = ((a / 4 : Nat) : Int) := by omega
theorem mod4 (a : Nat) : (a : Int) % 4 = ((a % 4 : Nat) : Int) := by omega
theorem atInt {ws : List Int} {i : Nat} {v : Int} (e : ws[i]? = some v) : atW (ws.map W.int) (i : Int) = some (.int v) := atW_of (by omega) (by rw [Int.toNat_natCast, List.getElem?_map, e]; rfl)
def Front (rs : List Rm) (kk k : Nat) (c : Bool) : Prop := ∃ r l rest, rs[k % kk]? = some r ∧ r.ls = l :: rest ∧ l.n = (k : Int) ∧ (c = true → l.ch = true)
theorem get_ok (S : St m rs F h) (W : WF m rs) {a : Nat} (ha : a < m.cells.length) : ∃ h' m' rs' v, f_Near_get [.ref m.n, .int a] h = .ok (.int v) h' ∧ St m' rs' F h' ∧ Kept m rs m' rs' ∧ (lineOf m.cells rs m.k (a / 4))[a % 4]? = some v ∧ (∀ k', lineOf m'.cells rs' m.k k' = lineOf m.cells rs m.k k') ∧ (∀ k', chg rs' k' → four m'.cells k' = four m.cells k') ∧ Front rs' m.k (a / 4) false ∧ getS (ss rs) m.k (a / 4) = (ss rs', m'.told - m.told, m'.put - m.put) := by
  have hk : 4 * (a / 4) + 4 ≤ m.cells.length := by have := W.c4; omega
  obtain ⟨h', m', rm', l, rest, e, S', K, er, ln, lw, li, lc, lk, af⟩ := S.asked W (a / 4) hk
  have hr : (rs.set (a / 4 % m.k) rm')[a / 4 % m.k]? = some rm' := by rw [set_get (mod_lt W _), if_pos rfl]
  have hl : l ∈ rm'.ls := by rw [er]; exact List.mem_cons_self ..
  have l4 := (K.wf.ok _ _ hr).len l hl
  have lt : a % 4 < l.ws.length := by omega
  obtain ⟨g1, g2⟩ := S'.line hr hl
  have e0 : findM tb_refuse_no_place "refuse_no_place" (.ref m.n) h = some f_Near_refuse_no_place := findM_of (Co.near S.core) rfl
  have e1 := place_ok S.core (a := a) (by omega) (by omega)
  have e2 : findM tb_asked "asked" (.ref m.n) h = some f_Near_asked := findM_of (Co.near S.core) rfl
  have e3 : getF ["Line"] "words" (.ref l.p) h' = some (.ref l.q) := getF_of g1 (by decide) rfl
  have e4 := atInt (List.getElem?_eq_getElem lt)
  refine ⟨h', m', _, l.ws[a % 4], fn_rt rfl ?_, S', K, by rw [← lw]; exact List.getElem?_eq_getElem lt, li, lc, ⟨rm', l, rest, hr, er, ln, fun h => nomatch h⟩, by unfold getS; rw [af, ss_set]⟩
  unfold b_Near_get
  rw [sSeq_nx (s' := [some (.ref m.n), some (.int a)]) (h' := h) (by simp! only [e0, e1])]
  simp! only [e2, lt4, lt30, div4, e, e3, mod4, lt4, oIx, seqW, lstW, g2, Option.or, e4]
theorem put_ok (S : St m rs F h) (W : WF m rs) {a : Nat} (w : Int) (ha : a < m.cells.length) : ∃ h' m' rs', f_Near_put [.ref m.n, .int a, .int w] h = .ok .non h' ∧ St m' rs' F h' ∧ Kept m rs m' rs' ∧ (∀ k', lineOf m'.cells rs' m.k k' = if k' = a / 4 then (lineOf m.cells rs m.k k').set (a % 4) w else lineOf m.cells rs m.k k') ∧ (∀ k', chg rs' k' → four m'.cells k' = four m.cells k') ∧ Front rs' m.k (a / 4) true ∧ putS (ss rs) m.k (a / 4) = (ss rs', m'.told - m.told, m'.put - m.put) := by
  have hk : 4 * (a / 4) + 4 ≤ m.cells.length := by have := W.c4; omega
  obtain ⟨h1, m', rm', l, rest, e, S', K, er, ln, lw, li, lc, lk, af⟩ := S.asked W (a / 4) hk
  have hlt := mod_lt W (a / 4)
  have hr : (rs.set (a / 4 % m.k) rm')[a / 4 % m.k]? = some rm' := by rw [set_get hlt, if_pos rfl]
  have hl : l ∈ rm'.ls := by rw [er]; exact List.mem_cons_self ..
  have R := K.wf.ok _ _ hr
  have l4 := R.len l hl
  have lt : a % 4 < l.ws.length := by omega
  obtain ⟨g1, g2⟩ := S'.line hr hl
  have e0 : findM tb_refuse_no_place "refuse_no_place" (.ref m.n) h = some f_Near_refuse_no_place := findM_of (Co.near S.core) rfl
  have e1 := place_ok S.core (a := a) (by omega) (by omega)
  have e2 : findM tb_asked "asked" (.ref m.n) h = some f_Near_asked := findM_of (Co.near S.core) rfl
  have e3 : getF ["Line"] "words" (.ref l.p) h1 = some (.ref l.q) := getF_of g1 (by decide) rfl
  have e4 : ixW (l.ws.map HL.W.int).length ((a % 4 : Nat) : Int) = some (a % 4) := by
    have x : (0 : Int) ≤ ((a % 4 : Nat) : Int) := by omega
    have y : ((a % 4 : Nat) : Int) < ((l.ws.map HL.W.int).length : Int) := by rw [List.length_map]; omega
    simp only [ixW, x, y, if_true, Int.toNat_natCast]
  let l' : Ln := { l with ws := l.ws.set (a % 4) w, ch := true }
  obtain ⟨G, H, back⟩ := S'.open hr
  have H0 : Has h1 ((m'.objs ++ [(m'.r, SO.lst (((rs.set (a / 4 % m.k) rm').map Rm.p).map .ref)), (rm'.p, SO.lst (rm'.ls.map fun l => .ref l.p)), (l.p, .ins "Line" [("number", .int l.n), ("words", .ref l.q), ("changed", .bl l.ch)])]) ++ (l.q, SO.lst (l.ws.map .int)) :: (rest.flatMap Ln.objs ++ (G ++ F))) := by
    have : rm'.objs = (rm'.p, SO.lst (rm'.ls.map fun l => .ref l.p)) :: (l.objs ++ rest.flatMap Ln.objs) := by unfold Rm.objs; rw [er]; rfl
    rw [this] at H
    rw [List.append_assoc]
    exact H
  have H1 := H0.upd (o' := .lst ((l.ws.set (a % 4) w).map .int))
  generalize hh : h1.set l.q (.lst ((l.ws.set (a % 4) w).map .int)) = h2 at H1
  have H1' : Has h2 ((m'.objs ++ [(m'.r, SO.lst (((rs.set (a / 4 % m.k) rm').map Rm.p).map .ref)), (rm'.p, SO.lst (rm'.ls.map fun l => .ref l.p))]) ++ (l.p, .ins "Line" [("number", .int l.n), ("words", .ref l.q), ("changed", .bl l.ch)]) :: (l.q, SO.lst ((l.ws.set (a % 4) w).map .int)) :: (rest.flatMap Ln.objs ++ (G ++ F))) := by
    simp only [List.append_assoc] at H1 ⊢
    exact H1
  have g3 : h2[l.p]? = some (.ins "Line" [("number", .int l.n), ("words", .ref l.q), ("changed", .bl l.ch)]) := H1'.get (List.mem_append_right _ (List.mem_cons_self ..))
  have e5 : setF ["Line"] "changed" (.ref l.p) (.bl true) h2 = .ok .non (h2.set l.p (.ins "Line" [("number", .int l.n), ("words", .ref l.q), ("changed", .bl true)])) := setF_of g3 (by decide) (by simp only [List.length_cons, List.length_nil]; omega)
  have H2 := H1'.upd (o' := .ins "Line" [("number", .int l.n), ("words", .ref l.q), ("changed", .bl true)])
  have S2 := back m' { rm' with ls := l' :: rest } (h' := h2.set l.p (.ins "Line" [("number", .int l.n), ("words", .ref l.q), ("changed", .bl true)])) rfl rfl (by
    rw [List.append_assoc] at H2
    rw [er] at H2
    exact H2)
  rw [List.set_set] at S2
  have R2 : RoomOk m'.cells m'.k (a / 4 % m.k) { rm' with ls := l' :: rest } := by
    have nd := R.nd
    rw [er] at nd
    refine ⟨by have := R.two; rw [er] at this; exact this, nd, ?_, ?_, ?_, ?_, ?_⟩
    all_goals intro y hy; rcases List.mem_cons.mp hy with rfl | hy
    · show (l.ws.set (a % 4) w).length = 4; rw [List.length_set]; exact l4
    · exact R.len y (by rw [er]; exact List.mem_cons_of_mem _ hy)
    · exact R.pos l hl
    · exact R.pos y (by rw [er]; exact List.mem_cons_of_mem _ hy)
    · exact R.lt l hl
    · exact R.lt y (by rw [er]; exact List.mem_cons_of_mem _ hy)
    · exact R.mine l hl
    · exact R.mine y (by rw [er]; exact List.mem_cons_of_mem _ hy)
    · intro hc; cases hc
    · exact R.same y (by rw [er]; exact List.mem_cons_of_mem _ hy)
  refine ⟨_, m', rs.set (a / 4 % m.k) { rm' with ls := l' :: rest }, fn_nx (s' := [some (.ref m.n), some (.int a), some (.int w), some (.ref l.p)]) rfl ?_, S2, ⟨⟨K.wf.k0, ?_, K.wf.c4, fun j r hj => ?_⟩, K.n, K.s, K.c, K.r, K.k, K.cl, ?_⟩, fun k' => ?_, fun k' hk' => ?_, ⟨{ rm' with ls := l' :: rest }, l', rest, by rw [set_get hlt, if_pos rfl], rfl, ln, fun _ => rfl⟩, by
    unfold putS
    rw [af, ss_set]
    have : sr rm' = sl l :: rest.map sl := by unfold sr; rw [er, List.map_cons]
    rw [this]
    rfl⟩
  · unfold b_Near_put
    rw [sSeq_nx (s' := [some (.ref m.n), some (.int a), some (.int w), none]) (h' := h) (by simp! only [e0, e1])]
    rw [sSeq_nx (s' := [some (.ref m.n), some (.int a), some (.int w), some (.ref l.p)]) (h' := h1) (by simp! only [e2, lt4, lt30, div4, e])]
    rw [sSeq_nx (s' := [some (.ref m.n), some (.int a), some (.int w), some (.ref l.p)]) (h' := h2) (by simp! only [e3, mod4, lt4, g2, e4]; rw [← List.map_set]; exact congrArg _ hh)]
    simp! only [e5]
  · rw [List.length_set]; have := K.wf.len; rw [List.length_set] at this; exact this
  · rw [set_get hlt] at hj
    split at hj
    · rename_i e; cases hj; rw [e]; exact R2
    · rename_i hne
      exact K.wf.ok j r (by rw [set_get hlt, if_neg hne]; exact hj)
  · have := K.ps
    obtain ⟨rm, hr0, _⟩ := St.room W (a / 4)
    rw [List.map_set] at this ⊢
    exact this
  · rw [lineOf_set hlt]
    by_cases h1 : k' = a / 4
    · rw [if_pos h1, if_pos (by rw [h1]), h1, inRoom_some (r := { rm' with ls := l' :: rest }) R2.nd (List.mem_cons_self ..) ln, ← lw]; rfl
    · rw [if_neg h1, ← li k', lineOf_set hlt]
      split
      · have : inRoom k' { rm' with ls := l' :: rest } = inRoom k' rm' := by
          unfold inRoom
          rw [er, List.find?_cons, List.find?_cons, decide_eq_false (show ¬ l'.n = (k' : Int) by show ¬ l.n = _; rw [ln]; omega)]
        rw [this]
      · unfold lineOf
        have := li k'
        rfl
  · obtain ⟨r, hr', y, hy, yn, yc⟩ := hk'
    rcases mem_set hr' with rfl | ⟨j, hj, ej⟩
    · rcases List.mem_cons.mp hy with rfl | hy
      · have : k' = a / 4 := by
          have : (k' : Int) = ((a / 4 : Nat) : Int) := yn.symm.trans ln
          omega
        rw [this]; exact lk
      · exact lc k' ⟨rm', List.mem_of_getElem? hr, y, by rw [er]; exact List.mem_cons_of_mem _ hy, yn, yc⟩
    · refine lc k' ⟨r, List.mem_of_getElem? (i := j) ?_, y, hy, yn, yc⟩
      rw [set_get hlt, if_neg hj]; exact ej
end
section
variable {h : Sh} {F : List (Nat × SO)} {m : Co} {rs : List Rm}
theorem St.found (S : St m rs F h) (W : WF m rs) (k : Nat) : ∃ rm, rs[k % m.k]? = some rm ∧ f_Near_found [.ref m.n, .int k] h = .ok (refOf (rm.ls.find? (fun l => decide (l.n = (k : Int))))) h ∧ f_Near_room_of [.ref m.n, .int k] h = .ok (.ref rm.p) h ∧ h[rm.p]? = some (.lst (rm.ls.map fun l => .ref l.p)) := by
  obtain ⟨rm, hr, hp⟩ := St.room W k
  obtain ⟨G, H, _⟩ := S.open hr
  exact ⟨rm, hr, found_ok H (List.mem_cons_self ..) W.k0 k hp (fun x hx => List.mem_cons_of_mem _ (List.mem_append_left _ hx)), room_ok H (List.mem_cons_self ..) W.k0 k hp, H.get (List.mem_append_right _ (List.mem_cons_of_mem _ (List.mem_cons_self ..)))⟩
theorem cost_ok (S : St m rs F h) (W : WF m rs) {a : Nat} (ha : a < m.cells.length) : ∃ v, f_Near_cost [.ref m.n, .int a] h = .ok (.int v) h ∧ v = costS (ss rs) m.k (a / 4) := by
  obtain ⟨rm, hr, e1, e2, g1⟩ := S.found W (a / 4)
  have R := W.ok _ _ hr
  have e0 : findM tb_refuse_no_place "refuse_no_place" (.ref m.n) h = some f_Near_refuse_no_place := findM_of (Co.near S.core) rfl
  have e3 := place_ok S.core (a := a) (by omega) (by omega)
  have e4 : findM tb_found "found" (.ref m.n) h = some f_Near_found := findM_of (Co.near S.core) rfl
  have e5 : findM tb_room_of "room_of" (.ref m.n) h = some f_Near_room_of := findM_of (Co.near S.core) rfl
  have s1 : sDrop (dMeth tb_refuse_no_place "refuse_no_place" (dVar 0) (dCons (dVar 1) dNil)) (start 4 [.ref m.n, .int a]) h = .nx [some (.ref m.n), some (.int a), none, none] h := by simp! only [e0, e3]
  have s2 : sSet 2 (dOp oDiv (dVar 1) (dC (.int 4))) [some (.ref m.n), some (.int a), none, none] h = .nx [some (.ref m.n), some (.int a), some (.int (a / 4 : Nat)), none] h := by simp! only [lt4, lt30, div4]
  have fs : (sr rm).find? (isK (a / 4)) = (rm.ls.find? (fun l => decide (l.n = ((a / 4 : Nat) : Int)))).map sl := by
    unfold sr
    rw [List.find?_map]
    rfl
  cases f : rm.ls.find? (fun l => decide (l.n = ((a / 4 : Nat) : Int))) with
  | some l =>
    rw [f] at e1
    refine ⟨1, fn_rt rfl ?_, by unfold costS; rw [atS_of hr, fs, f]; rfl⟩
    unfold b_Near_cost
    rw [sSeq_nx s1, sSeq_nx s2]
    simp! only [e4, e1, refOf, oIsNot]
  | none =>
    rw [f] at e1
    have s3 : sIf (dT (dOp oIsNot (dMeth tb_found "found" (dVar 0) (dCons (dVar 2) dNil)) (dC .non))) (sRet (dC (.int 1))) sNx [some (.ref m.n), some (.int a), some (.int (a / 4 : Nat)), none] h = .nx [some (.ref m.n), some (.int a), some (.int (a / 4 : Nat)), none] h := by simp! only [e4, e1, refOf, oIsNot]
    have s4 : sSet 3 (dMeth tb_room_of "room_of" (dVar 0) (dCons (dVar 2) dNil)) [some (.ref m.n), some (.int a), some (.int (a / 4 : Nat)), none] h = .nx [some (.ref m.n), some (.int a), some (.int (a / 4 : Nat)), some (.ref rm.p)] h := by simp! only [e5, e2]
    have sl : seqW h (.ref rm.p) = some (rm.ls.map fun l => .ref l.p) := by simp only [seqW, lstW, g1, Option.or]
    by_cases hf : rm.ls.length = 2
    · obtain ⟨x, z, es⟩ : ∃ x z, rm.ls = [x, z] := by
        match hh : rm.ls, hf with
        | [x, z], _ => exact ⟨x, z, rfl⟩
      obtain ⟨g2, _⟩ := S.line hr (l := z) (by rw [es]; exact List.mem_cons_of_mem _ (List.mem_cons_self ..))
      have e6 : getF ["Line"] "changed" (.ref z.p) h = some (.bl z.ch) := getF_of g2 (by decide) rfl
      rw [es] at sl
      have e7 : atW [HL.W.ref x.p, .ref z.p] (-1) = some (.ref z.p) := rfl
      refine ⟨if z.ch = true then 9 else 5, fn_rt rfl ?_, by unfold costS; rw [atS_of hr, fs, f]; unfold sr; rw [es]; rfl⟩
      unfold b_Near_cost
      rw [sSeq_nx s1, sSeq_nx s2, sSeq_nx s3, sSeq_nx s4]
      cases hz : z.ch with
      | true =>
        rw [hz] at e6
        simp! only [bLen, sl, oEq, eqH, oIx, e7, e6, show (((0 + 1 + 1 : Nat) : Int) = 2) from rfl]
      | false =>
        rw [hz] at e6
        simp! only [bLen, sl, oEq, eqH, oIx, e7, e6, show (((0 + 1 + 1 : Nat) : Int) = 2) from rfl]
    · have hi : ¬ ((rm.ls.length : Int) = 2) := by omega
      refine ⟨5, fn_rt rfl ?_, by
        unfold costS
        rw [atS_of hr, fs, f]
        have two := R.two
        unfold sr
        match hh : rm.ls, hf, two with
        | [], _, _ => rfl
        | [x], _, _ => rfl
        | [x, y], hf, _ => exact absurd rfl hf⟩
      unfold b_Near_cost
      rw [sSeq_nx s1, sSeq_nx s2, sSeq_nx s3, sSeq_nx s4]
      simp! only [bLen, sl, oEq, eqH, List.length_map, hi]
theorem look_ok (S : St m rs F h) (W : WF m rs) {a : Nat} (ha : a < m.cells.length) : ∃ v, f_Near_look [.ref m.n, .int a] h = .ok (.int v) h ∧ (lineOf m.cells rs m.k (a / 4))[a % 4]? = some v := by
  obtain ⟨rm, hr, e1, e2, g1⟩ := S.found W (a / 4)
  have R := W.ok _ _ hr
  have e0 : findM tb_refuse_no_place "refuse_no_place" (.ref m.n) h = some f_Near_refuse_no_place := findM_of (Co.near S.core) rfl
  have e3 := place_ok S.core (a := a) (by omega) (by omega)
  have e4 : findM tb_found "found" (.ref m.n) h = some f_Near_found := findM_of (Co.near S.core) rfl
  have s1 : sDrop (dMeth tb_refuse_no_place "refuse_no_place" (dVar 0) (dCons (dVar 1) dNil)) (start 3 [.ref m.n, .int a]) h = .nx [some (.ref m.n), some (.int a), none] h := by simp! only [e0, e3]
  cases f : rm.ls.find? (fun l => decide (l.n = ((a / 4 : Nat) : Int))) with
  | some l =>
    rw [f] at e1
    have hl : l ∈ rm.ls := List.mem_of_find?_eq_some f
    have l4 := R.len l hl
    have lt : a % 4 < l.ws.length := by omega
    obtain ⟨g2, g3⟩ := S.line hr hl
    have e6 : getF ["Line"] "words" (.ref l.p) h = some (.ref l.q) := getF_of g2 (by decide) rfl
    have e7 := atInt (List.getElem?_eq_getElem lt)
    refine ⟨l.ws[a % 4], fn_rt rfl ?_, ?_⟩
    · unfold b_Near_look
      rw [sSeq_nx s1, sSeq_nx (s' := [some (.ref m.n), some (.int a), some (.ref l.p)]) (h' := h) (by simp! only [e4, lt4, lt30, div4, e1, refOf])]
      simp! only [oIs, e6, mod4, lt4, oIx, seqW, lstW, g3, Option.or, e7]
    · rw [lineOf_at hr]
      unfold inRoom
      rw [f]
      exact List.getElem?_eq_getElem lt
  | none =>
    rw [f] at e1
    have e5 : getF ["Near"] "slow" (.ref m.n) h = some (.ref m.s) := getF_of (Co.near S.core) (by decide) rfl
    have e6 : findM tb_word_at "word_at" (.ref m.s) h = some f_Slow_word_at := findM_of (Co.slow S.core) rfl
    have e7 : getF ["Slow"] "cells" (.ref m.s) h = some (.ref m.c) := getF_of (Co.slow S.core) (by decide) rfl
    have e8 := atInt (List.getElem?_eq_getElem ha)
    have e9 : f_Slow_word_at [.ref m.s, .int a] h = .ok (.int m.cells[a]) h := by
      simp! only [b_Slow_word_at, e7, oIx, seqW, lstW, Co.cellsAt S.core, Option.or, e8]
    refine ⟨m.cells[a], fn_rt rfl ?_, ?_⟩
    · unfold b_Near_look
      rw [sSeq_nx s1, sSeq_nx (s' := [some (.ref m.n), some (.int a), some .non]) (h' := h) (by simp! only [e4, lt4, lt30, div4, e1, refOf])]
      simp! only [oIs, e5, e6, e9]
    · rw [lineOf_at hr]
      unfold inRoom
      rw [f]
      show (four m.cells (a / 4))[a % 4]? = _
      rw [four_get, if_pos (by omega), show 4 * (a / 4) + a % 4 = a by omega]
      exact List.getElem?_eq_getElem ha
theorem wb_step {i : Nat} {rm : Rm} {xs ys : List Ln} {l : Ln} (S : St m rs F h) (W : WF m rs) (hr : rs[i]? = some rm) (es : rm.ls = xs ++ l :: ys) : ∃ h', f_Near_write_back [.ref m.n, .ref l.p] h = .ok .non h' ∧ St (wb m l) (rs.set i { rm with ls := xs ++ { l with ch := false } :: ys }) F h' ∧ Kept m rs (wb m l) (rs.set i { rm with ls := xs ++ { l with ch := false } :: ys }) ∧ ∀ k', lineOf (wb m l).cells (rs.set i { rm with ls := xs ++ { l with ch := false } :: ys }) m.k k' = lineOf m.cells rs m.k k' := by
  have R := W.ok _ _ hr
  have hl : l ∈ rm.ls := by rw [es]; exact List.mem_append_right _ (List.mem_cons_self ..)
  have lt : i < rs.length := (List.getElem?_eq_some_iff.mp hr).1
  obtain ⟨G, H, back⟩ := S.open hr
  have pf : (rm.ls.flatMap Ln.objs).Perm (l.objs ++ (xs ++ ys).flatMap Ln.objs) := by rw [es]; exact List.Perm.flatMap_right _ (List.perm_middle (a := l))
  have H1 : Has h (m.objs ++ (l.objs ++ ((m.r, SO.lst ((rs.map Rm.p).map .ref)) :: (rm.p, SO.lst (rm.ls.map fun l => .ref l.p)) :: ((xs ++ ys).flatMap Ln.objs ++ (G ++ F))))) := by
    refine H.perm (List.Perm.append_left _ ?_)
    refine ((List.Perm.cons _ (List.Perm.cons _ (List.Perm.append_right _ pf))).trans ?_)
    rw [List.append_assoc]
    exact ((List.perm_middle).trans (List.Perm.cons _ (List.perm_middle))).symm
  obtain ⟨h', e, H2⟩ := write_back_ok H1 (R.len l hl) (R.pos l hl) (R.lt l hl)
  have Wr := wb_wrote (m := m) (R.len l hl) (R.pos l hl) (R.lt l hl) (R.same l hl)
  have f1 : (wb m l).n = m.n ∧ (wb m l).s = m.s ∧ (wb m l).c = m.c ∧ (wb m l).r = m.r ∧ (wb m l).k = m.k := by unfold wb; split <;> exact ⟨rfl, rfl, rfl, rfl, rfl⟩
  have lp := R.pos l hl
  have nd : ((xs ++ { l with ch := false } :: ys).map Ln.n).Nodup := by
    have := R.nd
    rw [es, List.map_append, List.map_cons] at this
    rw [List.map_append, List.map_cons]; exact this
  have alone : ∀ y ∈ xs ++ ys, y.n ≠ l.n := by
    intro y hy ey
    have := (List.perm_middle (a := l) (l₁ := xs) (l₂ := ys)).map Ln.n |>.nodup_iff.mp (by rw [← es]; exact R.nd)
    rw [List.map_cons] at this
    exact (List.nodup_cons.mp this).1 (List.mem_map.mpr ⟨y, hy, ey⟩)
  have cases3 : ∀ {y : Ln}, y ∈ xs ++ { l with ch := false } :: ys → y = { l with ch := false } ∨ (y ∈ rm.ls ∧ y.n ≠ l.n) := by
    intro y hy
    rcases List.mem_append.mp hy with h | h
    · exact .inr ⟨by rw [es]; exact List.mem_append_left _ h, alone y (List.mem_append_left _ h)⟩
    · rcases List.mem_cons.mp h with h | h
      · exact .inl h
      · exact .inr ⟨by rw [es]; exact List.mem_append_right _ (List.mem_cons_of_mem _ h), alone y (List.mem_append_right _ h)⟩
  have R' : RoomOk (wb m l).cells m.k i { rm with ls := xs ++ { l with ch := false } :: ys } := by
    refine ⟨?_, nd, ?_, ?_, ?_, ?_, ?_⟩
    · have := R.two
      rw [es, List.length_append, List.length_cons] at this
      show (xs ++ { l with ch := false } :: ys).length ≤ 2
      rw [List.length_append, List.length_cons]; exact this
    all_goals intro y hy; rcases cases3 hy with rfl | ⟨hy, hn⟩
    · exact R.len l hl
    · exact R.len y hy
    · exact R.pos l hl
    · exact R.pos y hy
    · rw [Wr.len]; exact R.lt l hl
    · rw [Wr.len]; exact R.lt y hy
    · exact R.mine l hl
    · exact R.mine y hy
    · intro _; exact Wr.here.symm
    · intro hc
      have := R.pos y hy
      rw [Wr.else_ _ (fun h => hn (by omega))]
      exact R.same y hy hc
  refine ⟨h', e, ?_, ⟨⟨?_, by rw [List.length_set]; exact W.len.trans f1.2.2.2.2.symm, ?_, fun j r hj => ?_⟩, f1.1, f1.2.1, f1.2.2.1, f1.2.2.2.1, f1.2.2.2.2, Wr.len, map_set_p hr rfl⟩, fun k' => ?_⟩
  · refine back _ _ _ f1.2.2.2.1 rfl (H2.perm (List.Perm.append_left _ ?_))
    have pf' : ((xs ++ { l with ch := false } :: ys).flatMap Ln.objs).Perm (({ l with ch := false } : Ln).objs ++ (xs ++ ys).flatMap Ln.objs) := List.Perm.flatMap_right _ (List.perm_middle (a := ({ l with ch := false } : Ln)))
    have er : (rm.ls.map fun (l : Ln) => HL.W.ref l.p) = ((xs ++ { l with ch := false } :: ys).map fun (l : Ln) => HL.W.ref l.p) := by rw [es, List.map_append, List.map_append, List.map_cons, List.map_cons]
    rw [er]
    refine (List.perm_middle.trans (List.Perm.cons _ (List.perm_middle.trans (List.Perm.cons _ ?_))))
    rw [← List.append_assoc]
    exact List.Perm.append_right _ pf'.symm
  · rw [f1.2.2.2.2]; exact W.k0
  · rw [Wr.len]; exact W.c4
  · rw [f1.2.2.2.2]
    rw [set_get lt] at hj
    split at hj
    · rename_i e; cases hj; rw [e]; exact R'
    · rename_i hj'
      have Rj := W.ok j r hj
      refine Rj.wrote Wr fun y hy ey => ?_
      exfalso
      have a := Rj.mine y hy
      have b := R.mine l hl
      have yp := Rj.pos y hy
      have : y.n = l.n := by omega
      rw [this, b] at a
      exact hj' a.symm
  · rw [lineOf_set lt]
    by_cases hk : k' = l.n.toNat
    · have lk : l.n = (k' : Int) := by omega
      have hi : k' % m.k = i := by
        have b := R.mine l hl
        rw [lk, intmod] at b; exact b
      rw [if_pos hi, inRoom_some (l := { l with ch := false }) nd (List.mem_append_right _ (List.mem_cons_self ..)) lk, lineOf_at (by rw [hi]; exact hr), inRoom_some R.nd hl lk]
      rfl
    · split
      · rename_i hi
        rw [lineOf_at (by rw [hi]; exact hr), Wr.else_ _ hk]
        have : inRoom k' { rm with ls := xs ++ { l with ch := false } :: ys } = inRoom k' rm := by
          unfold inRoom
          have d : decide (l.n = (k' : Int)) = false := decide_eq_false (by omega)
          rw [es]
          show ((xs ++ { l with ch := false } :: ys).find? _).map _ = _
          rw [find_perm (l := { l with ch := false }) d, find_perm (l := l) d]
        rw [this]
      · unfold lineOf; rw [Wr.else_ _ hk]
end
theorem Kept.refl {m : Co} {rs : List Rm} (W : WF m rs) : Kept m rs m rs := ⟨W, rfl, rfl, rfl, rfl, rfl, rfl, rfl⟩
theorem Kept.trans {m m1 m2 : Co} {rs rs1 rs2 : List Rm} (a : Kept m rs m1 rs1) (b : Kept m1 rs1 m2 rs2) : Kept m rs m2 rs2 := ⟨b.wf, b.n.trans a.n, b.s.trans a.s, b.c.trans a.c, b.r.trans a.r, b.k.trans a.k, b.cl.trans a.cl, b.ps.trans a.ps⟩
theorem set_self {α : Type} {xs : List α} {i : Nat} {x : α} (h : xs[i]? = some x) : xs.set i x = xs := by
  obtain ⟨A, B, e, hA⟩ := split_at h
  rw [e, ← hA, set_mid]
section
variable {F : List (Nat × SO)}
def wbS : DS := sDrop (dMeth tb_write_back "write_back" (dVar 0) (dCons (dVar 2) dNil))
def inS : DS := sFor (iSeq (dVar 1)) (gName 2) wbS
end
theorem dats_ints (f : HL.W → Option D) (hf : ∀ i, f (.int i) = some (.int i)) : ∀ ns : List Int, dats f (ns.map .int) = some (ns.map .int)
  | [] => rfl
  | n :: ns => by simp only [List.map_cons, dats, hf, dats_ints f hf ns, Option.bind_some, Option.map_some]
section
variable {h : Sh} {ns : List Int}
theorem script_app {l : Sh} (hs : h[0]? = some (.rol (ns.map .int))) : (h ++ l)[0]? = some (.rol (ns.map .int)) := by
  rw [List.getElem?_append_left (List.getElem?_eq_some_iff.mp hs).1]; exact hs
theorem ne_ok (hs : h[0]? = some (.rol (ns.map .int))) : eqH (.ref 0) (.ref h.length) (h ++ [.lst []]) = some ns.isEmpty := by
  have e1 : dat DEEP (h ++ [.lst []]) (.ref 0) = some (.lst (ns.map .int)) := by
    show (match (h ++ [SO.lst []])[0]? with
      | some (.lst xs) => (dats (dat 7 (h ++ [SO.lst []])) xs).map D.lst
      | some (.rol xs) => (dats (dat 7 (h ++ [SO.lst []])) xs).map D.lst
      | some (.tup xs) => (dats (dat 7 (h ++ [SO.lst []])) xs).map D.tup
      | _ => none) = _
    rw [script_app hs]
    show (dats (dat 7 (h ++ [SO.lst []])) (ns.map HL.W.int)).map D.lst = _
    rw [dats_ints (dat 7 (h ++ [SO.lst []])) (fun i => rfl)]; rfl
  have e2 : dat DEEP (h ++ [.lst []]) (.ref h.length) = some (.lst []) := by
    show (match (h ++ [SO.lst []])[h.length]? with
      | some (.lst xs) => (dats (dat 7 (h ++ [SO.lst []])) xs).map D.lst
      | some (.rol xs) => (dats (dat 7 (h ++ [SO.lst []])) xs).map D.lst
      | some (.tup xs) => (dats (dat 7 (h ++ [SO.lst []])) xs).map D.tup
      | _ => none) = _
    rw [List.getElem?_append_right (Nat.le_refl _), Nat.sub_self]
    rfl
  simp only [eqH, e1, e2]
  cases ns <;> rfl
def cellC (ns : List Int) (k : Int) : Int := if ns.isEmpty = true then 7919 * k + 11 else 7919 * k + 11 + (ns[(k % ((ns.length : Nat) : Int)).toNat]?).getD 0 * 48271 + 96810 * k + k / ((ns.length : Nat) : Int) * 7919
def cellE (ns : List Int) (k : Int) : Int := (cellC ns k % 2147483647) * (cellC ns k % 2147483647) % 2147483629
def cellV (ns : List Int) (k : Int) : Int := (cellE ns k * cellE ns k + 69621 * cellE ns k + k) % 2147483587
theorem cell_ok (hs : h[0]? = some (.rol (ns.map .int))) (hl : ns.length ≤ 63) (k : Int) (h0 : 0 ≤ k) : ∃ v, f__law_cell [.ref 0, .int k] h = .ok (.int v) (h ++ [.lst []]) ∧ 0 ≤ v ∧ v < 2147483587 ∧ v = cellV ns k := by
  have e1 := ne_ok hs
  have g1 := script_app (l := [.lst []]) hs
  have s1 : sSet 2 (dOp oAdd (dOp oMul (dC (.int 7919)) (dVar 1)) (dC (.int 11))) (start 4 [.ref 0, .int k]) h = .nx [some (.ref 0), some (.int k), some (.int (7919 * k + 11)), none] h := by
    simp! only [show mulOk 7919 k = true from rfl]
  have sq : seqW (h ++ [.lst []]) (.ref 0) = some (ns.map .int) := by simp only [seqW, lstW, g1, Option.or]
  have s2 : ∃ c : Int, (sIf (dT (dOp oNe (dVar 0) (dB bLst dNil))) (sSeq (sSet 2 (dOp oAdd (dOp oAdd (dVar 2) (dOp oMul (dOp oIx (dVar 0) (dOp oMod (dVar 1) (dB bLen (dCons (dVar 0) dNil)))) (dC (.int 48271)))) (dOp oMul (dC (.int 96810)) (dVar 1))))
    (sSet 2 (dOp oAdd (dVar 2) (dOp oMul (dOp oDiv (dVar 1) (dB bLen (dCons (dVar 0) dNil))) (dC (.int 7919)))))) sNx) [some (.ref 0), some (.int k), some (.int (7919 * k + 11)), none] h = .nx [some (.ref 0), some (.int k), some (.int c), none] (h ++ [.lst []]) ∧ c = cellC ns k := by
    have lim : (0 : Nat) ≤ LIM := Nat.zero_le _
    cases hn : ns with
    | nil =>
      rw [hn] at e1
      refine ⟨7919 * k + 11, ?_, rfl⟩
      simp! only [bLst, lim, oNe, e1, List.isEmpty_nil]
    | cons a r =>
      rw [hn] at e1 sq hl
      have pos : (0 : Int) < (((a :: r).length : Nat) : Int) := by rw [List.length_cons]; omega
      have lt30 : (((a :: r).length : Nat) : Int) < 1073741824 := by omega
      have lt : (k % (((a :: r).length : Nat) : Int)).toNat < (a :: r).length := by
        have := Int.emod_lt_of_pos k pos
        have := Int.emod_nonneg k (Int.ne_of_gt pos)
        omega
      have e3 : atW ((a :: r).map HL.W.int) (k % (((a :: r).length : Nat) : Int)) = some (.int (a :: r)[(k % (((a :: r).length : Nat) : Int)).toNat]) := atW_of (Int.emod_nonneg _ (by omega)) (by rw [List.getElem?_map, List.getElem?_eq_getElem lt]; rfl)
      have m1 : ∀ x : Int, mulOk x 48271 = true := fun x => by simp [mulOk]
      have m2 : ∀ x : Int, mulOk x 7919 = true := fun x => by simp [mulOk]
      have lm : ((a :: r).map HL.W.int).length = (a :: r).length := List.length_map ..
      have hcx : 7919 * k + 11 + (a :: r)[(k % (((a :: r).length : Nat) : Int)).toNat] * 48271 + 96810 * k + k / (((a :: r).length : Nat) : Int) * 7919 = cellC (a :: r) k := by
        unfold cellC
        rw [if_neg (by exact Bool.false_ne_true), List.getElem?_eq_getElem lt]
        rfl
      generalize (a :: r)[(k % (((a :: r).length : Nat) : Int)).toNat] = x at e3 hcx
      refine ⟨7919 * k + 11 + x * 48271 + 96810 * k + k / (((a :: r).length : Nat) : Int) * 7919, ?_, hcx⟩
      have ne : (a :: r).isEmpty = false := rfl
      rw [ne] at e1
      generalize (a :: r) = w at e1 sq pos lt30 e3 lm ⊢
      simp! only [bLst, lim, oNe, e1, bLen, sq, lm, pos, lt30, oIx, e3, m1, m2, show mulOk 96810 k = true from rfl]
  obtain ⟨c, s2, hc⟩ := s2
  have p1 := Int.emod_nonneg c (show (2147483647 : Int) ≠ 0 by decide)
  have p2 := Int.emod_lt_of_pos c (show (0 : Int) < 2147483647 by decide)
  have s3 : sSet 3 (dOp oMod (dVar 2) (dC (.int 2147483647))) [some (.ref 0), some (.int k), some (.int c), none] (h ++ [.lst []]) = .nx [some (.ref 0), some (.int k), some (.int c), some (.int (c % 2147483647))] (h ++ [.lst []]) := by
    simp! only [show decide ((0 : Int) < 2147483647) = true from rfl]
  generalize hd : c % 2147483647 = d at p1 p2 s3
  have m1 : mulOk d d = true := by
    have : d.natAbs < 2 ^ 64 := by omega
    simp only [mulOk, this, decide_true, Bool.true_or]
  have s4 : sSet 3 (dOp oMod (dOp oMul (dVar 3) (dVar 3)) (dC (.int 2147483629))) [some (.ref 0), some (.int k), some (.int c), some (.int d)] (h ++ [.lst []]) = .nx [some (.ref 0), some (.int k), some (.int c), some (.int (d * d % 2147483629))] (h ++ [.lst []]) := by
    simp! only [m1, show decide ((0 : Int) < 2147483629) = true from rfl]
  have q1 := Int.emod_nonneg (d * d) (show (2147483629 : Int) ≠ 0 by decide)
  have q2 := Int.emod_lt_of_pos (d * d) (show (0 : Int) < 2147483629 by decide)
  generalize he : d * d % 2147483629 = e at q1 q2 s4
  have m2 : mulOk e e = true := by
    have : e.natAbs < 2 ^ 64 := by omega
    simp only [mulOk, this, decide_true, Bool.true_or]
  refine ⟨(e * e + 69621 * e + k) % 2147483587, fn_rt rfl ?_, Int.emod_nonneg _ (by decide), Int.emod_lt_of_pos _ (by decide), by unfold cellV cellE; rw [← hc, hd, he]⟩
  unfold b__law_cell
  rw [sSeq_nx s1, sSeq_nx s2, sSeq_nx s3, sSeq_nx s4]
  simp! only [m2, show mulOk 69621 e = true from rfl, show decide ((0 : Int) < 2147483587) = true from rfl]
theorem word_ok (h : Sh) (c : Int) (h0 : 0 ≤ c) : ∃ w o, f__law_word [.int c] h = .ok (.int w) (h ++ [o]) := by
  have d1 : decide ((0 : Int) < 65536) = true := rfl
  have d2 : decide ((65536 : Int) < 1073741824) = true := rfl
  have d3 : decide ((0 : Int) < 9) = true := rfl
  have d4 : decide ((0 : Int) < 4) = true := rfl
  have d5 : decide ((4 : Int) < 1073741824) = true := rfl
  have r0 := Int.emod_nonneg (c / 65536) (show (9 : Int) ≠ 0 by decide)
  have r1 := Int.emod_lt_of_pos (c / 65536) (show (0 : Int) < 9 by decide)
  have r2 : c / 65536 % 9 / 4 = 0 ∨ c / 65536 % 9 / 4 = 1 ∨ c / 65536 % 9 / 4 = 2 := by omega
  have e : ∃ w : Int, atW [.int (c % 65536), .int 65535, .int 0] (c / 65536 % 9 / 4) = some (.int w) := by
    rcases r2 with e | e | e <;> rw [e]
    · exact ⟨c % 65536, rfl⟩
    · exact ⟨65535, rfl⟩
    · exact ⟨0, rfl⟩
  obtain ⟨w, e⟩ := e
  have sq : seqW (h ++ [SO.lst [.int (c % 65536), .int 65535, .int 0]]) (.ref h.length) = some [.int (c % 65536), .int 65535, .int 0] := by
    simp only [seqW, lstW, List.getElem?_append_right (Nat.le_refl _), Nat.sub_self, List.getElem?_cons_zero, Option.or]
  refine ⟨w, .lst [.int (c % 65536), .int 65535, .int 0], fn_rt rfl ?_⟩
  unfold b__law_word
  simp! only [d1, d2, d3, d4, d5, bLst, show (0 + 1 + 1 + 1 ≤ LIM) from by decide, oIx, sq, e]
end
theorem Has.fresh {h l : Sh} {L : List (Nat × SO)} {t : Nat} {o : SO} (H : Has h L) (e : (h ++ l)[t]? = some o) (lt : h.length ≤ t) : Has (h ++ l) ((t, o) :: L) := by
  refine ⟨List.nodup_cons.mpr ⟨?_, H.1⟩, fun x hx => ?_⟩
  · intro m
    obtain ⟨x, hx, e⟩ := List.mem_map.mp m
    have := (List.getElem?_eq_some_iff.mp (H.2 x hx)).1
    omega
  · rcases List.mem_cons.mp hx with rfl | hx
    · exact e
    · exact (H.app l).2 x hx
section
variable {h : Sh} {ns : List Int}
def wdE : DE := dCall f__law_word (dCons (dCall f__law_cell (dCons (dVar 1) (dCons (dOp oAdd (dVar 2) (dVar 0)) dNil))) dNil)
theorem words_loop {m : Nat} (hl : ns.length ≤ 63) (acc : Nat) (n : Nat) : ∀ (lo : Nat) (h : Sh) (ws : List Int) (y : Option HL.W), Has h [(acc, SO.lst (ws.map .int)), (0, .rol (ns.map .int))] → ws.length + n < LIM →
    ∃ (h' : Sh) (ws' : List Int), compW (.fix (rangeW 0 m)) (gName 0) tTrue wdE acc (((List.range' lo n).map fun (k : Nat) => HL.W.int (0 + (k : Int)))) [y, some (.ref 0), some (.int 200)] h = .ok (.ref acc) h' ∧ Has h' [(acc, SO.lst (ws'.map .int)), (0, .rol (ns.map .int))] ∧ ws'.length = ws.length + n := by
  induction n with
  | zero => intro lo h ws y H _; exact ⟨h, ws, rfl, H, rfl⟩
  | succ n ih =>
    intro lo h ws y H hw
    have hs : h[0]? = some (.rol (ns.map .int)) := H.get (List.mem_cons_of_mem _ (List.mem_cons_self ..))
    obtain ⟨c, e1, c0, _⟩ := cell_ok hs hl (200 + (0 + (lo : Int))) (by omega)
    obtain ⟨w, o, e2⟩ := word_ok (h ++ [.lst []]) c c0
    have H1 := (H.app [.lst []]).app [o]
    have g1 : (h ++ [SO.lst []] ++ [o])[acc]? = some (.lst (ws.map .int)) := H1.get (List.mem_cons_self ..)
    have lt : acc < (h ++ [SO.lst []] ++ [o]).length := H1.lt (List.mem_cons_self ..)
    have H2 := H1.set (o' := .lst ((ws ++ [w]).map .int))
    obtain ⟨h', ws', e3, H3, l3⟩ := ih (lo + 1) _ (ws ++ [w]) (some (.int (0 + (lo : Int)))) H2 (by rw [List.length_append]; simp only [List.length_cons, List.length_nil]; omega)
    refine ⟨h', ws', ?_, H3, by rw [l3, List.length_append]; simp only [List.length_cons, List.length_nil]; omega⟩
    have e4 : wdE [some (.int (0 + (lo : Int))), some (.ref 0), some (.int 200)] h = .ok (.int w) (h ++ [SO.lst []] ++ [o]) := by
      unfold wdE
      simp only [dCall, dCons, dNil, dVar, dOp, List.getElem?_cons_zero, List.getElem?_cons_succ, R.bind, oAdd, OR.fin, e1, e2]
    have lw : (ws.map HL.W.int).length < LIM := by rw [List.length_map]; omega
    rw [List.map_append] at e3
    show compW _ _ _ _ _ (HL.W.int (0 + (lo : Int)) :: _) _ _ = _
    rw [compW]
    simp only [gName, List.set_cons_zero, tTrue, R.bind, if_true, e4, g1, lw, It.stays, lt, and_self, true_and]
    exact e3
theorem iRange_of {a : DE} {j : Int} {s : Sg} {h h' : Sh} (b : -(2 ^ 62) ≤ j ∧ j < 2 ^ 62) (e : a s h = .ok (.int j) h') : iRange1 a s h = .ok (.fix (rangeW 0 j.toNat)) h' := by
  unfold iRange1
  rw [e]
  simp only [R.bind]
  rw [if_pos b]
theorem dComp_of {i : DI} {n : Nat} {js : List Nat} {g : DG} {c : DT} {e : DE} {s : Sg} {h h1 : Sh} {t : It} {r : R HL.W} (hi : i s h = .ok t h1) (hc : compW t g c e h1.length t.items (capS n js s) (h1 ++ [.lst []]) = r) : dComp i n js g c e s h = r := by
  unfold dComp
  rw [hi]
  exact hc
theorem sRet_of {e : DE} {s : Sg} {h h' : Sh} {v : HL.W} (x : e s h = .ok v h') : sRet e s h = .rt v h' := by
  unfold sRet
  rw [x]
theorem bnd {m : Nat} (b : m ≤ 1000) : (-(2 ^ 62) ≤ (m : Int) ∧ (m : Int) < 2 ^ 62) := by omega
theorem iRange_nat {a : DE} {m : Nat} {s : Sg} {h h' : Sh} (b : m ≤ 1000) (e : a s h = .ok (.int m) h') : iRange1 a s h = .ok (.fix (rangeW 0 m)) h' :=
  (iRange_of (bnd b) e).trans (congrArg (fun n => R.ok (It.fix (rangeW 0 n)) h') (Int.toNat_natCast m))
theorem words_ok (hl : ns.length ≤ 63) {m : Nat} (hm : m ≤ 64) (H : Has h [(0, SO.rol (ns.map .int))]) : ∃ (h' : Sh) (ws : List Int), f__law_words [.ref 0, .int 200, .int m] h = .ok (.ref h.length) h' ∧ Has h' [(h.length, SO.lst (ws.map .int)), (0, .rol (ns.map .int))] ∧ ws.length = m := by
  have H1 := H.new (.lst [])
  have lim : (64 : Nat) < LIM := by decide
  obtain ⟨h', ws, e, H2, l2⟩ := words_loop (m := m) hl h.length m 0 (h ++ [.lst []]) [] none H1 (by rw [List.length_nil]; omega)
  refine ⟨h', ws, fn_rt rfl ?_, H2, by rw [l2]; exact Nat.zero_add _⟩
  have er : rangeW 0 m = (List.range' 0 m).map fun (k : Nat) => HL.W.int (0 + (k : Int)) := by
    unfold rangeW; rw [List.range_eq_range']
  have i1 : iRange1 (dVar 2) (start 3 [.ref 0, .int 200, .int m]) h = .ok (.fix (rangeW 0 m)) h := by
    exact iRange_nat (by omega) (by simp only [dVar, start, List.map_cons, List.map_nil, List.cons_append, List.nil_append, List.getElem?_cons_succ, List.getElem?_cons_zero])
  have c1 : capS 1 [0, 1] (start 3 [.ref 0, .int 200, .int m]) = [none, some (.ref 0), some (.int 200)] := rfl
  rw [← er] at e
  unfold b__law_words
  refine sRet_of (dComp_of i1 ?_)
  rw [c1]
  exact e
theorem address_ok (hs : h[0]? = some (.rol (ns.map .int))) (hl : ns.length ≤ 63) (k : Int) (h0 : 0 ≤ k) {m : Nat} (hm : 0 < m) : ∃ a l, f__law_address [.ref 0, .int k, .int m] h = .ok (.int a) (h ++ l) ∧ 0 ≤ a ∧ a < m := by
  have hm' : (0 : Int) < m := by omega
  obtain ⟨c, e1, c0, _⟩ := cell_ok hs hl k h0
  have hs1 := script_app (l := [.lst []]) hs
  obtain ⟨d, e2, d0, _⟩ := cell_ok hs1 hl (3 + c / 6 % 4) (by omega)
  have hs2 := script_app (l := [.lst []]) hs1
  have hs3 := script_app (l := [.lst [.int 4, .int 8, .int 16, .int 1, .int 2]]) hs2
  obtain ⟨f, e3, f0, _⟩ := cell_ok hs3 hl 7 (by omega)
  have hs4 := script_app (l := [.lst []]) hs3
  obtain ⟨g, e4, g0, _⟩ := cell_ok hs4 hl 3 (by omega)
  have r0 := Int.emod_nonneg f (show (5 : Int) ≠ 0 by decide)
  have r1 := Int.emod_lt_of_pos f (show (0 : Int) < 5 by decide)
  have st : ∃ s : Int, atW [.int 4, .int 8, .int 16, .int 1, .int 2] (f % 5) = some (.int s) := by
    rcases (by omega : f % 5 = 0 ∨ f % 5 = 1 ∨ f % 5 = 2 ∨ f % 5 = 3 ∨ f % 5 = 4) with e | e | e | e | e <;> rw [e] <;> exact ⟨_, rfl⟩
  obtain ⟨s, st⟩ := st
  have p0 := Int.emod_nonneg c (show (6 : Int) ≠ 0 by decide)
  have p1 := Int.emod_lt_of_pos c (show (0 : Int) < 6 by decide)
  have a1 := Int.emod_nonneg d (show (m : Int) ≠ 0 by omega)
  have a2 := Int.emod_lt_of_pos d hm'
  have b1 := Int.emod_nonneg (g + s * (c / 24 % 5)) (show (m : Int) ≠ 0 by omega)
  have b2 := Int.emod_lt_of_pos (g + s * (c / 24 % 5)) hm'
  have c1 := Int.emod_nonneg (c / 24) (show (m : Int) ≠ 0 by omega)
  have c2 := Int.emod_lt_of_pos (c / 24) hm'
  have re : ∃ a : Int, atW [.int (d % m), .int (d % m), .int ((g + s * (c / 24 % 5)) % m), .int ((g + s * (c / 24 % 5)) % m), .int ((g + s * (c / 24 % 5)) % m), .int (c / 24 % m)] (c % 6) = some (.int a) ∧ 0 ≤ a ∧ a < m := by
    rcases (by omega : c % 6 = 0 ∨ c % 6 = 1 ∨ c % 6 = 2 ∨ c % 6 = 3 ∨ c % 6 = 4 ∨ c % 6 = 5) with e | e | e | e | e | e <;> rw [e]
    · exact ⟨_, rfl, a1, a2⟩
    · exact ⟨_, rfl, a1, a2⟩
    · exact ⟨_, rfl, b1, b2⟩
    · exact ⟨_, rfl, b1, b2⟩
    · exact ⟨_, rfl, b1, b2⟩
    · exact ⟨_, rfl, c1, c2⟩
  obtain ⟨a, re, ra⟩ := re
  have q1 : ∀ (h : Sh) (xs : List HL.W), seqW (h ++ [SO.lst xs]) (.ref h.length) = some xs := by
    intro h xs; simp only [seqW, lstW, List.getElem?_append_right (Nat.le_refl _), Nat.sub_self, List.getElem?_cons_zero, Option.or]
  have q2 : ∀ (h : Sh) (xs : List HL.W), seqW (h ++ [SO.lst xs] ++ [SO.lst []]) (.ref h.length) = some xs := by
    intro h xs
    have : (h ++ [SO.lst xs] ++ [SO.lst []])[h.length]? = some (.lst xs) := by
      rw [List.getElem?_append_left (by simp only [List.length_append, List.length_cons, List.length_nil]; omega), List.getElem?_append_right (Nat.le_refl _), Nat.sub_self]; rfl
    simp only [seqW, lstW, this, Option.or]
  have ms : mulOk s (c / 24 % 5) = true := by
    have := Int.emod_nonneg (c / 24) (show (5 : Int) ≠ 0 by decide)
    have := Int.emod_lt_of_pos (c / 24) (show (0 : Int) < 5 by decide)
    have : (c / 24 % 5).natAbs < 2 ^ 64 := by omega
    simp only [mulOk, this, decide_true, Bool.or_true]
  have d5 : decide ((0 : Int) < 5) = true := rfl
  have d6 : decide ((0 : Int) < 6) = true := rfl
  have d6' : decide ((6 : Int) < 1073741824) = true := rfl
  have d4 : decide ((0 : Int) < 4) = true := rfl
  have d24 : decide ((0 : Int) < 24) = true := rfl
  have d24' : decide ((24 : Int) < 1073741824) = true := rfl
  refine ⟨a, [.lst []] ++ [.lst []] ++ [.lst [.int 4, .int 8, .int 16, .int 1, .int 2]] ++ [.lst []] ++ [.lst []] ++ [.lst [.int (d % m), .int (d % m), .int ((g + s * (c / 24 % 5)) % m), .int ((g + s * (c / 24 % 5)) % m), .int ((g + s * (c / 24 % 5)) % m), .int (c / 24 % m)]], fn_rt rfl ?_, ra⟩
  unfold b__law_address
  rw [sSeq_nx (s' := [some (.ref 0), some (.int k), some (.int m), some (.int c), none, none, none]) (h' := h ++ [.lst []]) (by simp only [sSet, dCall, dCons, dNil, dVar, start, List.map_cons, List.map_nil, List.cons_append, List.nil_append, List.getElem?_cons_zero, List.getElem?_cons_succ, R.bind, e1, List.length_cons, List.length_nil, List.replicate, List.set_cons_succ, List.set_cons_zero])]
  rw [sSeq_nx (s' := [some (.ref 0), some (.int k), some (.int m), some (.int c), some (.int (d % m)), none, none]) (h' := h ++ [.lst []] ++ [.lst []]) (by simp! only [d6, d6', d4, e2, hm'])]
  rw [sSeq_nx (s' := [some (.ref 0), some (.int k), some (.int m), some (.int c), some (.int (d % m)), some (.int s), none]) (h' := h ++ [.lst []] ++ [.lst []] ++ [.lst [.int 4, .int 8, .int 16, .int 1, .int 2]] ++ [.lst []]) (by simp! only [bLst, show (0 + 1 + 1 + 1 + 1 + 1 ≤ LIM) from by decide, e3, d5, oIx, q2, st])]
  rw [sSeq_nx (s' := [some (.ref 0), some (.int k), some (.int m), some (.int c), some (.int (d % m)), some (.int s), some (.int ((g + s * (c / 24 % 5)) % m))]) (h' := h ++ [.lst []] ++ [.lst []] ++ [.lst [.int 4, .int 8, .int 16, .int 1, .int 2]] ++ [.lst []] ++ [.lst []]) (by simp! only [e4, d24, d24', d5, ms, hm'])]
  simp! only [bLst, show (0 + 1 + 1 + 1 + 1 + 1 + 1 ≤ LIM) from by decide, d24, d24', hm', d6, oIx, q1, re]
  simp only [List.append_assoc, List.cons_append, List.nil_append]
end
section
variable {h : Sh} {ns : List Int}
theorem seq_last (h : Sh) (xs : List HL.W) : seqW (h ++ [SO.lst xs]) (.ref h.length) = some xs := by
  simp only [seqW, lstW, List.getElem?_append_right (Nat.le_refl _), Nat.sub_self, List.getElem?_cons_zero, Option.or]
theorem seq_lastT (h : Sh) (xs : List HL.W) : seqW (h ++ [SO.tup xs]) (.ref h.length) = some xs := by
  simp only [seqW, lstW, tupW, List.getElem?_append_right (Nat.le_refl _), Nat.sub_self, List.getElem?_cons_zero, Option.or]
def deeds : List Str := ["get", "get", "get", "put", "put", "put", "put", "cost", "look", "look", "settle"]
theorem deed_ok (hs : h[0]? = some (.rol (ns.map .int))) (hl : ns.length ≤ 63) (k : Nat) {m : Nat} (hm : 0 < m) : ∃ (x : Str) (a : Nat) (w : Int) (t : Nat) (l : Sh), f__law_deed_by [.ref 0, .int k, .int m] h = .ok (.ref t) (h ++ l) ∧ (h ++ l)[t]? = some (.tup [.str x, .int a, .int w]) ∧ h.length ≤ t ∧ x ∈ deeds ∧ a < m := by
  obtain ⟨c, e1, c0, _⟩ := cell_ok hs hl (40 + (k : Int)) (by omega)
  have hs1 := script_app (l := [.lst []]) hs
  have r0 := Int.emod_nonneg (c / 7) (show (2 : Int) ≠ 0 by decide)
  have r1 := Int.emod_lt_of_pos (c / 7) (show (0 : Int) < 2 by decide)
  have ew : ∃ w : Int, atW [.int (c / 11 % 65536), .int (c / 11 % 3)] (c / 7 % 2) = some (.int w) := by
    rcases (by omega : c / 7 % 2 = 0 ∨ c / 7 % 2 = 1) with e | e <;> rw [e] <;> exact ⟨_, rfl⟩
  obtain ⟨w, ew⟩ := ew
  have hs2 := script_app (l := [.lst [.int (c / 11 % 65536), .int (c / 11 % 3)]]) hs1
  have hs3 := script_app (l := [.lst (deeds.map HL.W.str)]) hs2
  have p0 := Int.emod_nonneg c (show (11 : Int) ≠ 0 by decide)
  have p1 := Int.emod_lt_of_pos c (show (0 : Int) < 11 by decide)
  have lt : (c % 11).toNat < deeds.length := by show _ < 11; omega
  have ex : atW (deeds.map HL.W.str) (c % 11) = some (.str deeds[(c % 11).toNat]) := atW_of p0 (by rw [List.getElem?_map, List.getElem?_eq_getElem lt]; rfl)
  obtain ⟨a, l, e2, a0, a1⟩ := address_ok hs3 hl (100 + (k : Int)) (by omega) hm
  have an : ((a.toNat : Nat) : Int) = a := by omega
  have d11 : decide ((0 : Int) < 11) = true := rfl
  have d11' : decide ((11 : Int) < 1073741824) = true := rfl
  have d65 : decide ((0 : Int) < 65536) = true := rfl
  have d3 : decide ((0 : Int) < 3) = true := rfl
  have d7 : decide ((0 : Int) < 7) = true := rfl
  have d7' : decide ((7 : Int) < 1073741824) = true := rfl
  have d2 : decide ((0 : Int) < 2) = true := rfl
  generalize deeds[(c % 11).toNat] = x at ex
  have xm : x ∈ deeds := by
    have : (deeds.map HL.W.str)[(c % 11).toNat]? = some (.str x) := by
      unfold atW at ex
      cases hi : ixW (deeds.map HL.W.str).length (c % 11) with
      | none => rw [hi] at ex; cases ex
      | some j =>
        rw [hi] at ex
        unfold ixW at hi
        rw [if_pos p0] at hi
        split at hi
        · cases hi; exact ex
        · cases hi
    rw [List.getElem?_map] at this
    cases hd : deeds[(c % 11).toNat]? with
    | none => rw [hd] at this; cases this
    | some y => rw [hd] at this; injection this with this; injection this with this; rw [← this]; exact List.mem_of_getElem? hd
  refine ⟨x, a.toNat, w, (h ++ [SO.lst []] ++ [SO.lst [HL.W.int (c / 11 % 65536), HL.W.int (c / 11 % 3)]] ++ [SO.lst (deeds.map HL.W.str)] ++ l).length, [.lst []] ++ [.lst [.int (c / 11 % 65536), .int (c / 11 % 3)]] ++ [.lst (deeds.map HL.W.str)] ++ l ++ [.tup [.str x, .int a, .int w]], fn_rt rfl ?_, ?_, ?_, xm, by omega⟩
  · unfold b__law_deed_by
    rw [sSeq_nx (s' := [some (.ref 0), some (.int k), some (.int m), some (.int c), none, none]) (h' := h ++ [.lst []]) (by simp only [sSet, dCall, dCons, dNil, dVar, dOp, dC, oAdd, OR.fin, start, List.map_cons, List.map_nil, List.cons_append, List.nil_append, List.getElem?_cons_zero, List.getElem?_cons_succ, R.bind, e1, List.length_cons, List.length_nil, List.replicate, List.set_cons_succ, List.set_cons_zero])]
    rw [sSeq_nx (s' := [some (.ref 0), some (.int k), some (.int m), some (.int c), some (.int w), none]) (h' := h ++ [.lst []] ++ [.lst [.int (c / 11 % 65536), .int (c / 11 % 3)]]) (by simp! only [bLst, show (0 + 1 + 1 ≤ LIM) from by decide, d11, d11', d65, d3, d7, d7', d2, oIx, seq_last, ew])]
    rw [sSeq_nx (s' := [some (.ref 0), some (.int k), some (.int m), some (.int c), some (.int w), some (.ref (h ++ [SO.lst []] ++ [SO.lst [HL.W.int (c / 11 % 65536), HL.W.int (c / 11 % 3)]]).length)]) (h' := h ++ [.lst []] ++ [.lst [.int (c / 11 % 65536), .int (c / 11 % 3)]] ++ [.lst (deeds.map HL.W.str)]) (by simp! only [bLst, show (0 + 1 + 1 + 1 + 1 + 1 + 1 + 1 + 1 + 1 + 1 + 1 ≤ LIM) from by decide, deeds])]
    refine sRet_of ?_
    have f1 : dOp oIx (dVar 5) (dOp oMod (dVar 3) (dC (.int 11))) [some (.ref 0), some (.int k), some (.int m), some (.int c), some (.int w), some (.ref (h ++ [SO.lst []] ++ [SO.lst [HL.W.int (c / 11 % 65536), HL.W.int (c / 11 % 3)]]).length)] (h ++ [SO.lst []] ++ [SO.lst [HL.W.int (c / 11 % 65536), HL.W.int (c / 11 % 3)]] ++ [.lst (deeds.map HL.W.str)]) = .ok (.str x) (h ++ [SO.lst []] ++ [SO.lst [HL.W.int (c / 11 % 65536), HL.W.int (c / 11 % 3)]] ++ [.lst (deeds.map HL.W.str)]) := by
      simp! only [d11, oIx, seq_last, ex]
    have f2 : dCall f__law_address (dCons (dVar 0) (dCons (dOp oAdd (dC (.int 100)) (dVar 1)) (dCons (dVar 2) dNil))) [some (.ref 0), some (.int k), some (.int m), some (.int c), some (.int w), some (.ref (h ++ [SO.lst []] ++ [SO.lst [HL.W.int (c / 11 % 65536), HL.W.int (c / 11 % 3)]]).length)] (h ++ [SO.lst []] ++ [SO.lst [HL.W.int (c / 11 % 65536), HL.W.int (c / 11 % 3)]] ++ [.lst (deeds.map HL.W.str)]) = .ok (.int a) (h ++ [SO.lst []] ++ [SO.lst [HL.W.int (c / 11 % 65536), HL.W.int (c / 11 % 3)]] ++ [.lst (deeds.map HL.W.str)] ++ l) := by
      simp only [dCall, dCons, dNil, dVar, dOp, dC, oAdd, OR.fin, List.getElem?_cons_zero, List.getElem?_cons_succ, R.bind, e2]
    simp only [dB, dCons, f1, f2, R.bind, dVar, List.getElem?_cons_zero, List.getElem?_cons_succ, dNil, bTup, show ([HL.W.str x, .int a, .int w].length ≤ LIM) from (by show 3 ≤ LIM; decide), if_true, OR.fin]
    simp only [List.append_assoc]
  · rw [an]
    simp only [← List.append_assoc]
    rw [List.getElem?_append_right (Nat.le_refl _), Nat.sub_self]; rfl
  · simp only [List.length_append]; omega
end
section
variable {h : Sh}
theorem slow_init_ok {L : List (Nat × SO)} {t : Nat} {ws : List Int} (H : Has h ((t, SO.tup (ws.map .int)) :: L)) : ∃ h', f_Slow_init [.ref h.length, .ref t] (h ++ [.ins "Slow" []]) = .ok .non h' ∧ Has h' ((h.length, SO.ins "Slow" [("cells", .ref (h.length + 1)), ("lines_told", .int 0), ("lines_put", .int 0)]) :: (h.length + 1, SO.lst (ws.map .int)) :: L) := by
  have H1 := H.new (.ins "Slow" [])
  have g1 : (h ++ [SO.ins "Slow" []])[h.length]? = some (.ins "Slow" []) := H1.get (List.mem_cons_self ..)
  have l1 : (h ++ [SO.ins "Slow" []]).length = h.length + 1 := by rw [List.length_append]; rfl
  generalize h ++ [SO.ins "Slow" []] = h1 at H1 g1 l1
  have g2 : seqW h1 (.ref t) = some (ws.map .int) := by
    have : h1[t]? = some (.tup (ws.map .int)) := H1.get (List.mem_cons_of_mem _ (List.mem_cons_self ..))
    simp only [seqW, lstW, tupW, this, Option.or]
  have H2 := H1.new (.lst (ws.map .int))
  rw [l1] at H2
  have g3 : (h1 ++ [SO.lst (ws.map .int)])[h.length]? = some (.ins "Slow" []) := H2.get (List.mem_cons_of_mem _ (List.mem_cons_self ..))
  have e1 : setF ["Slow"] "cells" (.ref h.length) (.ref (h.length + 1)) (h1 ++ [SO.lst (ws.map .int)]) = .ok .non ((h1 ++ [SO.lst (ws.map .int)]).set h.length (.ins "Slow" [("cells", .ref (h.length + 1))])) := setF_of g3 (by decide) (by simp only [List.length_nil]; omega)
  have H3 := (H2.perm (List.Perm.swap ..)).set (o' := .ins "Slow" [("cells", .ref (h.length + 1))])
  generalize (h1 ++ [SO.lst (ws.map .int)]).set h.length (.ins "Slow" [("cells", .ref (h.length + 1))]) = h3 at e1 H3
  have e2 : setF ["Slow"] "lines_told" (.ref h.length) (.int 0) h3 = .ok .non (h3.set h.length (.ins "Slow" [("cells", .ref (h.length + 1)), ("lines_told", .int 0)])) := setF_of (H3.get (List.mem_cons_self ..)) (by decide) (by simp only [List.length_cons, List.length_nil]; omega)
  have H4 := H3.set (o' := .ins "Slow" [("cells", .ref (h.length + 1)), ("lines_told", .int 0)])
  generalize h3.set h.length (.ins "Slow" [("cells", .ref (h.length + 1)), ("lines_told", .int 0)]) = h4 at e2 H4
  have e3 : setF ["Slow"] "lines_put" (.ref h.length) (.int 0) h4 = .ok .non (h4.set h.length (.ins "Slow" [("cells", .ref (h.length + 1)), ("lines_told", .int 0), ("lines_put", .int 0)])) := setF_of (H4.get (List.mem_cons_self ..)) (by decide) (by simp only [List.length_cons, List.length_nil]; omega)
  have H5 := H4.set (o' := .ins "Slow" [("cells", .ref (h.length + 1)), ("lines_told", .int 0), ("lines_put", .int 0)])
  refine ⟨_, ?_, Has.tail (i := t) (o := SO.tup (ws.map .int)) (H5.perm (List.perm_middle (l₁ := [_, _])))⟩
  simp! only [b_Slow_init, bList, g2, l1, e1, e2, e3]
def nilE : DE := dB bLst dNil
def roomL (ps : List Nat) : List (Nat × SO) := ps.map fun p => (p, SO.lst [])
theorem rooms_loop (acc : Nat) {m : Nat} {L : List (Nat × SO)} (n : Nat) : ∀ (lo : Nat) (h : Sh) (ps : List Nat) (y : Option HL.W), Has h ((acc, SO.lst (ps.map .ref)) :: (roomL ps ++ L)) → ps.length + n < LIM →
    ∃ (h' : Sh) (ps' : List Nat), compW (.fix (rangeW 0 m)) (gName 0) tTrue nilE acc (((List.range' lo n).map fun (k : Nat) => HL.W.int (0 + (k : Int)))) [y] h = .ok (.ref acc) h' ∧ Has h' ((acc, SO.lst (ps'.map .ref)) :: (roomL ps' ++ L)) ∧ ps'.length = ps.length + n := by
  induction n with
  | zero => intro lo h ps y H _; exact ⟨h, ps, rfl, H, rfl⟩
  | succ n ih =>
    intro lo h ps y H hw
    have H1 := H.new (.lst [])
    have e4 : nilE [some (.int (0 + (lo : Int)))] h = .ok (.ref h.length) (h ++ [SO.lst []]) := by
      unfold nilE
      simp only [dB, dNil, R.bind, bLst, List.length_nil, Nat.zero_le, if_true, OR.fin]
    have g1 : (h ++ [SO.lst []])[acc]? = some (.lst (ps.map .ref)) := H1.get (List.mem_cons_of_mem _ (List.mem_cons_self ..))
    have lt : acc < (h ++ [SO.lst []]).length := H1.lt (List.mem_cons_of_mem _ (List.mem_cons_self ..))
    have H2 := (H1.perm (List.Perm.swap ..)).set (o' := .lst ((ps ++ [h.length]).map .ref))
    have H3 : Has ((h ++ [SO.lst []]).set acc (.lst ((ps ++ [h.length]).map .ref))) ((acc, SO.lst ((ps ++ [h.length]).map .ref)) :: (roomL (ps ++ [h.length]) ++ L)) := by
      refine H2.perm (List.Perm.cons _ ?_)
      unfold roomL
      rw [List.map_append, List.append_assoc]
      exact (List.perm_middle).symm
    obtain ⟨h', ps', e3, H4, l3⟩ := ih (lo + 1) _ (ps ++ [h.length]) (some (.int (0 + (lo : Int)))) H3 (by rw [List.length_append]; simp only [List.length_cons, List.length_nil]; omega)
    refine ⟨h', ps', ?_, H4, by rw [l3, List.length_append]; simp only [List.length_cons, List.length_nil]; omega⟩
    have lw : (ps.map HL.W.ref).length < LIM := by rw [List.length_map]; omega
    rw [List.map_append] at e3
    show compW _ _ _ _ _ (HL.W.int (0 + (lo : Int)) :: _) _ _ = _
    rw [compW]
    simp only [gName, List.set_cons_zero, tTrue, R.bind, if_true, e4, g1, lw, It.stays, lt, and_self, true_and]
    exact e3
theorem sFld_of {cs : List Str} {f : Str} {o e : DE} {s : Sg} {h h1 h2 h3 : Sh} {v x : HL.W} (he : e s h = .ok v h1) (ho : o s h1 = .ok x h2) (hs : setF cs f x v h2 = .ok .non h3) : sFld cs f o e s h = .nx s h3 := by
  unfold sFld
  rw [he]
  simp only [R.bind]
  rw [ho]
  simp only [R.bind, hs]
theorem near_init_ok {L : List (Nat × SO)} {s k : Nat} (hk : k = 1 ∨ k = 2 ∨ k = 4) (H : Has h L) : ∃ (h' : Sh) (r : Nat) (ps : List Nat), f_Near_init [.ref h.length, .ref s, .int k] (h ++ [.ins "Near" []]) = .ok .non h' ∧ Has h' ((h.length, SO.ins "Near" [("slow", .ref s), ("sets", .int k), ("rooms", .ref r)]) :: (r, SO.lst (ps.map .ref)) :: (roomL ps ++ L)) ∧ ps.length = k := by
  have H1 := H.new (.ins "Near" [])
  generalize hn : h.length = n at H1
  generalize h ++ [SO.ins "Near" []] = h1 at H1
  have e1 := number_ok (k : Int) h1
  have ei : inW (.int k) [.int 1, .int 2, .int 4] = true := by rcases hk with rfl | rfl | rfl <;> rfl
  have s1 : sIf (tOr (tNot (dT (dCall f_is_number (dCons (dVar 2) dNil)))) (dT (dOp oNotIn (dVar 2) (dB bTup (dCons (dC (.int 1)) (dCons (dC (.int 2)) (dCons (dC (.int 4)) dNil))))))) sNever sNx (start 3 [.ref n, .ref s, .int k]) h1 = .nx [some (.ref n), some (.ref s), some (.int k)] (h1 ++ [.tup [.int 1, .int 2, .int 4]]) := by
    simp! only [e1, bTup, show (0 + 1 + 1 + 1 ≤ LIM) from by decide, oNotIn, seq_lastT, flatW, List.all_cons, List.all_nil, ei]
  have H2 := H1.app [.tup [.int 1, .int 2, .int 4]]
  generalize h1 ++ [SO.tup [.int 1, .int 2, .int 4]] = h2 at s1 H2
  have e2 : setF ["Near"] "slow" (.ref n) (.ref s) h2 = .ok .non (h2.set n (.ins "Near" [("slow", .ref s)])) := setF_of (H2.get (List.mem_cons_self ..)) (by decide) (by simp only [List.length_nil]; omega)
  have s2 : sFld ["Near"] "slow" (dVar 0) (dVar 1) [some (.ref n), some (.ref s), some (.int k)] h2 = .nx [some (.ref n), some (.ref s), some (.int k)] (h2.set n (.ins "Near" [("slow", .ref s)])) := sFld_of rfl rfl e2
  have H3 := H2.set (o' := .ins "Near" [("slow", .ref s)])
  generalize h2.set n (SO.ins "Near" [("slow", .ref s)]) = h3 at s2 H3
  have e3 : setF ["Near"] "sets" (.ref n) (.int k) h3 = .ok .non (h3.set n (.ins "Near" [("slow", .ref s), ("sets", .int k)])) := setF_of (H3.get (List.mem_cons_self ..)) (by decide) (by simp only [List.length_cons, List.length_nil]; omega)
  have s3 : sFld ["Near"] "sets" (dVar 0) (dVar 2) [some (.ref n), some (.ref s), some (.int k)] h3 = .nx [some (.ref n), some (.ref s), some (.int k)] (h3.set n (.ins "Near" [("slow", .ref s), ("sets", .int k)])) := sFld_of rfl rfl e3
  have H4 := H3.set (o' := .ins "Near" [("slow", .ref s), ("sets", .int k)])
  generalize h3.set n (SO.ins "Near" [("slow", .ref s), ("sets", .int k)]) = h4 at s3 H4
  have H5 := H4.new (.lst [])
  obtain ⟨h5, ps, e4, H6, l6⟩ := rooms_loop h4.length (m := k) k 0 (h4 ++ [.lst []]) [] none H5 (by
    have : (4 : Nat) < LIM := by decide
    rw [List.length_nil]; omega)
  have er : rangeW 0 k = (List.range' 0 k).map fun (k : Nat) => HL.W.int (0 + (k : Int)) := by
    unfold rangeW; rw [List.range_eq_range']
  rw [← er] at e4
  have d1 : dComp (iRange1 (dVar 2)) 1 [] (gName 0) tTrue nilE [some (.ref n), some (.ref s), some (.int k)] h4 = .ok (.ref h4.length) h5 :=
    dComp_of (iRange_nat (m := k) (by omega) rfl) e4
  have H7 := H6.perm (List.perm_middle (l₁ := (h4.length, SO.lst (ps.map .ref)) :: roomL ps) (a := (n, SO.ins "Near" [("slow", .ref s), ("sets", .int k)])) (l₂ := L))
  have e5 : setF ["Near"] "rooms" (.ref n) (.ref h4.length) h5 = .ok .non (h5.set n (.ins "Near" [("slow", .ref s), ("sets", .int k), ("rooms", .ref h4.length)])) := setF_of (H7.get (List.mem_cons_self ..)) (by decide) (by simp only [List.length_cons, List.length_nil]; omega)
  have s4 : sFld ["Near"] "rooms" (dVar 0) (dComp (iRange1 (dVar 2)) 1 [] (gName 0) tTrue nilE) [some (.ref n), some (.ref s), some (.int k)] h4 = .nx [some (.ref n), some (.ref s), some (.int k)] (h5.set n (.ins "Near" [("slow", .ref s), ("sets", .int k), ("rooms", .ref h4.length)])) := sFld_of d1 rfl e5
  refine ⟨h5.set n (.ins "Near" [("slow", .ref s), ("sets", .int k), ("rooms", .ref h4.length)]), h4.length, ps, fn_nx (s' := [some (.ref n), some (.ref s), some (.int k)]) rfl ?_, H7.set, by rw [l6]; exact Nat.zero_add _⟩
  unfold b_Near_init
  rw [sSeq_nx s1, sSeq_nx s2, sSeq_nx s3]
  exact s4
end
theorem sFor_of {i : DI} {g : DG} {b : DS} {s : Sg} {h h1 : Sh} {t : It} {c : C} (hi : i s h = .ok t h1) (hc : forW t g b t.items s h1 = c) : sFor i g b s h = c := by
  unfold sFor
  rw [hi]
  exact hc
theorem St.app {m : Co} {rs : List Rm} {F : List (Nat × SO)} {h : Sh} (S : St m rs F h) (l : Sh) : St m rs F (h ++ l) := Has.app S l
theorem St.fresh {m : Co} {rs : List Rm} {F : List (Nat × SO)} {h l : Sh} {t : Nat} {o : SO} (S : St m rs F h) (e : (h ++ l)[t]? = some o) (lt : h.length ≤ t) : St m rs ((t, o) :: F) (h ++ l) := by
  refine (Has.fresh S e lt).perm ?_
  refine (List.perm_middle (l₁ := m.objs)).symm.trans (List.Perm.append_left _ ?_)
  exact (List.Perm.swap ..).trans (List.Perm.cons _ List.perm_middle.symm)
theorem St.tail {m : Co} {rs : List Rm} {F : List (Nat × SO)} {h : Sh} {x : Nat × SO} (S : St m rs (x :: F) h) : St m rs F h :=
  Has.sub S (List.Sublist.append_left (List.Sublist.cons_cons _ (List.Sublist.append_left (List.sublist_cons_self _ _) _)) _)
theorem St.at {m : Co} {rs : List Rm} {F : List (Nat × SO)} {h : Sh} {t : Nat} {o : SO} (S : St m rs F h) (e : (t, o) ∈ F) : h[t]? = some o := Has.get S (List.mem_append_right _ (List.mem_cons_of_mem _ (List.mem_append_right _ e)))
theorem St.upd {m : Co} {rs : List Rm} {A B : List (Nat × SO)} {h : Sh} {t : Nat} {o o' : SO} (S : St m rs (A ++ (t, o) :: B) h) : St m rs (A ++ (t, o') :: B) (h.set t o') := by
  unfold St at S ⊢
  have e : ∀ o, m.objs ++ ((m.r, SO.lst ((rs.map Rm.p).map .ref)) :: (rs.flatMap Rm.objs ++ (A ++ (t, o) :: B))) = (m.objs ++ ((m.r, SO.lst ((rs.map Rm.p).map .ref)) :: (rs.flatMap Rm.objs ++ A))) ++ (t, o) :: B := by
    intro o; simp only [List.append_assoc, List.cons_append]
  rw [e] at S ⊢
  exact Has.upd S
def Fs (ns : List Int) (p : Nat) (here : List Int) : List (Nat × SO) := [(p, SO.lst (here.map .int)), (0, .rol (ns.map .int))]
structure Inv (ns : List Int) (M p n s : Nat) (here : List Int) (h : Sh) (m : Co) (rs : List Rm) (F : List (Nat × SO)) : Prop where
  st : St m rs F h
  wf : WF m rs
  n : m.n = n
  s : m.s = s
  len : m.cells.length = M
  hl : here.length = M
  eq : ∀ k', lineOf m.cells rs m.k k' = four here k'
theorem Inv.at {ns : List Int} {M p n s : Nat} {here : List Int} {h : Sh} {m : Co} {rs : List Rm} {F : List (Nat × SO)} (I : Inv ns M p n s here h m rs F) {a : Nat} {v : Int} (ha : a < M) (e : (lineOf m.cells rs m.k (a / 4))[a % 4]? = some v) : here[a]? = some v := by
  rw [I.eq, four_get, if_pos (by omega), show 4 * (a / 4) + a % 4 = a by omega] at e
  exact e
theorem Inv.kept {ns : List Int} {M p n s : Nat} {here : List Int} {h h' : Sh} {m m' : Co} {rs rs' : List Rm} {F : List (Nat × SO)} (I : Inv ns M p n s here h m rs F) (K : Kept m rs m' rs') (S : St m' rs' F h') (L : ∀ k', lineOf m'.cells rs' m.k k' = lineOf m.cells rs m.k k') : Inv ns M p n s here h' m' rs' F :=
  ⟨S, K.wf, K.n.trans I.n, K.s.trans I.s, K.cl.trans I.len, I.hl, fun k' => by rw [K.k, L]; exact I.eq k'⟩
theorem dCall_of {f : Fn} {as : DA} {s : Sg} {h h1 : Sh} {xs : List HL.W} {r : R HL.W} (ha : as s h = .ok xs h1) (hf : f xs h1 = r) : dCall f as s h = r := by
  unfold dCall
  rw [ha]
  exact hf
theorem sSet_of {i : Nat} {e : DE} {s : Sg} {h h' : Sh} {v : HL.W} (x : e s h = .ok v h') : sSet i e s h = .nx (s.set i (some v)) h' := by
  unfold sSet
  rw [x]
theorem dNew_of {c : Str} {f : Fn} {as : DA} {s : Sg} {h h1 h2 : Sh} {xs : List HL.W} (ha : as s h = .ok xs h1) (hf : f (.ref h1.length :: xs) (h1 ++ [.ins c []]) = .ok .non h2) : dNew c f [] as s h = .ok (.ref h1.length) h2 := by
  unfold dNew
  rw [ha]
  simp only [R.bind, List.append_nil, hf, if_true]
mutual
def Tv (L : List (Nat × SO)) : D → W → Prop
  | .int i, w => w = .int i
  | .bl b, w => w = .bl b
  | .tup ds, w => ∃ p ws, w = .ref p ∧ (p, SO.tup ws) ∈ L ∧ Tvs L ds ws
  | .non, _ => False
  | .str _, _ => False
  | .lst _, _ => False
def Tvs (L : List (Nat × SO)) : List D → List W → Prop
  | [], ws => ws = []
  | d :: ds, ws => ∃ w r, ws = w :: r ∧ Tv L d w ∧ Tvs L ds r
end
mutual
def dp : D → Nat
  | .int _ => 0
  | .bl _ => 0
  | .tup ds => 1 + dps ds
  | .non => 0
  | .str _ => 0
  | .lst _ => 0
def dps : List D → Nat
  | [] => 0
  | d :: ds => max (dp d) (dps ds)
end
mutual
theorem Tv.mono {L L' : List (Nat × SO)} (h : ∀ p ws, (p, SO.tup ws) ∈ L → (p, SO.tup ws) ∈ L') : ∀ (d : D) (w : W), Tv L d w → Tv L' d w
  | .int i, w, x => by unfold Tv at x ⊢; exact x
  | .bl b, w, x => by unfold Tv at x ⊢; exact x
  | .tup ds, w, x => by
    unfold Tv at x ⊢
    obtain ⟨p, ws, e, m, t⟩ := x
    exact ⟨p, ws, e, h p ws m, Tvs.mono h ds ws t⟩
  | .non, _, x => by unfold Tv at x; exact x.elim
  | .str _, _, x => by unfold Tv at x; exact x.elim
  | .lst _, _, x => by unfold Tv at x; exact x.elim
theorem Tvs.mono {L L' : List (Nat × SO)} (h : ∀ p ws, (p, SO.tup ws) ∈ L → (p, SO.tup ws) ∈ L') : ∀ (ds : List D) (ws : List W), Tvs L ds ws → Tvs L' ds ws
  | [], ws, x => by unfold Tvs at x ⊢; exact x
  | d :: ds, ws, x => by
    unfold Tvs at x ⊢
    obtain ⟨w, r, e, a, b⟩ := x
    exact ⟨w, r, e, Tv.mono h d w a, Tvs.mono h ds r b⟩
end
mutual
theorem Tv.dat {L : List (Nat × SO)} {h : Sh} (H : Has h L) : ∀ (d : D) (w : W) (n : Nat), Tv L d w → dp d ≤ n → dat n h w = some d
  | .int i, w, n, x, _ => by unfold Tv at x; subst x; cases n <;> rfl
  | .bl b, w, n, x, _ => by unfold Tv at x; subst x; cases n <;> rfl
  | .tup ds, w, n, x, hn => by
    unfold Tv at x
    obtain ⟨p, ws, rfl, m, t⟩ := x
    unfold dp at hn
    obtain ⟨k, rfl⟩ : ∃ k, n = k + 1 := ⟨n - 1, by omega⟩
    have g := H.get m
    show (match h[p]? with
      | some (.lst xs) => (dats (HL.dat k h) xs).map D.lst
      | some (.rol xs) => (dats (HL.dat k h) xs).map D.lst
      | some (.tup xs) => (dats (HL.dat k h) xs).map D.tup
      | _ => none) = _
    rw [g]
    show (dats (HL.dat k h) ws).map D.tup = _
    rw [Tvs.dat H ds ws k t (by omega)]; rfl
  | .non, _, _, x, _ => by unfold Tv at x; exact x.elim
  | .str _, _, _, x, _ => by unfold Tv at x; exact x.elim
  | .lst _, _, _, x, _ => by unfold Tv at x; exact x.elim
theorem Tvs.dat {L : List (Nat × SO)} {h : Sh} (H : Has h L) : ∀ (ds : List D) (ws : List W) (n : Nat), Tvs L ds ws → dps ds ≤ n → dats (HL.dat n h) ws = some ds
  | [], ws, n, x, _ => by unfold Tvs at x; subst x; rfl
  | d :: ds, ws, n, x, hn => by
    unfold Tvs at x
    obtain ⟨w, r, rfl, a, b⟩ := x
    unfold dps at hn
    simp only [dats, Tv.dat H d w n a (by omega), Tvs.dat H ds r n b (by omega), Option.bind_some, Option.map_some]
end
mutual
theorem deq : ∀ d : D, D.eq d d = true
  | .int i => by simp only [D.eq, beq_self_eq_true]
  | .bl b => by simp only [D.eq, beq_self_eq_true]
  | .str b => by simp only [D.eq, beq_self_eq_true]
  | .non => by simp only [D.eq]
  | .tup ds => by simp only [D.eq]; exact deqs ds
  | .lst ds => by simp only [D.eq]; exact deqs ds
theorem deqs : ∀ ds : List D, D.eqs ds ds = true
  | [] => by simp only [D.eqs, List.isEmpty_nil]
  | d :: ds => by simp only [D.eqs, deq d, deqs ds, Bool.and_self]
end
theorem Tvs.len {L : List (Nat × SO)} : ∀ {ds : List D} {ws : List W}, Tvs L ds ws → ws.length = ds.length
  | [], ws, x => by unfold Tvs at x; subst x; rfl
  | d :: ds, ws, x => by
    unfold Tvs at x
    obtain ⟨w, r, rfl, a, b⟩ := x
    rw [List.length_cons, List.length_cons, Tvs.len b]
theorem Tvs.get {L : List (Nat × SO)} : ∀ {ds : List D} {ws : List W} (i : Nat) {d : D}, Tvs L ds ws → ds[i]? = some d → ∃ w, ws[i]? = some w ∧ Tv L d w
  | [], ws, i, d, x, e => by cases e
  | d :: ds, ws, 0, d', x, e => by
    unfold Tvs at x
    obtain ⟨w, r, rfl, a, b⟩ := x
    cases e
    exact ⟨w, rfl, a⟩
  | d :: ds, ws, i + 1, d', x, e => by
    unfold Tvs at x
    obtain ⟨w, r, rfl, a, b⟩ := x
    exact Tvs.get i b e
theorem Tvs.snoc {L : List (Nat × SO)} {d : D} {w : W} (hd : Tv L d w) : ∀ {ds : List D} {ws : List W}, Tvs L ds ws → Tvs L (ds ++ [d]) (ws ++ [w])
  | [], ws, x => by
    unfold Tvs at x; subst x
    show Tvs L [d] [w]
    unfold Tvs
    exact ⟨w, [], rfl, hd, by unfold Tvs; rfl⟩
  | d' :: ds, ws, x => by
    unfold Tvs at x
    obtain ⟨w', r, rfl, a, b⟩ := x
    show Tvs L (d' :: (ds ++ [d])) (w' :: (r ++ [w]))
    unfold Tvs
    exact ⟨w', _, rfl, a, Tvs.snoc hd b⟩
theorem Tvs.ints {L : List (Nat × SO)} : ∀ ns : List Int, Tvs L (ns.map .int) (ns.map .int)
  | [] => by unfold Tvs; rfl
  | n :: ns => by
    rw [List.map_cons, List.map_cons]
    unfold Tvs
    exact ⟨_, _, rfl, by unfold Tv; rfl, Tvs.ints ns⟩
theorem Tvs.append {L : List (Nat × SO)} {es : List D} {vs : List W} (hb : Tvs L es vs) : ∀ {ds : List D} {ws : List W}, Tvs L ds ws → Tvs L (ds ++ es) (ws ++ vs)
  | [], ws, x => by unfold Tvs at x; subst x; exact hb
  | d' :: ds, ws, x => by
    unfold Tvs at x
    obtain ⟨w', r, rfl, a, b⟩ := x
    show Tvs L (d' :: (ds ++ es)) (w' :: (r ++ vs))
    unfold Tvs
    exact ⟨w', _, rfl, a, Tvs.append hb b⟩
theorem comp_tv {t : It} {e : DE} {acc : Nat} {cs : Sg} {B : List (Nat × SO)} (stay : ∀ h L, Has h (L ++ B) → t.stays h) : ∀ (xs : List W) (ds : List D),
    (∀ (i : Nat) (x : W) (d : D), xs[i]? = some x → ds[i]? = some d → ∀ (h : Sh) (L : List (Nat × SO)), Has h (L ++ B) → ∃ (v : W) (h1 : Sh) (L1 : List (Nat × SO)), e (some x :: cs) h = .ok v h1 ∧ Has h1 (L1 ++ (L ++ B)) ∧ Tv (L1 ++ (L ++ B)) d v) → xs.length = ds.length →
    ∀ (h : Sh) (L : List (Nat × SO)) (ys : List W) (es : List D) (y : Option W), Has h ((acc, SO.lst ys) :: (L ++ B)) → Tvs (L ++ B) es ys → ys.length + xs.length < LIM →
    ∃ (h' : Sh) (L' : List (Nat × SO)) (ys' : List W), compW t (gName 0) tTrue e acc xs (y :: cs) h = .ok (.ref acc) h' ∧ Has h' ((acc, SO.lst ys') :: (L' ++ (L ++ B))) ∧ Tvs (L' ++ (L ++ B)) (es ++ ds) ys' := by
  intro xs
  induction xs with
  | nil =>
    intro ds _ hl h L ys es y H T _
    have : ds = [] := List.eq_nil_of_length_eq_zero hl.symm
    subst this
    exact ⟨h, [], ys, rfl, H, by rw [List.append_nil]; exact T⟩
  | cons x xs ih =>
    intro ds st hl h L ys es y H T lim
    match ds, hl with
    | d :: ds, hl =>
      obtain ⟨v, h1, L1, e1, H1, t1⟩ := st 0 x d rfl rfl h ((acc, SO.lst ys) :: L) H
      have g1 : h1[acc]? = some (.lst ys) := H1.get (List.mem_append_right _ (List.mem_cons_self ..))
      have lt : acc < h1.length := H1.lt (List.mem_append_right _ (List.mem_cons_self ..))
      have H2 : Has (h1.set acc (.lst (ys ++ [v]))) ((acc, SO.lst (ys ++ [v])) :: ((L1 ++ L) ++ B)) := by
        have := (H1.perm (List.perm_middle)).set (o' := .lst (ys ++ [v]))
        rw [List.append_assoc]; exact this
      have T2 : Tvs ((L1 ++ L) ++ B) (es ++ [d]) (ys ++ [v]) := by
        refine Tvs.snoc ?_ (Tvs.mono (fun p ws m => by rw [List.append_assoc]; exact List.mem_append_right _ m) _ _ T)
        refine Tv.mono (fun p ws m => ?_) _ _ t1
        rw [List.append_assoc]
        rcases List.mem_append.mp m with m | m
        · exact List.mem_append_left _ m
        · rcases List.mem_cons.mp m with m | m
          · cases m
          · exact List.mem_append_right _ m
      have lw : ys.length < LIM := by rw [List.length_cons] at lim; omega
      obtain ⟨h', L', ys', e2, H3, T3⟩ := ih ds (fun i x' d' hx hd => st (i + 1) x' d' hx hd) (by simpa using hl) _ (L1 ++ L) (ys ++ [v]) (es ++ [d]) (some x) H2 T2 (by rw [List.length_append]; rw [List.length_cons] at lim; simp only [List.length_cons, List.length_nil]; omega)
      refine ⟨h', L' ++ L1, ys', ?_, ?_, ?_⟩
      · rw [compW]
        have sty : t.stays h1 := stay h1 (L1 ++ ((acc, SO.lst ys) :: L)) (by rw [List.append_assoc]; exact H1)
        simp only [gName, List.set_cons_zero, tTrue, R.bind, if_true, e1, g1, lw, sty, lt, and_self, true_and]
        exact e2
      · have : (L' ++ L1) ++ (L ++ B) = L' ++ ((L1 ++ L) ++ B) := by simp only [List.append_assoc]
        rw [this]; exact H3
      · have : (L' ++ L1) ++ (L ++ B) = L' ++ ((L1 ++ L) ++ B) := by simp only [List.append_assoc]
        rw [this, show es ++ d :: ds = (es ++ [d]) ++ ds by simp only [List.append_assoc, List.cons_append, List.nil_append]]; exact T3
theorem seq_of {h : Sh} {i : Nat} {xs : List W} (g : h[i]? = some (.lst xs)) : seqW h (.ref i) = some xs := by simp only [seqW, lstW, g, Option.or]
theorem seq_ofT {h : Sh} {i : Nat} {xs : List W} (g : h[i]? = some (.tup xs)) : seqW h (.ref i) = some xs := by simp only [seqW, lstW, tupW, g, Option.or]
theorem iSeq_lst {a : DE} {s : Sg} {h h1 : Sh} {i : Nat} {xs : List W} (e : a s h = .ok (.ref i) h1) (g : h1[i]? = some (.lst xs)) : iSeq a s h = .ok (.lst i xs) h1 := by
  unfold iSeq
  rw [e]
  simp only [R.bind, lstW, g]
theorem tup_comp {i : DI} {js : List Nat} {e : DE} {s cs : Sg} {h : Sh} {t : It} {B L : List (Nat × SO)} {ds : List D} (hi : i s h = .ok t h) (hc : capS 1 js s = none :: cs) (stay : ∀ h L, Has h (L ++ B) → t.stays h)
    (st : ∀ (i : Nat) (x : W) (d : D), t.items[i]? = some x → ds[i]? = some d → ∀ (h : Sh) (L : List (Nat × SO)), Has h (L ++ B) → ∃ (v : W) (h1 : Sh) (L1 : List (Nat × SO)), e (some x :: cs) h = .ok v h1 ∧ Has h1 (L1 ++ (L ++ B)) ∧ Tv (L1 ++ (L ++ B)) d v) (hl : t.items.length = ds.length) (lim : t.items.length < LIM) (H : Has h (L ++ B)) :
    ∃ (v : W) (h1 : Sh) (L1 : List (Nat × SO)), dB bTuple (dCons (dComp i 1 js (gName 0) tTrue e) dNil) s h = .ok v h1 ∧ Has h1 (L1 ++ (L ++ B)) ∧ Tv (L1 ++ (L ++ B)) (.tup ds) v := by
  obtain ⟨h', L', ys, e1, H1, T1⟩ := comp_tv stay t.items ds st hl (h ++ [.lst []]) L [] [] none (H.new (.lst [])) (by unfold Tvs; rfl) (by simpa using lim)
  have c1 : dComp i 1 js (gName 0) tTrue e s h = .ok (.ref h.length) h' := dComp_of hi (by rw [hc]; exact e1)
  have g : h'[h.length]? = some (.lst ys) := H1.get (List.mem_cons_self ..)
  refine ⟨.ref h'.length, h' ++ [.tup ys], (h'.length, SO.tup ys) :: (h.length, SO.lst ys) :: L', ?_, H1.new _, ?_⟩
  · simp only [dB, dCons, dNil, c1, R.bind, bTuple, lstW, g, OR.fin]
  · unfold Tv
    refine ⟨_, ys, rfl, List.mem_cons_self .., Tvs.mono (fun p ws m => List.mem_cons_of_mem _ (List.mem_cons_of_mem _ m)) _ _ T1⟩
def lineD (l : Ln) : D := .tup [.int l.n, .tup (l.ws.map .int), .bl l.ch]
def roomD (r : Rm) : D := .tup (r.ls.map lineD)
def heldD (rs : List Rm) : D := .tup (rs.map roomD)
theorem told_ok {l : Ln} {B L : List (Nat × SO)} {h : Sh} (hB : ∀ x ∈ l.objs, x ∈ B) (H : Has h (L ++ B)) : ∃ (v : W) (h1 : Sh) (L1 : List (Nat × SO)), f_Line_told [.ref l.p] h = .ok v h1 ∧ Has h1 (L1 ++ (L ++ B)) ∧ Tv (L1 ++ (L ++ B)) (lineD l) v := by
  have g1 : h[l.p]? = some (.ins "Line" [("number", .int l.n), ("words", .ref l.q), ("changed", .bl l.ch)]) := H.get (List.mem_append_right _ (hB _ (List.mem_cons_self ..)))
  have g2 : h[l.q]? = some (.lst (l.ws.map .int)) := H.get (List.mem_append_right _ (hB _ (List.mem_cons_of_mem _ (List.mem_cons_self ..))))
  have e1 : getF ["Line"] "number" (.ref l.p) h = some (.int l.n) := getF_of g1 (by decide) rfl
  have e2 : getF ["Line"] "words" (.ref l.p) h = some (.ref l.q) := getF_of g1 (by decide) rfl
  have H1 := H.new (.tup (l.ws.map .int))
  have g3 : (h ++ [SO.tup (l.ws.map .int)])[l.p]? = some (.ins "Line" [("number", .int l.n), ("words", .ref l.q), ("changed", .bl l.ch)]) := H1.get (List.mem_cons_of_mem _ (List.mem_append_right _ (hB _ (List.mem_cons_self ..))))
  have e3 : getF ["Line"] "changed" (.ref l.p) (h ++ [SO.tup (l.ws.map .int)]) = some (.bl l.ch) := getF_of g3 (by decide) rfl
  have H2 := H1.new (.tup [.int l.n, .ref h.length, .bl l.ch])
  refine ⟨.ref (h ++ [SO.tup (l.ws.map .int)]).length, h ++ [SO.tup (l.ws.map .int)] ++ [.tup [.int l.n, .ref h.length, .bl l.ch]], [((h ++ [SO.tup (l.ws.map .int)]).length, SO.tup [.int l.n, .ref h.length, .bl l.ch]), (h.length, SO.tup (l.ws.map .int))], fn_rt rfl ?_, H2, ?_⟩
  · unfold b_Line_told
    simp! only [e1, e2, bTuple, lstW, g2, e3, bTup, show (0 + 1 + 1 + 1 ≤ LIM) from by decide]
  · unfold lineD Tv
    refine ⟨_, _, rfl, List.mem_cons_self .., ?_⟩
    unfold Tvs
    refine ⟨_, _, rfl, by unfold Tv; rfl, ?_⟩
    unfold Tvs
    refine ⟨_, _, rfl, ?_, ?_⟩
    · unfold Tv
      exact ⟨_, _, rfl, List.mem_cons_of_mem _ (List.mem_cons_self ..), Tvs.ints _⟩
    · unfold Tvs
      exact ⟨_, _, rfl, by unfold Tv; rfl, by unfold Tvs; rfl⟩
theorem lines_told_ok {r : Rm} {B L : List (Nat × SO)} {h : Sh} (hB : ∀ x ∈ r.objs, x ∈ B) (h2 : r.ls.length ≤ 2) (H : Has h (L ++ B)) : ∃ (v : W) (h1 : Sh) (L1 : List (Nat × SO)), f_lines_told [.ref r.p] h = .ok v h1 ∧ Has h1 (L1 ++ (L ++ B)) ∧ Tv (L1 ++ (L ++ B)) (roomD r) v := by
  have rB : (r.p, SO.lst (r.ls.map fun (l : Ln) => W.ref l.p)) ∈ B := hB _ (List.mem_cons_self ..)
  have lB : ∀ l ∈ r.ls, ∀ x ∈ l.objs, x ∈ B := fun l hl x hx => hB _ (List.mem_cons_of_mem _ (List.mem_flatMap.mpr ⟨l, hl, hx⟩))
  have g : h[r.p]? = some (.lst (r.ls.map fun (l : Ln) => W.ref l.p)) := H.get (List.mem_append_right _ rB)
  have lim : (2 : Nat) < LIM := by decide
  obtain ⟨v, h1, L1, e, H1, T1⟩ := tup_comp (i := iSeq (dVar 0)) (js := []) (e := dMeth tb_told "told" (dVar 0) dNil) (s := start 1 [.ref r.p]) (cs := []) (t := .lst r.p (r.ls.map fun (l : Ln) => W.ref l.p)) (ds := r.ls.map lineD) (B := B) (L := L) (h := h) (iSeq_lst rfl g) rfl
    (fun h L H => by have := H.get (List.mem_append_right L rB); simp only [It.stays, lstW, this])
    (fun i x d hx hd h L H => by
      have hx : (r.ls.map fun (l : Ln) => W.ref l.p)[i]? = some x := hx
      rw [List.getElem?_map] at hx hd
      cases el : r.ls[i]? with
      | none => rw [el] at hx; cases hx
      | some l =>
        rw [el] at hx hd
        cases hx; cases hd
        have ml := List.mem_of_getElem? el
        obtain ⟨v, h1, L1, e, H1, T⟩ := told_ok (lB l ml) H
        have f : findM tb_told "told" (.ref l.p) h = some f_Line_told := findM_of (H.get (List.mem_append_right _ (lB l ml _ (List.mem_cons_self ..)))) rfl
        refine ⟨v, h1, L1, ?_, H1, T⟩
        simp only [dMeth, dNil, dVar, List.getElem?_cons_zero, R.bind, f, e])
    (by simp only [It.items, List.length_map]) (by simp only [It.items, List.length_map]; omega) H
  exact ⟨v, h1, L1, fn_rt rfl (sRet_of e), H1, T1⟩
section
variable {h : Sh} {F : List (Nat × SO)} {m : Co} {rs : List Rm}
theorem held_ok (S : St m rs F h) (W : WF m rs) (k4 : m.k ≤ 4) : ∃ (v : HL.W) (h1 : Sh) (L1 : List (Nat × SO)), f_Near_held [.ref m.n] h = .ok v h1 ∧ St m rs (L1 ++ F) h1 ∧ Tv (L1 ++ F) (heldD rs) v := by
  have rB : (m.r, SO.lst ((rs.map Rm.p).map .ref)) ∈ m.objs ++ ((m.r, SO.lst ((rs.map Rm.p).map .ref)) :: (rs.flatMap Rm.objs ++ F)) := List.mem_append_right _ (List.mem_cons_self ..)
  have e1 : getF ["Near"] "rooms" (.ref m.n) h = some (.ref m.r) := getF_of (Co.near S.core) (by decide) rfl
  have g : h[m.r]? = some (.lst ((rs.map Rm.p).map .ref)) := S.core.get rB
  have lim : (4 : Nat) < LIM := by decide
  have len := W.len
  obtain ⟨v, h1, L1, e, H1, T1⟩ := tup_comp (i := iSeq (dFld ["Near"] "rooms" (dVar 0))) (js := []) (e := dCall f_lines_told (dCons (dVar 0) dNil)) (s := start 1 [.ref m.n]) (cs := []) (t := .lst m.r ((rs.map Rm.p).map .ref)) (ds := rs.map roomD) (B := m.objs ++ ((m.r, SO.lst ((rs.map Rm.p).map .ref)) :: (rs.flatMap Rm.objs ++ F))) (L := []) (h := h)
    (iSeq_lst (by simp only [dFld, dVar, start, List.map_cons, List.map_nil, List.cons_append, List.nil_append, List.getElem?_cons_zero, R.bind, e1]) g) rfl
    (fun h L H => by have := H.get (List.mem_append_right L rB); simp only [It.stays, lstW, this])
    (fun i x d hx hd h L H => by
      have hx : ((rs.map Rm.p).map HL.W.ref)[i]? = some x := hx
      rw [List.getElem?_map, List.getElem?_map] at hx
      rw [List.getElem?_map] at hd
      cases el : rs[i]? with
      | none => rw [el] at hx; cases hx
      | some r =>
        rw [el] at hx hd
        cases hx; cases hd
        obtain ⟨v, h1, L1, e, H1, T⟩ := lines_told_ok (r := r) (fun x hx => List.mem_append_right _ (List.mem_cons_of_mem _ (List.mem_append_left _ (List.mem_flatMap.mpr ⟨r, List.mem_of_getElem? el, hx⟩)))) (W.ok _ _ el).two H
        refine ⟨v, h1, L1, ?_, H1, T⟩
        simp only [dCall, dCons, dNil, dVar, List.getElem?_cons_zero, R.bind, e])
    (by simp only [It.items, List.length_map]) (by simp only [It.items, List.length_map]; omega) (by rw [List.nil_append]; exact S)
  rw [List.nil_append] at H1 T1
  refine ⟨v, h1, L1, fn_rt rfl (sRet_of e), ?_, ?_⟩
  · refine Has.perm H1 ?_
    refine List.perm_append_comm_assoc L1 m.objs _ |>.trans (List.Perm.append_left _ ?_)
    refine List.perm_middle.trans (List.Perm.cons _ ?_)
    exact List.perm_append_comm_assoc L1 _ _
  · refine Tv.mono (fun p ws mm => ?_) _ _ T1
    have noT : ∀ {p : Nat} {ws : List HL.W}, (p, SO.tup ws) ∈ m.objs ++ ((m.r, SO.lst ((rs.map Rm.p).map .ref)) :: (rs.flatMap Rm.objs ++ F)) → (p, SO.tup ws) ∈ F := by
      intro p ws mm
      rcases List.mem_append.mp mm with mm | mm
      · simp only [Co.objs, List.mem_cons, List.not_mem_nil, or_false] at mm
        rcases mm with mm | mm | mm <;> cases mm
      · rcases List.mem_cons.mp mm with mm | mm
        · cases mm
        · rcases List.mem_append.mp mm with mm | mm
          · obtain ⟨r, _, hr⟩ := List.mem_flatMap.mp mm
            rcases List.mem_cons.mp hr with hr | hr
            · cases hr
            · obtain ⟨l, _, hl⟩ := List.mem_flatMap.mp hr
              simp only [Ln.objs, List.mem_cons, List.not_mem_nil, or_false] at hl
              rcases hl with hl | hl <;> cases hl
          · exact mm
    rcases List.mem_append.mp mm with mm | mm
    · exact List.mem_append_left _ mm
    · exact List.mem_append_right _ (noT mm)
end
def clean (l : Ln) : Ln := { l with ch := false }
def cleanR (r : Rm) : Rm := { r with ls := r.ls.map clean }
def allLn (rs : List Rm) : List Ln := rs.flatMap Rm.ls
section
variable {B : List (Nat × SO)}
theorem tup_inv {ds : List D} {u : W} (T : Tv B (.tup ds) u) : ∃ z ws, u = .ref z ∧ (z, SO.tup ws) ∈ B ∧ Tvs B ds ws := by
  unfold Tv at T
  exact T
end
def cnt (ls : List Ln) : Int := ((ls.filter Ln.ch).length : Int)
theorem cnt_cons (l : Ln) (ls : List Ln) : cnt (l :: ls) = (if l.ch = true then 1 else 0) + cnt ls := by
  unfold cnt
  rw [List.filter_cons]
  split
  · rw [List.length_cons]; omega
  · omega
theorem cnt_app (a b : List Ln) : cnt (a ++ b) = cnt a + cnt b := by
  unfold cnt
  rw [List.filter_append, List.length_append]; omega
theorem wb_put (m : Co) (l : Ln) : (wb m l).put = m.put + (if l.ch = true then 1 else 0) := by
  unfold wb
  split
  · rfl
  · omega
theorem wb_told (m : Co) (l : Ln) : (wb m l).told = m.told := by
  unfold wb
  split <;> rfl
section
variable {F : List (Nat × SO)}
theorem innerS_ok (i : Nat) (ys : List Ln) : ∀ (xs : List Ln) (h : Sh) (m : Co) (rs : List Rm) (rm : Rm) (y1 y2 : Option HL.W), St m rs F h → WF m rs → rs[i]? = some rm → rm.ls = xs ++ ys →
    ∃ (h' : Sh) (m' : Co) (rm' : Rm) (y2' : Option HL.W), forW (.lst rm.p (rm.ls.map fun (l : Ln) => HL.W.ref l.p)) (gName 2) wbS (ys.map fun (l : Ln) => HL.W.ref l.p) [some (.ref m.n), y1, y2] h = .nx [some (.ref m.n), y1, y2'] h' ∧ St m' (rs.set i rm') F h' ∧ Kept m rs m' (rs.set i rm') ∧ (∀ k', lineOf m'.cells (rs.set i rm') m.k k' = lineOf m.cells rs m.k k') ∧ rm'.p = rm.p ∧ rm'.ls = xs ++ ys.map clean ∧ m'.put = m.put + cnt ys ∧ m'.told = m.told := by
  induction ys with
  | nil =>
    intro xs h m rs rm y1 y2 S W hr es
    exact ⟨h, m, rm, y2, rfl, by rw [set_self hr]; exact S, by rw [set_self hr]; exact Kept.refl W, fun k' => by rw [set_self hr], rfl, es, by show m.put = m.put + 0; omega, rfl⟩
  | cons l ys ih =>
    intro xs h m rs rm y1 y2 S W hr es
    obtain ⟨h1, e1, S1, K1, L1⟩ := wb_step S W hr es
    have e2 : findM tb_write_back "write_back" (.ref m.n) h = some f_Near_write_back := findM_of (Co.near S.core) rfl
    have lt : i < rs.length := (List.getElem?_eq_some_iff.mp hr).1
    have hr1 : (rs.set i { rm with ls := xs ++ { l with ch := false } :: ys })[i]? = some { rm with ls := xs ++ { l with ch := false } :: ys } := by rw [set_get lt, if_pos rfl]
    have er : (rm.ls.map fun (l : Ln) => HL.W.ref l.p) = ((xs ++ { l with ch := false } :: ys).map fun (l : Ln) => HL.W.ref l.p) := by rw [es, List.map_append, List.map_append, List.map_cons, List.map_cons]
    obtain ⟨h', m', rm', y2', e3, S2, K2, L2, p2, l2, c2⟩ := ih (xs ++ [{ l with ch := false }]) h1 (wb m l) _ _ y1 (some (.ref l.p)) S1 K1.wf hr1 (by simp only [List.append_assoc, List.cons_append, List.nil_append])
    rw [List.set_set] at S2 K2 L2
    rw [K1.n] at e3
    rw [K1.k] at L2
    refine ⟨h', m', rm', y2', ?_, S2, K1.trans K2, fun k' => (L2 k').trans (L1 k'), p2, by rw [l2, List.map_cons]; simp only [List.append_assoc, List.cons_append, List.nil_append, clean], by rw [c2.1, wb_put, cnt_cons]; omega, by rw [c2.2, wb_told]⟩
    have st : It.stays (.lst rm.p (rm.ls.map fun (l : Ln) => HL.W.ref l.p)) h1 := by
      obtain ⟨G, H, _⟩ := S1.open hr1
      have : h1[rm.p]? = some (.lst ((xs ++ { l with ch := false } :: ys).map fun (l : Ln) => HL.W.ref l.p)) := H.get (List.mem_append_right _ (List.mem_cons_of_mem _ (List.mem_cons_self ..)))
      simp only [It.stays, lstW, this, er]
    rw [List.map_cons, forW]
    have b1 : wbS ([some (HL.W.ref m.n), y1, y2].set 2 (some (.ref l.p))) h = .nx [some (.ref m.n), y1, some (.ref l.p)] h1 := by
      unfold wbS
      simp! only [e2, e1]
    simp only [gName, b1, st, if_true]
    rw [er]
    exact e3
theorem outerS_ok (d : Nat) : ∀ (i : Nat) (h : Sh) (m : Co) (rs : List Rm) (y1 y2 : Option HL.W), St m rs F h → WF m rs → i + d = rs.length →
    ∃ (h' : Sh) (m' : Co) (rs' : List Rm) (y1' y2' : Option HL.W), forW (.lst m.r ((rs.map Rm.p).map .ref)) (gName 1) inS (((rs.map Rm.p).drop i).map .ref) [some (.ref m.n), y1, y2] h = .nx [some (.ref m.n), y1', y2'] h' ∧ St m' rs' F h' ∧ Kept m rs m' rs' ∧ (∀ k', lineOf m'.cells rs' m.k k' = lineOf m.cells rs m.k k') ∧ (∀ (j : Nat), rs'[j]? = if j < i then rs[j]? else (rs[j]?).map cleanR) ∧ m'.put = m.put + cnt (allLn (rs.drop i)) ∧ m'.told = m.told := by
  induction d with
  | zero =>
    intro i h m rs y1 y2 S W hi
    refine ⟨h, m, rs, y1, y2, ?_, S, Kept.refl W, fun _ => rfl, fun j => ?_, ?_⟩
    · rw [List.drop_eq_nil_of_le (by rw [List.length_map]; omega)]; rfl
    · split
      · rfl
      · rw [List.getElem?_eq_none (by omega)]; rfl
    · exact ⟨by rw [List.drop_eq_nil_of_le (by omega)]; show m.put = m.put + 0; omega, rfl⟩
  | succ d ih =>
    intro i h m rs y1 y2 S W hi
    have lt : i < rs.length := by omega
    have dr0 := (List.getElem_cons_drop lt).symm
    have hr := List.getElem?_eq_getElem lt
    generalize rs[i] = rm at hr dr0
    obtain ⟨h1, m1, rm', y2', e1, S1, K1, L1, p1, l1, c1⟩ := innerS_ok i rm.ls [] h m rs rm (some (.ref rm.p)) y2 S W hr rfl
    have em : rm' = cleanR rm := by
      obtain ⟨p, ls⟩ := rm'
      simp only at p1 l1
      subst p1 l1
      rfl
    subst em
    obtain ⟨h', m', rs', z1, z2, e2, S2, K2, L2, c2, pt2⟩ := ih (i + 1) h1 m1 _ (some (.ref rm.p)) y2' S1 K1.wf (by rw [List.length_set]; omega)
    rw [K1.n, K1.r, K1.ps] at e2
    rw [K1.k] at L2
    refine ⟨h', m', rs', z1, z2, ?_, S2, K1.trans K2, fun k' => (L2 k').trans (L1 k'), fun j => ?_, ?_⟩
    · have dr : (rs.map Rm.p).drop i = rm.p :: (rs.map Rm.p).drop (i + 1) := by
        rw [← List.map_drop, dr0, List.map_cons, List.map_drop]
      rw [dr, List.map_cons, forW]
      have sr : lstW h (.ref rm.p) = some (rm.ls.map fun (l : Ln) => HL.W.ref l.p) := by
        obtain ⟨G, H, _⟩ := S.open hr
        have : h[rm.p]? = some (.lst (rm.ls.map fun (l : Ln) => HL.W.ref l.p)) := H.get (List.mem_append_right _ (List.mem_cons_of_mem _ (List.mem_cons_self ..)))
        simp only [lstW, this]
      have b1 : inS ([some (HL.W.ref m.n), y1, y2].set 1 (some (.ref rm.p))) h = .nx [some (.ref m.n), some (.ref rm.p), y2'] h1 := by
        unfold inS
        simp! only [sFor, iSeq, sr, It.items, e1]
      have st : It.stays (.lst m.r ((rs.map Rm.p).map .ref)) h1 := by
        have : h1[m1.r]? = some (.lst ((((rs.set i (cleanR rm)).map Rm.p)).map .ref)) := S1.core.get (List.mem_append_right _ (List.mem_cons_self ..))
        rw [K1.r, K1.ps] at this
        simp only [It.stays, lstW, this]
      simp only [gName, b1, st, if_true]
      exact e2
    · rw [c2 j, set_get lt]
      by_cases h1 : j = i
      · subst h1
        rw [if_pos (by omega), if_pos rfl, if_neg (by omega), hr]; rfl
      · rw [if_neg h1]
        by_cases h2 : j < i
        · rw [if_pos (by omega), if_pos h2]
        · rw [if_neg (by omega), if_neg h2]
    · have d2 : (rs.set i (cleanR rm)).drop (i + 1) = rs.drop (i + 1) := by
        apply List.ext_getElem?
        intro j
        rw [List.getElem?_drop, List.getElem?_drop, set_get lt, if_neg (by omega)]
      refine ⟨?_, by rw [pt2.2, c1.2]⟩
      rw [pt2.1, c1.1, d2, dr0, show allLn (rm :: rs.drop (i + 1)) = rm.ls ++ allLn (rs.drop (i + 1)) from List.flatMap_cons .., cnt_app]; omega
theorem settleS_ok {h : Sh} {m : Co} {rs : List Rm} (S : St m rs F h) (W : WF m rs) : ∃ (h' : Sh) (m' : Co), f_Near_settle [.ref m.n] h = .ok .non h' ∧ St m' (rs.map cleanR) F h' ∧ Kept m rs m' (rs.map cleanR) ∧ (∀ k', lineOf m'.cells (rs.map cleanR) m.k k' = lineOf m.cells rs m.k k') ∧ (∀ k', four m'.cells k' = lineOf m.cells rs m.k k') ∧ m'.put = m.put + cnt (allLn rs) ∧ m'.told = m.told := by
  obtain ⟨h', m', rs', y1, y2, e, S', K, L, c, pt⟩ := outerS_ok rs.length 0 h m rs none none S W (by omega)
  have er : rs' = rs.map cleanR := by
    apply List.ext_getElem?
    intro j
    rw [c j, if_neg (by omega), List.getElem?_map]
  subst er
  refine ⟨h', m', fn_nx (s' := [some (.ref m.n), y1, y2]) rfl ?_, S', K, L, fun k' => ?_, pt⟩
  · have e1 : getF ["Near"] "rooms" (.ref m.n) h = some (.ref m.r) := getF_of (Co.near S.core) (by decide) rfl
    have e2 : lstW h (.ref m.r) = some ((rs.map Rm.p).map .ref) := by
      have : h[m.r]? = some (.lst ((rs.map Rm.p).map .ref)) := S.core.get (List.mem_append_right _ (List.mem_cons_self ..))
      simp only [lstW, this]
    rw [List.drop_zero] at e
    show sFor (iSeq (dFld ["Near"] "rooms" (dVar 0))) (gName 1) inS (start 3 [.ref m.n]) h = _
    simp! only [sFor, iSeq, e1, e2, It.items]
    exact e
  · rw [← L k']
    have lt := mod_lt K.wf k'
    rw [K.k] at lt
    have hr := List.getElem?_eq_getElem lt
    generalize (rs.map cleanR)[k' % m.k] = rm at hr
    rw [lineOf_at hr]
    by_cases hx : ∃ l ∈ rm.ls, l.n = (k' : Int)
    · obtain ⟨l, hl, ln⟩ := hx
      have R := K.wf.ok _ _ hr
      have lc : l.ch = false := by
        rw [List.getElem?_map] at hr
        cases eo : rs[k' % m.k]? with
        | none => rw [eo] at hr; cases hr
        | some r0 =>
          rw [eo] at hr
          cases hr
          obtain ⟨l0, _, rfl⟩ := List.mem_map.mp (show l ∈ r0.ls.map clean from hl)
          rfl
      rw [inRoom_some R.nd hl ln]
      show _ = l.ws
      rw [R.same l hl lc, ln]; rfl
    · rw [inRoom_none (fun l hl e => hx ⟨l, hl, e⟩)]; rfl
end
theorem St.more {m : Co} {rs : List Rm} {F N : List (Nat × SO)} {h : Sh} (H : Has h (N ++ (m.objs ++ ((m.r, SO.lst ((rs.map Rm.p).map .ref)) :: (rs.flatMap Rm.objs ++ F))))) : St m rs (N ++ F) h := by
  refine Has.perm H ?_
  refine (List.perm_append_comm_assoc N m.objs _).trans (List.Perm.append_left _ ?_)
  refine List.perm_middle.trans (List.Perm.cons _ ?_)
  exact List.perm_append_comm_assoc N _ _
theorem dOp_of {f : O2} {a b : DE} {s : Sg} {h h1 h2 : Sh} {x y v : HL.W} (ha : a s h = .ok x h1) (hb : b s h1 = .ok y h2) (hf : f x y h2 = .val v) : dOp f a b s h = .ok v h2 := by
  unfold dOp
  rw [ha]
  simp only [R.bind]
  rw [hb]
  simp only [R.bind, hf, OR.fin]
theorem dMeth_of {tb : List (Str × Fn)} {mn : Str} {o : DE} {as : DA} {s : Sg} {h h1 h2 : Sh} {x : W} {xs : List W} {f : Fn} {r : R W} (ho : o s h = .ok x h1) (hf : findM tb mn x h1 = some f) (ha : as s h1 = .ok xs h2) (hr : f (x :: xs) h2 = r) : dMeth tb mn o as s h = r := by
  unfold dMeth
  rw [ho]
  simp only [R.bind, hf]
  rw [ha]
  exact hr
theorem dT_of {a : DE} {s : Sg} {h h' : Sh} {b : Bool} (e : a s h = .ok (.bl b) h') : dT a s h = .ok b h' := by
  unfold dT
  rw [e]
  rfl
theorem tOr_f {a b : DT} {s : Sg} {h h' : Sh} {r : R Bool} (e : a s h = .ok false h') (e2 : b s h' = r) : tOr a b s h = r := by
  unfold tOr
  rw [e]
  exact e2
theorem tNot_of {a : DT} {s : Sg} {h h' : Sh} {b : Bool} (e : a s h = .ok b h') : tNot a s h = .ok (!b) h' := by
  unfold tNot
  rw [e]
  rfl
theorem sIf_nx {c : DT} {a : DS} {s : Sg} {h h' : Sh} (e : c s h = .ok false h') : sIf c a sNx s h = .nx s h' := by
  unfold sIf
  rw [e]
  rfl
theorem sDrop_of {e : DE} {s : Sg} {h h' : Sh} {v : HL.W} (x : e s h = .ok v h') : sDrop e s h = .nx s h' := by
  unfold sDrop
  rw [x]
section
variable {m : Co} {rs : List Rm} {F : List (Nat × SO)} {h : Sh} {s : Sg}
theorem held_e {i : Nat} (S : St m rs F h) (W : WF m rs) (k4 : m.k ≤ 4) (hs : s[i]? = some (some (.ref m.n))) : ∃ (v : HL.W) (h1 : Sh) (N : List (Nat × SO)), dMeth tb_held "held" (dVar i) dNil s h = .ok v h1 ∧ St m rs (N ++ F) h1 ∧ Tv (N ++ F) (heldD rs) v := by
  obtain ⟨v, h1, N, e, S1, T⟩ := held_ok S W k4
  have f1 : findM tb_held "held" (.ref m.n) h = some f_Near_held := findM_of (Co.near S.core) rfl
  exact ⟨v, h1, N, dMeth_of (xs := []) (by simp only [dVar, hs]) f1 rfl e, S1, T⟩
theorem two_of (W : WF m rs) : ∀ r ∈ rs, r.ls.length ≤ 2 := fun r hr => by
  obtain ⟨j, e⟩ := List.mem_iff_getElem?.mp hr
  exact (W.ok _ _ e).two
end
section
variable {ns : List Int} {M p nn sp : Nat} {here : List Int}
theorem Inv.more {h h' : Sh} {m : Co} {rs : List Rm} {F F' : List (Nat × SO)} (I : Inv ns M p nn sp here h m rs F) (S : St m rs F' h') : Inv ns M p nn sp here h' m rs F' := ⟨S, I.wf, I.n, I.s, I.len, I.hl, I.eq⟩
end
theorem for_idx {t : It} {i : Nat} {b : DS} (N : Nat) (I : Nat → Sg → Sh → Prop) (ht : ∀ h, t.stays h) (step : ∀ j, j < N → ∀ s h, I j s h → ∃ s' h', b (s.set i (some (.int j))) h = .nx s' h' ∧ I (j + 1) s' h') (s : Sg) (h : Sh) (h0 : I 0 s h) : ∃ s' h', forW t (gName i) b (rangeW 0 N) s h = .nx s' h' ∧ I N s' h' := by
  have go : ∀ (d j : Nat), j + d = N → ∀ s h, I j s h → ∃ s' h', forW t (gName i) b ((List.range' j d).map fun (k : Nat) => HL.W.int (0 + (k : Int))) s h = .nx s' h' ∧ I N s' h' := by
    intro d
    induction d with
    | zero => intro j hj s h H; exact ⟨s, h, rfl, by rw [← hj]; exact H⟩
    | succ d ih =>
      intro j hj s h H
      obtain ⟨s1, h1, e, H1⟩ := step j (by omega) s h H
      obtain ⟨s2, h2, e2, H2⟩ := ih (j + 1) (by omega) s1 h1 H1
      refine ⟨s2, h2, ?_, H2⟩
      show forW t (gName i) b (HL.W.int (0 + (j : Int)) :: _) s h = _
      rw [forW, Int.zero_add]
      simp only [gName, e, ht h1, if_true]
      exact e2
  have er : rangeW 0 N = (List.range' 0 N).map fun (k : Nat) => HL.W.int (0 + (k : Int)) := by unfold rangeW; rw [List.range_eq_range']
  rw [er]
  exact go N 0 (by omega) s h h0
theorem St.drop {m : Co} {rs : List Rm} {F N : List (Nat × SO)} {h : Sh} (S : St m rs (N ++ F) h) : St m rs F h :=
  Has.sub S (List.Sublist.append_left (List.Sublist.cons_cons _ (List.Sublist.append_left (List.sublist_append_right _ _) _)) _)
theorem St.permF {m : Co} {rs : List Rm} {F F' : List (Nat × SO)} {h : Sh} (S : St m rs F h) (p : F.Perm F') : St m rs F' h :=
  Has.perm S (List.Perm.append_left _ (List.Perm.cons _ (List.Perm.append_left _ p)))
section
variable {m : Co} {rs : List Rm} {F : List (Nat × SO)} {h : Sh} {s : Sg}
theorem ixT_e {s : Sg} {h h1 : Sh} {q i : Nat} {xs : List HL.W} {v : HL.W} {a : DE} (e : a s h = .ok (.ref q) h1) (g : h1[q]? = some (.tup xs)) (ei : atW xs (i : Int) = some v) : dOp oIx a (dC (.int (i : Int))) s h = .ok v h1 :=
  dOp_of (x := .ref q) (y := .int i) (h1 := h1) (h2 := h1) e rfl (by simp only [oIx, seq_ofT g, ei])
theorem tup2_e {s : Sg} {h : Sh} (a b : Str) : dB bTup (dCons (dC (.str a)) (dCons (dC (.str b)) dNil)) s h = .ok (.ref h.length) (h ++ [.tup [.str a, .str b]]) := by
  simp only [dB, dCons, dC, dNil, R.bind, bTup, show ([HL.W.str a, .str b].length ≤ LIM) from (by show 2 ≤ LIM; decide), if_true, OR.fin]
theorem inW_str2 (x a b : Str) : inW (.str x) [.str a, .str b] = decide (x = a ∨ x = b) := by
  unfold inW
  have e : ∀ y : Str, eqW (.str y) (.str x) = decide (x = y) := by
    intro y
    unfold eqW
    by_cases h : x = y
    · rw [decide_eq_true h, h]; exact beq_self_eq_true _
    · rw [decide_eq_false h]; exact beq_eq_false_iff_ne.mpr (fun z => h z.symm)
  rw [List.any_cons, List.any_cons, List.any_nil, e, e, Bool.or_false, Bool.decide_or]
theorem oIn2 {h : Sh} (x a b : Str) : oIn (.str x) (.ref h.length) (h ++ [.tup [.str a, .str b]]) = .val (.bl (decide (x = a ∨ x = b))) := by
  simp only [oIn, seq_lastT, flatW, List.all_cons, List.all_nil, Bool.and_self, if_true, inW_str2]
theorem sIf_go {c : DT} {a b : DS} {s : Sg} {h h' : Sh} {r : C} (e : c s h = .ok true h') (ha : a s h' = r) : sIf c a b s h = r := by
  unfold sIf
  rw [e]
  simp only [if_true]
  exact ha
end
theorem Tvs.ints_inv {L : List (Nat × SO)} : ∀ {ns : List Int} {ws : List HL.W}, Tvs L (ns.map D.int) ws → ws = ns.map HL.W.int
  | [], ws, x => by rw [List.map_nil] at x; unfold Tvs at x; exact x
  | n :: ns, ws, x => by
    rw [List.map_cons] at x
    unfold Tvs at x
    obtain ⟨w, r, rfl, a, b⟩ := x
    unfold Tv at a
    rw [Tvs.ints_inv b, a]; rfl
theorem get_last {h : Sh} {o : SO} : (h ++ [o])[h.length]? = some o := by rw [List.getElem?_append_right (Nat.le_refl _), Nat.sub_self]; rfl
theorem get_old {h l : Sh} {i : Nat} {o : SO} (e : h[i]? = some o) : (h ++ l)[i]? = some o := by
  rw [List.getElem?_append_left (List.getElem?_eq_some_iff.mp e).1]; exact e
theorem tAnd_f {a b : DT} {s : Sg} {h h' : Sh} (e : a s h = .ok false h') : tAnd a b s h = .ok false h' := by
  unfold tAnd
  rw [e]
  rfl
theorem tAnd_t {a b : DT} {s : Sg} {h h' : Sh} {r : HL.R Bool} (e : a s h = .ok true h') (e2 : b s h' = r) : tAnd a b s h = r := by
  unfold tAnd
  rw [e]
  simp only [HL.R.bind, if_true]
  exact e2
theorem cons_of {a : DE} {as : DA} {s : Sg} {h h1 h2 : Sh} {x : HL.W} {xs : List HL.W} (ha : a s h = .ok x h1) (hs : as s h1 = .ok xs h2) : dCons a as s h = .ok (x :: xs) h2 := by
  unfold dCons
  rw [ha]
  simp only [HL.R.bind, hs]
def clrS (e : SL) : SL := (e.1, false)
def cntS (S : List (List SL)) : Int := (S.map fun s => ((s.filter Prod.snd).length : Int)).sum
theorem cnt_ss (rs : List Rm) : cntS (ss rs) = cnt (allLn rs) := by
  induction rs with
  | nil => rfl
  | cons r rs ih =>
    show ((((sr r).filter Prod.snd).length : Int)) + cntS (ss rs) = _
    rw [ih, show allLn (r :: rs) = r.ls ++ allLn rs from List.flatMap_cons .., cnt_app]
    congr 1
    unfold sr cnt
    rw [List.filter_map, List.length_map]
    rfl
theorem ss_clean (rs : List Rm) : ss (rs.map cleanR) = (ss rs).map fun s => s.map clrS := by
  unfold ss
  rw [List.map_map, List.map_map]
  refine List.map_congr_left fun r _ => ?_
  show (r.ls.map clean).map sl = (r.ls.map sl).map clrS
  rw [List.map_map, List.map_map]
  rfl
def didS (S : List (List SL)) (kk : Nat) (x : Str) (a : Nat) : List (List SL) × Int × Int :=
  if x = "get" then getS S kk (a / 4) else if x = "put" then putS S kk (a / 4) else if x = "settle" then (S.map fun s => s.map clrS, 0, cntS S) else (S, 0, 0)
structure Did (m : Co) (rs : List Rm) (ns : List Int) (M p n s : Nat) (here : List Int) (x : Str) (a : Nat) (w : Int) (v : HL.W) (h' : Sh) (m' : Co) (rs' : List Rm) (F : List (Nat × SO)) : Prop where
  inv : Inv ns M p n s (if x = "put" then here.set a w else here) h' m' rs' F
  non : x = "put" ∨ x = "settle" → v = .non
  val : x = "get" ∨ x = "look" → ∃ i, v = .int i ∧ here[a]? = some i
  cost : x = "cost" → v = .int (costS (ss rs) m.k (a / 4))
  kk : m'.k = m.k
  fn : (ss rs', m'.told - m.told, m'.put - m.put) = didS (ss rs) m.k x a
theorem five {x : Str} (hx : x ∈ deeds) : x = "get" ∨ x = "put" ∨ x = "cost" ∨ x = "look" ∨ x = "settle" := by
  simp only [deeds, List.mem_cons, List.not_mem_nil, or_false] at hx
  rcases hx with h | h | h | h | h | h | h | h | h | h | h
  · exact .inl h
  · exact .inl h
  · exact .inl h
  · exact .inr (.inl h)
  · exact .inr (.inl h)
  · exact .inr (.inl h)
  · exact .inr (.inl h)
  · exact .inr (.inr (.inl h))
  · exact .inr (.inr (.inr (.inl h)))
  · exact .inr (.inr (.inr (.inl h)))
  · exact .inr (.inr (.inr (.inr h)))
theorem did_ok {ns : List Int} {M p n s t : Nat} {here : List Int} {h : Sh} {m : Co} {rs : List Rm} {F : List (Nat × SO)} {x : Str} {a : Nat} {w : Int} (I : Inv ns M p n s here h m rs F) (hM4 : M % 4 = 0) (ht : (t, SO.tup [.str x, .int a, .int w]) ∈ F) (hx : x ∈ deeds) (ha : a < M) :
    ∃ (v : HL.W) (h' : Sh) (m' : Co) (rs' : List Rm), f__law_did [.ref n, .ref t] h = .ok v h' ∧ Did m rs ns M p n s here x a w v h' m' rs' F := by
  have g : seqW h (.ref t) = some [.str x, .int a, .int w] := seq_ofT (I.st.at ht)
  have a0 : atW [.str x, .int a, .int w] 0 = some (.str x) := rfl
  have a1 : atW [.str x, .int a, .int w] 1 = some (.int a) := rfl
  have a2 : atW [.str x, .int a, .int w] 2 = some (.int w) := rfl
  have ha' : a < m.cells.length := by rw [I.len]; exact ha
  have nr := Co.near I.st.core
  have f1 : findM tb_get "get" (.ref m.n) h = some f_Near_get := findM_of nr rfl
  have f2 : findM tb_put "put" (.ref m.n) h = some f_Near_put := findM_of nr rfl
  have f3 : findM tb_cost "cost" (.ref m.n) h = some f_Near_cost := findM_of nr rfl
  have f4 : findM tb_look "look" (.ref m.n) h = some f_Near_look := findM_of nr rfl
  have f5 : findM tb_settle "settle" (.ref m.n) h = some f_Near_settle := findM_of nr rfl
  rw [← I.n]
  rcases five hx with rfl | rfl | rfl | rfl | rfl
  · obtain ⟨h', m', rs', v, e, S', K, ev, L, lc, _, gf⟩ := get_ok I.st I.wf ha'
    refine ⟨.int v, h', m', rs', fn_rt rfl ?_, ⟨by rw [if_neg (by decide)]; rw [I.n]; exact I.kept K S' L, fun h => absurd h (by decide), fun _ => ⟨v, rfl, I.at ha ev⟩, fun h => absurd h (by decide), K.k, by unfold didS; rw [if_pos rfl]; exact gf.symm⟩⟩
    unfold b__law_did
    simp! only [oIx, g, a0, a1, a2, oEq, eqH, f1, e]
  · obtain ⟨h', m', rs', e, S', K, L, lc, _, gf⟩ := put_ok I.st I.wf w ha'
    refine ⟨.non, h', m', rs', fn_rt rfl ?_, ⟨?_, fun _ => rfl, fun h => absurd h (by decide), fun h => absurd h (by decide), K.k, by unfold didS; rw [if_neg (by decide), if_pos rfl]; exact gf.symm⟩⟩
    · unfold b__law_did
      simp! only [oIx, g, a0, a1, a2, oEq, eqH, f2, e, show decide (("put" : Str) = "get") = false from by decide]
    · rw [if_pos rfl, I.n]
      refine ⟨S', K.wf, K.n.trans I.n, K.s.trans I.s, K.cl.trans I.len, by rw [List.length_set]; exact I.hl, fun k' => ?_⟩
      rw [K.k, L, four_set, I.eq]
  · obtain ⟨v, e, ev⟩ := cost_ok I.st I.wf ha'
    refine ⟨.int v, h, m, rs, fn_rt rfl ?_, ⟨by rw [if_neg (by decide), I.n]; exact I, fun h => absurd h (by decide), fun h => absurd h (by decide), fun _ => by rw [ev], rfl, by unfold didS; rw [if_neg (by decide), if_neg (by decide), if_neg (by decide), Int.sub_self, Int.sub_self]⟩⟩
    unfold b__law_did
    simp! only [oIx, g, a0, a1, a2, oEq, eqH, f3, e, show decide (("cost" : Str) = "get") = false from by decide, show decide (("cost" : Str) = "put") = false from by decide]
  · obtain ⟨v, e, ev⟩ := look_ok I.st I.wf ha'
    refine ⟨.int v, h, m, rs, fn_rt rfl ?_, ⟨by rw [if_neg (by decide), I.n]; exact I, fun h => absurd h (by decide), fun _ => ⟨v, rfl, I.at ha ev⟩, fun h => absurd h (by decide), rfl, by unfold didS; rw [if_neg (by decide), if_neg (by decide), if_neg (by decide), Int.sub_self, Int.sub_self]⟩⟩
    unfold b__law_did
    simp! only [oIx, g, a0, a1, a2, oEq, eqH, f4, e, show decide (("look" : Str) = "get") = false from by decide, show decide (("look" : Str) = "put") = false from by decide, show decide (("look" : Str) = "cost") = false from by decide]
  · obtain ⟨h', m', e, S', K, L, c4, pt, td⟩ := settleS_ok I.st I.wf
    have ch : m'.cells = here := four_ext (by rw [K.cl, I.len, I.hl]) (by rw [K.cl, I.len]; exact hM4) fun k' _ => by rw [c4]; exact I.eq k'
    refine ⟨.non, h', m', rs.map cleanR, fn_rt rfl ?_, ⟨by rw [if_neg (by decide), I.n]; exact I.kept K S' L, fun _ => rfl, fun h => absurd h (by decide), fun h => absurd h (by decide), K.k, by unfold didS; rw [if_neg (by decide), if_neg (by decide), if_pos rfl, ss_clean, cnt_ss, td, pt, Int.sub_self, show m.put + cnt (allLn rs) - m.put = cnt (allLn rs) by omega]⟩⟩
    unfold b__law_did
    simp! only [oIx, g, a0, a1, a2, oEq, eqH, f5, e, show decide (("settle" : Str) = "get") = false from by decide, show decide (("settle" : Str) = "put") = false from by decide, show decide (("settle" : Str) = "cost") = false from by decide, show decide (("settle" : Str) = "look") = false from by decide]
abbrev HB := List (Nat × SO)
mutual
def Lv (L : HB) : D → W → Prop
  | .int i, w => w = .int i
  | .bl b, w => w = .bl b
  | .tup ds, w => ∃ p ws, w = .ref p ∧ (p, SO.tup ws) ∈ L ∧ Lvs L ds ws
  | .lst ds, w => ∃ p ws, w = .ref p ∧ (p, SO.lst ws) ∈ L ∧ Lvs L ds ws
  | .non, _ => False
  | .str _, _ => False
def Lvs (L : HB) : List D → List W → Prop
  | [], ws => ws = []
  | d :: ds, ws => ∃ w r, ws = w :: r ∧ Lv L d w ∧ Lvs L ds r
end
mutual
theorem Lv.mono {L L' : HB} (h : L ⊆ L') : ∀ (d : D) (w : W), Lv L d w → Lv L' d w
  | .int i, w, x => by unfold Lv at x ⊢; exact x
  | .bl b, w, x => by unfold Lv at x ⊢; exact x
  | .tup ds, w, x => by
    unfold Lv at x ⊢
    obtain ⟨p, ws, e, m, t⟩ := x
    exact ⟨p, ws, e, h m, Lvs.mono h ds ws t⟩
  | .lst ds, w, x => by
    unfold Lv at x ⊢
    obtain ⟨p, ws, e, m, t⟩ := x
    exact ⟨p, ws, e, h m, Lvs.mono h ds ws t⟩
  | .non, _, x => by unfold Lv at x; exact x.elim
  | .str _, _, x => by unfold Lv at x; exact x.elim
theorem Lvs.mono {L L' : HB} (h : L ⊆ L') : ∀ (ds : List D) (ws : List W), Lvs L ds ws → Lvs L' ds ws
  | [], ws, x => by unfold Lvs at x ⊢; exact x
  | d :: ds, ws, x => by
    unfold Lvs at x ⊢
    obtain ⟨w, r, e, a, b⟩ := x
    exact ⟨w, r, e, Lv.mono h d w a, Lvs.mono h ds r b⟩
end
mutual
theorem Tv.lv {L L' : HB} (h : ∀ p ws, (p, SO.tup ws) ∈ L → (p, SO.tup ws) ∈ L') : ∀ (d : D) (w : W), Tv L d w → Lv L' d w
  | .int i, w, x => by unfold Tv at x; unfold Lv; exact x
  | .bl b, w, x => by unfold Tv at x; unfold Lv; exact x
  | .tup ds, w, x => by
    unfold Tv at x; unfold Lv
    obtain ⟨p, ws, e, m, t⟩ := x
    exact ⟨p, ws, e, h p ws m, Tvs.lv h ds ws t⟩
  | .non, _, x => by unfold Tv at x; exact x.elim
  | .str _, _, x => by unfold Tv at x; exact x.elim
  | .lst _, _, x => by unfold Tv at x; exact x.elim
theorem Tvs.lv {L L' : HB} (h : ∀ p ws, (p, SO.tup ws) ∈ L → (p, SO.tup ws) ∈ L') : ∀ (ds : List D) (ws : List W), Tvs L ds ws → Lvs L' ds ws
  | [], ws, x => by unfold Tvs at x; unfold Lvs; exact x
  | d :: ds, ws, x => by
    unfold Tvs at x; unfold Lvs
    obtain ⟨w, r, e, a, b⟩ := x
    exact ⟨w, r, e, Tv.lv h d w a, Tvs.lv h ds r b⟩
end
mutual
def lp : D → Nat
  | .int _ => 0
  | .bl _ => 0
  | .tup ds => 1 + lps ds
  | .lst ds => 1 + lps ds
  | .non => 0
  | .str _ => 0
def lps : List D → Nat
  | [] => 0
  | d :: ds => max (lp d) (lps ds)
end
mutual
theorem Lv.dat {L : HB} {h : Sh} (H : ∀ x ∈ L, h[x.1]? = some x.2) : ∀ (d : D) (w : W) (n : Nat), Lv L d w → lp d ≤ n → dat n h w = some d
  | .int i, w, n, x, _ => by unfold Lv at x; subst x; cases n <;> rfl
  | .bl b, w, n, x, _ => by unfold Lv at x; subst x; cases n <;> rfl
  | .tup ds, w, n, x, le => by
    unfold Lv at x
    obtain ⟨p, ws, rfl, m, t⟩ := x
    unfold lp at le
    match n, le with
    | n + 1, le =>
      have g := H _ m
      show (match h[p]? with | some (.lst xs) => (dats (HL.dat n h) xs).map D.lst | some (.rol xs) => (dats (HL.dat n h) xs).map D.lst | some (.tup xs) => (dats (HL.dat n h) xs).map D.tup | _ => none) = _
      simp only at g
      rw [g]
      simp only
      rw [Lvs.dat H ds ws n t (by omega)]; rfl
    | 0, le => omega
  | .lst ds, w, n, x, le => by
    unfold Lv at x
    obtain ⟨p, ws, rfl, m, t⟩ := x
    unfold lp at le
    match n, le with
    | n + 1, le =>
      have g := H _ m
      show (match h[p]? with | some (.lst xs) => (dats (HL.dat n h) xs).map D.lst | some (.rol xs) => (dats (HL.dat n h) xs).map D.lst | some (.tup xs) => (dats (HL.dat n h) xs).map D.tup | _ => none) = _
      simp only at g
      rw [g]
      simp only
      rw [Lvs.dat H ds ws n t (by omega)]; rfl
    | 0, le => omega
  | .non, _, _, x, _ => by unfold Lv at x; exact x.elim
  | .str _, _, _, x, _ => by unfold Lv at x; exact x.elim
theorem Lvs.dat {L : HB} {h : Sh} (H : ∀ x ∈ L, h[x.1]? = some x.2) : ∀ (ds : List D) (ws : List W) (n : Nat), Lvs L ds ws → lps ds ≤ n → dats (HL.dat n h) ws = some ds
  | [], ws, n, x, _ => by unfold Lvs at x; subst x; rfl
  | d :: ds, ws, n, x, le => by
    unfold Lvs at x
    obtain ⟨w, r, rfl, a, b⟩ := x
    unfold lps at le
    show (HL.dat n h w).bind _ = _
    rw [Lv.dat H d w n a (by omega)]
    show (dats (HL.dat n h) r).map _ = _
    rw [Lvs.dat H ds r n b (by omega)]; rfl
end
theorem Lvs.len {L : HB} : ∀ {ds : List D} {ws : List W}, Lvs L ds ws → ws.length = ds.length
  | [], ws, x => by unfold Lvs at x; subst x; rfl
  | d :: ds, ws, x => by
    unfold Lvs at x
    obtain ⟨w, r, rfl, a, b⟩ := x
    simp only [List.length_cons, Lvs.len b]
theorem Lvs.get {L : HB} : ∀ {ds : List D} {ws : List W} (i : Nat) {d : D}, Lvs L ds ws → ds[i]? = some d → ∃ w, ws[i]? = some w ∧ Lv L d w
  | d :: ds, ws, 0, d', x, e => by
    unfold Lvs at x
    obtain ⟨w, r, rfl, a, b⟩ := x
    cases e
    exact ⟨w, rfl, a⟩
  | d :: ds, ws, i + 1, d', x, e => by
    unfold Lvs at x
    obtain ⟨w, r, rfl, a, b⟩ := x
    exact Lvs.get i b e
theorem Lvs.append {L : HB} {es : List D} {vs : List W} (hb : Lvs L es vs) : ∀ {ds : List D} {ws : List W}, Lvs L ds ws → Lvs L (ds ++ es) (ws ++ vs)
  | [], ws, x => by unfold Lvs at x; subst x; exact hb
  | d :: ds, ws, x => by
    unfold Lvs at x
    obtain ⟨w, r, rfl, a, b⟩ := x
    show Lvs L (d :: (ds ++ es)) (w :: (r ++ vs))
    unfold Lvs
    exact ⟨w, _, rfl, a, Lvs.append hb b⟩
theorem Lvs.one {L : HB} {d : D} {w : W} (a : Lv L d w) : Lvs L [d] [w] := by
  unfold Lvs
  exact ⟨w, [], rfl, a, by unfold Lvs; rfl⟩
theorem Lvs.cons {L : HB} {d : D} {w : W} {ds : List D} {ws : List W} (a : Lv L d w) (b : Lvs L ds ws) : Lvs L (d :: ds) (w :: ws) := by
  unfold Lvs
  exact ⟨w, ws, rfl, a, b⟩
theorem Lvs.nil {L : HB} : Lvs L [] [] := by unfold Lvs; rfl
theorem Lvs.set {L : HB} {d : D} {w : W} (a : Lv L d w) : ∀ {ds : List D} {ws : List W} (i : Nat), Lvs L ds ws → Lvs L (ds.set i d) (ws.set i w)
  | [], ws, i, x => by unfold Lvs at x; subst x; exact .nil
  | d' :: ds, ws, 0, x => by
    unfold Lvs at x
    obtain ⟨w', r, rfl, b, c⟩ := x
    exact .cons a c
  | d' :: ds, ws, i + 1, x => by
    unfold Lvs at x
    obtain ⟨w', r, rfl, b, c⟩ := x
    exact .cons b (Lvs.set a i c)
theorem Lvs.take {L : HB} : ∀ {ds : List D} {ws : List W} (n : Nat), Lvs L ds ws → Lvs L (ds.take n) (ws.take n)
  | ds, ws, 0, _ => .nil
  | [], ws, n + 1, x => by unfold Lvs at x; subst x; exact .nil
  | d :: ds, ws, n + 1, x => by
    unfold Lvs at x
    obtain ⟨w', r, rfl, b, c⟩ := x
    exact .cons b (Lvs.take n c)
theorem Lvs.ints {L : HB} : ∀ ns : List Int, Lvs L (ns.map .int) (ns.map .int)
  | [] => .nil
  | n :: ns => .cons (by unfold Lv; rfl) (Lvs.ints ns)
theorem Lvs.ints_inv {L : HB} : ∀ {ns : List Int} {ws : List HL.W}, Lvs L (ns.map D.int) ws → ws = ns.map HL.W.int
  | [], ws, x => by rw [List.map_nil] at x; unfold Lvs at x; exact x
  | n :: ns, ws, x => by
    rw [List.map_cons] at x
    unfold Lvs at x
    obtain ⟨w, r, rfl, a, b⟩ := x
    unfold Lv at a
    rw [Lvs.ints_inv b, a]; rfl
theorem Lv.int {L : HB} (i : Int) : Lv L (.int i) (.int i) := by unfold Lv; rfl
theorem Lv.bl {L : HB} (i : Bool) : Lv L (.bl i) (.bl i) := by unfold Lv; rfl
theorem Lv.tup {L : HB} {ds : List D} {ws : List W} {p : Nat} (m : (p, SO.tup ws) ∈ L) (t : Lvs L ds ws) : Lv L (.tup ds) (.ref p) := by unfold Lv; exact ⟨p, ws, rfl, m, t⟩
theorem Lv.lst {L : HB} {ds : List D} {ws : List W} {p : Nat} (m : (p, SO.lst ws) ∈ L) (t : Lvs L ds ws) : Lv L (.lst ds) (.ref p) := by unfold Lv; exact ⟨p, ws, rfl, m, t⟩
theorem Lv.int_inv {L : HB} {i : Int} {w : W} (x : Lv L (.int i) w) : w = .int i := by unfold Lv at x; exact x
theorem Lv.bl_inv {L : HB} {i : Bool} {w : W} (x : Lv L (.bl i) w) : w = .bl i := by unfold Lv at x; exact x
theorem Lv.tup_inv {L : HB} {ds : List D} {w : W} (x : Lv L (.tup ds) w) : ∃ p ws, w = .ref p ∧ (p, SO.tup ws) ∈ L ∧ Lvs L ds ws := by unfold Lv at x; exact x
theorem Lv.lst_inv {L : HB} {ds : List D} {w : W} (x : Lv L (.lst ds) w) : ∃ p ws, w = .ref p ∧ (p, SO.lst ws) ∈ L ∧ Lvs L ds ws := by unfold Lv at x; exact x
def Ev (G X : HB) (e : DE) (s : Sg) (d : D) : Prop := ∀ (h : Sh) (G' X' : HB), G ⊆ G' → X ⊆ X' → Has h (G' ++ X') → ∃ v h1 N, e s h = .ok v h1 ∧ Has h1 ((N ++ G') ++ X') ∧ Lv (N ++ G') d v
def Et (G X : HB) (c : DT) (s : Sg) (b : Bool) : Prop := ∀ (h : Sh) (G' X' : HB), G ⊆ G' → X ⊆ X' → Has h (G' ++ X') → ∃ h1 N, c s h = .ok b h1 ∧ Has h1 ((N ++ G') ++ X')
def Eva (G X : HB) (as : DA) (s : Sg) (ds : List D) : Prop := ∀ (h : Sh) (G' X' : HB), G ⊆ G' → X ⊆ X' → Has h (G' ++ X') → ∃ vs h1 N, as s h = .ok vs h1 ∧ Has h1 ((N ++ G') ++ X') ∧ Lvs (N ++ G') ds vs
def Fv (G X : HB) (f : List W → Sh → R W) (ds : List D) (d : D) : Prop := ∀ (h : Sh) (G' X' : HB) (vs : List W), G ⊆ G' → X ⊆ X' → Has h (G' ++ X') → Lvs G' ds vs → ∃ v h1 N, f vs h = .ok v h1 ∧ Has h1 ((N ++ G') ++ X') ∧ Lv (N ++ G') d v
section
variable {G G2 X X2 : HB} {s : Sg} {e ea eb : DE} {d da db : D} {ds : List D} {i : Nat} {w : W}
theorem sr_ {α : Type} {A B C : List α} (h : A ⊆ C) : A ⊆ B ++ C := fun _ m => List.mem_append_right _ (h m)
theorem Ev.up (x : Ev G X e s d) (g : G ⊆ G2) (y : X ⊆ X2) : Ev G2 X2 e s d := fun h G' X' a b H => x h G' X' (List.Subset.trans g a) (List.Subset.trans y b) H
theorem Et.up {c : DT} {b : Bool} (x : Et G X c s b) (g : G ⊆ G2) (y : X ⊆ X2) : Et G2 X2 c s b := fun h G' X' a b H => x h G' X' (List.Subset.trans g a) (List.Subset.trans y b) H
theorem Fv.up {f : List W → Sh → R W} (x : Fv G X f ds d) (g : G ⊆ G2) (y : X ⊆ X2) : Fv G2 X2 f ds d := fun h G' X' vs a b H => x h G' X' vs (List.Subset.trans g a) (List.Subset.trans y b) H
theorem Ev.var (hs : s[i]? = some (some w)) (l : Lv G d w) : Ev G X (dVar i) s d := fun h G' X' a b H => ⟨w, h, [], by simp only [dVar, hs], H, Lv.mono a _ _ l⟩
theorem Ev.int (k : Int) : Ev G X (dC (.int k)) s (.int k) := fun h G' X' a b H => ⟨_, h, [], rfl, H, Lv.int k⟩
theorem Ev.bl (k : Bool) : Ev G X (dC (.bl k)) s (.bl k) := fun h G' X' a b H => ⟨_, h, [], rfl, H, Lv.bl k⟩
theorem Eva.nil : Eva G X dNil s [] := fun h G' X' a b H => ⟨_, h, [], rfl, H, .nil⟩
theorem Eva.cons {as : DA} (a : Ev G X ea s da) (b : Eva G X as s ds) : Eva G X (dCons ea as) s (da :: ds) := by
  intro h G' X' g x H
  obtain ⟨v1, h1, N1, e1, H1, l1⟩ := a h G' X' g x H
  obtain ⟨v2, h2, N2, e2, H2, l2⟩ := b h1 (N1 ++ G') X' (sr_ g) x H1
  refine ⟨v1 :: v2, h2, N2 ++ N1, ?_, by rw [List.append_assoc N2]; exact H2, by rw [List.append_assoc N2]; exact .cons (Lv.mono (sr_ (List.Subset.refl _)) _ _ l1) l2⟩
  simp only [dCons, e1, R.bind, e2]
theorem Ev.callG {as : DA} {f : List W → Sh → R W} (a : Eva G X as s ds) (hf : Fv G X f ds d) : ∀ (h : Sh) (G' X' : HB), G ⊆ G' → X ⊆ X' → Has h (G' ++ X') → ∃ v h1 N, (as s h).bind (fun xs h => f xs h) = .ok v h1 ∧ Has h1 ((N ++ G') ++ X') ∧ Lv (N ++ G') d v := by
  intro h G' X' g x H
  obtain ⟨v1, h1, N1, e1, H1, l1⟩ := a h G' X' g x H
  obtain ⟨v2, h2, N2, e2, H2, l2⟩ := hf h1 (N1 ++ G') X' v1 (sr_ g) x H1 l1
  refine ⟨v2, h2, N2 ++ N1, ?_, by rw [List.append_assoc N2]; exact H2, by rw [List.append_assoc N2]; exact l2⟩
  rw [e1]
  exact e2
theorem Ev.call {as : DA} {f : Fn} (a : Eva G X as s ds) (hf : Fv G X f ds d) : Ev G X (dCall f as) s d := Ev.callG a hf
theorem Ev.b {as : DA} {f : List W → Sh → OR} (a : Eva G X as s ds) (hf : Fv G X (fun xs h => (f xs h).fin h) ds d) : Ev G X (dB f as) s d := Ev.callG a hf
theorem Ev.op {f : O2} (a : Ev G X ea s da) (b : Ev G X eb s db) (hf : Fv G X (fun xs h => match xs with | [x, y] => (f x y h).fin h | _ => .er) [da, db] d) : Ev G X (dOp f ea eb) s d := by
  intro h G' X' g x H
  obtain ⟨v, h1, N, e1, H1, l1⟩ := Ev.callG (Eva.cons a (Eva.cons b .nil)) hf h G' X' g x H
  refine ⟨v, h1, N, ?_, H1, l1⟩
  rw [← e1]
  simp only [dOp, dCons, dNil]
  cases ea s h with
  | ok v h => simp only [R.bind]; cases eb s h <;> rfl
  | ex e h => rfl
  | er => rfl
theorem Lvs.inv1 {L : HB} {vs : List W} (l : Lvs L [d] vs) : ∃ v, vs = [v] ∧ Lv L d v := by
  unfold Lvs at l
  obtain ⟨w, r, rfl, a, b⟩ := l
  unfold Lvs at b
  subst b
  exact ⟨w, rfl, a⟩
theorem Lvs.inv2 {L : HB} {vs : List W} (l : Lvs L [da, db] vs) : ∃ v u, vs = [v, u] ∧ Lv L da v ∧ Lv L db u := by
  unfold Lvs at l
  obtain ⟨w, r, rfl, a, b⟩ := l
  obtain ⟨u, rfl, c⟩ := b.inv1
  exact ⟨w, u, rfl, a, c⟩
theorem Ev.ix (a : Ev G X ea s (.tup ds)) (b : Ev G X eb s (.int ((i : Nat) : Int))) (e : ds[i]? = some d) : Ev G X (dOp oIx ea eb) s d := Ev.op a b fun h G' X' vs _ _ H l => by
  obtain ⟨v, u, rfl, la, lb⟩ := l.inv2
  obtain ⟨p, ws, rfl, m, t⟩ := la.tup_inv
  obtain rfl := lb.int_inv
  obtain ⟨w, ew, lw⟩ := t.get i e
  refine ⟨w, h, [], ?_, H, lw⟩
  simp only [oIx, seq_ofT (H.get (List.mem_append_left _ m)), atW_of (show (0 : Int) ≤ (i : Int) by omega) (by rw [Int.toNat_natCast]; exact ew), OR.fin]
theorem Ev.ixl (a : Ev G X ea s (.lst ds)) (b : Ev G X eb s (.int ((i : Nat) : Int))) (e : ds[i]? = some d) : Ev G X (dOp oIx ea eb) s d := Ev.op a b fun h G' X' vs _ _ H l => by
  obtain ⟨v, u, rfl, la, lb⟩ := l.inv2
  obtain ⟨p, ws, rfl, m, t⟩ := la.lst_inv
  obtain rfl := lb.int_inv
  obtain ⟨w, ew, lw⟩ := t.get i e
  refine ⟨w, h, [], ?_, H, lw⟩
  simp only [oIx, seq_of (H.get (List.mem_append_left _ m)), atW_of (show (0 : Int) ≤ (i : Int) by omega) (by rw [Int.toNat_natCast]; exact ew), OR.fin]
theorem Ev.opI {f : O2} {x y r : Int} (a : Ev G X ea s (.int x)) (b : Ev G X eb s (.int y)) (e : ∀ h, f (.int x) (.int y) h = .val (.int r)) : Ev G X (dOp f ea eb) s (.int r) := Ev.op a b fun h G' X' vs _ _ H l => by
  obtain ⟨v, u, rfl, la, lb⟩ := l.inv2
  obtain rfl := la.int_inv
  obtain rfl := lb.int_inv
  exact ⟨_, h, [], by simp only [e, OR.fin], H, Lv.int r⟩
theorem Ev.opB {f : O2} {x y : Int} {r : Bool} (a : Ev G X ea s (.int x)) (b : Ev G X eb s (.int y)) (e : ∀ h, f (.int x) (.int y) h = .val (.bl r)) : Ev G X (dOp f ea eb) s (.bl r) := Ev.op a b fun h G' X' vs _ _ H l => by
  obtain ⟨v, u, rfl, la, lb⟩ := l.inv2
  obtain rfl := la.int_inv
  obtain rfl := lb.int_inv
  exact ⟨_, h, [], by simp only [e, OR.fin], H, Lv.bl r⟩
theorem eq_nil_lv {h : Sh} {v u : W} (H : ∀ x ∈ G, h[x.1]? = some x.2) (a : Lv G (.lst ds) v) (b : Lv G (.lst []) u) (le : lp (.lst ds) ≤ DEEP) : eqH v u h = some ds.isEmpty := by
  have d1 := Lv.dat H _ _ DEEP a le
  have d2 := Lv.dat H _ _ DEEP b (by unfold lp lps DEEP; omega)
  obtain ⟨p, ws, rfl, _, _⟩ := a.lst_inv
  obtain ⟨q, us, rfl, _, _⟩ := b.lst_inv
  simp only [eqH, d1, d2]
  cases ds <;> rfl
theorem Ev.eqNil (a : Ev G X ea s (.lst ds)) (b : Ev G X eb s (.lst [])) (le : lp (.lst ds) ≤ DEEP) : Ev G X (dOp oEq ea eb) s (.bl ds.isEmpty) := Ev.op a b fun h G' X' vs _ _ H l => by
  obtain ⟨v, u, rfl, la, lb⟩ := l.inv2
  exact ⟨_, h, [], by simp only [oEq, eq_nil_lv (fun x hx => H.2 x (List.mem_append_left _ hx)) la lb le, OR.fin], H, Lv.bl _⟩
theorem Ev.neNil (a : Ev G X ea s (.lst ds)) (b : Ev G X eb s (.lst [])) (le : lp (.lst ds) ≤ DEEP) : Ev G X (dOp oNe ea eb) s (.bl (!ds.isEmpty)) := Ev.op a b fun h G' X' vs _ _ H l => by
  obtain ⟨v, u, rfl, la, lb⟩ := l.inv2
  exact ⟨_, h, [], by simp only [oNe, eq_nil_lv (fun x hx => H.2 x (List.mem_append_left _ hx)) la lb le, OR.fin], H, Lv.bl _⟩
theorem new_tup {h : Sh} {G' X' : HB} {vs : List W} (H : Has h (G' ++ X')) (l : Lvs G' ds vs) : ∃ v h1 N, (OR.new (.tup vs)).fin h = .ok v h1 ∧ Has h1 ((N ++ G') ++ X') ∧ Lv (N ++ G') (.tup ds) v :=
  ⟨.ref h.length, h ++ [.tup vs], [(h.length, .tup vs)], rfl, H.new _, .tup (List.mem_cons_self ..) (Lvs.mono (fun _ m => List.mem_cons_of_mem _ m) _ _ l)⟩
theorem new_lst {h : Sh} {G' X' : HB} {vs : List W} (H : Has h (G' ++ X')) (l : Lvs G' ds vs) : ∃ v h1 N, (OR.new (.lst vs)).fin h = .ok v h1 ∧ Has h1 ((N ++ G') ++ X') ∧ Lv (N ++ G') (.lst ds) v :=
  ⟨.ref h.length, h ++ [.lst vs], [(h.length, .lst vs)], rfl, H.new _, .lst (List.mem_cons_self ..) (Lvs.mono (fun _ m => List.mem_cons_of_mem _ m) _ _ l)⟩
theorem Ev.tupB {as : DA} (a : Eva G X as s ds) (le : ds.length ≤ LIM) : Ev G X (dB bTup as) s (.tup ds) := Ev.b a fun h G' X' vs _ _ H l => by
  have : vs.length ≤ LIM := by rw [l.len]; exact le
  simp only [bTup, this, if_true]
  exact new_tup H l
theorem Ev.lstB {as : DA} (a : Eva G X as s ds) (le : ds.length ≤ LIM) : Ev G X (dB bLst as) s (.lst ds) := Ev.b a fun h G' X' vs _ _ H l => by
  have : vs.length ≤ LIM := by rw [l.len]; exact le
  simp only [bLst, this, if_true]
  exact new_lst H l
theorem Ev.nilB : Ev G X (dB bLst dNil) s (.lst []) := Ev.lstB .nil (Nat.zero_le _)
theorem lst_of {h : Sh} {p : Nat} {ws : List W} (g : h[p]? = some (.lst ws)) : lstW h (.ref p) = some ws := by simp only [lstW, g]
theorem Ev.tuple (a : Ev G X ea s (.lst ds)) : Ev G X (dB bTuple (dCons ea dNil)) s (.tup ds) := Ev.b (.cons a .nil) fun h G' X' vs _ _ H l => by
  obtain ⟨v, rfl, la⟩ := l.inv1
  obtain ⟨p, ws, rfl, m, t⟩ := la.lst_inv
  simp only [bTuple, lst_of (H.get (List.mem_append_left _ m))]
  exact new_tup H t
theorem Ev.list (a : Ev G X ea s (.lst ds)) : Ev G X (dB bList (dCons ea dNil)) s (.lst ds) := Ev.b (.cons a .nil) fun h G' X' vs _ _ H l => by
  obtain ⟨v, rfl, la⟩ := l.inv1
  obtain ⟨p, ws, rfl, m, t⟩ := la.lst_inv
  simp only [bList, seq_of (H.get (List.mem_append_left _ m))]
  exact new_lst H t
theorem Ev.len (a : Ev G X ea s (.lst ds)) : Ev G X (dB bLen (dCons ea dNil)) s (.int (ds.length : Nat)) := Ev.b (.cons a .nil) fun h G' X' vs _ _ H l => by
  obtain ⟨v, rfl, la⟩ := l.inv1
  obtain ⟨p, ws, rfl, m, t⟩ := la.lst_inv
  exact ⟨_, h, [], by simp only [bLen, seq_of (H.get (List.mem_append_left _ m)), OR.fin, t.len], H, Lv.int _⟩
theorem Ev.lenT (a : Ev G X ea s (.tup ds)) : Ev G X (dB bLen (dCons ea dNil)) s (.int (ds.length : Nat)) := Ev.b (.cons a .nil) fun h G' X' vs _ _ H l => by
  obtain ⟨v, rfl, la⟩ := l.inv1
  obtain ⟨p, ws, rfl, m, t⟩ := la.tup_inv
  exact ⟨_, h, [], by simp only [bLen, seq_ofT (H.get (List.mem_append_left _ m)), OR.fin, t.len], H, Lv.int _⟩
theorem Ev.addL {es : List D} (a : Ev G X ea s (.lst ds)) (b : Ev G X eb s (.lst es)) (le : ds.length + es.length ≤ LIM) : Ev G X (dOp oAdd ea eb) s (.lst (ds ++ es)) := Ev.op a b fun h G' X' vs _ _ H l => by
  obtain ⟨v, u, rfl, la, lb⟩ := l.inv2
  obtain ⟨p, ws, rfl, m, t⟩ := la.lst_inv
  obtain ⟨q, us, rfl, n, r⟩ := lb.lst_inv
  have : ws.length + us.length ≤ LIM := by rw [t.len, r.len]; exact le
  simp only [oAdd, H.get (List.mem_append_left _ m), H.get (List.mem_append_left _ n), this, if_true]
  exact new_lst H (Lvs.append r t)
theorem Ev.intB {b : Bool} (a : Ev G X ea s (.bl b)) : Ev G X (dB bInt (dCons ea dNil)) s (.int (b2i b)) := Ev.b (.cons a .nil) fun h G' X' vs _ _ H l => by
  obtain ⟨v, rfl, la⟩ := l.inv1
  obtain rfl := la.bl_inv
  exact ⟨_, h, [], rfl, H, Lv.int _⟩
theorem ints_all : ∀ ns : List Int, (ns.map W.int).all intW = true ∧ ((ns.map W.int).map toI) = ns
  | [] => ⟨rfl, rfl⟩
  | n :: ns => ⟨(ints_all ns).1, by show n :: ((ns.map W.int).map toI) = _; rw [(ints_all ns).2]⟩
theorem Ev.sum {ns : List Int} (a : Ev G X ea s (.lst (ns.map .int))) : Ev G X (dB bSum (dCons ea dNil)) s (.int ns.sum) := Ev.b (.cons a .nil) fun h G' X' vs _ _ H l => by
  obtain ⟨v, rfl, la⟩ := l.inv1
  obtain ⟨p, ws, rfl, m, t⟩ := la.lst_inv
  obtain rfl := t.ints_inv
  exact ⟨_, h, [], by simp only [bSum, lst_of (H.get (List.mem_append_left _ m)), (ints_all ns).1, (ints_all ns).2, if_true, OR.fin], H, Lv.int _⟩
theorem Ev.or {x y : Bool} (a : Ev G X ea s (.bl x)) (b : Ev G X eb s (.bl y)) : Ev G X (dOr ea eb) s (.bl (x || y)) := by
  intro h G' X' g z H
  obtain ⟨v1, h1, N1, e1, H1, l1⟩ := a h G' X' g z H
  obtain rfl := l1.bl_inv
  cases x with
  | true => exact ⟨_, h1, N1, by simp only [dOr, e1, R.bind, if_true, Bool.true_or], H1, Lv.bl _⟩
  | false =>
    obtain ⟨v2, h2, N2, e2, H2, l2⟩ := b h1 (N1 ++ G') X' (sr_ g) z H1
    exact ⟨v2, h2, N2 ++ N1, by simp only [dOr, e1, R.bind, Bool.false_eq_true, if_false, e2], by rw [List.append_assoc N2]; exact H2, by rw [List.append_assoc N2]; exact l2⟩
theorem Ev.and {x y : Bool} (a : Ev G X ea s (.bl x)) (b : x = true → Ev G X eb s (.bl y)) : Ev G X (dAnd ea eb) s (.bl (x && y)) := by
  intro h G' X' g z H
  obtain ⟨v1, h1, N1, e1, H1, l1⟩ := a h G' X' g z H
  obtain rfl := l1.bl_inv
  cases x with
  | false => exact ⟨_, h1, N1, by simp only [dAnd, e1, R.bind, Bool.false_eq_true, if_false, Bool.false_and], H1, Lv.bl _⟩
  | true =>
    obtain ⟨v2, h2, N2, e2, H2, l2⟩ := b rfl h1 (N1 ++ G') X' (sr_ g) z H1
    exact ⟨v2, h2, N2 ++ N1, by simp only [dAnd, e1, R.bind, if_true, e2], by rw [List.append_assoc N2]; exact H2, by rw [List.append_assoc N2]; exact l2⟩
theorem Ev.t {b : Bool} (a : Ev G X ea s (.bl b)) : Et G X (dT ea) s b := by
  intro h G' X' g z H
  obtain ⟨v1, h1, N1, e1, H1, l1⟩ := a h G' X' g z H
  obtain rfl := l1.bl_inv
  exact ⟨h1, N1, dT_of e1, H1⟩
theorem Et.and {c c2 : DT} {x y : Bool} (a : Et G X c s x) (b : x = true → Et G X c2 s y) : Et G X (tAnd c c2) s (x && y) := by
  intro h G' X' g z H
  obtain ⟨h1, N1, e1, H1⟩ := a h G' X' g z H
  cases x with
  | false => exact ⟨h1, N1, tAnd_f e1, H1⟩
  | true =>
    obtain ⟨h2, N2, e2, H2⟩ := b rfl h1 (N1 ++ G') X' (sr_ g) z H1
    exact ⟨h2, N2 ++ N1, tAnd_t e1 e2, by rw [List.append_assoc N2]; exact H2⟩
theorem Ev.ifE {c : DT} {x : Bool} (hc : Et G X c s x) (a : x = true → Ev G X ea s d) (b : x = false → Ev G X eb s d) : Ev G X (dIf c ea eb) s d := by
  intro h G' X' g z H
  obtain ⟨h1, N1, e1, H1⟩ := hc h G' X' g z H
  have k : ∃ v2 h2 N2, (if x = true then ea s h1 else eb s h1) = .ok v2 h2 ∧ Has h2 ((N2 ++ (N1 ++ G')) ++ X') ∧ Lv (N2 ++ (N1 ++ G')) d v2 := by
    cases x with
    | true => exact a rfl h1 (N1 ++ G') X' (sr_ g) z H1
    | false => exact b rfl h1 (N1 ++ G') X' (sr_ g) z H1
  obtain ⟨v2, h2, N2, e2, H2, l2⟩ := k
  exact ⟨v2, h2, N2 ++ N1, by simp only [dIf, e1, R.bind, e2], by rw [List.append_assoc N2]; exact H2, by rw [List.append_assoc N2]; exact l2⟩
end
section
variable {G X : HB} {α : Type} {enc f : α → D} {cd : α → Bool} {c : DT} {e : DE} {cs : Sg}
theorem comp_ev {t : It} {acc : Nat} (stay : ∀ h G' X', G ⊆ G' → Has h (G' ++ X') → t.stays h) : ∀ (as : List α) (xs : List W), Lvs G (as.map enc) xs →
    (∀ a ∈ as, ∀ G' w, G ⊆ G' → Lv G' (enc a) w → Et G' X c (some w :: cs) (cd a)) → (∀ a ∈ as, cd a = true → ∀ G' w, G ⊆ G' → Lv G' (enc a) w → Ev G' X e (some w :: cs) (f a)) →
    ∀ (h : Sh) (G' X' : HB) (ys : List W) (es : List D) (y : Option W), G ⊆ G' → X ⊆ X' → Has h (G' ++ ((acc, SO.lst ys) :: X')) → Lvs G' es ys → ys.length + as.length < LIM →
    ∃ (h' : Sh) (N : HB) (ys' : List W), compW t (gName 0) c e acc xs (y :: cs) h = .ok (.ref acc) h' ∧ Has h' ((N ++ G') ++ ((acc, SO.lst ys') :: X')) ∧ Lvs (N ++ G') (es ++ (as.filter cd).map f) ys' := by
  intro as
  induction as with
  | nil =>
    intro xs lx _ _ h G' X' ys es y _ _ H l _
    rw [List.map_nil] at lx
    unfold Lvs at lx
    subst lx
    exact ⟨h, [], ys, rfl, H, by rw [List.filter_nil, List.map_nil, List.append_nil]; exact l⟩
  | cons a as ih =>
    intro xs lx hc he h G' X' ys es y g z H l lim
    rw [List.map_cons] at lx
    unfold Lvs at lx
    obtain ⟨w, r, rfl, la, lr⟩ := lx
    have z' : X ⊆ ((acc, SO.lst ys) :: X') := fun _ m => List.mem_cons_of_mem _ (z m)
    obtain ⟨h1, N1, e1, H1⟩ := hc a (List.mem_cons_self ..) G' w g (Lv.mono g _ _ la) h G' _ (List.Subset.refl _) z' H
    rw [compW]
    cases hk : cd a with
    | false =>
      have sty : t.stays h1 := stay h1 (N1 ++ G') _ (sr_ g) H1
      obtain ⟨h', N, ys', e2, H2, l2⟩ := ih r lr (fun b hb => hc b (List.mem_cons_of_mem _ hb)) (fun b hb => he b (List.mem_cons_of_mem _ hb)) h1 (N1 ++ G') X' ys es (some w) (sr_ g) z H1 (Lvs.mono (sr_ (List.Subset.refl _)) _ _ l) (by rw [List.length_cons] at lim; omega)
      refine ⟨h', N ++ N1, ys', ?_, by rw [List.append_assoc N]; exact H2, by rw [List.append_assoc N, List.filter_cons, hk]; exact l2⟩
      rw [hk] at e1
      simp only [gName, List.set_cons_zero, e1, R.bind, Bool.false_eq_true, if_false, sty, if_true]
      exact e2
    | true =>
      obtain ⟨v, h2, N2, e2, H2, l2⟩ := he a (List.mem_cons_self ..) hk (N1 ++ G') w (sr_ g) (Lv.mono (sr_ g) _ _ la) h1 (N1 ++ G') _ (List.Subset.refl _) z' H1
      have sty : t.stays h2 := stay h2 (N2 ++ (N1 ++ G')) _ (sr_ (sr_ g)) H2
      have g2 : h2[acc]? = some (.lst ys) := H2.get (List.mem_append_right _ (List.mem_cons_self ..))
      have lt : acc < h2.length := H2.lt (List.mem_append_right _ (List.mem_cons_self ..))
      have lw : ys.length < LIM := by rw [List.length_cons] at lim; omega
      have H3 : Has (h2.set acc (.lst (ys ++ [v]))) ((N2 ++ (N1 ++ G')) ++ ((acc, SO.lst (ys ++ [v])) :: X')) := H2.upd
      obtain ⟨h', N, ys', e3, H4, l4⟩ := ih r lr (fun b hb => hc b (List.mem_cons_of_mem _ hb)) (fun b hb => he b (List.mem_cons_of_mem _ hb)) _ (N2 ++ (N1 ++ G')) X' (ys ++ [v]) (es ++ [f a]) (some w) (sr_ (sr_ g)) z H3 (Lvs.append (Lvs.one l2) (Lvs.mono (sr_ (sr_ (List.Subset.refl _))) _ _ l)) (by rw [List.length_append]; rw [List.length_cons] at lim; simp only [List.length_cons, List.length_nil]; omega)
      refine ⟨h', N ++ (N2 ++ N1), ys', ?_, by rw [List.append_assoc N, List.append_assoc N2]; exact H4, by rw [List.append_assoc N, List.append_assoc N2, List.filter_cons, hk, if_pos rfl, List.map_cons, show es ++ f a :: (as.filter cd).map f = (es ++ [f a]) ++ (as.filter cd).map f by simp only [List.append_assoc, List.cons_append, List.nil_append]]; exact l4⟩
      rw [hk] at e1
      simp only [gName, List.set_cons_zero, e1, R.bind, if_true, e2, g2, lw, sty, lt, and_self, true_and]
      exact e3
theorem comp_lst {ea : DE} {as : List α} {js : List Nat} {s : Sg} (a : Ev G X ea s (.lst (as.map enc))) (hcap : capS 1 js s = none :: cs) (hc : ∀ a ∈ as, ∀ G' w, G ⊆ G' → Lv G' (enc a) w → Et G' X c (some w :: cs) (cd a)) (he : ∀ a ∈ as, cd a = true → ∀ G' w, G ⊆ G' → Lv G' (enc a) w → Ev G' X e (some w :: cs) (f a)) (lim : as.length < LIM)
    (h : Sh) (G' X' : HB) (g : G ⊆ G') (z : X ⊆ X') (H : Has h (G' ++ X')) : ∃ (h' : Sh) (N : HB) (acc : Nat) (ys : List W), dComp (iSeq ea) 1 js (gName 0) c e s h = .ok (.ref acc) h' ∧ Has h' ((N ++ G') ++ ((acc, SO.lst ys) :: X')) ∧ Lvs (N ++ G') ((as.filter cd).map f) ys := by
  obtain ⟨v, h1, N1, e1, H1, l1⟩ := a h G' X' g z H
  obtain ⟨p, ws, rfl, m, t⟩ := l1.lst_inv
  have st : ∀ h G2 X2, N1 ++ G' ⊆ G2 → Has h (G2 ++ X2) → (It.lst p ws).stays h := fun h G2 X2 g2 H2 => lst_of (H2.get (List.mem_append_left _ (g2 m)))
  have H2 : Has (h1 ++ [.lst []]) ((N1 ++ G') ++ ((h1.length, SO.lst []) :: X')) := (H1.new (.lst [])).perm List.perm_middle.symm
  obtain ⟨h', N, ys, e2, H3, l3⟩ := comp_ev (acc := h1.length) st as ws t (fun b hb G2 w g2 l => hc b hb G2 w (List.Subset.trans (sr_ g) g2) l) (fun b hb k G2 w g2 l => he b hb k G2 w (List.Subset.trans (sr_ g) g2) l) (h1 ++ [.lst []]) (N1 ++ G') X' [] [] none (List.Subset.refl _) z H2 .nil (by rw [List.length_nil, Nat.zero_add]; exact lim)
  refine ⟨h', N ++ N1, h1.length, ys, dComp_of (iSeq_lst e1 (H1.get (List.mem_append_left _ m))) (by rw [hcap]; exact e2), by rw [List.append_assoc N]; exact H3, by rw [List.append_assoc N]; exact l3⟩
theorem Ev.comp {ea : DE} {as : List α} {js : List Nat} {s : Sg} (a : Ev G X ea s (.lst (as.map enc))) (hcap : capS 1 js s = none :: cs) (hc : ∀ a ∈ as, ∀ G' w, G ⊆ G' → Lv G' (enc a) w → Et G' X c (some w :: cs) (cd a)) (he : ∀ a ∈ as, cd a = true → ∀ G' w, G ⊆ G' → Lv G' (enc a) w → Ev G' X e (some w :: cs) (f a)) (lim : as.length < LIM) :
    Ev G X (dComp (iSeq ea) 1 js (gName 0) c e) s (.lst ((as.filter cd).map f)) := by
  intro h G' X' g z H
  obtain ⟨h', N, acc, ys, e1, H1, l1⟩ := comp_lst a hcap hc he lim h G' X' g z H
  exact ⟨.ref acc, h', (acc, .lst ys) :: N, e1, H1.perm List.perm_middle, .lst (List.mem_cons_self ..) (Lvs.mono (fun _ m => List.mem_cons_of_mem _ m) _ _ l1)⟩
theorem Ev.compR {ea : DE} {n : Nat} {js : List Nat} {s : Sg} {f : Nat → D} (a : Ev G X ea s (.int (n : Int))) (hcap : capS 1 js s = none :: cs) (he : ∀ k, k < n → ∀ G', G ⊆ G' → Ev G' X e (some (.int (k : Int)) :: cs) (f k)) (lim : n ≤ 1000) :
    Ev G X (dComp (iRange1 ea) 1 js (gName 0) tTrue e) s (.lst ((List.range n).map f)) := by
  intro h G' X' g z H
  obtain ⟨v, h1, N1, e1, H1, l1⟩ := a h G' X' g z H
  obtain rfl := l1.int_inv
  have H2 : Has (h1 ++ [.lst []]) ((N1 ++ G') ++ ((h1.length, SO.lst []) :: X')) := (H1.new (.lst [])).perm List.perm_middle.symm
  have lr : Lvs (N1 ++ G') ((List.range n).map fun (k : Nat) => D.int (k : Int)) (rangeW 0 n) := by
    have := Lvs.ints (L := N1 ++ G') ((List.range n).map fun (k : Nat) => (k : Int))
    rw [List.map_map, List.map_map] at this
    unfold rangeW
    simp only [Int.zero_add]
    exact this
  obtain ⟨h', N, ys, e2, H3, l3⟩ := comp_ev (X := X) (t := .fix (rangeW 0 n)) (acc := h1.length) (c := tTrue) (e := e) (cs := cs) (f := f) (cd := fun _ => true) (enc := fun (k : Nat) => D.int (k : Int)) (fun _ _ _ _ _ => trivial) (List.range n) (rangeW 0 n) lr (fun _ _ G2 w _ _ h G3 X3 _ _ H => ⟨h, [], rfl, H⟩) (fun k hk _ G2 w g2 l => by
    obtain rfl := l.int_inv
    exact he k (List.mem_range.mp hk) G2 (List.Subset.trans (sr_ g) g2)) (h1 ++ [.lst []]) (N1 ++ G') X' [] [] none (List.Subset.refl _) z H2 .nil (by rw [List.length_nil, List.length_range, Nat.zero_add]; unfold LIM; omega)
  rw [List.nil_append, List.filter_eq_self.mpr (fun _ _ => rfl)] at l3
  exact ⟨.ref h1.length, h', (h1.length, .lst ys) :: (N ++ N1), dComp_of (iRange_nat lim e1) (by rw [hcap]; exact e2), by rw [List.cons_append, List.append_assoc N]; exact H3.perm List.perm_middle, by rw [List.cons_append, List.append_assoc N]; exact .lst (List.mem_cons_self ..) (Lvs.mono (fun _ m => List.mem_cons_of_mem _ m) _ _ l3)⟩
end
def rowD (e : SL) : D := .tup [.int e.1, .bl e.2]
def roomK (s : List SL) : D := .lst (s.map rowD)
def roomsK (S : List (List SL)) : D := .lst (S.map roomK)
def stK (S : List (List SL)) (told put : Int) : D := .tup [roomsK S, .int told, .int put]
theorem lps_rows : ∀ s : List SL, lps (s.map rowD) ≤ 1
  | [] => by show lps [] ≤ 1; unfold lps; omega
  | e :: s => by
    have := lps_rows s
    rw [List.map_cons]
    unfold lps
    have : lp (rowD e) ≤ 1 := by show 1 + max 0 (max 0 0) ≤ 1; omega
    omega
theorem lp_rows (s : List SL) : lp (.lst (s.map rowD)) ≤ DEEP := by
  have := lps_rows s
  unfold lp DEEP
  omega
section
variable {G X : HB} {s : Sg} {e : DE}
theorem Ev.ix0 {ds : List D} {d : D} (a : Ev G X e s (.tup ds)) (h : ds[0]? = some d) : Ev G X (dOp oIx e (dC (.int 0))) s d := Ev.ix (i := 0) a (Ev.int 0) h
theorem Ev.ix1 {ds : List D} {d : D} (a : Ev G X e s (.tup ds)) (h : ds[1]? = some d) : Ev G X (dOp oIx e (dC (.int 1))) s d := Ev.ix (i := 1) a (Ev.int 1) h
theorem Ev.ix2 {ds : List D} {d : D} (a : Ev G X e s (.tup ds)) (h : ds[2]? = some d) : Ev G X (dOp oIx e (dC (.int 2))) s d := Ev.ix (i := 2) a (Ev.int 2) h
theorem Ev.ixl0 {ds : List D} {d : D} (a : Ev G X e s (.lst ds)) (h : ds[0]? = some d) : Ev G X (dOp oIx e (dC (.int 0))) s d := Ev.ixl (i := 0) a (Ev.int 0) h
theorem Ev.ixl1 {ds : List D} {d : D} (a : Ev G X e s (.lst ds)) (h : ds[1]? = some d) : Ev G X (dOp oIx e (dC (.int 1))) s d := Ev.ixl (i := 1) a (Ev.int 1) h
theorem Ev.eqI {ea eb : DE} {x y : Int} (a : Ev G X ea s (.int x)) (b : Ev G X eb s (.int y)) : Ev G X (dOp oEq ea eb) s (.bl (decide (x = y))) := Ev.opB a b fun h => rfl
theorem Ev.neI {ea eb : DE} {x y : Int} (a : Ev G X ea s (.int x)) (b : Ev G X eb s (.int y)) : Ev G X (dOp oNe ea eb) s (.bl (!decide (x = y))) := Ev.opB a b fun h => rfl
theorem Ev.addI {ea eb : DE} {x y : Int} (a : Ev G X ea s (.int x)) (b : Ev G X eb s (.int y)) : Ev G X (dOp oAdd ea eb) s (.int (x + y)) := Ev.opI a b fun h => rfl
theorem Ev.modN {ea eb : DE} {k n : Nat} (a : Ev G X ea s (.int (k : Int))) (b : Ev G X eb s (.int (n : Int))) (h0 : 0 < n) : Ev G X (dOp oMod ea eb) s (.int ((k % n : Nat) : Int)) := Ev.opI a b fun h => by
  have : decide ((0 : Int) < (n : Int)) = true := decide_eq_true (by omega)
  simp only [oMod, oInt, this, if_true]
  rfl
theorem Et.tt : Et G X tTrue s true := fun h G' X' _ _ H => ⟨h, [], rfl, H⟩
theorem ev_room {w : W} {S : List (List SL)} {told put : Int} {i j k : Nat} (hi : s[i]? = some (some w)) (l : Lv G (stK S told put) w) (hj : s[j]? = some (some (.int (k : Int)))) (h0 : 0 < S.length) : Ev G X (dOp oIx (dOp oIx (dVar i) (dC (.int 0))) (dOp oMod (dVar j) (dB bLen (dCons (dOp oIx (dVar i) (dC (.int 0))) dNil)))) s (roomK (atS S (k % S.length))) := by
  have e1 : Ev G X (dOp oIx (dVar i) (dC (.int 0))) s (roomsK S) := Ev.ix0 (Ev.var hi l) rfl
  have e2 := Ev.modN (Ev.var (X := X) hj (Lv.int (k : Int))) (Ev.len e1) (by rw [List.length_map]; exact h0)
  rw [List.length_map] at e2
  refine Ev.ixl e1 e2 ?_
  have lt : k % S.length < S.length := Nat.mod_lt _ h0
  unfold atS
  rw [List.getElem?_map, List.getElem?_eq_getElem lt]; rfl
theorem ev_here {w : W} {t : List SL} {j k : Nat} {i : Nat} (hi : s[i]? = some (some w)) (l : Lv G (roomK t) w) (hj : s[j]? = some (some (.int (k : Int)))) (lt : t.length < LIM) : Ev G X (dComp (iSeq (dVar i)) 1 [j] (gName 0) (dT (dOp oEq (dOp oIx (dVar 0) (dC (.int 0))) (dVar 1))) (dVar 0)) s (.lst ((t.filter (isK k)).map rowD)) :=
  Ev.comp (enc := rowD) (f := rowD) (cd := isK k) (as := t) (cs := [some (.int (k : Int))]) (Ev.var hi l) (by simp only [capS, List.map_cons, List.map_nil, hj, List.replicate, List.cons_append, List.nil_append, Option.getD_some])
    (fun a _ G' w' g l' => Ev.t (Ev.eqI (Ev.ix0 (Ev.var rfl l') rfl) (Ev.var rfl (Lv.int _)))) (fun a _ _ G' w' g l' => Ev.var rfl l') lt
theorem ev_rest {w : W} {t : List SL} {j k : Nat} {i : Nat} (hi : s[i]? = some (some w)) (l : Lv G (roomK t) w) (hj : s[j]? = some (some (.int (k : Int)))) (lt : t.length < LIM) : Ev G X (dComp (iSeq (dVar i)) 1 [j] (gName 0) (dT (dOp oNe (dOp oIx (dVar 0) (dC (.int 0))) (dVar 1))) (dVar 0)) s (.lst ((t.filter (fun e => !isK k e)).map rowD)) :=
  Ev.comp (enc := rowD) (f := rowD) (cd := fun e => !isK k e) (as := t) (cs := [some (.int (k : Int))]) (Ev.var hi l) (by simp only [capS, List.map_cons, List.map_nil, hj, List.replicate, List.cons_append, List.nil_append, Option.getD_some])
    (fun a _ G' w' g l' => Ev.t (Ev.neI (Ev.ix0 (Ev.var rfl l') rfl) (Ev.var rfl (Lv.int _)))) (fun a _ _ G' w' g l' => Ev.var rfl l') lt
end
theorem filter_empty {t : List SL} {k : Nat} : (t.filter (isK k)).isEmpty = (t.find? (isK k)).isNone := by
  induction t with
  | nil => rfl
  | cons a t ih =>
    rw [List.filter_cons, List.find?_cons]
    cases isK k a with
    | true => rfl
    | false => exact ih
theorem cost_fv {S : List (List SL)} {told put : Int} {k : Nat} (h0 : 0 < S.length) (two : (atS S (k % S.length)).length ≤ 2) : Fv [] [] f__law_cost [stK S told put, .int (k : Int)] (.int (costS S S.length k)) := by
  intro h G X vs _ _ H l
  obtain ⟨v, u, rfl, lv, lu⟩ := l.inv2
  obtain rfl := lu.int_inv
  have r1 : Ev G X _ [some v, some (HL.W.int (k : Int)), none] _ := ev_room (i := 0) (j := 1) (k := k) rfl lv rfl h0
  obtain ⟨w, h1, N1, e1, H1, l1⟩ := r1 h G X (List.Subset.refl _) (List.Subset.refl _) H
  have r2 : Ev (N1 ++ G) X _ [some v, some (HL.W.int (k : Int)), some w] _ := Ev.neNil (ev_here (i := 2) (j := 1) (k := k) rfl l1 rfl (by unfold LIM; omega)) Ev.nilB (lp_rows _)
  obtain ⟨h2, N2, e2, H2⟩ := r2.t h1 (N1 ++ G) X (List.Subset.refl _) (List.Subset.refl _) H1
  have em : List.isEmpty (((atS S (k % S.length)).filter (isK k)).map rowD) = ((atS S (k % S.length)).find? (isK k)).isNone := by
    rw [← filter_empty]; cases (atS S (k % S.length)).filter (isK k) <;> rfl
  rw [em] at e2
  have key : ∃ v' h' N, b__law_cost [some v, some (HL.W.int (k : Int)), none] h = .rt v' h' ∧ Has h' ((N ++ G) ++ X) ∧ Lv (N ++ G) (.int (costS S S.length k)) v' := by
    unfold b__law_cost
    rw [sSeq_nx (sSet_of e1)]
    simp only [List.set_cons_zero, List.set_cons_succ]
    cases hf : (atS S (k % S.length)).find? (isK k) with
    | some e =>
      rw [hf] at e2
      refine ⟨.int 1, h2, N2 ++ N1, ?_, by rw [List.append_assoc N2]; exact H2, by unfold costS; rw [hf]; exact Lv.int _⟩
      unfold sSeq
      rw [sIf_go e2 (sRet_of rfl)]
    | none =>
      rw [hf] at e2
      rw [sSeq_nx (sIf_nx e2)]
      have r3 : Ev (N2 ++ (N1 ++ G)) X (dIf (tAnd (dT (dOp oEq (dB bLen (dCons (dVar 2) dNil)) (dC (.int 2)))) (dT (dOp oIx (dOp oIx (dVar 2) (dC (.int 1))) (dC (.int 1))))) (dC (.int 9)) (dC (.int 5))) [some v, some (HL.W.int (k : Int)), some w] (.int (costS S S.length k)) := by
        have l2 := Lv.mono (sr_ (B := N2) (List.Subset.refl _)) _ _ l1
        have vr : Ev (N2 ++ (N1 ++ G)) X (dVar 2) [some v, some (HL.W.int (k : Int)), some w] (roomK (atS S (k % S.length))) := Ev.var rfl l2
        unfold costS
        rw [hf]
        generalize atS S (k % S.length) = t at vr two
        match t, two with
        | [], _ => exact Ev.ifE (x := false) (Et.and (x := false) (y := false) (Ev.t (Ev.eqI (Ev.len vr) (Ev.int 2))) (fun h => nomatch h)) (fun h => nomatch h) (fun _ => Ev.int 5)
        | [a], _ => exact Ev.ifE (x := false) (Et.and (x := false) (y := false) (Ev.t (Ev.eqI (Ev.len vr) (Ev.int 2))) (fun h => nomatch h)) (fun h => nomatch h) (fun _ => Ev.int 5)
        | [a, z], _ =>
          refine Ev.ifE (x := z.2) (Et.and (x := true) (y := z.2) (Ev.t (Ev.eqI (Ev.len vr) (Ev.int 2))) (fun _ => Ev.t (Ev.ix1 (Ev.ixl1 vr rfl) rfl))) (fun h => ?_) (fun h => ?_)
          · simp only [h, if_true]; exact Ev.int 9
          · simp only [h, Bool.false_eq_true, if_false]; exact Ev.int 5
      obtain ⟨v', h3, N3, e3, H3, l3⟩ := r3 h2 (N2 ++ (N1 ++ G)) X (List.Subset.refl _) (List.Subset.refl _) H2
      exact ⟨v', h3, N3 ++ (N2 ++ N1), sRet_of e3, by rw [List.append_assoc N3, List.append_assoc N2]; exact H3, by rw [List.append_assoc N3, List.append_assoc N2]; exact l3⟩
  obtain ⟨v', h', N, e3, H3, l3⟩ := key
  exact ⟨v', h', N, fn_rt rfl e3, H3, l3⟩
theorem filt_true {α : Type} (l : List α) : l.filter (fun _ => true) = l := List.filter_eq_self.mpr fun _ _ => rfl
section
variable {S : List (List SL)} {told put : Int}
theorem settled_fv (hl : S.length < LIM) (two : ∀ t ∈ S, t.length ≤ 2) : Fv [] [] f__law_settled [stK S told put] (stK (S.map fun t => t.map clrS) told (put + cntS S)) := by
  intro h G X vs _ _ H l
  obtain ⟨v, rfl, lv⟩ := l.inv1
  have rooms : ∀ y G', G ⊆ G' → Ev G' X (dOp oIx (dVar 0) (dC (.int 0))) [some v, y] (roomsK S) := fun y G' g => Ev.ix0 (Ev.var rfl (Lv.mono g _ _ lv)) rfl
  have s1 : Ev G X (dB bSum (dCons (dComp (iSeq (dOp oIx (dVar 0) (dC (.int 0)))) 1 [] (gName 0) tTrue (dB bLen (dCons (dComp (iSeq (dVar 0)) 1 [] (gName 0) (dT (dOp oIx (dVar 0) (dC (.int 1)))) (dVar 0)) dNil))) dNil)) [some v, none] (.int (cntS S)) := by
    refine Ev.sum ?_
    have := Ev.comp (enc := roomK) (cd := fun _ => true) (f := fun t => D.int (((t.filter Prod.snd).length : Nat) : Int)) (as := S) (cs := []) (c := tTrue) (e := dB bLen (dCons (dComp (iSeq (dVar 0)) 1 [] (gName 0) (dT (dOp oIx (dVar 0) (dC (.int 1)))) (dVar 0)) dNil)) (rooms none G (List.Subset.refl _)) (js := []) rfl (fun a _ G' w g l => Et.tt) (fun t ht _ G' w g l => by
      have := Ev.len (Ev.comp (X := X) (enc := rowD) (cd := Prod.snd) (f := rowD) (as := t) (cs := []) (c := dT (dOp oIx (dVar 0) (dC (.int 1)))) (e := dVar 0) (s := [some w]) (js := []) (Ev.var (i := 0) rfl l) rfl (fun a _ G' w' g l' => Ev.t (Ev.ix1 (Ev.var rfl l') rfl)) (fun a _ _ G' w' g l' => Ev.var rfl l') (by have := two t ht; unfold LIM; omega))
      rw [List.length_map] at this
      exact this) hl
    rw [filt_true] at this
    rw [List.map_map]
    exact this
  obtain ⟨w, h1, N1, e1, H1, l1⟩ := s1 h G X (List.Subset.refl _) (List.Subset.refl _) H
  have s2 : Ev (N1 ++ G) X (dB bTup (dCons (dComp (iSeq (dOp oIx (dVar 0) (dC (.int 0)))) 1 [] (gName 0) tTrue (dComp (iSeq (dVar 0)) 1 [] (gName 0) tTrue (dB bTup (dCons (dOp oIx (dVar 0) (dC (.int 0))) (dCons (dC (.bl false)) dNil))))) (dCons (dOp oIx (dVar 0) (dC (.int 1))) (dCons (dOp oAdd (dOp oIx (dVar 0) (dC (.int 2))) (dVar 1)) dNil)))) [some v, some w] (stK (S.map fun t => t.map clrS) told (put + cntS S)) := by
    have l0 := Lv.mono (sr_ (B := N1) (List.Subset.refl _)) _ _ lv
    refine Ev.tupB (.cons ?_ (.cons (Ev.ix1 (Ev.var rfl l0) rfl) (.cons (Ev.addI (Ev.ix2 (Ev.var rfl l0) rfl) (Ev.var rfl l1)) .nil))) (by show 3 ≤ LIM; unfold LIM; omega)
    have := Ev.comp (enc := roomK) (cd := fun _ => true) (f := fun t => roomK (t.map clrS)) (as := S) (cs := []) (c := tTrue) (e := dComp (iSeq (dVar 0)) 1 [] (gName 0) tTrue (dB bTup (dCons (dOp oIx (dVar 0) (dC (.int 0))) (dCons (dC (.bl false)) dNil)))) (rooms (some w) (N1 ++ G) (sr_ (List.Subset.refl _))) (js := []) rfl (fun a _ G' w g l => Et.tt) (fun t ht _ G' w g l => by
      have := Ev.comp (X := X) (enc := rowD) (cd := fun _ => true) (f := fun e => rowD (clrS e)) (as := t) (cs := []) (c := tTrue) (e := dB bTup (dCons (dOp oIx (dVar 0) (dC (.int 0))) (dCons (dC (.bl false)) dNil))) (s := [some w]) (js := []) (Ev.var (i := 0) rfl l) rfl (fun a _ G' w' g l' => Et.tt) (fun a _ _ G' w' g l' => Ev.tupB (.cons (Ev.ix0 (Ev.var rfl l') rfl) (.cons (Ev.bl false) .nil)) (by show 2 ≤ LIM; unfold LIM; omega)) (by have := two t ht; unfold LIM; omega)
      rw [filt_true] at this
      unfold roomK
      rw [List.map_map]
      exact this) hl
    rw [filt_true] at this
    unfold roomsK
    rw [List.map_map]
    exact this
  obtain ⟨w2, h2, N2, e2, H2, l2⟩ := s2 h1 (N1 ++ G) X (List.Subset.refl _) (List.Subset.refl _) H1
  refine ⟨w2, h2, N2 ++ N1, fn_rt rfl ?_, by rw [List.append_assoc N2]; exact H2, by rw [List.append_assoc N2]; exact l2⟩
  show b__law_settled [some v, none] h = _
  unfold b__law_settled
  rw [sSeq_nx (sSet_of e1)]
  exact sRet_of e2
theorem sSub_of {o i e : DE} {s : Sg} {h h1 : Sh} {v : W} {p j : Nat} {xs : List W} (he : e s h = .ok v h1) (ho : o s h1 = .ok (.ref p) h1) (hi : i s h1 = .ok (.int (j : Int)) h1) (g : h1[p]? = some (.lst xs)) (lt : j < xs.length) : sSub o i e s h = .nx s (h1.set p (.lst (xs.set j v))) := by
  have e4 : ixW xs.length (j : Int) = some j := by
    have x : (0 : Int) ≤ (j : Int) := by omega
    have y : (j : Int) < (xs.length : Int) := by omega
    simp only [ixW, x, y, if_true, Int.toNat_natCast]
  simp only [sSub, he, R.bind, ho, hi, g, e4]
theorem Ev.lenX {G X : HB} {s : Sg} {i p : Nat} {ys : List W} (hs : s[i]? = some (some (.ref p))) (m : (p, SO.lst ys) ∈ X) : Ev G X (dB bLen (dCons (dVar i) dNil)) s (.int (ys.length : Nat)) := fun h G' X' g z H => ⟨_, h, [], by simp only [dB, dCons, dNil, dVar, hs, R.bind, bLen, seq_of (H.get (List.mem_append_right _ (z m))), OR.fin], H, Lv.int _⟩
theorem Ev.ixX {G X : HB} {s : Sg} {i j k p : Nat} {ys : List W} {ds : List D} {d : D} (hs : s[i]? = some (some (.ref p))) (m : (p, SO.lst ys) ∈ X) (l : Lvs G ds ys) (hj : s[j]? = some (some (.int (k : Int)))) (e : ds[k]? = some d) : Ev G X (dOp oIx (dVar i) (dVar j)) s d := fun h G' X' g z H => by
  obtain ⟨w, ew, lw⟩ := l.get k e
  exact ⟨w, h, [], by simp only [dOp, dVar, hs, hj, R.bind, oIx, seq_of (H.get (List.mem_append_right _ (z m))), atW_of (show (0 : Int) ≤ (k : Int) by omega) (by rw [Int.toNat_natCast]; exact ew), OR.fin], H, Lv.mono g _ _ lw⟩
def newE : DE := dOp oAdd (dB bLst (dCons (dB bTup (dCons (dVar 1) (dCons (dOr (dOp oIx (dOp oIx (dVar 8) (dC (.int 0))) (dC (.int 1))) (dVar 2)) dNil))) dNil)) (dVar 9)
def tailS : DS := sSeq (sSub (dVar 3) (dVar 4) newE) (sRet (dB bTup (dCons (dVar 3) (dCons (dVar 6) (dCons (dVar 7) dNil)))))
theorem tail_ok {G X : HB} {h : Sh} {v wh wr : W} {k j rp : Nat} {c : Bool} {y5 : Option W} {ys : List W} {e0 : SL} {hs rest : List SL} (H : Has h (G ++ ((rp, SO.lst ys) :: X))) (ly : Lvs G (S.map roomK) ys) (lh : Lv G (.lst ((e0 :: hs).map rowD)) wh) (lr : Lv G (.lst (rest.map rowD)) wr) (r2 : rest.length ≤ 2) (hj : j < S.length) :
    ∃ v' h' N, tailS [some v, some (.int (k : Int)), some (.bl c), some (.ref rp), some (.int (j : Int)), y5, some (.int told), some (.int put), some wh, some wr] h = .rt v' h' ∧ Has h' ((N ++ G) ++ X) ∧ Lv (N ++ G) (stK (S.set j (((k : Int), e0.2 || c) :: rest)) told put) v' := by
  have e1 : Ev G ((rp, SO.lst ys) :: X) newE [some v, some (.int (k : Int)), some (.bl c), some (.ref rp), some (.int (j : Int)), y5, some (.int told), some (.int put), some wh, some wr] (roomK (((k : Int), e0.2 || c) :: rest)) :=
    Ev.addL (ds := [rowD ((k : Int), e0.2 || c)]) (Ev.lstB (.cons (Ev.tupB (.cons (Ev.var rfl (Lv.int _)) (.cons (Ev.or (Ev.ix1 (Ev.ixl0 (Ev.var rfl lh) rfl) rfl) (Ev.var rfl (Lv.bl _))) .nil)) (by show 2 ≤ LIM; unfold LIM; omega)) .nil) (by show 1 ≤ LIM; unfold LIM; omega)) (Ev.var rfl lr) (by rw [List.length_map]; show 1 + rest.length ≤ LIM; unfold LIM; omega)
  obtain ⟨w, h1, N1, f1, H1, l1⟩ := e1 h G _ (List.Subset.refl _) (List.Subset.refl _) H
  have ylen : ys.length = S.length := by rw [ly.len, List.length_map]
  have st := sSub_of (o := dVar 3) (i := dVar 4) f1 rfl rfl (H1.get (List.mem_append_right _ (List.mem_cons_self ..))) (show j < ys.length by omega)
  have H2 : Has (h1.set rp (.lst (ys.set j w))) ((((rp, SO.lst (ys.set j w)) :: N1) ++ G) ++ X) := by
    have := (H1.upd (o' := .lst (ys.set j w))).perm List.perm_middle
    exact this
  have l2 : Lv (((rp, SO.lst (ys.set j w)) :: N1) ++ G) (roomsK (S.set j (((k : Int), e0.2 || c) :: rest))) (.ref rp) := by
    refine .lst (List.mem_cons_self ..) ?_
    rw [List.map_set]
    exact Lvs.mono (fun _ m => List.mem_cons_of_mem _ m) _ _ (Lvs.set l1 j (Lvs.mono (sr_ (List.Subset.refl _)) _ _ ly))
  have e2 : Ev (((rp, SO.lst (ys.set j w)) :: N1) ++ G) X (dB bTup (dCons (dVar 3) (dCons (dVar 6) (dCons (dVar 7) dNil)))) [some v, some (.int (k : Int)), some (.bl c), some (.ref rp), some (.int (j : Int)), y5, some (.int told), some (.int put), some wh, some wr] (stK (S.set j (((k : Int), e0.2 || c) :: rest)) told put) :=
    Ev.tupB (.cons (Ev.var rfl l2) (.cons (Ev.var rfl (Lv.int _)) (.cons (Ev.var rfl (Lv.int _)) .nil))) (by show 3 ≤ LIM; unfold LIM; omega)
  obtain ⟨w2, h2, N2, f2, H3, l3⟩ := e2 _ _ X (List.Subset.refl _) (List.Subset.refl _) H2
  refine ⟨w2, h2, N2 ++ ((rp, SO.lst (ys.set j w)) :: N1), ?_, by rw [List.append_assoc N2]; exact H3, by rw [List.append_assoc N2]; exact l3⟩
  unfold tailS
  rw [sSeq_nx st]
  exact sRet_of f2
end
def askC (t : List SL) (k : Nat) (c : Bool) : List SL := if c = true then putH (askS t k).1 else (askS t k).1
def midS : DS := sIf (dT (dOp oEq (dVar 8) (dB bLst dNil))) (sSeq (sSet 6 (dOp oAdd (dVar 6) (dC (.int 1))))
    (sSeq (sSet 8 (dB bLst (dCons (dB bTup (dCons (dVar 1) (dCons (dC (.bl false)) dNil))) dNil)))
    (sIf (dT (dOp oEq (dB bLen (dCons (dVar 9) dNil)) (dC (.int 2)))) (sSeq (sSet 7 (dOp oAdd (dVar 7) (dB bInt (dCons (dOp oIx (dOp oIx (dVar 9) (dC (.int 1))) (dC (.int 1))) dNil))))
    (sSet 9 (dSl (dVar 9) dNoPart (dPart (dC (.int 1)))))) sNx))) sNx
theorem sIf_no {c : DT} {a b : DS} {s : Sg} {h h' : Sh} {r : C} (e : c s h = .ok false h') (hb : b s h' = r) : sIf c a b s h = r := by
  unfold sIf
  rw [e]
  simp only [Bool.false_eq_true, if_false]
  exact hb
theorem take1_aux (ws : List W) : cutW ws none (some 1) = ws.take 1 := by
  unfold cutW sIx
  cases ws with
  | nil => rfl
  | cons a ws =>
    have : min (1 : Int).toNat (a :: ws).length = 1 := by rw [List.length_cons]; show min 1 _ = 1; omega
    simp only [show ¬ ((1 : Int) < 0) by omega, if_false, this]
    rfl
theorem Ev.take1 {G X : HB} {s : Sg} {ea : DE} {ds : List D} (a : Ev G X ea s (.lst ds)) : Ev G X (dSl ea dNoPart (dPart (dC (.int 1)))) s (.lst (ds.take 1)) := by
  intro h G' X' g z H
  obtain ⟨v, h1, N1, e1, H1, l1⟩ := a h G' X' g z H
  obtain ⟨p, ws, rfl, m, t⟩ := l1.lst_inv
  obtain ⟨w, h2, N2, e2, H2, l2⟩ := new_lst H1 (t.take 1)
  refine ⟨w, h2, N2 ++ N1, ?_, by rw [List.append_assoc N2]; exact H2, by rw [List.append_assoc N2]; exact l2⟩
  simp only [dSl, e1, R.bind, dNoPart, dPart, dC, oSl, lst_of (H1.get (List.mem_append_left _ m)), take1_aux]
  exact e2
theorem filt_head {t : List SL} {k : Nat} {e : SL} (hf : t.find? (isK k) = some e) : ∃ hs, t.filter (isK k) = e :: hs := by
  induction t with
  | nil => cases hf
  | cons a t ih =>
    rw [List.find?_cons] at hf
    rw [List.filter_cons]
    cases q : isK k a with
    | true => rw [q] at hf; cases hf; exact ⟨_, rfl⟩
    | false => rw [q] at hf; exact ih hf
theorem ask_small {t : List SL} {k : Nat} (hf : t.find? (isK k) = none) (two : t.length ≤ 2) (h2 : ¬ t.length = 2) : askS t k = (((k : Int), false) :: t, 1, 0) := by
  unfold askS
  rw [hf]
  rcases t with _ | ⟨a, _ | ⟨b, _ | ⟨c, t⟩⟩⟩
  · rfl
  · rfl
  · exact absurd rfl h2
  · simp only [List.length_cons] at two; omega
section
variable {G X : HB} {h : Sh} {v wh wr : W} {k j rp : Nat} {c : Bool} {y5 : Option W} {t : List SL} {told put : Int}
theorem mid_ok (H : Has h (G ++ X)) (two : t.length ≤ 2) (lh : Lv G (.lst ((t.filter (isK k)).map rowD)) wh) (lr : Lv G (.lst ((t.filter (fun e => !isK k e)).map rowD)) wr) :
    ∃ (h' : Sh) (N : HB) (wh' wr' : W) (e0 : SL) (hs rest : List SL) (told' put' : Int), midS [some v, some (.int (k : Int)), some (.bl c), some (.ref rp), some (.int (j : Int)), y5, some (.int told), some (.int put), some wh, some wr] h = .nx [some v, some (.int (k : Int)), some (.bl c), some (.ref rp), some (.int (j : Int)), y5, some (.int told'), some (.int put'), some wh', some wr'] h' ∧ Has h' ((N ++ G) ++ X) ∧ Lv (N ++ G) (.lst ((e0 :: hs).map rowD)) wh' ∧ Lv (N ++ G) (.lst (rest.map rowD)) wr' ∧ rest.length ≤ 2 ∧ told' = told + (askS t k).2.1 ∧ put' = put + (askS t k).2.2 ∧ ((k : Int), e0.2 || c) :: rest = askC t k c := by
  have q1 : Ev G X (dOp oEq (dVar 8) (dB bLst dNil)) [some v, some (.int (k : Int)), some (.bl c), some (.ref rp), some (.int (j : Int)), y5, some (.int told), some (.int put), some wh, some wr] _ := Ev.eqNil (Ev.var rfl lh) Ev.nilB (lp_rows _)
  obtain ⟨h1, N1, e1, H1⟩ := q1.t h G X (List.Subset.refl _) (List.Subset.refl _) H
  have em : List.isEmpty ((t.filter (isK k)).map rowD) = (t.find? (isK k)).isNone := by
    rw [← filter_empty]; cases t.filter (isK k) <;> rfl
  rw [em] at e1
  cases hf : t.find? (isK k) with
  | some e =>
    rw [hf] at e1
    obtain ⟨hs, eh⟩ := filt_head hf
    have ek : e.1 = (k : Int) := of_decide_eq_true (show decide (e.1 = (k : Int)) = true from List.find?_some (p := isK k) hf)
    refine ⟨h1, N1, wh, wr, e, hs, t.filter (fun e => !isK k e), told, put, sIf_no e1 rfl, H1, by rw [← eh]; exact Lv.mono (sr_ (List.Subset.refl _)) _ _ lh, Lv.mono (sr_ (List.Subset.refl _)) _ _ lr, Nat.le_trans (List.length_filter_le _ _) two, ?_, ?_, ?_⟩
    · unfold askS; rw [hf]; simp only; omega
    · unfold askS; rw [hf]; simp only; omega
    · unfold askC askS
      rw [hf]
      obtain ⟨a, b⟩ := e
      simp only at ek
      subst ek
      cases c with
      | true => simp only [if_true, putH, Bool.or_true]
      | false => simp only [Bool.false_eq_true, if_false, Bool.or_false]
  | none =>
    rw [hf] at e1
    have er : t.filter (fun e => !isK k e) = t := List.filter_eq_self.mpr fun e he => by
      have := List.find?_eq_none.mp hf e he
      cases q : isK k e with
      | true => exact absurd q this
      | false => rfl
    rw [er] at lr
    have q2 : Ev (N1 ++ G) X (dB bLst (dCons (dB bTup (dCons (dVar 1) (dCons (dC (.bl false)) dNil))) dNil)) [some v, some (.int (k : Int)), some (.bl c), some (.ref rp), some (.int (j : Int)), y5, some (.int (told + 1)), some (.int put), some wh, some wr] (.lst ([((k : Int), false)].map rowD)) := Ev.lstB (.cons (Ev.tupB (.cons (Ev.var rfl (Lv.int _)) (.cons (Ev.bl false) .nil)) (by show 2 ≤ LIM; unfold LIM; omega)) .nil) (by show 1 ≤ LIM; unfold LIM; omega)
    obtain ⟨wh2, h2, N2, e2, H2, l2⟩ := q2 h1 (N1 ++ G) X (List.Subset.refl _) (List.Subset.refl _) H1
    have lr2 := Lv.mono (sr_ (B := N2) (sr_ (B := N1) (List.Subset.refl _))) _ _ lr
    have vr : ∀ p : Int, Ev (N2 ++ (N1 ++ G)) X (dVar 9) [some v, some (.int (k : Int)), some (.bl c), some (.ref rp), some (.int (j : Int)), y5, some (.int (told + 1)), some (.int p), some wh2, some wr] (.lst (t.map rowD)) := fun p => Ev.var rfl lr2
    have go : ∀ (told' : Int) r, sIf (dT (dOp oEq (dB bLen (dCons (dVar 9) dNil)) (dC (.int 2)))) (sSeq (sSet 7 (dOp oAdd (dVar 7) (dB bInt (dCons (dOp oIx (dOp oIx (dVar 9) (dC (.int 1))) (dC (.int 1))) dNil)))) (sSet 9 (dSl (dVar 9) dNoPart (dPart (dC (.int 1)))))) sNx [some v, some (.int (k : Int)), some (.bl c), some (.ref rp), some (.int (j : Int)), y5, some (.int (told + 1)), some (.int put), some wh2, some wr] h2 = r → midS [some v, some (.int (k : Int)), some (.bl c), some (.ref rp), some (.int (j : Int)), y5, some (.int told), some (.int put), some wh, some wr] h = r := by
      intro _ r hr
      refine sIf_go e1 ?_
      rw [sSeq_nx (sSet_of (v := .int (told + 1)) (h' := h1) rfl)]
      simp only [List.set_cons_succ, List.set_cons_zero]
      rw [sSeq_nx (sSet_of e2)]
      exact hr
    by_cases h2' : t.length = 2
    · match t, h2', vr, hf, lr2 with
      | [x, z], _, vr, hf, lr2 =>
        obtain ⟨h3, N3, e3, H3⟩ := (Ev.t (Ev.eqI (Ev.len (vr put)) (Ev.int 2))) h2 (N2 ++ (N1 ++ G)) X (List.Subset.refl _) (List.Subset.refl _) H2
        have q4 : Ev (N3 ++ (N2 ++ (N1 ++ G))) X (dOp oAdd (dVar 7) (dB bInt (dCons (dOp oIx (dOp oIx (dVar 9) (dC (.int 1))) (dC (.int 1))) dNil))) [some v, some (.int (k : Int)), some (.bl c), some (.ref rp), some (.int (j : Int)), y5, some (.int (told + 1)), some (.int put), some wh2, some wr] (.int (put + b2i z.2)) := Ev.addI (Ev.var rfl (Lv.int _)) (Ev.intB (Ev.ix1 (Ev.ixl1 ((vr put).up (sr_ (List.Subset.refl _)) (List.Subset.refl _)) rfl) rfl))
        obtain ⟨v4, h4, N4, e4, H4, l4⟩ := q4 h3 _ X (List.Subset.refl _) (List.Subset.refl _) H3
        obtain rfl := l4.int_inv
        have q5 := Ev.take1 ((vr (put + b2i z.2)).up (sr_ (B := N4) (sr_ (B := N3) (List.Subset.refl _))) (List.Subset.refl _))
        obtain ⟨v5, h5, N5, e5, H5, l5⟩ := q5 h4 _ X (List.Subset.refl _) (List.Subset.refl _) H4
        have as : N5 ++ (N4 ++ (N3 ++ (N2 ++ (N1 ++ G)))) = (N5 ++ (N4 ++ (N3 ++ (N2 ++ N1)))) ++ G := by simp only [List.append_assoc]
        rw [as] at H5 l5
        refine ⟨h5, N5 ++ (N4 ++ (N3 ++ (N2 ++ N1))), wh2, v5, ((k : Int), false), [], [x], told + 1, put + b2i z.2, go 0 _ (sIf_go e3 ?_), H5, ?_, l5, by show 1 ≤ 2; omega, ?_, ?_, ?_⟩
        · rw [sSeq_nx (sSet_of e4)]
          simp only [List.set_cons_succ, List.set_cons_zero]
          exact sSet_of e5
        · rw [← as]
          exact Lv.mono (sr_ (sr_ (sr_ (List.Subset.refl _)))) _ _ l2
        · unfold askS; rw [hf]
        · unfold askS; rw [hf]
        · unfold askC askS; rw [hf]; cases c <;> rfl
    · obtain ⟨h3, N3, e3, H3⟩ := (Ev.t (Ev.eqI (Ev.len (vr put)) (Ev.int 2))) h2 (N2 ++ (N1 ++ G)) X (List.Subset.refl _) (List.Subset.refl _) H2
      rw [List.length_map, decide_eq_false (by omega)] at e3
      have as : N3 ++ (N2 ++ (N1 ++ G)) = (N3 ++ (N2 ++ N1)) ++ G := by simp only [List.append_assoc]
      rw [as] at H3
      refine ⟨h3, N3 ++ (N2 ++ N1), wh2, wr, ((k : Int), false), [], t, told + 1, put, go 0 _ (sIf_no e3 rfl), H3, ?_, ?_, two, ?_, ?_, ?_⟩
      · rw [← as]; exact Lv.mono (sr_ (List.Subset.refl _)) _ _ l2
      · rw [← as]; exact Lv.mono (sr_ (List.Subset.refl _)) _ _ lr2
      · rw [ask_small hf two h2']
      · rw [ask_small hf two h2']; simp only; omega
      · unfold askC; rw [ask_small hf two h2']; cases c <;> rfl
end
theorem Lvs.inv3 {L : HB} {da db dc : D} {vs : List W} (l : Lvs L [da, db, dc] vs) : ∃ v u w, vs = [v, u, w] ∧ Lv L da v ∧ Lv L db u ∧ Lv L dc w := by
  unfold Lvs at l
  obtain ⟨w, r, rfl, a, b⟩ := l
  obtain ⟨u, x, rfl, c, d⟩ := b.inv2
  exact ⟨w, u, x, rfl, a, c, d⟩
theorem asked_eq : b__law_asked = sSeq (sSet 3 (dComp (iSeq (dOp oIx (dVar 0) (dC (.int 0)))) 1 [] (gName 0) tTrue (dB bList (dCons (dVar 0) dNil))))
    (sSeq (sSet 4 (dOp oMod (dVar 1) (dB bLen (dCons (dVar 3) dNil))))
    (sSeq (sSet 5 (dOp oIx (dVar 3) (dVar 4)))
    (sSeq (sSet 6 (dOp oIx (dVar 0) (dC (.int 1))))
    (sSeq (sSet 7 (dOp oIx (dVar 0) (dC (.int 2))))
    (sSeq (sSet 8 (dComp (iSeq (dVar 5)) 1 [1] (gName 0) (dT (dOp oEq (dOp oIx (dVar 0) (dC (.int 0))) (dVar 1))) (dVar 0)))
    (sSeq (sSet 9 (dComp (iSeq (dVar 5)) 1 [1] (gName 0) (dT (dOp oNe (dOp oIx (dVar 0) (dC (.int 0))) (dVar 1))) (dVar 0)))
    (sSeq midS tailS))))))) := rfl
theorem sSeq_rt {a b : DS} {s : Sg} {h h' : Sh} {v : W} (e : a s h = .rt v h') : sSeq a b s h = .rt v h' := by unfold sSeq; rw [e]
theorem didS_get {S : List (List SL)} {n a : Nat} : didS S n "get" a = getS S n (a / 4) := if_pos rfl
theorem didS_put {S : List (List SL)} {n a : Nat} : didS S n "put" a = putS S n (a / 4) := (if_neg (show ¬ ("put" : Str) = "get" by decide)).trans (if_pos rfl)
section
variable {S : List (List SL)} {told put : Int} {k : Nat} {c : Bool}
theorem asked_fv (h0 : 0 < S.length) (hl : S.length < LIM) (two : ∀ t ∈ S, t.length ≤ 2) : Fv [] [] f__law_asked [stK S told put, .int (k : Int), .bl c] (stK (S.set (k % S.length) (askC (atS S (k % S.length)) k c)) (told + (askS (atS S (k % S.length)) k).2.1) (put + (askS (atS S (k % S.length)) k).2.2)) := by
  intro h G X vs _ _ H l
  obtain ⟨v, u, b, rfl, lv, lu, lb⟩ := l.inv3
  obtain rfl := lu.int_inv
  obtain rfl := lb.bl_inv
  have lt : k % S.length < S.length := Nat.mod_lt _ h0
  have gt : S[k % S.length]? = some (atS S (k % S.length)) := by unfold atS; rw [List.getElem?_eq_getElem lt]; rfl
  have two' : (atS S (k % S.length)).length ≤ 2 := two _ (List.mem_of_getElem? gt)
  generalize ej : k % S.length = j at lt gt two'
  obtain ⟨h1, N1, rp, ys, e1, H1, l1⟩ := comp_lst (G := G) (X := X) (enc := roomK) (cd := fun _ => true) (f := roomK) (as := S) (cs := []) (c := tTrue) (e := dB bList (dCons (dVar 0) dNil)) (ea := dOp oIx (dVar 0) (dC (.int 0))) (js := []) (s := [some v, some (.int (k : Int)), some (.bl c), none, none, none, none, none, none, none]) (Ev.ix0 (Ev.var rfl lv) rfl) rfl (fun a _ G' w g l => Et.tt) (fun t ht _ G' w g l => Ev.list (Ev.var rfl l)) hl h G X (List.Subset.refl _) (List.Subset.refl _) H
  rw [filt_true] at l1
  have mX : (rp, SO.lst ys) ∈ (rp, SO.lst ys) :: X := List.mem_cons_self ..
  have yl : ys.length = S.length := by rw [l1.len, List.length_map]
  have q2 := Ev.modN (G := N1 ++ G) (X := (rp, SO.lst ys) :: X) (s := [some v, some (.int (k : Int)), some (.bl c), some (.ref rp), none, none, none, none, none, none]) (Ev.var (i := 1) rfl (Lv.int (k : Int))) (Ev.lenX (i := 3) rfl mX) (by omega)
  rw [yl, ej] at q2
  obtain ⟨v2, h2, N2, e2, H2, l2⟩ := q2 h1 _ _ (List.Subset.refl _) (List.Subset.refl _) H1
  obtain rfl := l2.int_inv
  have l1' := Lvs.mono (sr_ (B := N2) (List.Subset.refl _)) _ _ l1
  have q3 := Ev.ixX (G := N2 ++ (N1 ++ G)) (X := (rp, SO.lst ys) :: X) (s := [some v, some (.int (k : Int)), some (.bl c), some (.ref rp), some (.int (j : Int)), none, none, none, none, none]) (i := 3) (j := 4) rfl mX l1' rfl (d := roomK (atS S j)) (by rw [List.getElem?_map, gt]; rfl)
  obtain ⟨v3, h3, N3, e3, H3, l3⟩ := q3 h2 _ _ (List.Subset.refl _) (List.Subset.refl _) H2
  have lv3 := Lv.mono (sr_ (B := N3) (sr_ (B := N2) (sr_ (B := N1) (List.Subset.refl _)))) _ _ lv
  have q4 : Ev (N3 ++ (N2 ++ (N1 ++ G))) ((rp, SO.lst ys) :: X) (dOp oIx (dVar 0) (dC (.int 1))) [some v, some (.int (k : Int)), some (.bl c), some (.ref rp), some (.int (j : Int)), some v3, none, none, none, none] (.int told) := Ev.ix1 (Ev.var rfl lv3) rfl
  obtain ⟨v4, h4, N4, e4, H4, l4⟩ := q4 h3 _ _ (List.Subset.refl _) (List.Subset.refl _) H3
  obtain rfl := l4.int_inv
  have lv4 := Lv.mono (sr_ (B := N4) (List.Subset.refl _)) _ _ lv3
  have q5 : Ev (N4 ++ (N3 ++ (N2 ++ (N1 ++ G)))) ((rp, SO.lst ys) :: X) (dOp oIx (dVar 0) (dC (.int 2))) [some v, some (.int (k : Int)), some (.bl c), some (.ref rp), some (.int (j : Int)), some v3, some (.int told), none, none, none] (.int put) := Ev.ix2 (Ev.var rfl lv4) rfl
  obtain ⟨v5, h5, N5, e5, H5, l5⟩ := q5 h4 _ _ (List.Subset.refl _) (List.Subset.refl _) H4
  obtain rfl := l5.int_inv
  have l35 := Lv.mono (sr_ (B := N5) (sr_ (B := N4) (List.Subset.refl _))) _ _ l3
  have q6 := ev_here (G := N5 ++ (N4 ++ (N3 ++ (N2 ++ (N1 ++ G))))) (X := (rp, SO.lst ys) :: X) (s := [some v, some (.int (k : Int)), some (.bl c), some (.ref rp), some (.int (j : Int)), some v3, some (.int told), some (.int put), none, none]) (i := 5) (j := 1) (k := k) rfl l35 rfl (by unfold LIM; omega)
  obtain ⟨v6, h6, N6, e6, H6, l6⟩ := q6 h5 _ _ (List.Subset.refl _) (List.Subset.refl _) H5
  have l36 := Lv.mono (sr_ (B := N6) (List.Subset.refl _)) _ _ l35
  have q7 := ev_rest (G := N6 ++ (N5 ++ (N4 ++ (N3 ++ (N2 ++ (N1 ++ G)))))) (X := (rp, SO.lst ys) :: X) (s := [some v, some (.int (k : Int)), some (.bl c), some (.ref rp), some (.int (j : Int)), some v3, some (.int told), some (.int put), some v6, none]) (i := 5) (j := 1) (k := k) rfl l36 rfl (by unfold LIM; omega)
  obtain ⟨v7, h7, N7, e7, H7, l7⟩ := q7 h6 _ _ (List.Subset.refl _) (List.Subset.refl _) H6
  obtain ⟨h8, N8, wh, wr, e0, hs, rest, told', put', e8, H8, lh, lr, r2, et, ep, ea⟩ := mid_ok (v := v) (k := k) (j := j) (rp := rp) (c := c) (y5 := some v3) (told := told) (put := put) H7 two' (Lv.mono (sr_ (B := N7) (List.Subset.refl _)) _ _ l6) l7
  have l8 := Lvs.mono (sr_ (B := N8) (sr_ (B := N7) (sr_ (B := N6) (sr_ (B := N5) (sr_ (B := N4) (sr_ (B := N3) (List.Subset.refl _))))))) _ _ l1'
  obtain ⟨v9, h9, N9, e9, H9, l9⟩ := tail_ok (v := v) (k := k) (c := c) (y5 := some v3) (told := told') (put := put') H8 l8 lh lr r2 lt
  rw [ea, et, ep] at l9
  have as : N9 ++ (N8 ++ (N7 ++ (N6 ++ (N5 ++ (N4 ++ (N3 ++ (N2 ++ (N1 ++ G)))))))) = (N9 ++ (N8 ++ (N7 ++ (N6 ++ (N5 ++ (N4 ++ (N3 ++ (N2 ++ N1)))))))) ++ G := by simp only [List.append_assoc]
  rw [as] at H9 l9
  refine ⟨v9, h9, _, fn_rt rfl ?_, H9, l9⟩
  show b__law_asked [some v, some (.int (k : Int)), some (.bl c), none, none, none, none, none, none, none] h = _
  rw [asked_eq, sSeq_nx (sSet_of e1)]
  simp only [List.set_cons_succ, List.set_cons_zero]
  rw [sSeq_nx (sSet_of e2)]
  simp only [List.set_cons_succ, List.set_cons_zero]
  rw [sSeq_nx (sSet_of e3)]
  simp only [List.set_cons_succ, List.set_cons_zero]
  rw [sSeq_nx (sSet_of e4)]
  simp only [List.set_cons_succ, List.set_cons_zero]
  rw [sSeq_nx (sSet_of e5)]
  simp only [List.set_cons_succ, List.set_cons_zero]
  rw [sSeq_nx (sSet_of e6)]
  simp only [List.set_cons_succ, List.set_cons_zero]
  rw [sSeq_nx (sSet_of e7)]
  simp only [List.set_cons_succ, List.set_cons_zero]
  rw [sSeq_nx e8]
  exact e9
theorem behind_ok {G X : HB} {h : Sh} {t a : Nat} {x : Str} {w : Int} {v : W} (h0 : 0 < S.length) (hl : S.length < LIM) (two : ∀ t ∈ S, t.length ≤ 2) (hx : x ∈ deeds) (H : Has h (G ++ X)) (ht : (t, SO.tup [.str x, .int a, .int w]) ∈ G) (lv : Lv G (stK S told put) v) :
    ∃ v' h' N, f__law_behind [v, .ref t] h = .ok v' h' ∧ Has h' ((N ++ G) ++ X) ∧ Lv (N ++ G) (stK (didS S S.length x a).1 (told + (didS S S.length x a).2.1) (put + (didS S S.length x a).2.2)) v' := by
  have g : seqW h (.ref t) = some [.str x, .int a, .int w] := seq_ofT (H.get (List.mem_append_left _ ht))
  have a0 : atW [.str x, .int a, .int w] 0 = some (.str x) := rfl
  have a1 : atW [.str x, .int a, .int w] 1 = some (.int a) := rfl
  have i0 : dOp oIx (dVar 1) (dC (.int 0)) [some v, some (.ref t)] h = .ok (.str x) h := by simp! only [oIx, g, a0]
  have t0 : dT (dOp oEq (dOp oIx (dVar 1) (dC (.int 0))) (dC (.str "settle"))) [some v, some (.ref t)] h = .ok (decide (x = "settle")) h := dT_of (dOp_of i0 rfl rfl)
  by_cases c0 : x = "settle"
  · subst c0
    have td : didS S S.length "settle" a = (S.map fun s => s.map clrS, 0, cntS S) := by unfold didS; rw [if_neg (by decide), if_neg (by decide), if_pos rfl]
    rw [td]
    obtain ⟨v', h', N, e1, H1, l1⟩ := settled_fv (told := told) (put := put) hl two h G X [v] (fun _ m => nomatch m) (fun _ m => nomatch m) H (Lvs.one lv)
    refine ⟨v', h', N, fn_rt rfl ?_, H1, by simp only [Int.add_zero]; exact l1⟩
    show b__law_behind [some v, some (.ref t)] h = _
    unfold b__law_behind
    exact sSeq_rt (sIf_go t0 (sRet_of (dCall_of (xs := [v]) (h1 := h) rfl e1)))
  · rw [decide_eq_false c0] at t0
    have h2 := (H.new (.tup [.str "get", .str "put"]))
    have i1 := oIn2 (h := h) x "get" "put"
    have t1 : dT (dOp oIn (dOp oIx (dVar 1) (dC (.int 0))) (dB bTup (dCons (dC (.str "get")) (dCons (dC (.str "put")) dNil)))) [some v, some (.ref t)] h = .ok (decide (x = "get" ∨ x = "put")) (h ++ [.tup [.str "get", .str "put"]]) := dT_of (dOp_of i0 (tup2_e _ _) i1)
    by_cases c1 : x = "get" ∨ x = "put"
    · simp only [c1, decide_true] at t1
      have H2 : Has (h ++ [.tup [.str "get", .str "put"]]) (([(h.length, .tup [.str "get", .str "put"])] ++ G) ++ X) := h2
      obtain ⟨v', h', N, e1, H1, l1⟩ := asked_fv (told := told) (put := put) (k := a / 4) (c := decide (x = "put")) h0 hl two _ _ X [v, .int ((a / 4 : Nat) : Int), .bl (decide (x = "put"))] (fun _ m => nomatch m) (fun _ m => nomatch m) H2 (.cons (Lv.mono (fun _ m => List.mem_cons_of_mem _ m) _ _ lv) (.cons (Lv.int _) (.cons (Lv.bl _) .nil)))
      have g2 : seqW (h ++ [.tup [.str "get", .str "put"]]) (.ref t) = some [.str x, .int a, .int w] := seq_ofT (H2.get (List.mem_append_left _ (List.mem_append_right _ ht)))
      have td : didS S S.length x a = (S.set (a / 4 % S.length) (askC (atS S (a / 4 % S.length)) (a / 4) (decide (x = "put"))), (askS (atS S (a / 4 % S.length)) (a / 4)).2.1, (askS (atS S (a / 4 % S.length)) (a / 4)).2.2) := by
        rcases c1 with rfl | rfl
        · rw [didS_get]; rfl
        · rw [didS_put]; rfl
      rw [td]
      refine ⟨v', h', N ++ [(h.length, .tup [.str "get", .str "put"])], fn_rt rfl ?_, by rw [List.append_assoc N]; exact H1, by rw [List.append_assoc N]; exact l1⟩
      show b__law_behind [some v, some (.ref t)] h = _
      unfold b__law_behind
      rw [sSeq_nx (sIf_nx t0)]
      have ar : dCons (dVar 0) (dCons (dOp oDiv (dOp oIx (dVar 1) (dC (.int 1))) (dC (.int 4))) (dCons (dOp oEq (dOp oIx (dVar 1) (dC (.int 0))) (dC (.str "put"))) dNil)) [some v, some (.ref t)] (h ++ [.tup [.str "get", .str "put"]]) = .ok [v, .int ((a / 4 : Nat) : Int), .bl (decide (x = "put"))] (h ++ [.tup [.str "get", .str "put"]]) := by simp! only [oIx, g2, a0, a1, lt4, lt30, div4, oEq, eqH]
      exact sSeq_rt (sIf_go t1 (sRet_of (dCall_of ar e1)))
    · simp only [c1, decide_false] at t1
      have td : didS S S.length x a = (S, 0, 0) := by
        unfold didS
        rw [if_neg (show ¬ x = "get" from fun h => c1 (.inl h)), if_neg (show ¬ x = "put" from fun h => c1 (.inr h)), if_neg c0]
      rw [td]
      refine ⟨v, h ++ [.tup [.str "get", .str "put"]], [(h.length, .tup [.str "get", .str "put"])], fn_rt rfl ?_, h2, ?_⟩
      · show b__law_behind [some v, some (.ref t)] h = _
        unfold b__law_behind
        rw [sSeq_nx (sIf_nx t0), sSeq_nx (sIf_nx t1)]
        rfl
      · simp only [Int.add_zero]
        exact Lv.mono (fun _ m => List.mem_cons_of_mem _ m) _ _ lv
end
def hrow (here : List Int) (e : SL) : D := .tup [.int e.1, .tup ((four here e.1.toNat).map .int), .bl e.2]
def heldL (here : List Int) (S : List (List SL)) : D := .tup (S.map fun t => .tup (t.map (hrow here)))
theorem cut_four {here : List Int} {k : Nat} (hk : 4 * k + 4 ≤ here.length) : cutW (here.map .int) (some (4 * (k : Int))) (some (4 * (k : Int) + 4)) = (four here k).map W.int := by
  have a : ¬ (4 * (k : Int) < 0) := by omega
  have b : ¬ (4 * (k : Int) + 4 < 0) := by omega
  have c : min (4 * (k : Int)).toNat here.length = 4 * k := by omega
  have d : min (4 * (k : Int) + 4).toNat here.length = 4 * k + 4 := by omega
  have f : 4 * k + 4 - 4 * k = 4 := by omega
  simp only [cutW, sIx, a, b, if_false, List.length_map, c, d, f, four, List.map_take, List.map_drop]
theorem Ev.cut {G X : HB} {s : Sg} {ea eb : DE} {i p k : Nat} {here : List Int} (hs : s[i]? = some (some (.ref p))) (m : (p, SO.lst (here.map .int)) ∈ X) (a : Ev G X ea s (.int (4 * (k : Int)))) (b : Ev G X eb s (.int (4 * (k : Int) + 4))) (hk : 4 * k + 4 ≤ here.length) : Ev G X (dSl (dVar i) (dPart ea) (dPart eb)) s (.lst ((four here k).map .int)) := by
  intro h G' X' g z H
  obtain ⟨v1, h1, N1, e1, H1, l1⟩ := a h G' X' g z H
  obtain rfl := l1.int_inv
  obtain ⟨v2, h2, N2, e2, H2, l2⟩ := b h1 (N1 ++ G') X' (sr_ g) z H1
  obtain rfl := l2.int_inv
  obtain ⟨w, h3, N3, e3, H3, l3⟩ := new_lst H2 (Lvs.ints (four here k))
  refine ⟨w, h3, N3 ++ (N2 ++ N1), ?_, by rw [List.append_assoc N3, List.append_assoc N2]; exact H3, by rw [List.append_assoc N3, List.append_assoc N2]; exact l3⟩
  simp only [dSl, dVar, hs, R.bind, dPart, e1, e2, oSl, lst_of (H2.get (List.mem_append_right _ (z m))), cut_four hk]
  exact e3
theorem Ev.mul4 {G X : HB} {s : Sg} {eb : DE} {y : Int} (b : Ev G X eb s (.int y)) : Ev G X (dOp oMul (dC (.int 4)) eb) s (.int (4 * y)) := Ev.opI (Ev.int 4) b fun h => by
  have : mulOk 4 y = true := rfl
  simp only [oMul, this, if_true]
theorem lheld_fv {S : List (List SL)} {here : List Int} {p : Nat} (hl : S.length ≤ 4) (two : ∀ t ∈ S, t.length ≤ 2) (lt : ∀ t ∈ S, ∀ e ∈ t, 0 ≤ e.1 ∧ 4 * e.1 + 4 ≤ here.length) {G X : HB} {h : Sh} {v : W} (H : Has h (G ++ X)) (lv : Lv G (roomsK S) v) (hp : (p, SO.lst (here.map .int)) ∈ X) :
    ∃ v' h' N, f__law_held [v, .ref p] h = .ok v' h' ∧ Has h' ((N ++ G) ++ X) ∧ Lv (N ++ G) (heldL here S) v' := by
  have q := Ev.tuple (Ev.comp (G := G) (X := X) (enc := roomK) (cd := fun _ => true) (f := fun t => D.tup (t.map (hrow here))) (as := S) (cs := [some (.ref p)]) (c := tTrue) (e := dB bTuple (dCons (dComp (iSeq (dVar 0)) 1 [1] (gName 0) tTrue (dB bTup (dCons (dOp oIx (dVar 0) (dC (.int 0))) (dCons (dB bTuple (dCons (dSl (dVar 1) (dPart (dOp oMul (dC (.int 4)) (dOp oIx (dVar 0) (dC (.int 0))))) (dPart (dOp oAdd (dOp oMul (dC (.int 4)) (dOp oIx (dVar 0) (dC (.int 0)))) (dC (.int 4))))) dNil)) (dCons (dOp oIx (dVar 0) (dC (.int 1))) dNil))))) dNil)) (s := [some v, some (.ref p)]) (js := [1]) (ea := dVar 0) (Ev.var rfl lv) rfl (fun a _ G' w g l => Et.tt) (fun t ht _ G' w g l => by
    have r := Ev.tuple (Ev.comp (G := G') (X := X) (enc := rowD) (cd := fun _ => true) (f := hrow here) (as := t) (cs := [some (.ref p)]) (c := tTrue) (e := dB bTup (dCons (dOp oIx (dVar 0) (dC (.int 0))) (dCons (dB bTuple (dCons (dSl (dVar 1) (dPart (dOp oMul (dC (.int 4)) (dOp oIx (dVar 0) (dC (.int 0))))) (dPart (dOp oAdd (dOp oMul (dC (.int 4)) (dOp oIx (dVar 0) (dC (.int 0)))) (dC (.int 4))))) dNil)) (dCons (dOp oIx (dVar 0) (dC (.int 1))) dNil)))) (s := [some w, some (.ref p)]) (js := [1]) (ea := dVar 0) (Ev.var rfl l) rfl (fun a _ G' w g l => Et.tt) (fun e he _ G2 w2 g2 l2 => by
      obtain ⟨h0, h4⟩ := lt t ht e he
      have en : e.1 = ((e.1.toNat : Nat) : Int) := by omega
      have c0 : Ev G2 X (dOp oIx (dVar 0) (dC (.int 0))) [some w2, some (.ref p)] (.int ((e.1.toNat : Nat) : Int)) := Ev.ix0 (Ev.var rfl l2) (by show some (D.int e.1) = _; rw [← en])
      have c1 : Ev G2 X (dOp oIx (dVar 0) (dC (.int 1))) [some w2, some (.ref p)] (.bl e.2) := Ev.ix1 (Ev.var rfl l2) rfl
      have c2 := Ev.tupB (.cons c0 (.cons (Ev.tuple (Ev.cut (i := 1) (k := e.1.toNat) rfl hp (Ev.mul4 c0) (Ev.addI (Ev.mul4 c0) (Ev.int 4)) (by omega))) (.cons c1 .nil))) (by show 3 ≤ LIM; unfold LIM; omega)
      unfold hrow
      rw [← en] at c2
      exact c2) (by have := two t ht; unfold LIM; omega))
    rw [filt_true] at r
    exact r) (by unfold LIM; omega))
  rw [filt_true] at q
  obtain ⟨v', h', N, e1, H1, l1⟩ := q h G X (List.Subset.refl _) (List.Subset.refl _) H
  refine ⟨v', h', N, fn_rt rfl ?_, H1, l1⟩
  show b__law_held [some v, some (.ref p)] h = _
  unfold b__law_held
  exact sRet_of e1
def alB (f : Fn) : DS := (sSeq (sIf (dT (dB (bIsi CTab) (dCons (dVar 1) (dCons (dC (.ty "tuple")) dNil)))) (sSeq (sIf (tOr (tNot (dT (dB (bIsi CTab) (dCons (dVar 0) (dCons (dC (.ty "tuple")) dNil))))) (dT (dOp oNe (dB bLen (dCons (dVar 0) dNil)) (dB bLen (dCons (dVar 1) dNil))))) (sRet (dC (.bl false))) sNx)
    (sRet (dB bAll (dCons (dComp (iRange1 (dB bLen (dCons (dVar 1) dNil))) 1 [0, 1] (gName 0) tTrue (dCall f (dCons (dOp oIx (dVar 1) (dVar 0)) (dCons (dOp oIx (dVar 2) (dVar 0)) dNil)))) dNil)))) sNx)
    (sRet (dAnd (dOp oEq (dB (bIsi CTab) (dCons (dVar 0) (dCons (dC (.ty "bool")) dNil))) (dB (bIsi CTab) (dCons (dVar 1) (dCons (dC (.ty "bool")) dNil)))) (dAnd (dB (bIsi CTab) (dCons (dVar 0) (dCons (dC (.ty "int")) dNil))) (dOp oEq (dVar 0) (dVar 1))))))
theorem al_top : b__law_alike = alB f__law_alike__r3 := rfl
theorem al_3 : b__law_alike__r3 = alB f__law_alike__r2 := rfl
theorem al_2 : b__law_alike__r2 = alB f__law_alike__r1 := rfl
theorem al_1 : b__law_alike__r1 = alB f__law_alike__r0 := rfl
def Al (f : Fn) (d : D) : Prop := Fv [] [] f [d, d] (.bl true)
theorem isi_tup {h : Sh} {p : Nat} {ws : List W} (g : h[p]? = some (.tup ws)) : bIsi CTab [.ref p, .ty "tuple"] h = .val (.bl true) := by
  simp only [bIsi, isi, tyW, g]
  rfl
theorem bls_true {L : HB} : ∀ {n : Nat} {ws : List HL.W}, Lvs L (List.replicate n (D.bl true)) ws → ws = List.replicate n (HL.W.bl true)
  | 0, ws, x => by rw [List.replicate_zero] at x; unfold Lvs at x; exact x
  | n + 1, ws, x => by
    rw [List.replicate_succ] at x
    unfold Lvs at x
    obtain ⟨w, r, rfl, a, b⟩ := x
    rw [bls_true b, a.bl_inv]; rfl
theorem bAll_rep {h : Sh} {p n : Nat} (g : lstW h (.ref p) = some (List.replicate n (HL.W.bl true))) : bAll [.ref p] h = .val (.bl true) := by
  unfold bAll
  simp only [g]
  rw [if_pos (List.all_eq_true.mpr fun y hy => by rw [List.eq_of_mem_replicate hy]), List.all_eq_true.mpr (fun y hy => by rw [List.eq_of_mem_replicate hy]; rfl)]
theorem range_rep {α : Type} (n : Nat) (a : α) : (List.range n).map (fun _ => a) = List.replicate n a := by
  rw [List.map_const', List.length_range]
theorem Ev.allT {G X : HB} {s : Sg} {ea : DE} {n : Nat} (a : Ev G X ea s (.lst (List.replicate n (.bl true)))) : Ev G X (dB bAll (dCons ea dNil)) s (.bl true) := Ev.b (.cons a .nil) fun h G' X' vs _ _ H l => by
  obtain ⟨v, rfl, la⟩ := l.inv1
  obtain ⟨p, ws, rfl, m, t⟩ := la.lst_inv
  obtain rfl := bls_true t
  exact ⟨_, h, [], by simp only [bAll_rep (lst_of (H.get (List.mem_append_left _ m))), OR.fin], H, Lv.bl _⟩
theorem al_tup {f : Fn} {ds : List D} (hf : ∀ d ∈ ds, Al f d) (lim : ds.length ≤ 1000) : Al (fnOf 2 2 (alB f)) (.tup ds) := by
  intro h G X vs _ _ H l
  obtain ⟨v, u, rfl, lv, lu⟩ := l.inv2
  have q : Ev G X (dB bAll (dCons (dComp (iRange1 (dB bLen (dCons (dVar 1) dNil))) 1 [0, 1] (gName 0) tTrue (dCall f (dCons (dOp oIx (dVar 1) (dVar 0)) (dCons (dOp oIx (dVar 2) (dVar 0)) dNil)))) dNil)) [some v, some u] (.bl true) := by
    refine Ev.allT (n := ds.length) ?_
    have := Ev.compR (G := G) (X := X) (cs := [some v, some u]) (f := fun _ => D.bl true) (n := ds.length) (e := dCall f (dCons (dOp oIx (dVar 1) (dVar 0)) (dCons (dOp oIx (dVar 2) (dVar 0)) dNil))) (js := [0, 1]) (s := [some v, some u]) (ea := dB bLen (dCons (dVar 1) dNil)) (Ev.lenT (Ev.var rfl lu)) rfl (fun k hk G' g => by
      have e := List.getElem?_eq_getElem hk
      exact Ev.call (.cons (Ev.ix (Ev.var rfl (Lv.mono g _ _ lv)) (Ev.var rfl (Lv.int _)) e) (.cons (Ev.ix (Ev.var rfl (Lv.mono g _ _ lu)) (Ev.var rfl (Lv.int _)) e) .nil)) ((hf _ (List.getElem_mem hk)).up (fun _ m => nomatch m) (fun _ m => nomatch m))) lim
    rw [range_rep] at this
    exact this
  obtain ⟨v', h', N, e1, H1, l1⟩ := q h G X (List.Subset.refl _) (List.Subset.refl _) H
  obtain ⟨p, ws, rfl, m, t⟩ := lv.tup_inv
  obtain ⟨p2, ws2, rfl, m2, t2⟩ := lu.tup_inv
  have g1 := H.get (List.mem_append_left X m)
  have g2 := H.get (List.mem_append_left X m2)
  refine ⟨v', h', N, fn_rt rfl ?_, H1, l1⟩
  show alB f [some (.ref p), some (.ref p2)] h = _
  unfold alB
  have i1 : dT (dB (bIsi CTab) (dCons (dVar 1) (dCons (dC (.ty "tuple")) dNil))) [some (.ref p), some (.ref p2)] h = .ok true h := dT_of (by simp! only [isi_tup g2])
  have i0 : dT (dB (bIsi CTab) (dCons (dVar 0) (dCons (dC (.ty "tuple")) dNil))) [some (.ref p), some (.ref p2)] h = .ok true h := dT_of (by simp! only [isi_tup g1])
  have i2 : dT (dOp oNe (dB bLen (dCons (dVar 0) dNil)) (dB bLen (dCons (dVar 1) dNil))) [some (.ref p), some (.ref p2)] h = .ok false h := dT_of (by simp! only [bLen, seq_ofT g1, seq_ofT g2, oNe, eqH, t.len, t2.len])
  exact sSeq_rt (sIf_go i1 (by rw [sSeq_nx (sIf_nx (tOr_f (tNot_of i0) i2))]; exact sRet_of e1))
theorem al_int {f : Fn} (i : Int) : Al (fnOf 2 2 (alB f)) (.int i) := by
  intro h G X vs _ _ H l
  obtain ⟨v, u, rfl, lv, lu⟩ := l.inv2
  obtain rfl := lv.int_inv
  obtain rfl := lu.int_inv
  refine ⟨.bl true, h, [], ?_, H, Lv.bl _⟩
  have : alB f [some (.int i), some (.int i)] h = .rt (.bl (decide (i = i))) h := rfl
  rw [decide_eq_true rfl] at this
  exact fn_rt rfl this
theorem al_bl {f : Fn} (b : Bool) : Al (fnOf 2 2 (alB f)) (.bl b) := by
  intro h G X vs _ _ H l
  obtain ⟨v, u, rfl, lv, lu⟩ := l.inv2
  obtain rfl := lv.bl_inv
  obtain rfl := lu.bl_inv
  refine ⟨.bl true, h, [], ?_, H, Lv.bl _⟩
  cases b <;> rfl
theorem al_0 (i : Int) : Al f__law_alike__r0 (.int i) := by
  intro h G X vs _ _ H l
  obtain ⟨v, u, rfl, lv, lu⟩ := l.inv2
  obtain rfl := lv.int_inv
  obtain rfl := lu.int_inv
  refine ⟨.bl true, h, [], ?_, H, Lv.bl _⟩
  have : b__law_alike__r0 [some (.int i), some (.int i)] h = .rt (.bl (decide (i = i))) h := rfl
  rw [decide_eq_true rfl] at this
  exact fn_rt rfl this
theorem alike_fv {S : List (List SL)} {here : List Int} (hl : S.length ≤ 4) (two : ∀ t ∈ S, t.length ≤ 2) : Al f__law_alike (heldL here S) := by
  show Al (fnOf 2 2 b__law_alike) _
  rw [al_top]
  refine al_tup (fun d hd => ?_) (by rw [List.length_map]; omega)
  obtain ⟨t, ht, rfl⟩ := List.mem_map.mp hd
  show Al (fnOf 2 2 b__law_alike__r3) _
  rw [al_3]
  refine al_tup (fun d hd => ?_) (by rw [List.length_map]; have := two t ht; omega)
  obtain ⟨e, he, rfl⟩ := List.mem_map.mp hd
  show Al (fnOf 2 2 b__law_alike__r2) _
  rw [al_2]
  refine al_tup (fun d hd => ?_) (by show 3 ≤ 1000; omega)
  show Al (fnOf 2 2 b__law_alike__r1) _
  rw [al_1]
  simp only [List.mem_cons, List.not_mem_nil, or_false] at hd
  rcases hd with rfl | rfl | rfl
  · exact al_int _
  · refine al_tup (fun d hd => ?_) ?_
    · obtain ⟨i, _, rfl⟩ := List.mem_map.mp hd
      exact al_0 i
    · rw [List.length_map]; unfold four; rw [List.length_take]; omega
  · exact al_bl _
def MX (m : Co) (rs : List Rm) (Fx : HB) : HB := m.objs ++ ((m.r, SO.lst ((rs.map Rm.p).map .ref)) :: (rs.flatMap Rm.objs ++ Fx))
theorem mx_app (m : Co) (rs : List Rm) (Fx G : HB) : MX m rs (Fx ++ G) = MX m rs Fx ++ G := by
  unfold MX
  simp only [List.append_assoc, List.cons_append]
section
variable {m : Co} {rs : List Rm} {Fx G : HB} {h : Sh}
theorem St.toG (S : St m rs (Fx ++ G) h) : Has h (G ++ MX m rs Fx) := by
  have : Has h (MX m rs (Fx ++ G)) := S
  rw [mx_app] at this
  exact this.perm List.perm_append_comm
theorem St.ofG (H : Has h (G ++ MX m rs Fx)) : St m rs (Fx ++ G) h := by
  have := H.perm List.perm_append_comm
  rw [← mx_app] at this
  exact this
end
theorem ss_len (rs : List Rm) : (ss rs).length = rs.length := by unfold ss; rw [List.length_map]
theorem ss_mem {rs : List Rm} {t : List SL} (h : t ∈ ss rs) : ∃ r ∈ rs, t = sr r := by
  obtain ⟨r, hr, rfl⟩ := List.mem_map.mp h
  exact ⟨r, hr, rfl⟩
theorem two_ss {m : Co} {rs : List Rm} (W : WF m rs) : ∀ t ∈ ss rs, t.length ≤ 2 := by
  intro t ht
  obtain ⟨r, hr, rfl⟩ := ss_mem ht
  unfold sr
  rw [List.length_map]
  exact two_of W r hr
theorem heldD_here {ns : List Int} {M p n s : Nat} {here : List Int} {h : Sh} {m : Co} {rs : List Rm} {F : HB} (I : Inv ns M p n s here h m rs F) : heldD rs = heldL here (ss rs) := by
  unfold heldD heldL ss
  rw [List.map_map]
  congr 1
  refine List.map_congr_left fun r hr => ?_
  show D.tup (r.ls.map lineD) = D.tup ((r.ls.map sl).map (hrow here))
  rw [List.map_map]
  congr 1
  refine List.map_congr_left fun l hl => ?_
  obtain ⟨j, hj⟩ := List.getElem?_of_mem hr
  have R := I.wf.ok j r hj
  have hn := R.pos l hl
  have hm := R.mine l hl
  have e := I.eq l.n.toNat
  have en : (l.n.toNat : Int) = l.n := by omega
  have ej : l.n.toNat % m.k = j := by
    rw [← hm, ← en, intmod]; rfl
  rw [lineOf_at (by rw [ej]; exact hj), inRoom_some R.nd hl en.symm] at e
  show D.tup [.int l.n, .tup (l.ws.map .int), .bl l.ch] = D.tup [.int l.n, .tup ((four here l.n.toNat).map .int), .bl l.ch]
  rw [← e]; rfl
structure J (ns : List Int) (M p n s : Nat) (here : List Int) (h : Sh) (m : Co) (rs : List Rm) (G : HB) (v : W) : Prop where
  inv : Inv ns M p n s here h m rs (Fs ns p here ++ G)
  st : Lv G (stK (ss rs) m.told m.put) v
  k4 : m.k ≤ 4
section
variable {ns : List Int} {M p n s : Nat} {here : List Int} {h h' : Sh} {m : Co} {rs : List Rm} {G N : HB} {v : W}
theorem J.has (I : J ns M p n s here h m rs G v) : Has h (G ++ MX m rs (Fs ns p here)) := I.inv.st.toG
theorem J.more (I : J ns M p n s here h m rs G v) (H : Has h' ((N ++ G) ++ MX m rs (Fs ns p here))) : J ns M p n s here h' m rs (N ++ G) v := ⟨I.inv.more (St.ofG H), Lv.mono (sr_ (List.Subset.refl _)) _ _ I.st, I.k4⟩
theorem J.app (I : J ns M p n s here h m rs G v) (l : Sh) : J ns M p n s here (h ++ l) m rs G v := ⟨I.inv.more (I.inv.st.app l), I.st, I.k4⟩
theorem J.script (I : J ns M p n s here h m rs G v) : h[0]? = some (.rol (ns.map .int)) := I.inv.st.at (List.mem_append_left _ (List.mem_cons_of_mem _ (List.mem_cons_self ..)))
theorem J.words (I : J ns M p n s here h m rs G v) : h[p]? = some (.lst (here.map .int)) := I.inv.st.at (List.mem_append_left _ (List.mem_cons_self ..))
theorem J.fresh {l : Sh} {t : Nat} {o : SO} (I : J ns M p n s here h m rs G v) (e : (h ++ l)[t]? = some o) (lt : h.length ≤ t) : J ns M p n s here (h ++ l) m rs ((t, o) :: G) v :=
  ⟨I.inv.more ((I.inv.st.fresh e lt).permF List.perm_middle.symm), Lv.mono (fun _ m => List.mem_cons_of_mem _ m) _ _ I.st, I.k4⟩
theorem J.s0 (I : J ns M p n s here h m rs G v) : 0 < (ss rs).length := by rw [ss_len, I.inv.wf.len]; exact I.inv.wf.k0
theorem J.s4 (I : J ns M p n s here h m rs G v) : (ss rs).length ≤ 4 := by rw [ss_len, I.inv.wf.len]; exact I.k4
theorem whole_t {a b : Int} {h : Sh} (e : a = b) : f__law_whole [.int a, .int b] h = .ok (.bl true) h := by
  have : f__law_whole [.int a, .int b] h = .ok (.bl (decide (a = b))) h := rfl
  rw [this, decide_eq_true e]
theorem reads_e {F : HB} {s : Sg} {i : Nat} (S : St m rs F h) (hs : s[i]? = some (some (.ref m.s))) : dMeth tb_reads "reads" (dVar i) dNil s h = .ok (.int m.told) h := by
  have e1 : getF ["Slow"] "lines_told" (.ref m.s) h = some (.int m.told) := getF_of (Co.slow S.core) (by decide) rfl
  refine dMeth_of (x := .ref m.s) (xs := []) (by simp only [dVar, hs]) (findM_of (Co.slow S.core) rfl) rfl ?_
  show f_Slow_reads [.ref m.s] h = _
  exact fn_rt rfl (by unfold b_Slow_reads; simp! only [e1])
theorem writes_e {F : HB} {s : Sg} {i : Nat} (S : St m rs F h) (hs : s[i]? = some (some (.ref m.s))) : dMeth tb_writes "writes" (dVar i) dNil s h = .ok (.int m.put) h := by
  have e1 : getF ["Slow"] "lines_put" (.ref m.s) h = some (.int m.put) := getF_of (Co.slow S.core) (by decide) rfl
  refine dMeth_of (x := .ref m.s) (xs := []) (by simp only [dVar, hs]) (findM_of (Co.slow S.core) rfl) rfl ?_
  show f_Slow_writes [.ref m.s] h = _
  exact fn_rt rfl (by unfold b_Slow_writes; simp! only [e1])
theorem stands_ok (I : J ns M p n s here h m rs G v) : ∃ (h' : Sh) (N : HB), f__law_stands [.ref n, .ref s, v, .ref p] h = .ok (.bl true) h' ∧ J ns M p n s here h' m rs (N ++ G) v := by
  obtain ⟨q, ws, rfl, mq, tq⟩ := I.st.tup_inv
  obtain ⟨w0, w1, w2, rfl, l0, l1, l2⟩ := tq.inv3
  obtain rfl := l1.int_inv
  obtain rfl := l2.int_inv
  have gq : ∀ {h : Sh} {N : HB}, Has h ((N ++ G) ++ MX m rs (Fs ns p here)) → h[q]? = some (.tup [w0, .int m.told, .int m.put]) := fun H => H.get (List.mem_append_left _ (List.mem_append_right _ mq))
  have g0 := gq (N := []) I.has
  have hs : m.s = s := I.inv.s
  have hn : m.n = n := I.inv.n
  obtain ⟨v1, h1, N1, e1, S1, t1⟩ := held_e (s := [some (.ref n), some (.ref s), some (.ref q), some (.ref p)]) (i := 0) I.inv.st I.inv.wf I.k4 (by rw [hn]; rfl)
  have S1' : St m rs (Fs ns p here ++ (N1 ++ G)) h1 := S1.permF (by
    rw [← List.append_assoc, ← List.append_assoc]
    exact List.Perm.append_right G List.perm_append_comm)
  have lv1 : Lv (N1 ++ G) (heldL here (ss rs)) v1 := by
    rw [← heldD_here I.inv]
    refine Tv.lv (fun p ws mm => ?_) _ _ t1
    rcases List.mem_append.mp mm with mm | mm
    · exact List.mem_append_left _ mm
    · rcases List.mem_append.mp mm with mm | mm
      · simp only [Fs, List.mem_cons, List.not_mem_nil, or_false, Prod.mk.injEq, reduceCtorEq, and_false] at mm
      · exact List.mem_append_right _ mm
  have H1 := S1'.toG
  have lt : ∀ t ∈ ss rs, ∀ e ∈ t, 0 ≤ e.1 ∧ 4 * e.1 + 4 ≤ here.length := by
    intro t ht e he
    obtain ⟨r, hr, rfl⟩ := ss_mem ht
    obtain ⟨l, hl, rfl⟩ := List.mem_map.mp he
    obtain ⟨j, hj⟩ := List.getElem?_of_mem hr
    have R := I.inv.wf.ok j r hj
    have := R.lt l hl
    rw [I.inv.len, ← I.inv.hl] at this
    exact ⟨R.pos l hl, this⟩
  obtain ⟨v2, h2, N2, e2, H2, lv2⟩ := lheld_fv I.s4 (two_ss I.inv.wf) lt H1 (Lv.mono (sr_ (B := N1) (List.Subset.refl _)) _ _ l0) (p := p) (by unfold MX Fs; exact List.mem_append_right _ (List.mem_cons_of_mem _ (List.mem_append_right _ (List.mem_cons_self ..))))
  obtain ⟨v3, h3, N3, e3, H3, lv3⟩ := alike_fv (here := here) I.s4 (two_ss I.inv.wf) h2 (N2 ++ (N1 ++ G)) _ [v1, v2] (fun _ m => nomatch m) (fun _ m => nomatch m) H2 (.cons (Lv.mono (sr_ (List.Subset.refl _)) _ _ lv1) (.cons lv2 .nil))
  obtain rfl := lv3.bl_inv
  refine ⟨h3, N3 ++ (N2 ++ N1), fn_rt rfl ?_, I.more (by rw [List.append_assoc N3, List.append_assoc N2]; exact H3)⟩
  show b__law_stands [some (.ref n), some (.ref s), some (.ref q), some (.ref p)] h = _
  unfold b__law_stands
  have c1 : dCall f__law_whole (dCons (dMeth tb_reads "reads" (dVar 1) dNil) (dCons (dOp oIx (dVar 2) (dC (.int 1))) dNil)) [some (.ref n), some (.ref s), some (.ref q), some (.ref p)] h = .ok (.bl true) h :=
    dCall_of (cons_of (reads_e I.inv.st (by rw [hs]; rfl)) (cons_of (ixT_e (i := 1) rfl g0 rfl) rfl)) (whole_t rfl)
  have c2 : dCall f__law_whole (dCons (dMeth tb_writes "writes" (dVar 1) dNil) (dCons (dOp oIx (dVar 2) (dC (.int 2))) dNil)) [some (.ref n), some (.ref s), some (.ref q), some (.ref p)] h = .ok (.bl true) h :=
    dCall_of (cons_of (writes_e I.inv.st (by rw [hs]; rfl)) (cons_of (ixT_e (i := 2) rfl g0 rfl) rfl)) (whole_t rfl)
  rw [sSeq_nx (sIf_nx (tOr_f (tNot_of (dT_of c1)) (tNot_of (dT_of c2))))]
  exact sRet_of (dCall_of (cons_of e1 (cons_of (dCall_of (cons_of (ixT_e (i := 0) rfl (gq H1) rfl) rfl) e2) rfl)) e3)
end
def chk (ea : DE) : DS := sIf (tNot (dT (dCall f__law_whole (dCons (dMeth tb_cost "cost" (dVar 5) (dCons ea dNil)) (dCons (dCall f__law_cost (dCons (dVar 6) (dCons (dOp oDiv ea (dC (.int 4))) dNil))) dNil))))) (sRet (dC (.bl false))) sNx
def putC : DT := tAnd (dT (dOp oEq (dOp oIx (dVar 8) (dC (.int 0))) (dC (.str "put")))) (dT (dOp oEq (dOp oMod (dCall f__law_cell (dCons (dVar 0) (dCons (dOp oAdd (dC (.int 700)) (dVar 7)) dNil))) (dC (.int 4))) (dC (.int 1))))
def samE : DE := dB bTup (dCons (dC (.str "put")) (dCons (dOp oIx (dVar 8) (dC (.int 1))) (dCons (dOp oIx (dVar 2) (dOp oIx (dVar 8) (dC (.int 1)))) dNil)))
def stB : DS := sIf (tNot (dT (dCall f__law_stands (dCons (dVar 5) (dCons (dVar 3) (dCons (dVar 6) (dCons (dVar 2) dNil))))))) (sRet (dC (.bl false))) sNx
def wrS : DS := sIf (dT (dOp oEq (dOp oIx (dVar 8) (dC (.int 0))) (dC (.str "put")))) (sSub (dVar 2) (dOp oIx (dVar 8) (dC (.int 1))) (dOp oIx (dVar 8) (dC (.int 2)))) sNx
def lpB : DS := sSeq (sSet 8 (dCall f__law_deed_by (dCons (dVar 0) (dCons (dVar 7) (dCons (dVar 1) dNil)))))
    (sSeq (sIf putC (sSet 8 samE) sNx)
    (sSeq (chk (dOp oIx (dVar 8) (dC (.int 1))))
    (sSeq (sSet 9 (dCall f__law_address (dCons (dVar 0) (dCons (dOp oAdd (dC (.int 300)) (dVar 7)) (dCons (dVar 1) dNil)))))
    (sSeq (chk (dVar 9))
    (sSeq (sDrop (dCall f__law_did (dCons (dVar 5) (dCons (dVar 8) dNil))))
    (sSeq (sSet 6 (dCall f__law_behind (dCons (dVar 6) (dCons (dVar 8) dNil))))
    (sSeq wrS stB)))))))
def SG (M p s k n : Nat) (v : W) (y7 y8 y9 : Option W) : Sg := [some (.ref 0), some (.int (M : Int)), some (.ref p), some (.ref s), some (.int (k : Int)), some (.ref n), some v, y7, y8, y9]
section
variable {ns : List Int} {M p n s k : Nat} {here : List Int} {h : Sh} {m : Co} {rs : List Rm} {G : HB} {v : W} {y7 y8 y9 : Option W}
theorem chk_ok {ea : DE} {a : Nat} (I : J ns M p n s here h m rs G v) (ha : a < M) (he : ea (SG M p s k n v y7 y8 y9) h = .ok (.int (a : Int)) h) : ∃ (h' : Sh) (N : HB), chk ea (SG M p s k n v y7 y8 y9) h = .nx (SG M p s k n v y7 y8 y9) h' ∧ J ns M p n s here h' m rs (N ++ G) v := by
  obtain ⟨c, e1, ec⟩ := cost_ok I.inv.st I.inv.wf (a := a) (by rw [I.inv.len]; exact ha)
  rw [I.inv.n] at e1
  have f1 : findM tb_cost "cost" (.ref n) h = some f_Near_cost := by
    have := findM_of (m := "cost") (tb := tb_cost) (Co.near I.inv.st.core) rfl
    rw [I.inv.n] at this
    exact this
  have two : (atS (ss rs) (a / 4 % (ss rs).length)).length ≤ 2 := by
    have lt := Nat.mod_lt (a / 4) I.s0
    have := two_ss I.inv.wf (ss rs)[a / 4 % (ss rs).length] (List.getElem_mem lt)
    unfold atS
    rw [List.getElem?_eq_getElem lt]
    exact this
  obtain ⟨w, h', N, e2, H2, l2⟩ := cost_fv (told := m.told) (put := m.put) (k := a / 4) I.s0 two h G _ [v, .int ((a / 4 : Nat) : Int)] (fun _ m => nomatch m) (fun _ m => nomatch m) I.has (.cons I.st (.cons (Lv.int _) .nil))
  obtain rfl := l2.int_inv
  refine ⟨h', N, sIf_nx (tNot_of (dT_of (b := true) ?_)), I.more H2⟩
  have ed : dOp oDiv ea (dC (.int 4)) (SG M p s k n v y7 y8 y9) h = .ok (.int ((a / 4 : Nat) : Int)) h := by
    simp only [dOp, he, R.bind, dC, oDiv, oInt, lt4, lt30, Bool.and_self, if_true, OR.fin, div4]
  refine dCall_of (cons_of (dMeth_of (x := .ref n) (xs := [.int (a : Int)]) rfl f1 (cons_of he rfl) e1) (cons_of (dCall_of (xs := [v, .int ((a / 4 : Nat) : Int)]) (cons_of rfl (cons_of ed rfl)) e2) rfl)) (whole_t ?_)
  rw [ec, ss_len, I.inv.wf.len]
theorem deed2_ok {t a j : Nat} {x : Str} {w : Int} (hl : ns.length ≤ 63) (I : J ns M p n s here h m rs G v) (ha : a < M) (ht : (t, SO.tup [.str x, .int a, .int w]) ∈ G) :
    ∃ (t2 : Nat) (w2 : Int) (h2 : Sh) (G2 : HB), sIf putC (sSet 8 samE) sNx (SG M p s k n v (some (.int (j : Int))) (some (.ref t)) y9) h = .nx (SG M p s k n v (some (.int (j : Int))) (some (.ref t2)) y9) h2 ∧ J ns M p n s here h2 m rs G2 v ∧ (t2, SO.tup [.str x, .int a, .int w2]) ∈ G2 := by
  have g0 : h[t]? = some (.tup [.str x, .int a, .int w]) := I.has.get (List.mem_append_left _ ht)
  have i0 : ∀ (s : Sg) (h : Sh), s[8]? = some (some (.ref t)) → h[t]? = some (.tup [.str x, .int a, .int w]) → dOp oIx (dVar 8) (dC (.int 0)) s h = .ok (.str x) h := fun s h e g => ixT_e (i := 0) (by simp only [dVar, e]) g rfl
  have i1 : ∀ (s : Sg) (h : Sh), s[8]? = some (some (.ref t)) → h[t]? = some (.tup [.str x, .int a, .int w]) → dOp oIx (dVar 8) (dC (.int 1)) s h = .ok (.int a) h := fun s h e g => ixT_e (i := 1) (by simp only [dVar, e]) g rfl
  have t0 : dT (dOp oEq (dOp oIx (dVar 8) (dC (.int 0))) (dC (.str "put"))) (SG M p s k n v (some (.int (j : Int))) (some (.ref t)) y9) h = .ok (decide (x = "put")) h := dT_of (dOp_of (i0 _ _ rfl g0) rfl rfl)
  by_cases c0 : x = "put"
  · rw [decide_eq_true c0] at t0
    obtain ⟨c, e1, _, _, _⟩ := cell_ok I.script hl (700 + (j : Int)) (by omega)
    have I1 := I.app [.lst []]
    have t1 : dT (dOp oEq (dOp oMod (dCall f__law_cell (dCons (dVar 0) (dCons (dOp oAdd (dC (.int 700)) (dVar 7)) dNil))) (dC (.int 4))) (dC (.int 1))) (SG M p s k n v (some (.int (j : Int))) (some (.ref t)) y9) h = .ok (decide (c % 4 = 1)) (h ++ [.lst []]) :=
      dT_of (dOp_of (dOp_of (v := .int (c % 4)) (dCall_of (xs := [.ref 0, .int (700 + (j : Int))]) rfl e1) rfl (by simp only [oMod, oInt, lt4, if_true])) rfl rfl)
    by_cases c1 : c % 4 = 1
    · rw [decide_eq_true c1] at t1
      have la : a < here.length := by rw [I.inv.hl]; exact ha
      have gw := I1.words
      have g1 := I1.has.get (List.mem_append_left _ ht)
      have e2 : samE (SG M p s k n v (some (.int (j : Int))) (some (.ref t)) y9) (h ++ [.lst []]) = .ok (.ref (h ++ [SO.lst []]).length) ((h ++ [.lst []]) ++ [.tup [.str "put", .int a, .int here[a]]]) := by
        have q1 := i1 (SG M p s k n v (some (.int (j : Int))) (some (.ref t)) y9) _ rfl g1
        have q2 : dOp oIx (dVar 2) (dOp oIx (dVar 8) (dC (.int 1))) (SG M p s k n v (some (.int (j : Int))) (some (.ref t)) y9) (h ++ [.lst []]) = .ok (.int here[a]) (h ++ [.lst []]) :=
          dOp_of (x := .ref p) rfl q1 (by simp only [oIx, seq_of gw, atInt (List.getElem?_eq_getElem la)])
        have q3 : dCons (dC (.str "put")) (dCons (dOp oIx (dVar 8) (dC (.int 1))) (dCons (dOp oIx (dVar 2) (dOp oIx (dVar 8) (dC (.int 1)))) dNil)) (SG M p s k n v (some (.int (j : Int))) (some (.ref t)) y9) (h ++ [.lst []]) = .ok [.str "put", .int a, .int here[a]] (h ++ [.lst []]) := cons_of rfl (cons_of q1 (cons_of q2 rfl))
        unfold samE dB
        rw [q3]
        simp only [R.bind, bTup, List.length_cons, List.length_nil, show (0 + 1 + 1 + 1 ≤ LIM) from by decide, if_true, OR.fin]
      refine ⟨_, here[a], _, _, sIf_go (tAnd_t t0 t1) (sSet_of e2), I1.fresh get_last (Nat.le_refl _), ?_⟩
      rw [c0]
      exact List.mem_cons_self ..
    · rw [decide_eq_false c1] at t1
      exact ⟨t, w, _, G, sIf_nx (tAnd_t t0 t1), I1, ht⟩
  · rw [decide_eq_false c0] at t0
    exact ⟨t, w, h, G, sIf_nx (tAnd_f t0), I, ht⟩
end
section
variable {ns : List Int} {M p n s k : Nat} {here : List Int} {h : Sh} {m : Co} {rs : List Rm} {G : HB} {v : W} {y7 y8 y9 : Option W}
theorem stB_ok (I : J ns M p n s here h m rs G v) : ∃ (h' : Sh) (N : HB), stB (SG M p s k n v y7 y8 y9) h = .nx (SG M p s k n v y7 y8 y9) h' ∧ J ns M p n s here h' m rs (N ++ G) v := by
  obtain ⟨h', N, e, I'⟩ := stands_ok I
  exact ⟨h', N, sIf_nx (tNot_of (dT_of (b := true) (dCall_of (xs := [.ref n, .ref s, v, .ref p]) rfl e))), I'⟩
theorem Inv.keepF {F F' : HB} {h' : Sh} (I : Inv ns M p n s here h m rs F) (S : St m rs F' h') : Inv ns M p n s here h' m rs F' := ⟨S, I.wf, I.n, I.s, I.len, I.hl, I.eq⟩
theorem step_ok (hl : ns.length ≤ 63) (hM0 : 0 < M) (hM4 : M % 4 = 0) (I : J ns M p n s here h m rs G v) (j : Nat) :
    ∃ (h' : Sh) (m' : Co) (rs' : List Rm) (here' : List Int) (G' : HB) (v' : W) (y8' y9' : Option W), lpB (SG M p s k n v (some (.int (j : Int))) y8 y9) h = .nx (SG M p s k n v' (some (.int (j : Int))) y8' y9') h' ∧ J ns M p n s here' h' m' rs' G' v' := by
  obtain ⟨x, a, w0, t0, l, e1, g1, lt, xm, am⟩ := deed_ok I.script hl j hM0
  have I1 := I.fresh g1 lt
  obtain ⟨t, w, h2, G2, e2, I2, ht⟩ := deed2_ok (k := k) (j := j) (y9 := y9) hl I1 am (List.mem_cons_self ..)
  obtain ⟨h3, N3, e3, I3⟩ := chk_ok (k := k) (y7 := some (.int (j : Int))) (y8 := some (.ref t)) (y9 := y9) (ea := dOp oIx (dVar 8) (dC (.int 1))) I2 am (ixT_e (i := 1) rfl (I2.has.get (List.mem_append_left _ ht)) rfl)
  obtain ⟨b, l4, e4, b0, b1⟩ := address_ok I3.script hl (300 + (j : Int)) (by omega) hM0
  obtain ⟨bn, rfl⟩ : ∃ bn : Nat, b = (bn : Int) := ⟨b.toNat, by omega⟩
  have I4 := I3.app l4
  obtain ⟨h5, N5, e5, I5⟩ := chk_ok (k := k) (y7 := some (.int (j : Int))) (y8 := some (.ref t)) (y9 := some (.int (bn : Int))) (ea := dVar 9) I4 (a := bn) (by omega) rfl
  have ht5 : (t, SO.tup [.str x, .int a, .int w]) ∈ N5 ++ (N3 ++ G2) := List.mem_append_right _ (List.mem_append_right _ ht)
  obtain ⟨u, h6, m', rs', e6, D⟩ := did_ok I5.inv hM4 (List.mem_append_right _ ht5) xm am
  have fn := D.fn
  have kl : m.k = (ss rs).length := by rw [ss_len, I.inv.wf.len]
  rw [kl] at fn
  obtain ⟨v', h7, N7, e7, H7, l7⟩ := behind_ok (told := m.told) (put := m.put) (x := x) (a := a) (w := w) I.s0 (by have := I.s4; unfold LIM; omega) (two_ss I.inv.wf) xm D.inv.st.toG ht5 I5.st
  rw [← fn] at l7
  have l7' : Lv (N7 ++ (N5 ++ (N3 ++ G2))) (stK (ss rs') m'.told m'.put) v' := by
    have a1 : m.told + (m'.told - m.told) = m'.told := by omega
    have a2 : m.put + (m'.put - m.put) = m'.put := by omega
    simp only [a1, a2] at l7
    exact l7
  have S7 : St m' rs' (Fs ns p here ++ (N7 ++ (N5 ++ (N3 ++ G2)))) h7 := St.ofG H7
  have g7 : h7[t]? = some (.tup [.str x, .int a, .int w]) := H7.get (List.mem_append_left _ (List.mem_append_right _ ht5))
  have k4' : m'.k ≤ 4 := by rw [D.kk]; exact I.k4
  -- the words
  have wr : ∃ h8, wrS (SG M p s k n v' (some (.int (j : Int))) (some (.ref t)) (some (.int (bn : Int)))) h7 = .nx (SG M p s k n v' (some (.int (j : Int))) (some (.ref t)) (some (.int (bn : Int)))) h8 ∧ J ns M p n s (if x = "put" then here.set a w else here) h8 m' rs' (N7 ++ (N5 ++ (N3 ++ G2))) v' := by
    have c0 : dT (dOp oEq (dOp oIx (dVar 8) (dC (.int 0))) (dC (.str "put"))) (SG M p s k n v' (some (.int (j : Int))) (some (.ref t)) (some (.int (bn : Int)))) h7 = .ok (decide (x = "put")) h7 := dT_of (dOp_of (ixT_e (i := 0) rfl g7 rfl) rfl rfl)
    have inv := D.inv
    by_cases cx : x = "put"
    · rw [decide_eq_true cx] at c0
      rw [if_pos cx] at inv ⊢
      have g8 : h7[p]? = some (.lst (here.map .int)) := S7.at (List.mem_append_left _ (List.mem_cons_self ..))
      have st := sSub_of (s := SG M p s k n v' (some (.int (j : Int))) (some (.ref t)) (some (.int (bn : Int)))) (o := dVar 2) (i := dOp oIx (dVar 8) (dC (.int 1))) (e := dOp oIx (dVar 8) (dC (.int 2))) (v := .int w) (p := p) (j := a) (ixT_e (i := 2) rfl g7 rfl) rfl (ixT_e (i := 1) rfl g7 rfl) g8 (by rw [List.length_map, I.inv.hl]; exact am)
      rw [← List.map_set] at st
      have S8 : St m' rs' (Fs ns p (here.set a w) ++ (N7 ++ (N5 ++ (N3 ++ G2)))) (h7.set p (.lst ((here.set a w).map .int))) := St.upd (A := []) (B := (0, .rol (ns.map .int)) :: (N7 ++ (N5 ++ (N3 ++ G2)))) S7
      exact ⟨_, sIf_go c0 st, ⟨inv.keepF S8, l7', k4'⟩⟩
    · rw [decide_eq_false cx] at c0
      rw [if_neg cx] at inv ⊢
      exact ⟨h7, sIf_nx c0, ⟨inv.keepF S7, l7', k4'⟩⟩
  obtain ⟨h8, e8, I8⟩ := wr
  obtain ⟨h9, N9, e9, I9⟩ := stB_ok (k := k) (y7 := some (.int (j : Int))) (y8 := some (.ref t)) (y9 := some (.int (bn : Int))) I8
  refine ⟨h9, m', rs', _, _, v', some (.ref t), some (.int (bn : Int)), ?_, I9⟩
  unfold lpB
  rw [sSeq_nx (s' := SG M p s k n v (some (.int (j : Int))) (some (.ref t0)) y9) (sSet_of (dCall_of (xs := [.ref 0, .int (j : Int), .int (M : Int)]) rfl e1))]
  rw [sSeq_nx e2, sSeq_nx e3]
  rw [sSeq_nx (s' := SG M p s k n v (some (.int (j : Int))) (some (.ref t)) (some (.int (bn : Int)))) (sSet_of (dCall_of (xs := [.ref 0, .int (300 + (j : Int)), .int (M : Int)]) rfl e4))]
  rw [sSeq_nx e5]
  rw [sSeq_nx (sDrop_of (dCall_of (xs := [.ref n, .ref t]) rfl e6))]
  rw [sSeq_nx (s' := SG M p s k n v' (some (.int (j : Int))) (some (.ref t)) (some (.int (bn : Int)))) (sSet_of (dCall_of (xs := [v, .ref t]) rfl e7))]
  rw [sSeq_nx e8]
  exact e9
end
theorem rooms_objs (ps : List Nat) : (ps.map fun p => (⟨p, []⟩ : Rm)).flatMap Rm.objs = roomL ps := by
  induction ps with
  | nil => rfl
  | cons p ps ih =>
    rw [List.map_cons, List.flatMap_cons, ih]; rfl
theorem rooms_ps (ps : List Nat) : (ps.map fun p => (⟨p, []⟩ : Rm)).map Rm.p = ps := by
  rw [List.map_map]
  exact List.map_id ps
def newC (ws : List Int) (n s r k : Nat) : Co := { n := n, s := s, c := s + 1, r := r, k := k, cells := ws, told := 0, put := 0 }
def newR (ps : List Nat) : List Rm := ps.map fun p => (⟨p, []⟩ : Rm)
theorem new_inv {ns : List Int} {M p : Nat} {ws : List Int} {n s r k : Nat} {ps : List Nat} {F : HB} {h : Sh} (k3 : k = 1 ∨ k = 2 ∨ k = 4) (lp : ps.length = k) (lw : ws.length = M) (h4 : M % 4 = 0) (S : St (newC ws n s r k) (newR ps) F h) : Inv ns M p n s ws h (newC ws n s r k) (newR ps) F := by
  have k0 : 0 < k := by rcases k3 with h | h | h <;> omega
  refine ⟨S, ⟨k0, by show (ps.map _).length = k; rw [List.length_map]; exact lp, by show ws.length % 4 = 0; omega, fun j rm hj => ?_⟩, rfl, rfl, lw, lw, fun k' => ?_⟩
  · have hj : (ps.map fun p => (⟨p, []⟩ : Rm))[j]? = some rm := hj
    rw [List.getElem?_map] at hj
    cases hp : ps[j]? with
    | none => rw [hp] at hj; cases hj
    | some x =>
      rw [hp] at hj
      cases hj
      exact ⟨Nat.zero_le _, List.nodup_nil, (fun _ h => nomatch h), (fun _ h => nomatch h), (fun _ h => nomatch h), (fun _ h => nomatch h), (fun _ h => nomatch h)⟩
  · show lineOf ws (ps.map fun p => (⟨p, []⟩ : Rm)) k k' = _
    unfold lineOf
    rw [List.getElem?_map]
    cases ps[k' % k]? <;> rfl
theorem dNew_ofD {c : Str} {f : Fn} {as : DA} {ds : List W} {s : Sg} {h h1 h2 : Sh} {xs : List HL.W} (ha : as s h = .ok xs h1) (hf : f (.ref h1.length :: (xs ++ ds)) (h1 ++ [.ins c []]) = .ok .non h2) : dNew c f ds as s h = .ok (.ref h1.length) h2 := by
  unfold dNew
  rw [ha]
  simp only [R.bind, hf, if_true]
def manyE : DE := dOp oAdd (dC (.int 4)) (dOp oMul (dC (.int 4)) (dOp oMod (dCall f__law_cell (dCons (dVar 0) (dCons (dC (.int 1)) dNil))) (dC (.int 16))))
def setsE : DE := dOp oIx (dB bLst (dCons (dC (.int 1)) (dCons (dC (.int 2)) (dCons (dC (.int 4)) dNil)))) (dOp oMod (dCall f__law_cell (dCons (dVar 0) (dCons (dC (.int 2)) dNil))) (dC (.int 3)))
def itB : DI := iRange1 (dB bMin2 (dCons (dOp oAdd (dB bLen (dCons (dVar 0) dNil)) (dC (.int 6))) (dCons (dC (.int 30)) dNil)))
def twoC : DT := tAnd (dT (dOp oEq (dVar 4) (dC (.int 2)))) (dT (dOp oEq (dOp oMod (dOp oDiv (dCall f__law_cell (dCons (dVar 0) (dCons (dC (.int 2)) dNil))) (dC (.int 3))) (dC (.int 2))) (dC (.int 0))))
def nearS : DS := sIf twoC (sSet 5 (dNew "Near" f_Near_init [.int 2] (dCons (dVar 3) dNil))) (sSet 5 (dNew "Near" f_Near_init [] (dCons (dVar 3) (dCons (dVar 4) dNil))))
def stE : DE := dB bTup (dCons (dComp (iRange1 (dVar 4)) 1 [] (gName 0) tTrue (dB bLst dNil)) (dCons (dC (.int 0)) (dCons (dC (.int 0)) dNil)))
theorem law_eq : b_law = sSeq (sSet 1 manyE)
    (sSeq (sSet 2 (dCall f__law_words (dCons (dVar 0) (dCons (dC (.int 200)) (dCons (dVar 1) dNil)))))
    (sSeq (sSet 3 (dNew "Slow" f_Slow_init [] (dCons (dB bTuple (dCons (dVar 2) dNil)) dNil)))
    (sSeq (sSet 4 setsE)
    (sSeq nearS
    (sSeq (sSet 6 stE)
    (sSeq stB
    (sSeq (sFor itB (gName 7) lpB)
    (sRet (dC (.bl true)))))))))) := rfl
theorem good (ns : List Int) (hl : ns.length ≤ 63) : ∃ h', f_law [.ref consts.length] (consts ++ [.rol (ns.map HL.W.int)]) = .ok (.bl true) h' := by
  show ∃ h', f_law [.ref 0] [.rol (ns.map HL.W.int)] = .ok (.bl true) h'
  have H0 : Has [SO.rol (ns.map HL.W.int)] [(0, SO.rol (ns.map HL.W.int))] := Has.new (h := []) (L := []) ⟨List.nodup_nil, fun x hx => nomatch hx⟩ _
  have hs0 : [SO.rol (ns.map HL.W.int)][0]? = some (.rol (ns.map .int)) := rfl
  generalize [SO.rol (ns.map HL.W.int)] = h0 at H0 hs0
  obtain ⟨c, e1, c0, _⟩ := cell_ok hs0 hl 1 (by omega)
  have r0 := Int.emod_nonneg c (show (16 : Int) ≠ 0 by decide)
  have r1 := Int.emod_lt_of_pos c (show (0 : Int) < 16 by decide)
  obtain ⟨q, hq⟩ : ∃ q : Nat, (q : Int) = c % 16 := ⟨(c % 16).toNat, by omega⟩
  have d16 : decide ((0 : Int) < 16) = true := rfl
  have x1 : manyE (start 10 [.ref 0]) h0 = .ok (.int (4 + 4 * q : Nat)) (h0 ++ [.lst []]) := by
    have em : (4 : Int) + 4 * (c % 16) = ((4 + 4 * q : Nat) : Int) := by omega
    unfold manyE
    simp only [start, List.map_cons, List.map_nil, List.cons_append, List.nil_append, dOp, dC, dCall, dCons, dNil, dVar, List.getElem?_cons_zero, R.bind, e1, oMod, oInt, d16, if_true, OR.fin, oMul, show mulOk 4 (c % 16) = true from rfl, oAdd, em]
  obtain ⟨M, hM⟩ : ∃ M, M = 4 + 4 * q := ⟨_, rfl⟩
  rw [← hM] at x1
  have H1 := H0.app [.lst []]
  generalize h0 ++ [SO.lst []] = h1 at x1 H1
  obtain ⟨h2, ws, e2, H2, lw⟩ := words_ok hl (m := M) (by omega) H1
  obtain ⟨p, hp⟩ : ∃ p, p = h1.length := ⟨_, rfl⟩
  rw [← hp] at e2 H2
  have x2 : dCall f__law_words (dCons (dVar 0) (dCons (dC (.int 200)) (dCons (dVar 1) dNil))) [some (.ref 0), some (.int M), none, none, none, none, none, none, none, none] h1 = .ok (.ref p) h2 := dCall_of (xs := [.ref 0, .int 200, .int M]) rfl e2
  have gw : h2[p]? = some (.lst (ws.map .int)) := H2.get (List.mem_cons_self ..)
  have H2' := H2.new (.tup (ws.map .int))
  have x2' : dB bTuple (dCons (dVar 2) dNil) [some (.ref 0), some (.int M), some (.ref p), none, none, none, none, none, none, none] h2 = .ok (.ref h2.length) (h2 ++ [.tup (ws.map .int)]) := by
    simp! only [bTuple, lst_of gw]
  obtain ⟨h3, e3, H3⟩ := slow_init_ok H2'
  obtain ⟨sp, hsp⟩ : ∃ sp, sp = (h2 ++ [SO.tup (ws.map .int)]).length := ⟨_, rfl⟩
  have x3 : dNew "Slow" f_Slow_init [] (dCons (dB bTuple (dCons (dVar 2) dNil)) dNil) [some (.ref 0), some (.int M), some (.ref p), none, none, none, none, none, none, none] h2 = .ok (.ref sp) h3 := by
    rw [hsp]
    exact dNew_of (xs := [.ref h2.length]) (cons_of x2' rfl) e3
  rw [← hsp] at H3
  -- the sets
  have m0 : (0, SO.rol (ns.map HL.W.int)) ∈ (sp, SO.ins "Slow" [("cells", .ref (sp + 1)), ("lines_told", .int 0), ("lines_put", .int 0)]) :: (sp + 1, SO.lst (ws.map .int)) :: [(p, SO.lst (ws.map .int)), (0, SO.rol (ns.map .int))] := List.mem_cons_of_mem _ (List.mem_cons_of_mem _ (List.mem_cons_of_mem _ (List.mem_cons_self ..)))
  have hs3 : (h3 ++ [SO.lst [.int 1, .int 2, .int 4]])[0]? = some (.rol (ns.map .int)) := (H3.app _).get m0
  obtain ⟨d, e5, d0, _⟩ := cell_ok hs3 hl 2 (by omega)
  obtain ⟨k, ek, hk⟩ : ∃ k : Nat, atW [.int 1, .int 2, .int 4] (d % 3) = some (.int k) ∧ (k = 1 ∨ k = 2 ∨ k = 4) := by
    have t0 := Int.emod_nonneg d (show (3 : Int) ≠ 0 by decide)
    have t1 := Int.emod_lt_of_pos d (show (0 : Int) < 3 by decide)
    rcases (by omega : d % 3 = 0 ∨ d % 3 = 1 ∨ d % 3 = 2) with e | e | e <;> rw [e]
    · exact ⟨1, rfl, .inl rfl⟩
    · exact ⟨2, rfl, .inr (.inl rfl)⟩
    · exact ⟨4, rfl, .inr (.inr rfl)⟩
  have H5 := (H3.app [.lst [.int 1, .int 2, .int 4]]).app [.lst []]
  have sq : seqW (h3 ++ [SO.lst [.int 1, .int 2, .int 4]] ++ [SO.lst []]) (.ref h3.length) = some [.int 1, .int 2, .int 4] := seq_of (get_old get_last)
  have x4 : setsE [some (.ref 0), some (.int M), some (.ref p), some (.ref sp), none, none, none, none, none, none] h3 = .ok (.int k) (h3 ++ [SO.lst [.int 1, .int 2, .int 4]] ++ [SO.lst []]) := by
    unfold setsE
    simp only [dCons, dNil, dVar, dOp, dB, dC, dCall, List.getElem?_cons_zero, List.getElem?_cons_succ, R.bind, bLst, List.length_cons, List.length_nil, show (0 + 1 + 1 + 1 ≤ LIM) from by decide, if_true, OR.fin, e5, oMod, oInt, show decide ((0 : Int) < 3) = true from rfl, oIx, sq, ek]
  generalize h3 ++ [SO.lst [.int 1, .int 2, .int 4]] ++ [SO.lst []] = h5 at x4 H5
  -- the near memory
  have near : ∃ (n r : Nat) (ps : List Nat) (h6 : Sh), nearS [some (.ref 0), some (.int M), some (.ref p), some (.ref sp), some (.int k), none, none, none, none, none] h5 = .nx [some (.ref 0), some (.int M), some (.ref p), some (.ref sp), some (.int k), some (.ref n), none, none, none, none] h6 ∧ Has h6 ((n, SO.ins "Near" [("slow", .ref sp), ("sets", .int k), ("rooms", .ref r)]) :: (r, SO.lst (ps.map .ref)) :: (roomL ps ++ ((sp, SO.ins "Slow" [("cells", .ref (sp + 1)), ("lines_told", .int 0), ("lines_put", .int 0)]) :: (sp + 1, SO.lst (ws.map .int)) :: [(p, SO.lst (ws.map .int)), (0, SO.rol (ns.map .int))]))) ∧ ps.length = k := by
    have t0 : dT (dOp oEq (dVar 4) (dC (.int 2))) [some (.ref 0), some (.int M), some (.ref p), some (.ref sp), some (.int k), none, none, none, none, none] h5 = .ok (decide ((k : Int) = 2)) h5 := dT_of (dOp_of rfl rfl rfl)
    by_cases k2 : (k : Int) = 2
    · rw [decide_eq_true k2] at t0
      obtain ⟨c2, ec, cp, _, _⟩ := cell_ok (H5.get m0) hl 2 (by omega)
      have H5' := H5.app [.lst []]
      have t1 : dT (dOp oEq (dOp oMod (dOp oDiv (dCall f__law_cell (dCons (dVar 0) (dCons (dC (.int 2)) dNil))) (dC (.int 3))) (dC (.int 2))) (dC (.int 0))) [some (.ref 0), some (.int M), some (.ref p), some (.ref sp), some (.int k), none, none, none, none, none] h5 = .ok (decide (c2 / 3 % 2 = 0)) (h5 ++ [.lst []]) :=
        dT_of (dOp_of (dOp_of (v := .int (c2 / 3 % 2)) (dOp_of (v := .int (c2 / 3)) (dCall_of (xs := [.ref 0, .int 2]) rfl ec) rfl rfl) rfl rfl) rfl rfl)
      obtain ⟨h6, r, ps, e6, H6, lp⟩ := near_init_ok (s := sp) hk H5'
      refine ⟨_, r, ps, h6, ?_, H6, lp⟩
      unfold nearS twoC
      by_cases c3 : c2 / 3 % 2 = 0
      · rw [decide_eq_true c3] at t1
        refine sIf_go (tAnd_t t0 t1) (sSet_of (dNew_ofD (xs := [.ref sp]) rfl ?_))
        rw [k2] at e6
        exact e6
      · rw [decide_eq_false c3] at t1
        exact sIf_no (tAnd_t t0 t1) (sSet_of (dNew_of (xs := [.ref sp, .int k]) rfl e6))
    · rw [decide_eq_false k2] at t0
      obtain ⟨h6, r, ps, e6, H6, lp⟩ := near_init_ok (s := sp) hk H5
      refine ⟨_, r, ps, h6, ?_, H6, lp⟩
      unfold nearS twoC
      exact sIf_no (tAnd_f t0) (sSet_of (dNew_of (xs := [.ref sp, .int k]) rfl e6))
  obtain ⟨n, r, ps, h6, x5, H6, lp⟩ := near
  have k0 : k ≤ 4 := by rcases hk with h | h | h <;> omega
  have hM4 : M % 4 = 0 := by omega
  have S6 : St (newC ws n sp r k) (newR ps) (Fs ns p ws ++ []) h6 := by
    unfold St
    rw [show ((newR ps).map Rm.p) = ps from rooms_ps ps, show (newR ps).flatMap Rm.objs = roomL ps from rooms_objs ps, List.append_nil]
    refine H6.perm (List.Perm.cons _ ?_)
    have := List.perm_append_comm_assoc ((r, SO.lst (ps.map .ref)) :: roomL ps) [(sp, SO.ins "Slow" [("cells", .ref (sp + 1)), ("lines_told", .int 0), ("lines_put", .int 0)]), (sp + 1, SO.lst (ws.map .int))] (Fs ns p ws)
    simp only [List.cons_append, List.append_assoc, List.nil_append] at this ⊢
    exact this
  -- the state
  have es : Ev [] (MX (newC ws n sp r k) (newR ps) (Fs ns p ws)) stE [some (.ref 0), some (.int M), some (.ref p), some (.ref sp), some (.int k), some (.ref n), none, none, none, none] (stK (ss (newR ps)) 0 0) := by
    refine Ev.tupB (.cons ?_ (.cons (Ev.int 0) (.cons (Ev.int 0) .nil))) (by show 3 ≤ LIM; unfold LIM; omega)
    have := Ev.compR (G := []) (X := MX (newC ws n sp r k) (newR ps) (Fs ns p ws)) (cs := []) (f := fun _ => D.lst []) (n := k) (e := dB bLst dNil) (js := []) (s := [some (.ref 0), some (.int M), some (.ref p), some (.ref sp), some (.int k), some (.ref n), none, none, none, none]) (ea := dVar 4) (Ev.var rfl (Lv.int _)) rfl (fun _ _ G' g => Ev.nilB) (by omega)
    rw [range_rep] at this
    have e2 : roomsK (ss (newR ps)) = .lst (List.replicate k (.lst [])) := by
      unfold roomsK ss newR
      rw [List.map_map, List.map_map]
      rw [← lp]
      exact congrArg D.lst (show ps.map (fun _ => D.lst []) = List.replicate ps.length (D.lst []) from by rw [List.map_const'])
    rw [e2]
    exact this
  obtain ⟨v, h7, N7, x6, H7, l7⟩ := es h6 [] _ (List.Subset.refl _) (List.Subset.refl _) S6.toG
  have J7 : J ns M p n sp ws h7 (newC ws n sp r k) (newR ps) (N7 ++ []) v := ⟨new_inv hk lp lw hM4 (St.ofG H7), l7, k0⟩
  obtain ⟨h8, N8, x7, J8⟩ := stB_ok (k := k) (y7 := none) (y8 := none) (y9 := none) J7
  have gs : seqW h8 (.ref 0) = some (ns.map .int) := by
    have := J8.script
    simp only [seqW, lstW, this, Option.or]
  have em : ∃ N : Nat, N ≤ 1000 ∧ dB bMin2 (dCons (dOp oAdd (dB bLen (dCons (dVar 0) dNil)) (dC (.int 6))) (dCons (dC (.int 30)) dNil)) (SG M p sp k n v none none none) h8 = .ok (.int N) h8 := by
    by_cases h30 : (30 : Int) < (ns.length : Int) + 6
    · refine ⟨30, by omega, ?_⟩
      simp! only [SG, bLen, gs, List.length_map, bMin2, h30]
      rfl
    · refine ⟨ns.length + 6, by omega, ?_⟩
      simp! only [SG, bLen, gs, List.length_map, bMin2, h30]
      rfl
  obtain ⟨N, hN, em⟩ := em
  obtain ⟨s', h9, e9, _⟩ := for_idx (t := .fix (rangeW 0 N)) (i := 7) (b := lpB) N (fun _ s' h' => ∃ m rs here G v y7 y8 y9, s' = SG M p sp k n v y7 y8 y9 ∧ J ns M p n sp here h' m rs G v) (fun _ => trivial) (by
    rintro j _ s' h' ⟨m, rs, here, G, v, y7, y8, y9, rfl, I⟩
    obtain ⟨h2, m', rs', here', G', v', y8', y9', e, I'⟩ := step_ok (k := k) (y8 := y8) (y9 := y9) hl (by omega : 0 < M) hM4 I j
    exact ⟨_, h2, e, m', rs', here', G', v', _, y8', y9', rfl, I'⟩) (SG M p sp k n v none none none) h8 ⟨_, _, ws, _, v, none, none, none, rfl, J8⟩
  refine ⟨h9, fn_rt rfl ?_⟩
  rw [law_eq]
  refine (sSeq_nx (s' := [some (.ref 0), some (.int M), none, none, none, none, none, none, none, none]) (h' := h1) (sSet_of x1)).trans ?_
  refine (sSeq_nx (s' := [some (.ref 0), some (.int M), some (.ref p), none, none, none, none, none, none, none]) (h' := h2) (sSet_of x2)).trans ?_
  refine (sSeq_nx (s' := [some (.ref 0), some (.int M), some (.ref p), some (.ref sp), none, none, none, none, none, none]) (h' := h3) (sSet_of x3)).trans ?_
  refine (sSeq_nx (s' := [some (.ref 0), some (.int M), some (.ref p), some (.ref sp), some (.int k), none, none, none, none, none]) (h' := h5) (sSet_of x4)).trans ?_
  refine (sSeq_nx x5).trans ?_
  refine (sSeq_nx (s' := SG M p sp k n v none none none) (h' := h7) (sSet_of x6)).trans ?_
  refine (sSeq_nx x7).trans ?_
  refine (sSeq_nx (sFor_of (iRange_nat hN em) e9)).trans ?_
  rfl
end K43
namespace K43
open PySem L2
theorem all1 {P : Program} {w : World} {K : PySem.W.Frag} {mg : Str → Option Value} {C_Line C_Near C_Slow : Addr} (e_Line : mg "Line" = some (.ref C_Line)) (e_Near : mg "Near" = some (.ref C_Near)) (e_Slow : mg "Slow" = some (.ref C_Slow)) (z_all : mg "all" = none) (z_bool : mg "bool" = none) (z_enumerate : mg "enumerate" = none) (z_int : mg "int" = none) (z_isinstance : mg "isinstance" = none) (z_len : mg "len" = none) (z_list : mg "list" = none) (z_min : mg "min" = none) (z_range : mg "range" = none) (z_sum : mg "sum" = none) (z_tuple : mg "tuple" = none) (cls_Slow : Cls K C_Slow) (mk_Slow : MkC K mg "Slow" C_Slow) (cls_Near : Cls K C_Near) (mk_Near : MkC K mg "Near" C_Near) (cls_Line : Cls K C_Line) (mk_Line : MkC K mg "Line" C_Line) (eq_Line : EqOk K C_Line) (na_Slow_cells : NoAttr K C_Slow "cells") (na_Line_changed : NoAttr K C_Line "changed") (na_Slow_lines_put : NoAttr K C_Slow "lines_put") (na_Slow_lines_told : NoAttr K C_Slow "lines_told") (na_Line_number : NoAttr K C_Line "number") (na_Near_rooms : NoAttr K C_Near "rooms") (na_Near_sets : NoAttr K C_Near "sets") (na_Near_slow : NoAttr K C_Near "slow") (na_Line_words : NoAttr K C_Line "words") (c_ROOM : ∃ u, mg "ROOM" = some u ∧ RelV (.int 2) u) (F__law_cell : TopFn K mg "_law_cell" s__law_cell) (F__law_word : TopFn K mg "_law_word" s__law_word) (F__law_words : TopFn K mg "_law_words" s__law_words) (F_Slow_init : MethB K C_Slow "__init__" "Slow.__init__" s_Slow_init ["self", "words"]) (F_is_number : TopFn K mg "is_number" s_is_number) (F_Near_init : MethB K C_Near "__init__" "Near.__init__" s_Near_init ["self", "slow", "sets"]) (F_N_Near_init : MethD K C_Near "__init__" "Near.__init__" s_Near_init ["self", "slow", "sets"] [.int 2]) (F__law_whole : TopFn K mg "_law_whole" s__law_whole) (F_Slow_writes : MethB K C_Slow "writes" "Slow.writes" s_Slow_writes ["self"]) (F_Slow_reads : MethB K C_Slow "reads" "Slow.reads" s_Slow_reads ["self"]) (F__law_alike__r0 : TopFn K mg "_law_alike" s__law_alike__r0) (F__law_alike__r1 : TopFn K mg "_law_alike" s__law_alike__r1) (F__law_alike__r2 : TopFn K mg "_law_alike" s__law_alike__r2) (F__law_alike__r3 : TopFn K mg "_law_alike" s__law_alike__r3) (F__law_alike : TopFn K mg "_law_alike" s__law_alike) (F_Line_told : MethB K C_Line "told" "Line.told" s_Line_told ["self"]) (F_lines_told : TopFn K mg "lines_told" s_lines_told) (F_Near_held : MethB K C_Near "held" "Near.held" s_Near_held ["self"]) (F__law_held : TopFn K mg "_law_held" s__law_held) (F__law_stands : TopFn K mg "_law_stands" s__law_stands) (F__law_address : TopFn K mg "_law_address" s__law_address) (F__law_deed_by : TopFn K mg "_law_deed_by" s__law_deed_by) (F_is_within : TopFn K mg "is_within" s_is_within) (F_Slow_size : MethB K C_Slow "size" "Slow.size" s_Slow_size ["self"]) (F_Near_refuse_no_place : MethB K C_Near "refuse_no_place" "Near.refuse_no_place" s_Near_refuse_no_place ["self", "address"]) (F_Near_room_of : MethB K C_Near "room_of" "Near.room_of" s_Near_room_of ["self", "number"]) (F_Near_found : MethB K C_Near "found" "Near.found" s_Near_found ["self", "number"]) (F_Near_cost : MethB K C_Near "cost" "Near.cost" s_Near_cost ["self", "address"]) (F__law_cost : TopFn K mg "_law_cost" s__law_cost) (F_Slow_refuse_no_line : MethB K C_Slow "refuse_no_line" "Slow.refuse_no_line" s_Slow_refuse_no_line ["self", "k"]) (F_Slow_put_four : MethB K C_Slow "put_four" "Slow.put_four" s_Slow_put_four ["self", "k", "words"]) (F_Near_write_back : MethB K C_Near "write_back" "Near.write_back" s_Near_write_back ["self", "line"]) (F_Line_init : MethB K C_Line "__init__" "Line.__init__" s_Line_init ["self", "number", "words", "changed"]) (F_Slow_four : MethB K C_Slow "four" "Slow.four" s_Slow_four ["self", "k"]) (F_Near_asked : MethB K C_Near "asked" "Near.asked" s_Near_asked ["self", "number"]) (F_Near_get : MethB K C_Near "get" "Near.get" s_Near_get ["self", "address"]) (F_Near_put : MethB K C_Near "put" "Near.put" s_Near_put ["self", "address", "word"]) (F_Slow_word_at : MethB K C_Slow "word_at" "Slow.word_at" s_Slow_word_at ["self", "address"]) (F_Near_look : MethB K C_Near "look" "Near.look" s_Near_look ["self", "address"]) (F_Near_settle : MethB K C_Near "settle" "Near.settle" s_Near_settle ["self"]) (F__law_did : TopFn K mg "_law_did" s__law_did) (F__law_settled : TopFn K mg "_law_settled" s__law_settled) (F__law_asked : TopFn K mg "_law_asked" s__law_asked) (F__law_behind : TopFn K mg "_law_behind" s__law_behind) (F_law : TopFn K mg "law" s_law) : LawR P w K mg 9 :=
  all (γ := gm mg) (ρ := fun _ => 0) ⟨z_all,
    z_bool,
    z_enumerate,
    z_int,
    z_isinstance,
    z_len,
    z_list,
    z_min,
    z_range,
    z_sum,
    z_tuple,
    ⟨nofun, nofun, nofun, nofun⟩,
    (by rw [gm_of e_Slow]; exact cls_Slow),
    (by rw [gm_of e_Slow]; exact mk_Slow),
    (by rw [gm_of e_Near]; exact cls_Near),
    (by rw [gm_of e_Near]; exact mk_Near),
    (by rw [gm_of e_Line]; exact cls_Line),
    (by rw [gm_of e_Line]; exact mk_Line),
    (by rw [gm_of e_Line]; exact eq_Line),
    (by intro c hc; rw [List.mem_singleton.mp hc, gm_of e_Slow]; exact ⟨cls_Slow, na_Slow_cells⟩),
    (by intro c hc; rw [List.mem_singleton.mp hc, gm_of e_Line]; exact ⟨cls_Line, na_Line_changed⟩),
    (by intro c hc; rw [List.mem_singleton.mp hc, gm_of e_Slow]; exact ⟨cls_Slow, na_Slow_lines_put⟩),
    (by intro c hc; rw [List.mem_singleton.mp hc, gm_of e_Slow]; exact ⟨cls_Slow, na_Slow_lines_told⟩),
    (by intro c hc; rw [List.mem_singleton.mp hc, gm_of e_Line]; exact ⟨cls_Line, na_Line_number⟩),
    (by intro c hc; rw [List.mem_singleton.mp hc, gm_of e_Near]; exact ⟨cls_Near, na_Near_rooms⟩),
    (by intro c hc; rw [List.mem_singleton.mp hc, gm_of e_Near]; exact ⟨cls_Near, na_Near_sets⟩),
    (by intro c hc; rw [List.mem_singleton.mp hc, gm_of e_Near]; exact ⟨cls_Near, na_Near_slow⟩),
    (by intro c hc; rw [List.mem_singleton.mp hc, gm_of e_Line]; exact ⟨cls_Line, na_Line_words⟩),
    c_ROOM⟩ ConsOk.nil F__law_cell
    F__law_word
    F__law_words
    (by rw [gm_of e_Slow]; exact F_Slow_init)
    F_is_number
    (by rw [gm_of e_Near]; exact F_Near_init)
    (by rw [gm_of e_Near]; exact F_N_Near_init)
    F__law_whole
    (by rw [gm_of e_Slow]; exact F_Slow_writes)
    (by rw [gm_of e_Slow]; exact F_Slow_reads)
    F__law_alike__r0
    F__law_alike__r1
    F__law_alike__r2
    F__law_alike__r3
    F__law_alike
    (by rw [gm_of e_Line]; exact F_Line_told)
    F_lines_told
    (by rw [gm_of e_Near]; exact F_Near_held)
    F__law_held
    F__law_stands
    F__law_address
    F__law_deed_by
    F_is_within
    (by rw [gm_of e_Slow]; exact F_Slow_size)
    (by rw [gm_of e_Near]; exact F_Near_refuse_no_place)
    (by rw [gm_of e_Near]; exact F_Near_room_of)
    (by rw [gm_of e_Near]; exact F_Near_found)
    (by rw [gm_of e_Near]; exact F_Near_cost)
    F__law_cost
    (by rw [gm_of e_Slow]; exact F_Slow_refuse_no_line)
    (by rw [gm_of e_Slow]; exact F_Slow_put_four)
    (by rw [gm_of e_Near]; exact F_Near_write_back)
    (by rw [gm_of e_Line]; exact F_Line_init)
    (by rw [gm_of e_Slow]; exact F_Slow_four)
    (by rw [gm_of e_Near]; exact F_Near_asked)
    (by rw [gm_of e_Near]; exact F_Near_get)
    (by rw [gm_of e_Near]; exact F_Near_put)
    (by rw [gm_of e_Slow]; exact F_Slow_word_at)
    (by rw [gm_of e_Near]; exact F_Near_look)
    (by rw [gm_of e_Near]; exact F_Near_settle)
    F__law_did
    F__law_settled
    F__law_asked
    F__law_behind
    F_law good
end K43
open PySem PySem.W PyProof.Rows
set_option maxRecDepth 100000 in
set_option maxHeartbeats 0 in
theorem PySem.Challenge.cw_rowmill_k43_lines_held_holds : PySem.Challenge.rw_rowmill_k43_lines_held.Holds := by
  w_on; o_law; k_head; (case hw => w_witness2)
  k_fill
  refine L2.walk_lawR (l := PySem.Challenge.rw_rowmill_k43_lines_held) (k := 9) rfl rfl ⟨rfl, by decide, by decide⟩ (fun w h Y => PySem.W.kIn_of Y) rfl ?F
  case F =>
    intro w mg h KX G
    refine' K43.all1 ?e_Line ?e_Near ?e_Slow ?z_all ?z_bool ?z_enumerate ?z_int ?z_isinstance ?z_len ?z_list ?z_min ?z_range ?z_sum ?z_tuple ?cls_Slow ?mk_Slow ?cls_Near ?mk_Near ?cls_Line ?mk_Line ?eq_Line ?na_Slow_cells ?na_Line_changed ?na_Slow_lines_put ?na_Slow_lines_told ?na_Line_number ?na_Near_rooms ?na_Near_sets ?na_Near_slow ?na_Line_words ?c_ROOM (L2.topFn_mk KX G ?a0 ?l0 ?c0 ?k0) (L2.topFn_mk KX G ?a1 ?l1 ?c1 ?k1) (L2.topFn_mk KX G ?a2 ?l2 ?c2 ?k2) (L2.methB_mk ?a3 ?l3 ?c3 ?k3 ?n3 ?b3) (L2.topFn_mk KX G ?a4 ?l4 ?c4 ?k4) (L2.methB_mk ?a5 ?l5 ?c5 ?k5 ?n5 ?b5) (L2.methD_mk ?a6 ?l6 ?d6 ?c6 ?k6 ?n6 ?b6 ?v6) (L2.topFn_mk KX G ?a7 ?l7 ?c7 ?k7) (L2.methB_mk ?a8 ?l8 ?c8 ?k8 ?n8 ?b8) (L2.methB_mk ?a9 ?l9 ?c9 ?k9 ?n9 ?b9) (L2.topFn_mk KX G ?a10 ?l10 ?c10 ?k10) (L2.topFn_mk KX G ?a11 ?l11 ?c11 ?k11) (L2.topFn_mk KX G ?a12 ?l12 ?c12 ?k12) (L2.topFn_mk KX G ?a13 ?l13 ?c13 ?k13) (L2.topFn_mk KX G ?a14 ?l14 ?c14 ?k14) (L2.methB_mk ?a15 ?l15 ?c15 ?k15 ?n15 ?b15) (L2.topFn_mk KX G ?a16 ?l16 ?c16 ?k16) (L2.methB_mk ?a17 ?l17 ?c17 ?k17 ?n17 ?b17) (L2.topFn_mk KX G ?a18 ?l18 ?c18 ?k18) (L2.topFn_mk KX G ?a19 ?l19 ?c19 ?k19) (L2.topFn_mk KX G ?a20 ?l20 ?c20 ?k20) (L2.topFn_mk KX G ?a21 ?l21 ?c21 ?k21) (L2.topFn_mk KX G ?a22 ?l22 ?c22 ?k22) (L2.methB_mk ?a23 ?l23 ?c23 ?k23 ?n23 ?b23) (L2.methB_mk ?a24 ?l24 ?c24 ?k24 ?n24 ?b24) (L2.methB_mk ?a25 ?l25 ?c25 ?k25 ?n25 ?b25) (L2.methB_mk ?a26 ?l26 ?c26 ?k26 ?n26 ?b26) (L2.methB_mk ?a27 ?l27 ?c27 ?k27 ?n27 ?b27) (L2.topFn_mk KX G ?a28 ?l28 ?c28 ?k28) (L2.methB_mk ?a29 ?l29 ?c29 ?k29 ?n29 ?b29) (L2.methB_mk ?a30 ?l30 ?c30 ?k30 ?n30 ?b30) (L2.methB_mk ?a31 ?l31 ?c31 ?k31 ?n31 ?b31) (L2.methB_mk ?a32 ?l32 ?c32 ?k32 ?n32 ?b32) (L2.methB_mk ?a33 ?l33 ?c33 ?k33 ?n33 ?b33) (L2.methB_mk ?a34 ?l34 ?c34 ?k34 ?n34 ?b34) (L2.methB_mk ?a35 ?l35 ?c35 ?k35 ?n35 ?b35) (L2.methB_mk ?a36 ?l36 ?c36 ?k36 ?n36 ?b36) (L2.methB_mk ?a37 ?l37 ?c37 ?k37 ?n37 ?b37) (L2.methB_mk ?a38 ?l38 ?c38 ?k38 ?n38 ?b38) (L2.methB_mk ?a39 ?l39 ?c39 ?k39 ?n39 ?b39) (L2.topFn_mk KX G ?a40 ?l40 ?c40 ?k40) (L2.topFn_mk KX G ?a41 ?l41 ?c41 ?k41) (L2.topFn_mk KX G ?a42 ?l42 ?c42 ?k42) (L2.topFn_mk KX G ?a43 ?l43 ?c43 ?k43) (L2.topFn_mk KX G ?a44 ?l44 ?c44 ?k44)
    (case e_Line => exact PySem.W.mg_of KX G (by k_is))
    (case e_Near => exact PySem.W.mg_of KX G (by k_is))
    (case e_Slow => exact PySem.W.mg_of KX G (by k_is))
    (case z_all => exact PySem.W.mg_none_of KX G (by k_is))
    (case z_bool => exact PySem.W.mg_none_of KX G (by k_is))
    (case z_enumerate => exact PySem.W.mg_none_of KX G (by k_is))
    (case z_int => exact PySem.W.mg_none_of KX G (by k_is))
    (case z_isinstance => exact PySem.W.mg_none_of KX G (by k_is))
    (case z_len => exact PySem.W.mg_none_of KX G (by k_is))
    (case z_list => exact PySem.W.mg_none_of KX G (by k_is))
    (case z_min => exact PySem.W.mg_none_of KX G (by k_is))
    (case z_range => exact PySem.W.mg_none_of KX G (by k_is))
    (case z_sum => exact PySem.W.mg_none_of KX G (by k_is))
    (case z_tuple => exact PySem.W.mg_none_of KX G (by k_is))
    (case cls_Slow => exact ⟨by k_is, by k_is, by k_is, by k_is⟩)
    (case mk_Slow => exact ⟨PySem.W.mg_of KX G (by k_is), by k_is, by k_is⟩)
    (case cls_Near => exact ⟨by k_is, by k_is, by k_is, by k_is⟩)
    (case mk_Near => exact ⟨PySem.W.mg_of KX G (by k_is), by k_is, by k_is⟩)
    (case cls_Line => exact ⟨by k_is, by k_is, by k_is, by k_is⟩)
    (case mk_Line => exact ⟨PySem.W.mg_of KX G (by k_is), by k_is, by k_is⟩)
    (case eq_Line => exact ⟨by k_is, by k_is⟩)
    (case na_Slow_cells => unfold L2.NoAttr; k_is)
    (case na_Line_changed => unfold L2.NoAttr; k_is)
    (case na_Slow_lines_put => unfold L2.NoAttr; k_is)
    (case na_Slow_lines_told => unfold L2.NoAttr; k_is)
    (case na_Line_number => unfold L2.NoAttr; k_is)
    (case na_Near_rooms => unfold L2.NoAttr; k_is)
    (case na_Near_sets => unfold L2.NoAttr; k_is)
    (case na_Near_slow => unfold L2.NoAttr; k_is)
    (case na_Line_words => unfold L2.NoAttr; k_is)
    (case c_ROOM => exact ⟨_, PySem.W.mg_of KX G (by k_is), _, rfl⟩)
    (case a0 => k_is)
    (case l0 => k_is)
    (case c0 => k_is)
    (case k0 => k_is)
    (case a1 => k_is)
    (case l1 => k_is)
    (case c1 => k_is)
    (case k1 => k_is)
    (case a2 => k_is)
    (case l2 => k_is)
    (case c2 => k_is)
    (case k2 => k_is)
    (case a3 => k_is)
    (case l3 => k_is)
    (case c3 => k_is)
    (case k3 => k_is)
    (case n3 => k_is)
    (case b3 => exact fun s us X hl => match us, hl with | [_, _], _ => PySem.W.kp_binds X (fun S => by kernel_rfl))
    (case a4 => k_is)
    (case l4 => k_is)
    (case c4 => k_is)
    (case k4 => k_is)
    (case a5 => k_is)
    (case l5 => k_is)
    (case c5 => k_is)
    (case k5 => k_is)
    (case n5 => k_is)
    (case b5 => exact fun s us X hl => match us, hl with | [_, _, _], _ => PySem.W.kp_binds X (fun S => by kernel_rfl))
    (case a6 => k_is)
    (case l6 => k_is)
    (case d6 => k_is)
    (case c6 => k_is)
    (case k6 => k_is)
    (case n6 => k_is)
    (case v6 => exact fun _ _ => (.cons ⟨_, rfl⟩ .nil))
    (case b6 => exact L2.binds_two rfl fun s u v X => PySem.W.kp_binds X (fun S => by kernel_rfl))
    (case a7 => k_is)
    (case l7 => k_is)
    (case c7 => k_is)
    (case k7 => k_is)
    (case a8 => k_is)
    (case l8 => k_is)
    (case c8 => k_is)
    (case k8 => k_is)
    (case n8 => k_is)
    (case b8 => exact fun s us X hl => match us, hl with | [_], _ => PySem.W.kp_binds X (fun S => by kernel_rfl))
    (case a9 => k_is)
    (case l9 => k_is)
    (case c9 => k_is)
    (case k9 => k_is)
    (case n9 => k_is)
    (case b9 => exact fun s us X hl => match us, hl with | [_], _ => PySem.W.kp_binds X (fun S => by kernel_rfl))
    (case a10 => k_is)
    (case l10 => k_is)
    (case c10 => k_is)
    (case k10 => k_is)
    (case a11 => k_is)
    (case l11 => k_is)
    (case c11 => k_is)
    (case k11 => k_is)
    (case a12 => k_is)
    (case l12 => k_is)
    (case c12 => k_is)
    (case k12 => k_is)
    (case a13 => k_is)
    (case l13 => k_is)
    (case c13 => k_is)
    (case k13 => k_is)
    (case a14 => k_is)
    (case l14 => k_is)
    (case c14 => k_is)
    (case k14 => k_is)
    (case a15 => k_is)
    (case l15 => k_is)
    (case c15 => k_is)
    (case k15 => k_is)
    (case n15 => k_is)
    (case b15 => exact fun s us X hl => match us, hl with | [_], _ => PySem.W.kp_binds X (fun S => by kernel_rfl))
    (case a16 => k_is)
    (case l16 => k_is)
    (case c16 => k_is)
    (case k16 => k_is)
    (case a17 => k_is)
    (case l17 => k_is)
    (case c17 => k_is)
    (case k17 => k_is)
    (case n17 => k_is)
    (case b17 => exact fun s us X hl => match us, hl with | [_], _ => PySem.W.kp_binds X (fun S => by kernel_rfl))
    (case a18 => k_is)
    (case l18 => k_is)
    (case c18 => k_is)
    (case k18 => k_is)
    (case a19 => k_is)
    (case l19 => k_is)
    (case c19 => k_is)
    (case k19 => k_is)
    (case a20 => k_is)
    (case l20 => k_is)
    (case c20 => k_is)
    (case k20 => k_is)
    (case a21 => k_is)
    (case l21 => k_is)
    (case c21 => k_is)
    (case k21 => k_is)
    (case a22 => k_is)
    (case l22 => k_is)
    (case c22 => k_is)
    (case k22 => k_is)
    (case a23 => k_is)
    (case l23 => k_is)
    (case c23 => k_is)
    (case k23 => k_is)
    (case n23 => k_is)
    (case b23 => exact fun s us X hl => match us, hl with | [_], _ => PySem.W.kp_binds X (fun S => by kernel_rfl))
    (case a24 => k_is)
    (case l24 => k_is)
    (case c24 => k_is)
    (case k24 => k_is)
    (case n24 => k_is)
    (case b24 => exact fun s us X hl => match us, hl with | [_, _], _ => PySem.W.kp_binds X (fun S => by kernel_rfl))
    (case a25 => k_is)
    (case l25 => k_is)
    (case c25 => k_is)
    (case k25 => k_is)
    (case n25 => k_is)
    (case b25 => exact fun s us X hl => match us, hl with | [_, _], _ => PySem.W.kp_binds X (fun S => by kernel_rfl))
    (case a26 => k_is)
    (case l26 => k_is)
    (case c26 => k_is)
    (case k26 => k_is)
    (case n26 => k_is)
    (case b26 => exact fun s us X hl => match us, hl with | [_, _], _ => PySem.W.kp_binds X (fun S => by kernel_rfl))
    (case a27 => k_is)
    (case l27 => k_is)
    (case c27 => k_is)
    (case k27 => k_is)
    (case n27 => k_is)
    (case b27 => exact fun s us X hl => match us, hl with | [_, _], _ => PySem.W.kp_binds X (fun S => by kernel_rfl))
    (case a28 => k_is)
    (case l28 => k_is)
    (case c28 => k_is)
    (case k28 => k_is)
    (case a29 => k_is)
    (case l29 => k_is)
    (case c29 => k_is)
    (case k29 => k_is)
    (case n29 => k_is)
    (case b29 => exact fun s us X hl => match us, hl with | [_, _], _ => PySem.W.kp_binds X (fun S => by kernel_rfl))
    (case a30 => k_is)
    (case l30 => k_is)
    (case c30 => k_is)
    (case k30 => k_is)
    (case n30 => k_is)
    (case b30 => exact fun s us X hl => match us, hl with | [_, _, _], _ => PySem.W.kp_binds X (fun S => by kernel_rfl))
    (case a31 => k_is)
    (case l31 => k_is)
    (case c31 => k_is)
    (case k31 => k_is)
    (case n31 => k_is)
    (case b31 => exact fun s us X hl => match us, hl with | [_, _], _ => PySem.W.kp_binds X (fun S => by kernel_rfl))
    (case a32 => k_is)
    (case l32 => k_is)
    (case c32 => k_is)
    (case k32 => k_is)
    (case n32 => k_is)
    (case b32 => exact fun s us X hl => match us, hl with | [_, _, _, _], _ => PySem.W.kp_binds X (fun S => by kernel_rfl))
    (case a33 => k_is)
    (case l33 => k_is)
    (case c33 => k_is)
    (case k33 => k_is)
    (case n33 => k_is)
    (case b33 => exact fun s us X hl => match us, hl with | [_, _], _ => PySem.W.kp_binds X (fun S => by kernel_rfl))
    (case a34 => k_is)
    (case l34 => k_is)
    (case c34 => k_is)
    (case k34 => k_is)
    (case n34 => k_is)
    (case b34 => exact fun s us X hl => match us, hl with | [_, _], _ => PySem.W.kp_binds X (fun S => by kernel_rfl))
    (case a35 => k_is)
    (case l35 => k_is)
    (case c35 => k_is)
    (case k35 => k_is)
    (case n35 => k_is)
    (case b35 => exact fun s us X hl => match us, hl with | [_, _], _ => PySem.W.kp_binds X (fun S => by kernel_rfl))
    (case a36 => k_is)
    (case l36 => k_is)
    (case c36 => k_is)
    (case k36 => k_is)
    (case n36 => k_is)
    (case b36 => exact fun s us X hl => match us, hl with | [_, _, _], _ => PySem.W.kp_binds X (fun S => by kernel_rfl))
    (case a37 => k_is)
    (case l37 => k_is)
    (case c37 => k_is)
    (case k37 => k_is)
    (case n37 => k_is)
    (case b37 => exact fun s us X hl => match us, hl with | [_, _], _ => PySem.W.kp_binds X (fun S => by kernel_rfl))
    (case a38 => k_is)
    (case l38 => k_is)
    (case c38 => k_is)
    (case k38 => k_is)
    (case n38 => k_is)
    (case b38 => exact fun s us X hl => match us, hl with | [_, _], _ => PySem.W.kp_binds X (fun S => by kernel_rfl))
    (case a39 => k_is)
    (case l39 => k_is)
    (case c39 => k_is)
    (case k39 => k_is)
    (case n39 => k_is)
    (case b39 => exact fun s us X hl => match us, hl with | [_], _ => PySem.W.kp_binds X (fun S => by kernel_rfl))
    (case a40 => k_is)
    (case l40 => k_is)
    (case c40 => k_is)
    (case k40 => k_is)
    (case a41 => k_is)
    (case l41 => k_is)
    (case c41 => k_is)
    (case k41 => k_is)
    (case a42 => k_is)
    (case l42 => k_is)
    (case c42 => k_is)
    (case k42 => k_is)
    (case a43 => k_is)
    (case l43 => k_is)
    (case c43 => k_is)
    (case k43 => k_is)
    (case a44 => k_is)
    (case l44 => k_is)
    (case c44 => k_is)
    (case k44 => k_is)
