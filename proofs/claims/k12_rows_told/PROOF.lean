import PyProof.Rows.All
import Wide.All
import OpenK.AllK
import Wide.FinOn
import Lean
import PyProof.EqAt
import PyProof.EqKinds
import PyProof.TupleCall
import OpenK.KOwn
import PySem.Str
import KE.LcSums
import PySem.Challenge.RW_rowmill_k12_rows_told
namespace PySem.W.Fast
theorem tw3507450560216933408:True:=⟨⟩
theorem tw17150589715740018752:True:=⟨⟩
theorem tw11151343752952901792:True:=⟨⟩
theorem tw3298686048971551904:True:=⟨⟩
theorem tw1350566385864476896:True:=⟨⟩
theorem tw14858039623786097888:True:=⟨⟩
theorem tw16474906263227146496:True:=⟨⟩
theorem tw10021307911980625152:True:=⟨⟩
theorem tw17432088147225954560:True:=⟨⟩
theorem tw10496740346011803904:True:=⟨⟩
theorem tw15846109709731398944:True:=⟨⟩
theorem tw9979458749680488736:True:=⟨⟩
theorem tw3325291370191755552:True:=⟨⟩
theorem tw11651242954169987392:True:=⟨⟩
theorem tw6945384502439864672:True:=⟨⟩
theorem tw6104159822989820320:True:=⟨⟩
theorem tw9771869423781343680:True:=⟨⟩
theorem tw15940602762446900672:True:=⟨⟩
theorem tw3969856431641639424:True:=⟨⟩
theorem tw1019200590911211040:True:=⟨⟩
theorem tw2739279960152545920:True:=⟨⟩
theorem tw1041541782652982944:True:=⟨⟩
theorem tw4664612733310030560:True:=⟨⟩
theorem tw8846757571825456864:True:=⟨⟩
theorem tw7461612644189617920:True:=⟨⟩
theorem tw11796943701955370752:True:=⟨⟩
theorem tw15631599674081856384:True:=⟨⟩
theorem tw15316118730807398272:True:=⟨⟩
theorem tw13599635740897271680:True:=⟨⟩
theorem tw16002327913569056704:True:=⟨⟩
theorem tw11610768870062554080:True:=⟨⟩
theorem tw11935263586152339521:True:=⟨⟩
theorem tw15900617219994106945:True:=⟨⟩
theorem tw8130928351878748257:True:=⟨⟩
theorem tw14260689920252796001:True:=⟨⟩
theorem tw17678628174376787041:True:=⟨⟩
theorem tw10374386947240628353:True:=⟨⟩
theorem tw8355240551492461729:True:=⟨⟩
theorem tw10402754046479925409:True:=⟨⟩
theorem tw8684623729099163841:True:=⟨⟩
theorem tw12722849033294518625:True:=⟨⟩
theorem tw13359597035436095905:True:=⟨⟩
theorem tw9057097698511603105:True:=⟨⟩
theorem tw10717685495956876897:True:=⟨⟩
theorem tw1391775608211738241:True:=⟨⟩
theorem tw3035876865853537953:True:=⟨⟩
theorem tw11197714751706515265:True:=⟨⟩
theorem tw307648839523454785:True:=⟨⟩
theorem tw13380876013727063905:True:=⟨⟩
theorem tw8792436789502370689:True:=⟨⟩
theorem tw8431045525351518113:True:=⟨⟩
theorem tw7769981181736927234:True:=⟨⟩
theorem tw11603107460525130850:True:=⟨⟩
theorem tw17296467660021789794:True:=⟨⟩
theorem tw10052789546995222658:True:=⟨⟩
theorem tw2054955860063166626:True:=⟨⟩
theorem tw16124123381674267810:True:=⟨⟩
theorem tw2231848866714700994:True:=⟨⟩
theorem tw1691655994575997154:True:=⟨⟩
theorem tw10084425729565352162:True:=⟨⟩
theorem tw4595493184411605282:True:=⟨⟩
theorem tw16795949144714640674:True:=⟨⟩
theorem tw6788891808750586242:True:=⟨⟩
theorem tw7793698890492228034:True:=⟨⟩
theorem tw7830677906815345218:True:=⟨⟩
theorem tw8034835043049607778:True:=⟨⟩
theorem tw440630024267939426:True:=⟨⟩
theorem tw3415321793079306882:True:=⟨⟩
theorem tw2494272073016371874:True:=⟨⟩
theorem tw18355763352594064098:True:=⟨⟩
theorem tw1667332379784202978:True:=⟨⟩
theorem tw1395309438040822498:True:=⟨⟩
theorem tw16771974242411645730:True:=⟨⟩
theorem tw3082946489475032866:True:=⟨⟩
theorem tw10143391360705554306:True:=⟨⟩
theorem tw16475882439427931042:True:=⟨⟩
theorem tw989250081608004514:True:=⟨⟩
theorem tw7749330760397899714:True:=⟨⟩
theorem tw11652680869627553730:True:=⟨⟩
theorem tw10495269126286330883:True:=⟨⟩
theorem tw17105836842669005859:True:=⟨⟩
theorem tw11855616137584521283:True:=⟨⟩
theorem tw5755106463828292675:True:=⟨⟩
theorem tw12627971893176382563:True:=⟨⟩
theorem tw10402143810105794659:True:=⟨⟩
theorem tw16239219592337570947:True:=⟨⟩
theorem tw11020578778827726147:True:=⟨⟩
theorem tw4026010455515641187:True:=⟨⟩
theorem tw1008065378224207203:True:=⟨⟩
theorem tw3670542107814099299:True:=⟨⟩
theorem tw3544366007111305603:True:=⟨⟩
theorem tw14119143388591718787:True:=⟨⟩
theorem tw10818201540796757411:True:=⟨⟩
theorem tw213252352811450787:True:=⟨⟩
theorem tw7953279075748510147:True:=⟨⟩
theorem tw14069527462065823203:True:=⟨⟩
theorem tw14109030315358283363:True:=⟨⟩
theorem tw11583593421789642403:True:=⟨⟩
theorem tw15388065727796848323:True:=⟨⟩
theorem tw10232686445689977571:True:=⟨⟩
theorem tw11715857665728318243:True:=⟨⟩
theorem tw1457275854528459555:True:=⟨⟩
theorem tw410505904546178851:True:=⟨⟩
theorem tw802922355511444355:True:=⟨⟩
theorem tw12915413722152135555:True:=⟨⟩
theorem tw17364597773886443427:True:=⟨⟩
theorem tw8248864877786228643:True:=⟨⟩
theorem tw4097180702902332355:True:=⟨⟩
theorem tw4611526100510099395:True:=⟨⟩
theorem tw15110072321689286595:True:=⟨⟩
theorem tw1158002793182101443:True:=⟨⟩
theorem tw9336371063311091748:True:=⟨⟩
theorem tw3134629479140522020:True:=⟨⟩
theorem tw14302999891377033284:True:=⟨⟩
theorem tw9998875203493702788:True:=⟨⟩
theorem tw1478180349947653252:True:=⟨⟩
theorem tw13258635174418319588:True:=⟨⟩
theorem tw17222066211625279780:True:=⟨⟩
theorem tw15015342490095315300:True:=⟨⟩
theorem tw9966474491423065444:True:=⟨⟩
theorem tw17321172643614928356:True:=⟨⟩
theorem tw1837410356297001508:True:=⟨⟩
theorem tw11316603357908054660:True:=⟨⟩
theorem tw10148141664799051460:True:=⟨⟩
theorem tw13589588774787493604:True:=⟨⟩
theorem tw7927526063617980132:True:=⟨⟩
theorem tw14311749575513151236:True:=⟨⟩
theorem tw11426718735687213828:True:=⟨⟩
theorem tw1681346261485085444:True:=⟨⟩
theorem tw13206122369762012964:True:=⟨⟩
theorem tw4047986261600763684:True:=⟨⟩
theorem tw15615093848486858596:True:=⟨⟩
theorem tw15272705862305284996:True:=⟨⟩
theorem tw5836230043142493060:True:=⟨⟩
theorem tw8520904985589583780:True:=⟨⟩
theorem tw10530329140076492740:True:=⟨⟩
theorem tw12631528397416456132:True:=⟨⟩
theorem tw2376337031820138501:True:=⟨⟩
theorem tw5085153226921185285:True:=⟨⟩
theorem tw16518168698840006693:True:=⟨⟩
theorem tw14036830703487109157:True:=⟨⟩
theorem tw15238970764747246693:True:=⟨⟩
theorem tw7907918624922364069:True:=⟨⟩
theorem tw14966716613569018085:True:=⟨⟩
theorem tw18426592546950526213:True:=⟨⟩
theorem tw14794318965419969797:True:=⟨⟩
theorem tw7602107105143109925:True:=⟨⟩
theorem tw16227998298631559461:True:=⟨⟩
theorem tw6819247965922160933:True:=⟨⟩
theorem tw10431231613318640965:True:=⟨⟩
theorem tw7996320650255721893:True:=⟨⟩
theorem tw15471994887056907749:True:=⟨⟩
theorem tw17142042356183077381:True:=⟨⟩
theorem tw4526430177161688581:True:=⟨⟩
theorem tw6223598298882271813:True:=⟨⟩
theorem tw2967221556056450693:True:=⟨⟩
theorem tw9313031201297633957:True:=⟨⟩
theorem tw10695109147923465893:True:=⟨⟩
theorem tw1079137200205969093:True:=⟨⟩
theorem tw3626969238160618277:True:=⟨⟩
theorem tw5261799341727158085:True:=⟨⟩
theorem tw11553708893088335717:True:=⟨⟩
theorem tw542455697227931493:True:=⟨⟩
theorem tw6376949087211538309:True:=⟨⟩
theorem tw8469850008603852709:True:=⟨⟩
theorem tw14485763049680792549:True:=⟨⟩
theorem tw10968289445271520486:True:=⟨⟩
theorem tw15158281422262721798:True:=⟨⟩
theorem tw4903124011434417446:True:=⟨⟩
theorem tw17196648970860503398:True:=⟨⟩
theorem tw717335119343254886:True:=⟨⟩
theorem tw10706879169027538310:True:=⟨⟩
theorem tw5478476060072572358:True:=⟨⟩
theorem tw10737153470152747494:True:=⟨⟩
theorem tw17275159866556251686:True:=⟨⟩
theorem tw10288722317167074886:True:=⟨⟩
theorem tw18093687412230616646:True:=⟨⟩
theorem tw18017907846775636582:True:=⟨⟩
theorem tw13049071273594660454:True:=⟨⟩
theorem tw6278998871213454950:True:=⟨⟩
theorem tw2695184371767806662:True:=⟨⟩
theorem tw14574738199487368966:True:=⟨⟩
theorem tw16148886286843227942:True:=⟨⟩
theorem tw10692725394977994534:True:=⟨⟩
theorem tw6202477031026993990:True:=⟨⟩
theorem tw1874863795529728838:True:=⟨⟩
theorem tw1115645102361663302:True:=⟨⟩
theorem tw6253221895825259462:True:=⟨⟩
theorem tw16704860429966092230:True:=⟨⟩
theorem tw1299691141122406374:True:=⟨⟩
theorem tw6432534348757082215:True:=⟨⟩
theorem tw6078381551904673895:True:=⟨⟩
theorem tw5208952693149951143:True:=⟨⟩
theorem tw8005321413136365735:True:=⟨⟩
theorem tw4300864363666139335:True:=⟨⟩
theorem tw8590553661472787687:True:=⟨⟩
theorem tw16864779745165030663:True:=⟨⟩
theorem tw7961696780755347815:True:=⟨⟩
theorem tw9766240563842604423:True:=⟨⟩
theorem tw5763541976163285415:True:=⟨⟩
theorem tw7089389742546608583:True:=⟨⟩
theorem tw3120966138236138951:True:=⟨⟩
theorem tw10082317348847346183:True:=⟨⟩
theorem tw7483397738611495495:True:=⟨⟩
theorem tw15295940071424840359:True:=⟨⟩
theorem tw13042533171748880167:True:=⟨⟩
theorem tw9708999169212456871:True:=⟨⟩
theorem tw6153882648604852135:True:=⟨⟩
theorem tw15855123631425693768:True:=⟨⟩
theorem tw10450278863631661192:True:=⟨⟩
theorem tw587529074972187816:True:=⟨⟩
theorem tw17052918381964703976:True:=⟨⟩
theorem tw15788536798837487880:True:=⟨⟩
theorem tw14298674097534081320:True:=⟨⟩
theorem tw1305456038280860072:True:=⟨⟩
theorem tw8573076035195836904:True:=⟨⟩
theorem tw5946945640713738728:True:=⟨⟩
theorem tw2496960785828979304:True:=⟨⟩
theorem tw16992885720320896616:True:=⟨⟩
theorem tw920644928166752872:True:=⟨⟩
theorem tw5787899143524941448:True:=⟨⟩
theorem tw7513700243876722376:True:=⟨⟩
theorem tw9119221188518522600:True:=⟨⟩
theorem tw14777842466062514952:True:=⟨⟩
theorem tw8030456995063136008:True:=⟨⟩
theorem tw3791440278108218152:True:=⟨⟩
theorem tw4237685884054542184:True:=⟨⟩
theorem tw3530882468275374952:True:=⟨⟩
theorem tw4672905073395077032:True:=⟨⟩
theorem tw18191376197352216585:True:=⟨⟩
theorem tw13733334429070684169:True:=⟨⟩
theorem tw14717099065846932553:True:=⟨⟩
theorem tw10635586196138473545:True:=⟨⟩
theorem tw4553125241457038409:True:=⟨⟩
theorem tw11260268492343702601:True:=⟨⟩
theorem tw17416403543168136297:True:=⟨⟩
theorem tw6083663792174456969:True:=⟨⟩
theorem tw17633157050426737801:True:=⟨⟩
theorem tw1467015047788434601:True:=⟨⟩
theorem tw15882590158484870345:True:=⟨⟩
theorem tw15084966352542285033:True:=⟨⟩
theorem tw103710812317236489:True:=⟨⟩
theorem tw12829046801560109353:True:=⟨⟩
theorem tw1060767512127766825:True:=⟨⟩
theorem tw6741404362668862761:True:=⟨⟩
theorem tw20813706363243881:True:=⟨⟩
theorem tw16111469701179761001:True:=⟨⟩
theorem tw17390133497010160041:True:=⟨⟩
theorem tw11894044273522872745:True:=⟨⟩
theorem tw7620483796118318505:True:=⟨⟩
theorem tw11670228237019115945:True:=⟨⟩
theorem tw18185656550497579433:True:=⟨⟩
theorem tw15153776619231462857:True:=⟨⟩
theorem tw10358217088881575433:True:=⟨⟩
theorem tw11625903693368345161:True:=⟨⟩
theorem tw8250729204114423369:True:=⟨⟩
theorem tw5885682708636980841:True:=⟨⟩
theorem tw84227059929007753:True:=⟨⟩
theorem tw3290312353880340105:True:=⟨⟩
theorem tw5049588106721514153:True:=⟨⟩
theorem tw1575099862819738377:True:=⟨⟩
theorem tw14997051048207265577:True:=⟨⟩
theorem tw3429424394291355561:True:=⟨⟩
theorem tw7001117971143221193:True:=⟨⟩
theorem tw3965632483587437513:True:=⟨⟩
theorem tw11706061968574115817:True:=⟨⟩
theorem tw83752819389168617:True:=⟨⟩
theorem tw15898619093458888714:True:=⟨⟩
theorem tw5225239162937322506:True:=⟨⟩
theorem tw15910755585568893994:True:=⟨⟩
theorem tw4171438044373565514:True:=⟨⟩
theorem tw4597915147111527562:True:=⟨⟩
theorem tw7016741474959605930:True:=⟨⟩
theorem tw8094128595481401578:True:=⟨⟩
theorem tw6898128532337498346:True:=⟨⟩
theorem tw16009854814876856618:True:=⟨⟩
theorem tw2915747123518577066:True:=⟨⟩
theorem tw17264394364020612522:True:=⟨⟩
theorem tw4071485614075484586:True:=⟨⟩
theorem tw7004240065620392394:True:=⟨⟩
theorem tw12654811863735699946:True:=⟨⟩
theorem tw15503684889336394218:True:=⟨⟩
theorem tw5392824304674789866:True:=⟨⟩
theorem tw13672782376347229674:True:=⟨⟩
theorem tw1128350619738375690:True:=⟨⟩
theorem tw11183697495914679850:True:=⟨⟩
theorem tw1016033005622459946:True:=⟨⟩
theorem tw7999443009229677130:True:=⟨⟩
theorem tw10640305204929992298:True:=⟨⟩
theorem tw311567133112011466:True:=⟨⟩
theorem tw15007570619787501258:True:=⟨⟩
theorem tw18164846601730160330:True:=⟨⟩
theorem tw4612426562102568714:True:=⟨⟩
theorem tw6296310259091662602:True:=⟨⟩
theorem tw1845310416328003434:True:=⟨⟩
theorem tw9976343002674874218:True:=⟨⟩
theorem tw15613647761938644842:True:=⟨⟩
theorem tw326627776640179082:True:=⟨⟩
theorem tw17345504269913244618:True:=⟨⟩
theorem tw11023978124364386282:True:=⟨⟩
theorem tw1235863880100975594:True:=⟨⟩
theorem tw15075732452858539019:True:=⟨⟩
theorem tw88185157153668107:True:=⟨⟩
theorem tw7204586537226950667:True:=⟨⟩
theorem tw12746650355323828267:True:=⟨⟩
theorem tw3415329872952994859:True:=⟨⟩
theorem tw17670390262067669099:True:=⟨⟩
theorem tw5224335903019601099:True:=⟨⟩
theorem tw11317007146356184267:True:=⟨⟩
theorem tw10667652321222454507:True:=⟨⟩
theorem tw2311857490074828011:True:=⟨⟩
theorem tw11179973339398933771:True:=⟨⟩
theorem tw16865127295680433451:True:=⟨⟩
theorem tw682056031548179787:True:=⟨⟩
theorem tw4134945661363815787:True:=⟨⟩
theorem tw17781600373726233995:True:=⟨⟩
theorem tw10410408469486839243:True:=⟨⟩
theorem tw16248525482996433355:True:=⟨⟩
theorem tw407826020509202923:True:=⟨⟩
theorem tw9557272110801534443:True:=⟨⟩
theorem tw8867735923125750283:True:=⟨⟩
theorem tw6880553260197363243:True:=⟨⟩
theorem tw7414966189622616619:True:=⟨⟩
theorem tw10051922473574189643:True:=⟨⟩
theorem tw9841039344999487083:True:=⟨⟩
theorem tw7640854693315388043:True:=⟨⟩
theorem tw5285951970371703499:True:=⟨⟩
theorem tw13094317983389868843:True:=⟨⟩
theorem tw7609063466722503563:True:=⟨⟩
theorem tw7882496070190901163:True:=⟨⟩
theorem tw9552460746795853803:True:=⟨⟩
theorem tw14049162494782553067:True:=⟨⟩
theorem tw12391519397423042539:True:=⟨⟩
theorem tw12224988890158708748:True:=⟨⟩
theorem tw12799430401891866668:True:=⟨⟩
theorem tw12143276302478183500:True:=⟨⟩
theorem tw11306020239171957836:True:=⟨⟩
theorem tw12044344058541900908:True:=⟨⟩
theorem tw4307599156179682412:True:=⟨⟩
theorem tw4795526386476801132:True:=⟨⟩
theorem tw6630118275329292428:True:=⟨⟩
theorem tw1502841378748385484:True:=⟨⟩
theorem tw10571884221195278604:True:=⟨⟩
theorem tw13851490442808416524:True:=⟨⟩
theorem tw15536578180000651660:True:=⟨⟩
theorem tw12729017505851795852:True:=⟨⟩
theorem tw3331321867802582444:True:=⟨⟩
theorem tw13847400039224829420:True:=⟨⟩
theorem tw13075173700104824332:True:=⟨⟩
theorem tw3529608785475266060:True:=⟨⟩
theorem tw2768895439668528684:True:=⟨⟩
theorem tw6527086429239900780:True:=⟨⟩
theorem tw13970310752846045836:True:=⟨⟩
theorem tw15490557899144796812:True:=⟨⟩
theorem tw11277550436820883276:True:=⟨⟩
theorem tw9721976662006994764:True:=⟨⟩
theorem tw11270888897266939788:True:=⟨⟩
theorem tw16943016519892415404:True:=⟨⟩
theorem tw16539804032903674796:True:=⟨⟩
theorem tw9591176595843875820:True:=⟨⟩
theorem tw4614140028575634509:True:=⟨⟩
theorem tw12541455573074249837:True:=⟨⟩
theorem tw15040370172114190445:True:=⟨⟩
theorem tw4941944788426586221:True:=⟨⟩
theorem tw9762743234710121613:True:=⟨⟩
theorem tw4604414627784734861:True:=⟨⟩
theorem tw14097786797678706829:True:=⟨⟩
theorem tw12582482262109979853:True:=⟨⟩
theorem tw909590215325976845:True:=⟨⟩
theorem tw13766759467903158701:True:=⟨⟩
theorem tw12976206833933687277:True:=⟨⟩
theorem tw17188919526548132333:True:=⟨⟩
theorem tw17638569401882451469:True:=⟨⟩
theorem tw3783361261391372845:True:=⟨⟩
theorem tw2903070706020716109:True:=⟨⟩
theorem tw2861410211970227789:True:=⟨⟩
theorem tw13685789675140607565:True:=⟨⟩
theorem tw4034486670435631725:True:=⟨⟩
theorem tw6569460072009753325:True:=⟨⟩
theorem tw17120685183748630317:True:=⟨⟩
theorem tw3757627811709661005:True:=⟨⟩
theorem tw3053227715572941645:True:=⟨⟩
theorem tw2993408973194977133:True:=⟨⟩
theorem tw13444272797746140141:True:=⟨⟩
theorem tw10788916773405767661:True:=⟨⟩
theorem tw574590839132437485:True:=⟨⟩
theorem tw6513164319513953326:True:=⟨⟩
theorem tw16052764908124031022:True:=⟨⟩
theorem tw10871573994502375502:True:=⟨⟩
theorem tw8653147285588719694:True:=⟨⟩
theorem tw1992721122583015534:True:=⟨⟩
theorem tw6402567500329130158:True:=⟨⟩
theorem tw9673618439818179822:True:=⟨⟩
theorem tw4003789273032917262:True:=⟨⟩
theorem tw17716095952944165358:True:=⟨⟩
theorem tw9596185300899421710:True:=⟨⟩
theorem tw467386499903560270:True:=⟨⟩
theorem tw13320455414433092270:True:=⟨⟩
theorem tw12967334865738415886:True:=⟨⟩
theorem tw15882676614079387438:True:=⟨⟩
theorem tw6899665046519408430:True:=⟨⟩
theorem tw14876070538362272622:True:=⟨⟩
theorem tw15334579378917288846:True:=⟨⟩
theorem tw1083890518915056590:True:=⟨⟩
theorem tw17666472218846640110:True:=⟨⟩
theorem tw4949457872738050030:True:=⟨⟩
theorem tw7324275594009253903:True:=⟨⟩
theorem tw3430162526799318031:True:=⟨⟩
theorem tw8595316142064797743:True:=⟨⟩
theorem tw7189820560767882287:True:=⟨⟩
theorem tw5104269500011132975:True:=⟨⟩
theorem tw10977969547627682927:True:=⟨⟩
theorem tw17008378639366544527:True:=⟨⟩
theorem tw14439496222047393935:True:=⟨⟩
theorem tw2345889035392170191:True:=⟨⟩
theorem tw1076070160673736943:True:=⟨⟩
theorem tw1810732902474050831:True:=⟨⟩
theorem tw12606777673630312751:True:=⟨⟩
theorem tw1512235631340591471:True:=⟨⟩
theorem tw10055977444269955439:True:=⟨⟩
theorem tw5812555799905766799:True:=⟨⟩
theorem tw8665742304003644879:True:=⟨⟩
theorem tw8564818859762498031:True:=⟨⟩
theorem tw9471019447586927119:True:=⟨⟩
theorem tw16637586423243161103:True:=⟨⟩
theorem tw13368727663030449711:True:=⟨⟩
theorem tw7645882385900164655:True:=⟨⟩
theorem tw17607923658156355151:True:=⟨⟩
theorem tw6118846929753883311:True:=⟨⟩
theorem tw9906922188113447631:True:=⟨⟩
theorem tw14145003036080709359:True:=⟨⟩
theorem tw9485187301066752783:True:=⟨⟩
theorem tw4340148347287024399:True:=⟨⟩
theorem tw17153516392965223215:True:=⟨⟩
theorem tw521105116272544623:True:=⟨⟩
theorem tw10157989310241458063:True:=⟨⟩
theorem tw14956602339488692111:True:=⟨⟩
theorem tw16853639620763563056:True:=⟨⟩
theorem tw17751388664661554288:True:=⟨⟩
theorem tw17874234371867543696:True:=⟨⟩
theorem tw15375539130797610128:True:=⟨⟩
theorem tw5388301959744048304:True:=⟨⟩
theorem tw3234970769064638736:True:=⟨⟩
theorem tw754845840361356592:True:=⟨⟩
theorem tw9267125974799328720:True:=⟨⟩
theorem tw16724331786356111824:True:=⟨⟩
theorem tw12970739433110087248:True:=⟨⟩
theorem tw8444368315249404560:True:=⟨⟩
theorem tw11364800973618025104:True:=⟨⟩
theorem tw9713410609290531536:True:=⟨⟩
theorem tw16898449543629067984:True:=⟨⟩
theorem tw7024276271163436816:True:=⟨⟩
theorem tw9114699307413023504:True:=⟨⟩
theorem tw14385659295665399696:True:=⟨⟩
theorem tw13580175487486218224:True:=⟨⟩
theorem tw3034513066918244401:True:=⟨⟩
theorem tw17289330095946552433:True:=⟨⟩
theorem tw2704277368512541809:True:=⟨⟩
theorem tw4068913645926068401:True:=⟨⟩
theorem tw10329896475303261425:True:=⟨⟩
theorem tw5711052775375908177:True:=⟨⟩
theorem tw8956366083491275121:True:=⟨⟩
theorem tw12485365139886603633:True:=⟨⟩
theorem tw10973989826466853265:True:=⟨⟩
theorem tw16061363515744521681:True:=⟨⟩
theorem tw4580688361813436913:True:=⟨⟩
theorem tw3662257587621320177:True:=⟨⟩
theorem tw1961961406104144401:True:=⟨⟩
theorem tw15404644322781814289:True:=⟨⟩
theorem tw17547007421565964849:True:=⟨⟩
theorem tw13487400049169148529:True:=⟨⟩
theorem tw311966968075752049:True:=⟨⟩
theorem tw15206878432956319441:True:=⟨⟩
theorem tw8023318643425719025:True:=⟨⟩
theorem tw10883767746220435217:True:=⟨⟩
theorem tw10053738431995574033:True:=⟨⟩
theorem tw10975293845540033425:True:=⟨⟩
theorem tw17134012963737732081:True:=⟨⟩
theorem tw7484260682271203313:True:=⟨⟩
theorem tw12668623922873088082:True:=⟨⟩
theorem tw17966064178423342290:True:=⟨⟩
theorem tw9125328871654215922:True:=⟨⟩
theorem tw2074380895501015282:True:=⟨⟩
theorem tw14332646640746229010:True:=⟨⟩
theorem tw3796367199256722706:True:=⟨⟩
theorem tw11283074429107372338:True:=⟨⟩
theorem tw6275557736619730226:True:=⟨⟩
theorem tw8925249502546664818:True:=⟨⟩
theorem tw4966540596934367634:True:=⟨⟩
theorem tw5135442307944737234:True:=⟨⟩
theorem tw14445619284466967026:True:=⟨⟩
theorem tw4159407159787809330:True:=⟨⟩
theorem tw5743093821800839730:True:=⟨⟩
theorem tw6568353710939107058:True:=⟨⟩
theorem tw18064181491548006162:True:=⟨⟩
theorem tw4136926518086598418:True:=⟨⟩
theorem tw9754589022288576274:True:=⟨⟩
theorem tw11282160705300256562:True:=⟨⟩
theorem tw14290148089053394770:True:=⟨⟩
theorem tw1823570228487856978:True:=⟨⟩
theorem tw9753196999659849618:True:=⟨⟩
theorem tw3513455684403065746:True:=⟨⟩
theorem tw92924692111590354:True:=⟨⟩
theorem tw18333327944031981522:True:=⟨⟩
theorem tw7778353884740579282:True:=⟨⟩
theorem tw2079516692496407667:True:=⟨⟩
theorem tw4049841798012166259:True:=⟨⟩
theorem tw7499211646339021971:True:=⟨⟩
theorem tw4579815268842897779:True:=⟨⟩
theorem tw14271676325581622643:True:=⟨⟩
theorem tw3139986313012458867:True:=⟨⟩
theorem tw10961686067147053459:True:=⟨⟩
theorem tw6774828105127627283:True:=⟨⟩
theorem tw7085586842467287603:True:=⟨⟩
theorem tw15813313072974548531:True:=⟨⟩
theorem tw6003319576378302035:True:=⟨⟩
theorem tw13587040429821707859:True:=⟨⟩
theorem tw14422858806012361363:True:=⟨⟩
theorem tw7517530902078938899:True:=⟨⟩
theorem tw5091591729494036243:True:=⟨⟩
theorem tw8399569300389460819:True:=⟨⟩
theorem tw10960224811019803507:True:=⟨⟩
theorem tw8456210749361831795:True:=⟨⟩
theorem tw3416456701008813076:True:=⟨⟩
theorem tw577294448270682132:True:=⟨⟩
theorem tw6751754933541808148:True:=⟨⟩
theorem tw7777878618228734996:True:=⟨⟩
theorem tw15160540031403000948:True:=⟨⟩
theorem tw1952699803297281140:True:=⟨⟩
theorem tw8796304242261451924:True:=⟨⟩
theorem tw17472063159724263572:True:=⟨⟩
theorem tw14915069881815849140:True:=⟨⟩
theorem tw9303432370676753588:True:=⟨⟩
theorem tw1607880294156687572:True:=⟨⟩
theorem tw13251534686285639924:True:=⟨⟩
theorem tw9290788484501587188:True:=⟨⟩
theorem tw6291440883327790324:True:=⟨⟩
theorem tw15489231298299784436:True:=⟨⟩
theorem tw6352921110090083604:True:=⟨⟩
theorem tw11586940751857658132:True:=⟨⟩
theorem tw16356626904749990196:True:=⟨⟩
theorem tw8710207213952407924:True:=⟨⟩
theorem tw8099301368172536180:True:=⟨⟩
theorem tw16682851089406340500:True:=⟨⟩
theorem tw9931878124303483316:True:=⟨⟩
theorem tw4325122672737056244:True:=⟨⟩
theorem tw15865545717785984500:True:=⟨⟩
theorem tw10688973781440355860:True:=⟨⟩
theorem tw13956400398350855732:True:=⟨⟩
theorem tw683406284951375412:True:=⟨⟩
theorem tw15918733598526789204:True:=⟨⟩
theorem tw14677976120232658516:True:=⟨⟩
theorem tw3846755991292546708:True:=⟨⟩
theorem tw15327907407379433108:True:=⟨⟩
theorem tw6139361489071790740:True:=⟨⟩
theorem tw9078839752186833588:True:=⟨⟩
theorem tw13742725628539349748:True:=⟨⟩
theorem tw5697070739607127796:True:=⟨⟩
theorem tw5272348073139020564:True:=⟨⟩
theorem tw16594281819683957556:True:=⟨⟩
theorem tw8699617178197709620:True:=⟨⟩
theorem tw4939411829675514708:True:=⟨⟩
theorem tw3625055564430808980:True:=⟨⟩
theorem tw12754336986553328532:True:=⟨⟩
theorem tw1096365766980285332:True:=⟨⟩
theorem tw4747131240392937364:True:=⟨⟩
theorem tw18113354748113224660:True:=⟨⟩
theorem tw8144906184247644116:True:=⟨⟩
theorem tw3382781488689863636:True:=⟨⟩
theorem tw6897224284649189332:True:=⟨⟩
theorem tw18414058412144056308:True:=⟨⟩
theorem tw8667252975861964821:True:=⟨⟩
theorem tw853183462529184821:True:=⟨⟩
theorem tw1658614487626734677:True:=⟨⟩
theorem tw11914445546665443413:True:=⟨⟩
theorem tw1210241105912125525:True:=⟨⟩
theorem tw14855778893341409429:True:=⟨⟩
theorem tw6948641270446424245:True:=⟨⟩
theorem tw17733954682997047477:True:=⟨⟩
theorem tw16203062692127900853:True:=⟨⟩
theorem tw14246505276003066037:True:=⟨⟩
theorem tw13616474041597033653:True:=⟨⟩
theorem tw11112786759609117909:True:=⟨⟩
theorem tw14393084267683267829:True:=⟨⟩
theorem tw9750518756128597301:True:=⟨⟩
theorem tw10649491981835470197:True:=⟨⟩
theorem tw5163949046165775797:True:=⟨⟩
theorem tw11557818605189911989:True:=⟨⟩
theorem tw8398134033479871989:True:=⟨⟩
theorem tw9528688185602662901:True:=⟨⟩
theorem tw2602269547936734741:True:=⟨⟩
theorem tw376789838806990357:True:=⟨⟩
theorem tw6957473632284322389:True:=⟨⟩
theorem tw14400232820265442965:True:=⟨⟩
theorem tw14992308969133518517:True:=⟨⟩
theorem tw4637995687496210101:True:=⟨⟩
theorem tw8990958800073161429:True:=⟨⟩
theorem tw7776128071841076949:True:=⟨⟩
theorem tw1712936162111720277:True:=⟨⟩
theorem tw4567037018815829845:True:=⟨⟩
theorem tw9678125774580023221:True:=⟨⟩
theorem tw17202600065294435317:True:=⟨⟩
theorem tw9784268979772817430:True:=⟨⟩
theorem tw7065895041831013398:True:=⟨⟩
theorem tw16447322611842494550:True:=⟨⟩
theorem tw11789408079460788502:True:=⟨⟩
theorem tw6698095293267579190:True:=⟨⟩
theorem tw16095027910096575830:True:=⟨⟩
theorem tw18121645088097924502:True:=⟨⟩
theorem tw14395059970376727958:True:=⟨⟩
theorem tw13069171461933661622:True:=⟨⟩
theorem tw4247827788357050806:True:=⟨⟩
theorem tw3429651733843965430:True:=⟨⟩
theorem tw546532139987442198:True:=⟨⟩
theorem tw8952986491624609334:True:=⟨⟩
theorem tw5315251874025644662:True:=⟨⟩
theorem tw3256070849333932662:True:=⟨⟩
theorem tw8748098851967755926:True:=⟨⟩
theorem tw14577906046642245302:True:=⟨⟩
theorem tw11332901804967990998:True:=⟨⟩
theorem tw1555848904386853622:True:=⟨⟩
theorem tw3237323696462120726:True:=⟨⟩
theorem tw2680130135968101174:True:=⟨⟩
theorem tw13726318730336692054:True:=⟨⟩
theorem tw8601024225837406070:True:=⟨⟩
theorem tw17419647893688211318:True:=⟨⟩
theorem tw13707611018593623958:True:=⟨⟩
theorem tw9429098599688512406:True:=⟨⟩
theorem tw2938602971674275734:True:=⟨⟩
theorem tw15925662113909977014:True:=⟨⟩
theorem tw3843855391180347350:True:=⟨⟩
theorem tw8507142067628727254:True:=⟨⟩
theorem tw223220448005457910:True:=⟨⟩
theorem tw18252925000010480630:True:=⟨⟩
theorem tw1475141177702651927:True:=⟨⟩
theorem tw7383925923648839831:True:=⟨⟩
theorem tw18417944674194897111:True:=⟨⟩
theorem tw3403434690347189463:True:=⟨⟩
theorem tw17215236816078553367:True:=⟨⟩
theorem tw2227543764992045367:True:=⟨⟩
theorem tw6264932384828868983:True:=⟨⟩
theorem tw16834457515024658839:True:=⟨⟩
theorem tw861889164182554039:True:=⟨⟩
theorem tw14266999731530681783:True:=⟨⟩
theorem tw3693174620734682551:True:=⟨⟩
theorem tw16491974071331428855:True:=⟨⟩
theorem tw3534048512546747895:True:=⟨⟩
theorem tw5743349870812261879:True:=⟨⟩
theorem tw4543938892144838199:True:=⟨⟩
theorem tw12889614747103528535:True:=⟨⟩
theorem tw11097521751306421879:True:=⟨⟩
theorem tw8953523710768982679:True:=⟨⟩
theorem tw16825831759274362519:True:=⟨⟩
theorem tw5340801758494522039:True:=⟨⟩
theorem tw15575151184421316343:True:=⟨⟩
theorem tw12445486440112087799:True:=⟨⟩
theorem tw4101820182059225879:True:=⟨⟩
theorem tw16599519309379923799:True:=⟨⟩
theorem tw17866623354608806775:True:=⟨⟩
theorem tw16667705390627283863:True:=⟨⟩
theorem tw3405373165283137463:True:=⟨⟩
theorem tw18439178929371035607:True:=⟨⟩
theorem tw12115670361324128312:True:=⟨⟩
theorem tw9595632522270618808:True:=⟨⟩
theorem tw13520041848084339928:True:=⟨⟩
theorem tw12701325127721477368:True:=⟨⟩
theorem tw16584078355721810232:True:=⟨⟩
theorem tw10937969741012091192:True:=⟨⟩
theorem tw5623384559318113624:True:=⟨⟩
theorem tw13911804702697456024:True:=⟨⟩
theorem tw7608887513797698040:True:=⟨⟩
theorem tw1511049381950085624:True:=⟨⟩
theorem tw13167858364992773656:True:=⟨⟩
theorem tw18108159308782132760:True:=⟨⟩
theorem tw18208459997483241048:True:=⟨⟩
theorem tw10129147977971666552:True:=⟨⟩
theorem tw13856734102009296504:True:=⟨⟩
theorem tw3285585531347363448:True:=⟨⟩
theorem tw1859557360653460120:True:=⟨⟩
theorem tw9336902685644345016:True:=⟨⟩
theorem tw5836402274674862840:True:=⟨⟩
theorem tw3762413201243384600:True:=⟨⟩
theorem tw13391565741469978392:True:=⟨⟩
theorem tw13214056282939717464:True:=⟨⟩
theorem tw7883004448741477304:True:=⟨⟩
theorem tw15849624796551599032:True:=⟨⟩
theorem tw9203484527727799224:True:=⟨⟩
theorem tw10279456121289708504:True:=⟨⟩
theorem tw4390172488757657625:True:=⟨⟩
theorem tw15081290732587882521:True:=⟨⟩
theorem tw13647243155757774905:True:=⟨⟩
theorem tw3415625936170225849:True:=⟨⟩
theorem tw4435797649516153113:True:=⟨⟩
theorem tw2318060747263570233:True:=⟨⟩
theorem tw13559454433775121721:True:=⟨⟩
theorem tw626299975810079065:True:=⟨⟩
theorem tw9346775201364308345:True:=⟨⟩
theorem tw4561932655573567897:True:=⟨⟩
theorem tw3090168352291300761:True:=⟨⟩
theorem tw10751754636735273369:True:=⟨⟩
theorem tw4053893617809317273:True:=⟨⟩
theorem tw4330496240047946233:True:=⟨⟩
theorem tw16775843598820658777:True:=⟨⟩
theorem tw16909625842288892537:True:=⟨⟩
theorem tw2334511965703209625:True:=⟨⟩
theorem tw18096415131481448089:True:=⟨⟩
theorem tw11555773363452358297:True:=⟨⟩
theorem tw2826565623035272889:True:=⟨⟩
theorem tw13011497573087810265:True:=⟨⟩
theorem tw15566026658232472281:True:=⟨⟩
theorem tw5349006868291448537:True:=⟨⟩
theorem tw12119062079775827705:True:=⟨⟩
theorem tw6099634203933381369:True:=⟨⟩
theorem tw14736899412410572569:True:=⟨⟩
theorem tw12852262627660245881:True:=⟨⟩
theorem tw12522870541739352985:True:=⟨⟩
theorem tw8451926246549400569:True:=⟨⟩
theorem tw6203708998350221305:True:=⟨⟩
theorem tw2408505680477616121:True:=⟨⟩
theorem tw15858443149988035577:True:=⟨⟩
theorem tw16199581271917092890:True:=⟨⟩
theorem tw3896535561965661242:True:=⟨⟩
theorem tw130769593600541818:True:=⟨⟩
theorem tw9766920727801812090:True:=⟨⟩
theorem tw1282414178033966266:True:=⟨⟩
theorem tw14357383854771120314:True:=⟨⟩
theorem tw1215865251082170586:True:=⟨⟩
theorem tw9123598801003185402:True:=⟨⟩
theorem tw18275310399995367706:True:=⟨⟩
theorem tw1474422395044777274:True:=⟨⟩
theorem tw2452203439421756826:True:=⟨⟩
theorem tw8041398924237035930:True:=⟨⟩
theorem tw16988387531691707866:True:=⟨⟩
theorem tw8023845152512925146:True:=⟨⟩
theorem tw8195552158843682298:True:=⟨⟩
theorem tw943156512261372474:True:=⟨⟩
theorem tw2744560507332375162:True:=⟨⟩
theorem tw2675332492614760090:True:=⟨⟩
theorem tw8820554060934740634:True:=⟨⟩
theorem tw957371355601823418:True:=⟨⟩
theorem tw8723087589183550138:True:=⟨⟩
theorem tw9679340332947430138:True:=⟨⟩
theorem tw15096291377359355674:True:=⟨⟩
theorem tw13511065942575832954:True:=⟨⟩
theorem tw11508893150371355578:True:=⟨⟩
theorem tw14343555660342452154:True:=⟨⟩
theorem tw7477237420225217498:True:=⟨⟩
theorem tw4704570206947183610:True:=⟨⟩
theorem tw6800654364325498874:True:=⟨⟩
theorem tw26956902117204986:True:=⟨⟩
theorem tw12774785804724492315:True:=⟨⟩
theorem tw4045222844308290651:True:=⟨⟩
theorem tw17402799525293669467:True:=⟨⟩
theorem tw9640076791372408923:True:=⟨⟩
theorem tw11355261303176559771:True:=⟨⟩
theorem tw13771597763497564347:True:=⟨⟩
theorem tw7858605554246300859:True:=⟨⟩
theorem tw2914432163962701051:True:=⟨⟩
theorem tw4387491342108757307:True:=⟨⟩
theorem tw18238293828540188987:True:=⟨⟩
theorem tw16220396251512512859:True:=⟨⟩
theorem tw6613011367343736155:True:=⟨⟩
theorem tw651519651382252891:True:=⟨⟩
theorem tw14540670590806436315:True:=⟨⟩
theorem tw5717399491573727707:True:=⟨⟩
theorem tw17783782937080800795:True:=⟨⟩
theorem tw9385503018740233819:True:=⟨⟩
theorem tw17745835746914019003:True:=⟨⟩
theorem tw9888166892834564795:True:=⟨⟩
theorem tw4014466175510209211:True:=⟨⟩
theorem tw13366226091744329435:True:=⟨⟩
theorem tw7725470773267168987:True:=⟨⟩
theorem tw4440869871305735931:True:=⟨⟩
theorem tw13020153556476790523:True:=⟨⟩
theorem tw1455261862638030587:True:=⟨⟩
theorem tw15855472883075473179:True:=⟨⟩
theorem tw10199673404633137083:True:=⟨⟩
theorem tw10462575433383804891:True:=⟨⟩
theorem tw16730326626469809115:True:=⟨⟩
theorem tw6514900827572216795:True:=⟨⟩
theorem tw9434976170263103516:True:=⟨⟩
theorem tw11148324281953112156:True:=⟨⟩
theorem tw12271051600112433276:True:=⟨⟩
theorem tw11095458340576694428:True:=⟨⟩
theorem tw9169061983783265436:True:=⟨⟩
theorem tw15678543892197864636:True:=⟨⟩
theorem tw441412817805670588:True:=⟨⟩
theorem tw6299019739895533788:True:=⟨⟩
theorem tw16468309398166494428:True:=⟨⟩
theorem tw7636773235539514620:True:=⟨⟩
theorem tw337826577180603676:True:=⟨⟩
theorem tw5409948199795427708:True:=⟨⟩
theorem tw148304321003323836:True:=⟨⟩
theorem tw17322281447015714236:True:=⟨⟩
theorem tw13651357832171148764:True:=⟨⟩
theorem tw7689997410539873788:True:=⟨⟩
theorem tw10107493888718761468:True:=⟨⟩
theorem tw5064620572311764508:True:=⟨⟩
theorem tw16758926380056940124:True:=⟨⟩
theorem tw5255209985716575868:True:=⟨⟩
theorem tw11232646330412232316:True:=⟨⟩
theorem tw2900009971224149660:True:=⟨⟩
theorem tw3027604951792785084:True:=⟨⟩
theorem tw5059456266278782748:True:=⟨⟩
theorem tw17341348672235507516:True:=⟨⟩
theorem tw3722416174728868732:True:=⟨⟩
theorem tw8503328321802967964:True:=⟨⟩
theorem tw11787438065268043772:True:=⟨⟩
theorem tw6030182812706630685:True:=⟨⟩
theorem tw17024867612641394717:True:=⟨⟩
theorem tw13480964629755824189:True:=⟨⟩
theorem tw6739906828629901437:True:=⟨⟩
theorem tw9894953622859176125:True:=⟨⟩
theorem tw12912995154334626109:True:=⟨⟩
theorem tw13495738710003789149:True:=⟨⟩
theorem tw807108515034707357:True:=⟨⟩
theorem tw5768225921518667197:True:=⟨⟩
theorem tw2446586553108613629:True:=⟨⟩
theorem tw2993242226699545085:True:=⟨⟩
theorem tw12880791667137092125:True:=⟨⟩
theorem tw842271591117114973:True:=⟨⟩
theorem tw6897961901093129853:True:=⟨⟩
theorem tw8001784881714606749:True:=⟨⟩
theorem tw4922224444680567453:True:=⟨⟩
theorem tw3562975076690857661:True:=⟨⟩
theorem tw1068724167490337469:True:=⟨⟩
theorem tw1771460073398032093:True:=⟨⟩
theorem tw7906843644925574909:True:=⟨⟩
theorem tw10729844251878633245:True:=⟨⟩
theorem tw15464000172404448125:True:=⟨⟩
theorem tw5487119634213611389:True:=⟨⟩
theorem tw6462387598225865629:True:=⟨⟩
theorem tw4477570327325805501:True:=⟨⟩
theorem tw12278973055178015709:True:=⟨⟩
theorem tw5632478419760788477:True:=⟨⟩
theorem tw12439814042603677693:True:=⟨⟩
theorem tw3949379520218532926:True:=⟨⟩
theorem tw7032332802328924222:True:=⟨⟩
theorem tw11244782514363626622:True:=⟨⟩
theorem tw7068449258426467486:True:=⟨⟩
theorem tw897973086730809534:True:=⟨⟩
theorem tw5161642793143008478:True:=⟨⟩
theorem tw958910108958823678:True:=⟨⟩
theorem tw8659797850171682142:True:=⟨⟩
theorem tw9865939810089596254:True:=⟨⟩
theorem tw12424944169725553022:True:=⟨⟩
theorem tw6898992895236458942:True:=⟨⟩
theorem tw12910053544529555902:True:=⟨⟩
theorem tw17898388334298060318:True:=⟨⟩
theorem tw9794185004696117854:True:=⟨⟩
theorem tw10151514365916366430:True:=⟨⟩
theorem tw10553147189018084990:True:=⟨⟩
theorem tw14221352165653186334:True:=⟨⟩
theorem tw6433330131109693214:True:=⟨⟩
theorem tw12421491910755023646:True:=⟨⟩
theorem tw6135197548401553246:True:=⟨⟩
theorem tw8310038772451005278:True:=⟨⟩
theorem tw8589744947825774462:True:=⟨⟩
theorem tw6133293324124241790:True:=⟨⟩
theorem tw2316495144918719390:True:=⟨⟩
theorem tw5284886165132504990:True:=⟨⟩
theorem tw17984901666462966718:True:=⟨⟩
theorem tw14373850550934408158:True:=⟨⟩
theorem tw17558729940064309214:True:=⟨⟩
theorem tw11030288559722273758:True:=⟨⟩
theorem tw11928631565272902654:True:=⟨⟩
theorem tw15138884105643137119:True:=⟨⟩
theorem tw17602930791099713663:True:=⟨⟩
theorem tw13885759117886127295:True:=⟨⟩
theorem tw15022090084045861087:True:=⟨⟩
theorem tw13172079456907163967:True:=⟨⟩
theorem tw13369867858796259743:True:=⟨⟩
theorem tw9648346805185094111:True:=⟨⟩
theorem tw14493711426049186303:True:=⟨⟩
theorem tw15974730027774191103:True:=⟨⟩
theorem tw621027193551932959:True:=⟨⟩
theorem tw4821553240090426975:True:=⟨⟩
theorem tw17372029893231977087:True:=⟨⟩
theorem tw11191467943250995871:True:=⟨⟩
theorem tw14651570524379308735:True:=⟨⟩
theorem tw17046834180921470655:True:=⟨⟩
theorem tw9280167268478107327:True:=⟨⟩
theorem tw10040179415603453663:True:=⟨⟩
theorem tw6033275352539924255:True:=⟨⟩
theorem tw16020101282155701055:True:=⟨⟩
theorem tw13421362643569662783:True:=⟨⟩
theorem tw13671021715801050975:True:=⟨⟩
theorem tw9674146710328415103:True:=⟨⟩
theorem tw1835898929873680255:True:=⟨⟩
theorem tw1382683312970921919:True:=⟨⟩
theorem tw3548589217543923679:True:=⟨⟩
theorem tw12681686193716129759:True:=⟨⟩
theorem tw15439670106258575359:True:=⟨⟩
end PySem.W.Fast
set_option Elab.async false
set_option linter.all false
set_option maxRecDepth 100000
/-! THE HAND LAYER, for ints, bools, texts, own classes, LISTS and tuples (index, slices, in, append, pop ..), calls, loops. Paste it whole ahead of your own text; what your proof does not reach may be deleted. -/
namespace L2
open PySem PySem.Spec PyProof.Rows

abbrev Key := Sum Int Str
def keyIs : Key → Value → Bool
  | .inl k, v => Value.isInt k v
  | .inr x, v => Value.isStrOf x v
def keyH (w : World) : Key → Int
  | .inl k => hashInt k
  | .inr x => hashStr w x
theorem keyIs_shape : ∀ {k : Key} {v : Value}, keyIs k v = true → (∃ i t, k = Sum.inl i ∧ v = Value.int i t) ∨ (∃ x t, k = Sum.inr x ∧ v = Value.str x t)
  | .inl i, v, h => by
    obtain ⟨t, e⟩ := Value.isInt_shape (k := i) (v := v) h
    exact .inl ⟨i, t, rfl, e⟩
  | .inr x, v, h => by
    obtain ⟨t, e⟩ := Value.isStrOf_shape (x := x) (v := v) h
    exact .inr ⟨x, t, rfl, e⟩
theorem key_ll (a b : Int) : decide ((Sum.inl a : Key) = Sum.inl b) = (a == b) := by
  by_cases e : a = b
  · subst e; simp
  · have h : ¬ (Sum.inl a : Key) = Sum.inl b := fun q => e (Sum.inl.inj q)
    rw [decide_eq_false h]
    exact (beq_eq_false_iff_ne.mpr e).symm
theorem key_rr (a b : Str) : decide ((Sum.inr a : Key) = Sum.inr b) = decide (a = b) := by
  by_cases e : a = b
  · subst e; simp
  · have h : ¬ (Sum.inr a : Key) = Sum.inr b := fun q => e (Sum.inr.inj q)
    rw [decide_eq_false h, decide_eq_false e]
theorem key_lr (a : Int) (b : Str) : decide ((Sum.inl a : Key) = Sum.inr b) = false := decide_eq_false (fun q => nomatch q)
theorem key_rl (a : Str) (b : Int) : decide ((Sum.inr a : Key) = Sum.inl b) = false := decide_eq_false (fun q => nomatch q)

def mixKind (prog : Program) (w : World) : PySem.KeyKind prog w Key where
  is := keyIs
  hash := keyH w
  inj := fun v a b ha hb => by
    rcases keyIs_shape ha with ⟨i, t, rfl, rfl⟩ | ⟨x, t, rfl, rfl⟩
    · rcases keyIs_shape hb with ⟨j, u, rfl, e⟩ | ⟨y, u, rfl, e⟩
      · injection e with e1 _; rw [e1]
      · exact nomatch e
    · rcases keyIs_shape hb with ⟨j, u, rfl, e⟩ | ⟨y, u, rfl, e⟩
      · exact nomatch e
      · injection e with e1 _; rw [e1]
  byValue := fun k v h => by
    rcases keyIs_shape h with ⟨i, t, rfl, rfl⟩ | ⟨x, t, rfl, rfl⟩ <;> rfl
  pyHash := fun hv h => by
    rcases keyIs_shape hv with ⟨i, t, rfl, rfl⟩ | ⟨x, t, rfl, rfl⟩
    · exact wpAny_pyHash_int h
    · exact wpAny_pyHash_str h
  eqBool := fun hu hv h => by
    rcases keyIs_shape hu with ⟨i, t, rfl, rfl⟩ | ⟨x, t, rfl, rfl⟩
    · rcases keyIs_shape hv with ⟨j, u, rfl, rfl⟩ | ⟨y, u, rfl, rfl⟩
      · rw [key_ll] at h; exact wpAny_eqBool_int h
      · rw [key_lr] at h; exact SeqAt.EqAt.int_str i t y u _ _ _ _ h
    · rcases keyIs_shape hv with ⟨j, u, rfl, rfl⟩ | ⟨y, u, rfl, rfl⟩
      · rw [key_rl] at h; exact SeqAt.EqAt.str_int x t j u _ _ _ _ h
      · rw [key_rr] at h; exact wpAny_eqBool_str h
  «strs» := fun k x t v h => by
    rcases keyIs_shape h with ⟨i, u, rfl, e⟩ | ⟨y, u, rfl, e⟩
    · exact nomatch e
    · injection e with e1 _
      subst e1
      cases v <;> rfl

end L2

namespace L2
open PySem PySem.Spec PyProof.Rows

inductive V where
  | non | bl (b : Bool) | int (i : Int) | str (x : Str) | byt (b : Array UInt8) | flt (b : UInt64) | ref (a : Addr) | ty (n : String)
  deriving DecidableEq

def RelV : V → Value → Prop
  | .non, u => u = Value.none
  | .bl b, u => u = Value.bool b
  | .int i, u => ∃ t, u = Value.int i t
  | .str x, u => ∃ t, u = Value.str x t
  | .byt b, u => ∃ t, u = Value.bytes b t
  | .flt b, u => ∃ t, u = Value.float b t
  | .ref a, u => u = Value.ref a
  | .ty n, u => u = Value.type n

abbrev Vals : List V → List Value → Prop := Paired RelV
theorem Vals.length {xs : List V} {us : List Value} (r : Vals xs us) : xs.length = us.length := Paired.length r
theorem Vals.get : ∀ {xs : List V} {us : List Value} {i : Nat} {x : V}, Vals xs us → xs[i]? = some x → ∃ u, us[i]? = some u ∧ RelV x u
  | _, _, _, _, .nil, e => by simp at e
  | _, _, 0, _, .cons r _, e => by simp at e; subst e; exact ⟨_, rfl, r⟩
  | _, _, i + 1, x, .cons _ t, e => by
    obtain ⟨u, h1, h2⟩ := Vals.get (i := i) (x := x) t (by simpa using e)
    exact ⟨u, by simpa using h1, h2⟩
theorem Vals.set {x : V} {u : Value} (r : RelV x u) : ∀ {xs : List V} {us : List Value} (i : Nat), Vals xs us → Vals (xs.set i x) (us.set i u)
  | _, _, _, .nil => .nil
  | _, _, 0, .cons _ t => .cons r t
  | _, _, i + 1, .cons q t => .cons q (Vals.set r i t)
theorem Vals.append : ∀ {xs ys : List V} {us ws : List Value}, Vals xs us → Vals ys ws → Vals (xs ++ ys) (us ++ ws)
  | _, _, _, _, .nil, s => s
  | _, _, _, _, .cons r t, s => .cons r (Vals.append t s)
theorem Vals.take : ∀ {xs : List V} {us : List Value} (n : Nat), Vals xs us → Vals (xs.take n) (us.take n)
  | _, _, 0, _ => .nil
  | _, _, _ + 1, .nil => .nil
  | _, _, n + 1, .cons r t => .cons r (Vals.take n t)
theorem Vals.drop : ∀ {xs : List V} {us : List Value} (n : Nat), Vals xs us → Vals (xs.drop n) (us.drop n)
  | _, _, 0, r => r
  | _, _, _ + 1, .nil => .nil
  | _, _, n + 1, .cons _ t => Vals.drop n t
theorem Vals.none_of : ∀ {xs : List V} {us : List Value} {i : Nat}, Vals xs us → xs[i]? = none → us[i]? = none := fun {xs us i} r e => by
  have h1 := r.length
  have h2 : xs.length ≤ i := List.getElem?_eq_none_iff.mp e
  exact List.getElem?_eq_none_iff.mpr (by omega)

def RelO : Option V → Option Value → Prop
  | some v, some u => RelV v u
  | none, none => True
  | _, _ => False
def KV {κ : Type} : List (κ × V) → List (κ × Value) → Prop := Paired fun (p : κ × V) (q : κ × Value) => p.1 = q.1 ∧ RelV p.2 q.2

def kV : Key → V
  | .inl i => .int i
  | .inr x => .str x

inductive HO where
  | lst (xs : List V)
  | tup (xs : List V)
  | dK (kvs : List (Key × V)) | dT (kvs : List (List Key × V))
  | set (S : Int → Bool) (n : Nat)
  | ins (C dx : Addr) (fs : List (Str × V))
  | own (x : Addr)
  | xd (fs : List (Str × V))
  | met (f x : Addr)
  | rng (lo hi : Int)
  | frz (o : Obj) (u : HO)
  | tbl (ps : Array Value)
  | exc (C : Addr) (dx : Option Addr) (fs : List (Str × V))
  | ext (φ : Heap → Prop)

abbrev Hp := Addr → Option HO
def upd (H : Hp) (a : Addr) (o : HO) : Hp := fun b => if b = a then some o else H b
theorem upd_same {H : Hp} {a : Addr} {o : HO} : upd H a o a = some o := by unfold upd; rw [if_pos rfl]
theorem upd_ne {H : Hp} {a b : Addr} {o : HO} (h : b ≠ a) : upd H a o b = H b := by unfold upd; rw [if_neg h]
theorem ne_of {H : Hp} {a b : Addr} {o u : HO} (h : H a = some o) (h' : H b = some u) (d : o ≠ u) : a ≠ b := by
  intro e; subst e; rw [h] at h'; exact d (Option.some.inj h')
theorem ne_of_none {H : Hp} {a b : Addr} {o : HO} (h : H a = some o) (h' : H b = none) : a ≠ b := by
  intro e; subst e; rw [h] at h'; cases h'

def NsO (h : Heap) (dx : Option Addr) (mA : Str → Option Value) : Prop := match dx with
  | some d => h.Ns1 d mA
  | none => ∀ n, mA n = none
section
variable (P : Program) (w : World)
def ObjOk (H : Hp) (h : Heap) (a : Addr) : HO → Prop
  | .lst xs => xs.length ≤ sizeLine ∧ ∃ (its : List Value) (n : Nat), Vals xs its ∧ h.get? a = some { cls := .type "list", data := .seq its.toArray n }
  | .tup xs => xs.length ≤ sizeLine ∧ ∃ its : List Value, Vals xs its ∧ IsTup h a its.toArray
  | .dK kvs => kvs.length ≤ sizeLine ∧ (a == sysModules) = false ∧ ∃ vs, KV kvs vs ∧ h.DictOf (mixKind P w) a vs
  | .dT kvs => kvs.length ≤ sizeLine ∧ (a == sysModules) = false ∧ ∃ xs : List (List Key × Addr × Value),
      Paired (fun (p : List Key × V) (q : List Key × Addr × Value) => p.1 = q.1 ∧ H q.2.1 = some (.tup (p.1.map kV)) ∧ RelV p.2 q.2.2) kvs xs ∧
      ∃ o es ep, h.get? a = some o ∧ o.ExactDict ∧ o.data = .dict es ep ∧ es.toList = xs.map (entryOfKey (tupleKind (mixKind P w))) ∧ (xs.map (·.1)).Nodup
  | .set S n => h.SetOf (intKind P w) a S n
  | .ins C dx fs => H dx = some (.own a) ∧ fs.length ≤ 1000 ∧ dx ≠ a ∧ h.get? a = some (PySem.W.instObj C dx) ∧
      ∃ mA, h.Ns1 dx mA ∧ (∀ f, RelO (fs.lookup f) (mA f)) ∧ PySem.Within mA (fs.map (·.1))
  | .own _ => ∃ o, h.get? a = some o
  | .xd fs => ∃ mA, h.Ns1 a mA ∧ ∀ f, RelO (fs.lookup f) (mA f)
  | .rng lo hi => ∃ t u v, h.get? a = some { cls := .type "range", data := .fields #[.int lo t, .int hi u, .int 1 v] }
  | .frz o u => h.get? a = some o ∧ ObjOk H h a u
  | .tbl ps => h.get? a = some { cls := .none, data := .fields ps }
  | .met f x => h.get? a = some (PySem.W.methodObj (.ref f) (.ref x))
  | .exc C dx fs => ∃ o vs, h.get? a = some o ∧ o.cls = .ref C ∧ o.dict = dx ∧ o.data = .fields vs ∧ fs.length ≤ 1000 ∧ (∀ d, dx = some d → H d = some (.own a) ∧ d ≠ a) ∧
      ∃ mA, NsO h dx mA ∧ (∀ f, RelO (fs.lookup f) (mA f)) ∧ PySem.Within mA (fs.map (·.1))
  | .ext φ => φ h ∧ (∃ o, h.get? a = some o) ∧ ∀ h1 h2 : Heap, φ h1 → (∀ o, h1.get? a = some o → h2.get? a = some o) → φ h2
def HOk (H : Hp) (h : Heap) : Prop := ∀ a o, H a = some o → ObjOk P w H h a o
end

section
variable {P : Program} {w : World} {H H' : Hp} {h h' : Heap} {a : Addr} {o : HO}
theorem ObjOk.lt (x : ObjOk P w H h a o) : a < h.objs.size := by
  cases o with
  | lst xs => obtain ⟨_, _, _, _, e⟩ := x; exact Heap.lt_size e
  | tup xs => obtain ⟨_, _, _, p⟩ := x; exact p.lt
  | dK kvs => obtain ⟨_, _, _, _, o, _, _, e, _⟩ := x; exact Heap.lt_size e
  | dT kvs => obtain ⟨_, _, _, _, o, _, _, e, _⟩ := x; exact Heap.lt_size e
  | set S n => obtain ⟨o, _, _, _, e, _⟩ := x; exact Heap.lt_size e
  | ins C dx fs => obtain ⟨_, _, _, e, _⟩ := x; exact Heap.lt_size e
  | own y => obtain ⟨_, e⟩ := x; exact Heap.lt_size e
  | xd fs => obtain ⟨_, ⟨_, _, _, e, _⟩, _⟩ := x; exact Heap.lt_size e
  | rng lo hi => obtain ⟨_, _, _, e⟩ := x; exact Heap.lt_size e
  | frz ob u => obtain ⟨e, _⟩ := x; exact Heap.lt_size e
  | tbl ps => exact Heap.lt_size (show h.get? a = some _ from x)
  | met f y => exact Heap.lt_size (show h.get? a = some _ from x)
  | exc C dx fs => obtain ⟨_, _, e, _⟩ := x; exact Heap.lt_size e
  | ext φ => obtain ⟨_, ⟨_, e⟩, _⟩ := x; exact Heap.lt_size e
theorem Paired.mapP {α β : Type} {F G : α → β → Prop} : ∀ {l₁ : List α} {l₂ : List β}, Paired F l₁ l₂ → (∀ a b, F a b → G a b) → Paired G l₁ l₂
  | _, _, .nil, _ => .nil
  | _, _, .cons r t, f => .cons (f _ _ r) (Paired.mapP t f)
theorem ObjOk.stay (x : ObjOk P w H h a o) (k : ∀ b u, (b = a ∨ H b = some (.own a)) → h.get? b = some u → h'.get? b = some u)
    (ho : ∀ b, H b = some (.own a) → H' b = some (.own a)) (ht : ∀ b xs, H b = some (.tup xs) → H' b = some (.tup xs)) : ObjOk P w H' h' a o := by
  induction o with
  | lst xs => obtain ⟨z, its, n, r, e⟩ := x; exact ⟨z, its, n, r, k _ _ (.inl rfl) e⟩
  | tup xs => obtain ⟨z, its, r, ob, e, c⟩ := x; exact ⟨z, its, r, ob, k _ _ (.inl rfl) e, c⟩
  | dK kvs => obtain ⟨z, y, vs, r, ob, es, ep, e, c⟩ := x; exact ⟨z, y, vs, r, ob, es, ep, k _ _ (.inl rfl) e, c⟩
  | dT kvs =>
    obtain ⟨z, y, xs, r, ob, es, ep, e, c⟩ := x
    exact ⟨z, y, xs, Paired.mapP r fun p q z => ⟨z.1, ht _ _ z.2.1, z.2.2⟩, ob, es, ep, k _ _ (.inl rfl) e, c⟩
  | set S n => obtain ⟨ob, es, ep, t, e, c⟩ := x; exact ⟨ob, es, ep, t, k _ _ (.inl rfl) e, c⟩
  | ins C dx fs =>
    obtain ⟨d, z, ne, e, mA, ⟨od, es, ep, e2, c⟩, r⟩ := x
    exact ⟨ho _ d, z, ne, k _ _ (.inl rfl) e, mA, ⟨od, es, ep, k _ _ (.inr d) e2, c⟩, r⟩
  | own y => obtain ⟨ob, e⟩ := x; exact ⟨ob, k _ _ (.inl rfl) e⟩
  | xd fs => obtain ⟨mA, ⟨od, es, ep, e, c⟩, r⟩ := x; exact ⟨mA, ⟨od, es, ep, k _ _ (.inl rfl) e, c⟩, r⟩
  | rng lo hi => obtain ⟨t, u, v, e⟩ := x; exact ⟨t, u, v, k _ _ (.inl rfl) e⟩
  | frz ob u ih => obtain ⟨e, q⟩ := x; exact ⟨k _ _ (.inl rfl) e, ih q⟩
  | tbl ps =>
    have e : h.get? a = some { cls := .none, data := .fields ps } := x
    show h'.get? a = some { cls := .none, data := .fields ps }
    exact k a _ (.inl rfl) e
  | met f y =>
    have e : h.get? a = some (PySem.W.methodObj (.ref f) (.ref y)) := x
    show h'.get? a = some (PySem.W.methodObj (.ref f) (.ref y))
    exact k a _ (.inl rfl) e
  | exc C dx fs =>
    obtain ⟨ob, vs, e, hc, hd, hv, hl, hw, mA, hm, r⟩ := x
    refine ⟨ob, vs, k _ _ (.inl rfl) e, hc, hd, hv, hl, fun d q => ⟨ho _ (hw d q).1, (hw d q).2⟩, mA, ?_, r⟩
    cases dx with
    | none => exact hm
    | some d =>
      obtain ⟨od, es, ep, e2, c⟩ := hm
      exact ⟨od, es, ep, k _ _ (.inr (hw d rfl).1) e2, c⟩
  | ext φ => obtain ⟨p, ⟨o, e⟩, st⟩ := x; exact ⟨st _ _ p fun o q => k _ _ (.inl rfl) q, ⟨o, k _ _ (.inl rfl) e⟩, st⟩
theorem HOk.lt (x : HOk P w H h) (e : H a = some o) : a < h.objs.size := (x a o e).lt
theorem HOk.fresh (x : HOk P w H h) (e : h.objs.size ≤ a) : H a = none := by
  cases q : H a with
  | none => rfl
  | some u => exact absurd (Nat.lt_of_lt_of_le (x.lt q) e) (Nat.lt_irrefl _)
theorem HOk.kept (x : HOk P w H h) (k : ∀ b u, h.get? b = some u → h'.get? b = some u) : HOk P w H h' := fun a o e =>
  (x a o e).stay (fun b u _ q => k b u q) (fun _ q => q) fun _ _ q => q
theorem HOk.laid (x : HOk P w H h) (k : ∀ b u, h.get? b = some u → h'.get? b = some u) (hp : h.objs.size ≤ a) (new : ObjOk P w (upd H a o) h' a o) : HOk P w (upd H a o) h' := fun b u e => by
  have hn := x.fresh hp
  by_cases hb : b = a
  · subst hb; rw [upd_same] at e; cases e; exact new
  · rw [upd_ne hb] at e
    exact (x b u e).stay (fun c v _ q => k c v q) (fun c q => by rw [upd_ne (ne_of_none q hn)]; exact q) fun c xs q => by rw [upd_ne (ne_of_none q hn)]; exact q
end

def Rd (H : Hp) (a : Addr) (u : HO) : Prop := H a = some u ∨ ∃ o, H a = some (.frz o u)
theorem Rd.of {H : Hp} {a : Addr} {u : HO} (h : H a = some u) : Rd H a u := .inl h
theorem Rd.ok {P : Program} {w : World} {H : Hp} {h : Heap} {a : Addr} {u : HO} (r : Rd H a u) (x : HOk P w H h) : ObjOk P w H h a u := by
  rcases r with r | ⟨o, r⟩
  · exact x a u r
  · obtain ⟨_, q⟩ := x a _ r
    exact q
def Mut : Option HO → Prop
  | some (.lst _) => True
  | some (.dK _) => True
  | some (.dT _) => True
  | some (.set _ _) => True
  | some (.ins _ _ _) => True
  | some (.exc _ _ _) => True
  | some (.ext _) => True
  | _ => False
section
variable {P : Program} {w : World} {H : Hp} {h h' : Heap} {x e : Addr} {o' : HO}
theorem HOk.write (ok : HOk P w H h) (mu : Mut (H x)) (he : e = x ∨ H e = some (.own x)) (k : ∀ b u, b ≠ e → h.get? b = some u → h'.get? b = some u) (heo : ∃ u, h'.get? e = some u)
    (new : ObjOk P w (upd H x o') h' x o') : HOk P w (upd H x o') h' := fun b u q => by
  have nown : ∀ c y, H c = some (.own y) → c ≠ x := fun c y r z => by subst z; rw [r] at mu; exact mu
  have ntup : ∀ c xs, H c = some (.tup xs) → c ≠ x := fun c xs r z => by subst z; rw [r] at mu; exact mu
  by_cases hb : b = x
  · subst hb; rw [upd_same] at q; cases q; exact new
  · rw [upd_ne hb] at q
    by_cases hbe : b = e
    · have q' : H b = some (.own x) := by
        rcases he with z | z
        · exact absurd (hbe.trans z) hb
        · rw [hbe]; exact z
      rw [q] at q'; cases q'
      obtain ⟨v, hv⟩ := heo
      exact ⟨v, by rw [hbe]; exact hv⟩
    · refine (ok b u q).stay (fun c v hc r => k c v ?_ r) (fun c r => by rw [upd_ne (nown c b r)]; exact r) fun c xs r => by rw [upd_ne (ntup c xs r)]; exact r
      rcases hc with rfl | hc
      · exact hbe
      · rintro rfl
        rcases he with z | z
        · exact nown c b hc z
        · rw [hc] at z; cases z; exact hb rfl
end

/-! ### kept unless tracked; of the frames at fs (the callers') the slots may change (an exception that passes writes there); of the records at ex (iterators) nothing is said -/
structure Un (fs ex : List Addr) (H H' : Hp) (h h' : Heap) : Prop where
  keep : ∀ b o, h.get? b = some o → H b = none → b ∉ fs → b ∉ ex → h'.get? b = some o
  slot : ∀ b o, h.get? b = some o → H b = none → b ∈ fs → b ∉ ex → ∃ sl, h'.get? b = some { o with slots := sl }
  free : ∀ b o, h.get? b = some o → H b = none → b ∉ ex → H' b = none
  there : ∀ b o, h.get? b = some o → b ∉ ex → ∃ o', h'.get? b = some o'
  tups : ∀ b xs, H b = some (.tup xs) → H' b = some (.tup xs)
  frzs : ∀ b o u, H b = some (.frz o u) → H' b = some (.frz o u)
  tbls : ∀ b ps, H b = some (.tbl ps) → ∃ more, H' b = some (.tbl (ps ++ more))
section
variable {fs fs' ex ex' : List Addr} {H H1 H2 : Hp} {h h1 h2 h' : Heap} {a x e : Addr} {o : HO}
theorem Un.any (u : Un fs ex H H1 h h1) {b : Addr} {ob : Obj} (q : h.get? b = some ob) (n : H b = none) (hx : b ∉ ex) : ∃ sl, h1.get? b = some { ob with slots := sl } := by
  by_cases hb : b ∈ fs
  · exact u.slot b ob q n hb hx
  · exact ⟨ob.slots, u.keep b ob q n hb hx⟩
theorem Un.trans (a : Un fs ex H H1 h h1) (b : Un fs ex H1 H2 h1 h2) : Un fs ex H H2 h h2 where
  keep := fun c ob q n hc hx => b.keep c ob (a.keep c ob q n hc hx) (a.free c ob q n hx) hc hx
  slot := fun c ob q n hc hx => by
    obtain ⟨sl, e1⟩ := a.slot c ob q n hc hx
    obtain ⟨sl', e2⟩ := b.slot c _ e1 (a.free c ob q n hx) hc hx
    exact ⟨sl', e2⟩
  free := fun c ob q n hx => by
    obtain ⟨o', e1⟩ := a.there c ob q hx
    exact b.free c o' e1 (a.free c ob q n hx) hx
  there := fun c ob q hx => by
    obtain ⟨o', e1⟩ := a.there c ob q hx
    exact b.there c o' e1 hx
  tups := fun c xs q => b.tups c xs (a.tups c xs q)
  frzs := fun c ob xs q => b.frzs c ob xs (a.frzs c ob xs q)
  tbls := fun c ps q => by
    obtain ⟨m1, e1⟩ := a.tbls c ps q
    obtain ⟨m2, e2⟩ := b.tbls c _ e1
    exact ⟨m1 ++ m2, by rw [e2, Array.append_assoc]⟩
theorem Un.kept (k : ∀ b u, h.get? b = some u → h'.get? b = some u) : Un fs ex H H h h' :=
  ⟨fun b ob q _ _ _ => k b ob q, fun b ob q _ _ _ => ⟨ob.slots, k b ob q⟩, fun _ _ _ n _ => n, fun b ob q _ => ⟨ob, k b ob q⟩, fun _ _ q => q, fun _ _ _ q => q, fun _ ps q => ⟨#[], by rw [q]; simp⟩⟩
theorem Un.refl : Un fs ex H H h h := Un.kept fun _ _ q => q
theorem Un.laid (k : ∀ b u, h.get? b = some u → h'.get? b = some u) (hp : h.objs.size ≤ a) (hn : H a = none) : Un fs ex H (upd H a o) h h' where
  keep := fun b u q _ _ _ => k b u q
  slot := fun b u q _ _ _ => ⟨u.slots, k b u q⟩
  free := fun b u q n _ => by rw [upd_ne (Nat.ne_of_lt (Nat.lt_of_lt_of_le (Heap.lt_size q) hp))]; exact n
  there := fun b u q _ => ⟨u, k b u q⟩
  tups := fun b xs q => by rw [upd_ne (ne_of_none q hn)]; exact q
  frzs := fun b u xs q => by rw [upd_ne (ne_of_none q hn)]; exact q
  tbls := fun b ps q => ⟨#[], by rw [upd_ne (ne_of_none q hn), q]; simp⟩
theorem Un.write (mu : Mut (H x)) (he : e = x ∨ H e = some (.own x)) (k : ∀ b u, b ≠ e → h.get? b = some u → h'.get? b = some u) (heo : ∃ u, h'.get? e = some u) : Un fs ex H (upd H x o) h h' := by
  have hx : ∀ b, H b = none → b ≠ x := fun b n z => by subst z; rw [n] at mu; exact mu
  have hb : ∀ b, H b = none → b ≠ e := fun b n z => by
    subst z
    rcases he with r | r
    · exact hx b n r
    · rw [n] at r; cases r
  have hm : ∀ b u, H b = some u → ¬ Mut (some u) → b ≠ x := fun b u q nm z => by subst z; rw [q] at mu; exact nm mu
  refine ⟨fun b u q n _ _ => k b u (hb b n) q, fun b u q n _ _ => ⟨u.slots, k b u (hb b n) q⟩, fun b u q n _ => by rw [upd_ne (hx b n)]; exact n, fun b u q _ => ?_,
    fun b xs q => by rw [upd_ne (hm b _ q fun z => z)]; exact q, fun b u xs q => by rw [upd_ne (hm b _ q fun z => z)]; exact q, fun b ps q => ⟨#[], by rw [upd_ne (hm b _ q fun z => z), q]; simp⟩⟩
  by_cases hbe : b = e
  · subst hbe; exact heo
  · exact ⟨u, k b u hbe q⟩
theorem Un.mono (u : Un fs ex H H1 h h1) (hs : ∀ b ∈ fs, b ∈ fs') (hx : ∀ b ∈ ex, b ∈ ex') : Un fs' ex' H H1 h h1 :=
  ⟨fun b ob q n hb he => u.keep b ob q n (fun z => hb (hs b z)) fun z => he (hx b z), fun _ _ q n _ he => u.any q n fun z => he (hx _ z), fun b ob q n he => u.free b ob q n fun z => he (hx b z), fun b ob q he => u.there b ob q fun z => he (hx b z), u.tups, u.frzs, u.tbls⟩
end

/-! ### the heap without what is tracked -/
def trk (h : Heap) (H : Hp) : List Addr := (List.range h.objs.size).filter fun a => (H a).isSome
def hidT (h : Heap) (H : Hp) : Heap := PySem.W.hideAll h (trk h H)
theorem hidT_size (h : Heap) (H : Hp) : (hidT h H).objs.size = h.objs.size := PySem.W.hideAll_size _ _
theorem hidT_get {h : Heap} {H : Hp} {b : Addr} {o : Obj} (e : h.get? b = some o) (n : H b = none) : (hidT h H).get? b = some o :=
  PySem.W.hideAll_get _ e fun hm => by
    have q : (H b).isSome = true := (List.mem_filter.mp hm).2
    rw [n] at q; simp at q
theorem of_hidT {h : Heap} {H : Hp} {b : Addr} {o : Obj} (e : (hidT h H).get? b = some o) : h.get? b = some o ∧ H b = none := by
  have e' : h.get? b = some o := PySem.W.of_hideAll (trk h H) e
  refine ⟨e', ?_⟩
  cases q : H b with
  | none => rfl
  | some x =>
    have hm : b ∈ trk h H := List.mem_filter.mpr ⟨List.mem_range.mpr (Heap.lt_size e'), by simp [q]⟩
    have z : (hidT h H).get? b = none := PySem.W.hideAll_none (trk h H) hm
    rw [z] at e; cases e

/-! ### OpenK's ledger, filled with every new object but one -/
def allNews (g h : Heap) (L : Addr) : List (Addr × Obj) := (List.range h.objs.size).filterMap fun a => if a = L ∨ (g.get? a).isSome = true then none else (h.get? a).map fun o => (a, o)
def rest (g h : Heap) (L d : Addr) : List (Addr × Obj) := (allNews g h L).filter fun p => decide (p.1 ≠ d)
end L2

namespace L2
open PySem PySem.Spec PyProof.Rows

structure Mod (K : PySem.W.Frag) (mg : Str → Option Value) (base : Heap) : Prop where
  kin : K.In base
  glob : base.Ns mainGlobals mg
  blt : ∃ mb, base.Ns builtinsNs mb ∧ ∀ x : Str, x ≠ "__name__" → mb x = bootBuiltins x
  nolimit : base.NoLimit

structure Cx where
  prog : Program
  w : World
  K : PySem.W.Frag
  mg : Str → Option Value
  base : Heap
  A : Around
  N : List Str
  s₀ : Shared
  H₀ : Hp
  env : Env
  outer : List Env
  stack : List Env
  ex : List Addr
  fn : Str → Bool
  calm : Bool
  pn : List (Addr × Obj)
  xe : Value → Shared → Prop
def frs (l : List Env) : List Addr := l.filterMap (·.frame)
abbrev Cx.fs (X : Cx) : List Addr := frs X.outer

def Vis (sc : Scope) (x : Str) : Prop := sc.names.lookup x = some .local ∨ sc.names.lookup x = some .cell ∨ sc.names.lookup x = some .free
def Loc (sc : Scope) (x : Str) : Prop := sc.names.lookup x = some .local ∨ sc.names.lookup x = some .cell
def Look (env : Env) (h : Heap) (m : Str → Option Value) (x : Str) (u : Value) : Prop :=
  (env.kindOf x = some .local ∧ m x = some u) ∨ ((env.kindOf x = some .cell ∨ env.kindOf x = some .free) ∧ ∃ c, env.cells.lookup x = some c ∧ h.IsCell c (some u))

structure Cx.Ok (X : Cx) : Prop where
  mod : Mod X.K X.mg X.base
  kind : X.env.scope.kind = .function
  glob : X.env.globals = mainGlobals
  blt : X.env.builtins = builtinsNs
  above : X.s₀.heap.objs.size ≤ X.env.locals
  inj : ∀ x y c, X.env.cells.lookup x = some c → X.env.cells.lookup y = some c → x = y
  has : ∀ x, (X.env.kindOf x = some .cell ∨ X.env.kindOf x = some .free) → ∃ c, X.env.cells.lookup x = some c
  cab : ∀ x c, X.fn x = true → X.env.cells.lookup x = some c → X.s₀.heap.objs.size ≤ c
  hd : X.calm = true → X.A.handled = none
  frames : X.A.frames = some X.stack
  stk : X.stack = X.outer ∨ (X.stack = X.env :: X.outer ∧ X.env.frame = some X.env.locals)
  exf : ∀ b ∈ X.ex, b ≠ X.env.locals ∧ ∀ x c, X.env.cells.lookup x = some c → c ≠ b
  bs : ∀ b o, X.base.get? b = some o → X.s₀.heap.get? b = some o ∧ X.H₀ b = none
  bsz : X.base.objs.size ≤ X.s₀.heap.objs.size
  noex : ∀ b o, X.base.get? b = some o → b ∉ X.ex
  exfs : ∀ b ∈ X.ex, b ∉ X.fs
  funs : X.s₀.heap.FunFrames X.base X.outer
  frf : ∀ b ∈ X.fs, X.H₀ b = none

structure Inv (X : Cx) (pins : List (Addr × Obj)) (σ : List (Option V)) (H : Hp) (s : Shared) : Prop where
  ok : X.Ok
  os : s.os = X.s₀.os
  bare : AllBare s.gens
  base : Un X.fs X.ex X.H₀ H X.s₀.heap s.heap
  loc : ∃ m, s.heap.Ns X.env.locals m ∧ ∀ (i : Nat) (x : Str) (v : V), X.N[i]? = some x → σ[i]? = some (some v) → Vis X.env.scope x → ∃ u, RelV v u ∧ Look X.env s.heap m x u
  cell : ∀ x c, X.env.cells.lookup x = some c → ∃ v, s.heap.IsCell c v
  free : H X.env.locals = none
  freeC : ∀ x c, X.env.cells.lookup x = some c → H c = none
  pin : ∀ p ∈ X.pn ++ pins, s.heap.get? p.1 = some p.2 ∧ H p.1 = none ∧ p.1 ≠ X.env.locals ∧ p.1 ∉ X.fs ∧ ∀ v, p.2.data ≠ .cell v
  hok : HOk X.prog X.w H s.heap
  len : σ.length = X.N.length

section
variable {X : Cx} {pins : List (Addr × Obj)} {σ : List (Option V)} {H H' : Hp} {s : Shared} {h' : Heap}

theorem Cx.Ok.nofr (ok : X.Ok) {b : Addr} {o : Obj} (e : X.base.get? b = some o) : b ∉ X.fs := fun hb => by
  have := (ok.funs.mem hb).1
  rw [e] at this; cases this
theorem Inv.bs (I : Inv X pins σ H s) : ∀ b o, X.base.get? b = some o → s.heap.get? b = some o ∧ H b = none := fun b o e =>
  ⟨I.base.keep b o (I.ok.bs b o e).1 (I.ok.bs b o e).2 (I.ok.nofr e) (I.ok.noex b o e), I.base.free b o (I.ok.bs b o e).1 (I.ok.bs b o e).2 (I.ok.noex b o e)⟩
theorem Inv.bk (I : Inv X pins σ H s) : ∀ b o, X.base.get? b = some o → s.heap.get? b = some o := fun b o e => (I.bs b o e).1
theorem Inv.mod (I : Inv X pins σ H s) : Mod X.K X.mg X.base := I.ok.mod
theorem Inv.kIn (I : Inv X pins σ H s) : X.K.In s.heap := I.ok.mod.kin.keeps I.bk
theorem Inv.nolimit (I : Inv X pins σ H s) : s.heap.NoLimit := I.ok.mod.nolimit.keeps I.bk
theorem Inv.fr (I : Inv X pins σ H s) : ∃ m, Fr X.base X.env.locals s.heap m :=
  let ⟨m, hn, _⟩ := I.loc
  ⟨m, hn, I.bk, Nat.le_trans I.ok.bsz I.ok.above⟩
theorem Inv.lt (I : Inv X pins σ H s) : X.env.locals < s.heap.objs.size := let ⟨_, hn, _⟩ := I.loc; hn.lt
theorem Inv.sz (I : Inv X pins σ H s) : X.s₀.heap.objs.size ≤ s.heap.objs.size := Nat.le_trans I.ok.above (Nat.le_of_lt I.lt)
theorem Inv.nofs (I : Inv X pins σ H s) {a : Addr} (h : s.heap.objs.size ≤ a) : a ∉ X.fs := fun hb => by
  obtain ⟨_, o, ho, _⟩ := I.ok.funs.mem hb
  exact absurd (Nat.lt_of_lt_of_le (Heap.lt_size ho) (Nat.le_trans I.sz h)) (Nat.lt_irrefl _)
theorem Inv.cne (I : Inv X pins σ H s) : ∀ x c, X.env.cells.lookup x = some c → c ≠ X.env.locals := fun x c e z => by
  obtain ⟨v, o, ho, hd⟩ := I.cell x c e
  obtain ⟨m, ⟨o', es, ep, ho', hd', _⟩, _⟩ := I.loc
  rw [z, ho'] at ho; cases ho; rw [hd'] at hd; cases hd
theorem Inv.funs (I : Inv X pins σ H s) : s.heap.FunFrames X.base X.outer := by
  have all : ∀ (l : List Env), (∀ b ∈ frs l, b ∈ X.fs) → X.s₀.heap.FunFrames X.base l → s.heap.FunFrames X.base l := by
    intro l
    induction l with
    | nil => intro _ _; trivial
    | cons env r ih =>
      intro hs hl
      obtain ⟨hk, ⟨L, o, hf, hn, ho, hd⟩, hr⟩ := hl
      have hL : L ∈ X.fs := hs L (by unfold frs; rw [List.filterMap_cons, hf]; exact List.mem_cons_self)
      obtain ⟨sl, e⟩ := I.base.slot L o ho (I.ok.frf L hL) hL fun z => I.ok.exfs L z hL
      exact ⟨hk, ⟨L, _, hf, hn, e, hd⟩, ih (fun b hb => hs b (by unfold frs; rw [List.filterMap_cons, hf]; exact List.mem_cons_of_mem _ hb)) hr⟩
  exact all X.outer (fun _ hb => hb) I.ok.funs

theorem Inv.stack (I : Inv X pins σ H s) : s.heap.FunFrames X.base X.stack := by
  rcases I.ok.stk with e | ⟨e, hf⟩
  · rw [e]; exact I.funs
  · rw [e]
    obtain ⟨m, hn, _⟩ := I.loc
    refine .cons (by rw [I.ok.kind]; decide) hf hn ?_ I.funs
    exact Heap.get?_none_of_le (Nat.le_trans I.ok.bsz I.ok.above)
theorem Inv.stkSub (I : Inv X pins σ H s) : ∀ b ∈ frs X.stack, b ∈ X.env.locals :: X.fs := fun b hb => by
  rcases I.ok.stk with e | ⟨e, hf⟩
  · rw [e] at hb; exact List.mem_cons_of_mem _ hb
  · rw [e] at hb
    unfold frs at hb
    rw [List.filterMap_cons, hf] at hb
    exact hb
theorem Inv.stkFree (I : Inv X pins σ H s) : ∀ b ∈ frs X.stack, H b = none := fun b hb => by
  rcases List.mem_cons.mp (I.stkSub b hb) with e | hb
  · rw [e]; exact I.free
  · obtain ⟨_, o, ho, _⟩ := I.ok.funs.mem hb
    exact I.base.free b o ho (I.ok.frf b hb) fun z => I.ok.exfs b z hb

theorem Inv.step {g' : Array GenState} {t' : Nat} {d' : Drawn} {ch : List Addr} (I : Inv X pins σ H s)
    (hch : ∀ b ∈ ch, (b ∈ X.ex ∨ X.s₀.heap.objs.size ≤ b) ∧ b ≠ X.env.locals ∧ (∀ x c, X.env.cells.lookup x = some c → c ≠ b) ∧ ∀ p ∈ X.pn ++ pins, p.1 ≠ b)
    (keep : ∀ b o, b ≠ X.env.locals → b ∉ X.fs → b ∉ ch → s.heap.get? b = some o → H b = none → h'.get? b = some o)
    (slot : ∀ b o, b ≠ X.env.locals → b ∈ X.fs → b ∉ ch → s.heap.get? b = some o → H b = none → ∃ sl, h'.get? b = some { o with slots := sl }) (free : ∀ b o, b ∉ ch → s.heap.get? b = some o → H b = none → H' b = none)
    (there : ∀ b o, b ∉ ch → s.heap.get? b = some o → ∃ o', h'.get? b = some o')
    (tups : ∀ b xs, H b = some (.tup xs) → H' b = some (.tup xs)) (frzs : ∀ b o u, H b = some (.frz o u) → H' b = some (.frz o u)) (tbls : ∀ b ps, H b = some (.tbl ps) → ∃ more, H' b = some (.tbl (ps ++ more)))
    (ns : ∀ m, s.heap.Ns X.env.locals m → h'.Ns X.env.locals m) (hok : HOk X.prog X.w H' h') (hg : AllBare g') :
    Inv X pins σ H' { s with heap := h', gens := g', drawn := d', toks := t' } := by
  have neL : ∀ b o, X.s₀.heap.get? b = some o → b ≠ X.env.locals := fun b o e => Nat.ne_of_lt (Nat.lt_of_lt_of_le (Heap.lt_size e) I.ok.above)
  have neC : ∀ b o, X.s₀.heap.get? b = some o → b ∉ X.ex → b ∉ ch := fun b o e hx hb => by
    rcases (hch b hb).1 with z | z
    · exact hx z
    · exact absurd (Nat.lt_of_lt_of_le (Heap.lt_size e) z) (Nat.lt_irrefl _)
  have cellK : ∀ x c, X.env.cells.lookup x = some c → ∀ v, s.heap.IsCell c v → h'.IsCell c v := fun x c e v ⟨o, ho, hd⟩ => by
    have nch : c ∉ ch := fun z => (hch c z).2.2.1 x c e rfl
    by_cases hc : c ∈ X.fs
    · obtain ⟨sl, q⟩ := slot c o (I.cne x c e) hc nch ho (I.freeC x c e)
      exact ⟨_, q, hd⟩
    · exact ⟨o, keep c o (I.cne x c e) hc nch ho (I.freeC x c e), hd⟩
  refine ⟨I.ok, I.os, hg, ⟨fun b o e n hb hx => ?_, fun b o e n hb hx => ?_, fun b o e n hx => ?_, fun b o e hx => ?_, fun b xs e => tups b xs (I.base.tups b xs e), fun b o xs e => frzs b o xs (I.base.frzs b o xs e), fun b ps e => ?_⟩, ?_, fun x c e => ?_, ?_, fun x c e => ?_, fun p hp => ?_, hok, I.len⟩
  · exact keep b o (neL b o e) hb (neC b o e hx) (I.base.keep b o e n hb hx) (I.base.free b o e n hx)
  · obtain ⟨sl, e1⟩ := I.base.slot b o e n hb hx
    obtain ⟨sl', e2⟩ := slot b _ (neL b o e) hb (neC b o e hx) e1 (I.base.free b o e n hx)
    exact ⟨sl', e2⟩
  · obtain ⟨o', e1⟩ := I.base.there b o e hx
    exact free b o' (neC b o e hx) e1 (I.base.free b o e n hx)
  · obtain ⟨o', e1⟩ := I.base.there b o e hx
    exact there b o' (neC b o e hx) e1
  · obtain ⟨m1, e1⟩ := I.base.tbls b ps e
    obtain ⟨m2, e2⟩ := tbls b _ e1
    exact ⟨m1 ++ m2, by rw [e2, Array.append_assoc]⟩
  · obtain ⟨m, hn, hl⟩ := I.loc
    refine ⟨m, ns m hn, fun i x v e1 e2 e3 => ?_⟩
    obtain ⟨u, r, l⟩ := hl i x v e1 e2 e3
    refine ⟨u, r, ?_⟩
    rcases l with l | ⟨k, c, e, z⟩
    · exact .inl l
    · exact .inr ⟨k, c, e, cellK x c e _ z⟩
  · obtain ⟨v, z⟩ := I.cell x c e
    exact ⟨v, cellK x c e v z⟩
  · obtain ⟨m, ⟨o, _, _, ho, _⟩, _⟩ := I.loc
    exact free _ o (fun z => (hch _ z).2.1 rfl) ho I.free
  · obtain ⟨v, o, ho, hd⟩ := I.cell x c e
    exact free c o (fun z => (hch c z).2.2.1 x c e rfl) ho (I.freeC x c e)
  · obtain ⟨e, n, ne, nf, d⟩ := I.pin p hp
    have nch : p.1 ∉ ch := fun z => (hch p.1 z).2.2.2 p hp rfl
    exact ⟨keep p.1 p.2 ne nf nch e n, free p.1 p.2 nch e n, ne, nf, d⟩
theorem Inv.un {t' : Nat} (I : Inv X pins σ H s) (u : Un X.fs [] H H' s.heap h') (hok : HOk X.prog X.w H' h') : Inv X pins σ H' { s with heap := h', toks := t' } := by
  obtain ⟨m, ⟨o, es, ep, ho, r⟩, _⟩ := id I.loc
  obtain ⟨sl, hL⟩ := u.any ho I.free (by simp)
  exact I.step (g' := s.gens) (d' := s.drawn) (ch := []) (fun _ z => nomatch z) (fun b o _ hb _ e n => u.keep b o e n hb (by simp)) (fun b o _ hb _ e n => u.slot b o e n hb (by simp)) (fun b o _ e n => u.free b o e n (by simp)) (fun b o _ e => u.there b o e (by simp)) u.tups u.frzs u.tbls (fun m' hm => by
    obtain ⟨o', es', ep', ho', r'⟩ := hm
    rw [ho] at ho'; cases ho'
    exact ⟨_, es', ep', hL, r'⟩) hok I.bare
theorem Inv.call {g' : Array GenState} {t' : Nat} {d' : Drawn} {ch : List Addr} (I : Inv X pins σ H s) (u : Un (frs X.stack) ch H H' s.heap h') (hok : HOk X.prog X.w H' h') (hg : AllBare g')
    (hch : ∀ b ∈ ch, (b ∈ X.ex ∨ X.s₀.heap.objs.size ≤ b) ∧ b ≠ X.env.locals ∧ (∀ x c, X.env.cells.lookup x = some c → c ≠ b) ∧ ∀ p ∈ X.pn ++ pins, p.1 ≠ b) :
    Inv X pins σ H' { s with heap := h', gens := g', drawn := d', toks := t' } := by
  obtain ⟨m, ⟨o, es, ep, ho, r⟩, _⟩ := id I.loc
  obtain ⟨sl, hL⟩ := u.any ho I.free fun z => (hch _ z).2.1 rfl
  exact I.step (ch := ch) hch (fun b o hL hb hc e n => u.keep b o e n (fun z => (List.mem_cons.mp (I.stkSub b z)).elim hL hb) hc) (fun b o _ _ hc e n => u.any e n hc) (fun b o hc e n => u.free b o e n hc) (fun b o hc e => u.there b o e hc) u.tups u.frzs u.tbls (fun m' hm => by
    obtain ⟨o', es', ep', ho', r'⟩ := hm
    rw [ho] at ho'; cases ho'
    exact ⟨_, es', ep', hL, r'⟩) hok hg
theorem Inv.turned {t' : Nat} {it : Addr} (I : Inv X pins σ H s) (k : ∀ b o, b ≠ it → s.heap.get? b = some o → h'.get? b = some o) (hn : H it = none) (hL : it ≠ X.env.locals)
    (h1 : it ∈ X.ex ∨ X.s₀.heap.objs.size ≤ it) (h2 : ∀ x c, X.env.cells.lookup x = some c → c ≠ it) (h3 : ∀ p ∈ X.pn ++ pins, p.1 ≠ it) : Inv X pins σ H { s with heap := h', toks := t' } := by
  have nit : ∀ b u, H b = some u → b ≠ it := fun b u e z => by rw [z, hn] at e; cases e
  refine I.step (g' := s.gens) (d' := s.drawn) (ch := [it]) (fun b hb => ?_) (fun b o _ _ hc e _ => k b o (fun z => hc (by simp [z])) e) (fun b o _ _ hc e _ => ⟨o.slots, k b o (fun z => hc (by simp [z])) e⟩) (fun _ _ _ _ n => n)
    (fun b o hc e => ⟨o, k b o (fun z => hc (by simp [z])) e⟩) (fun _ _ e => e) (fun _ _ _ e => e) (fun b ps e => ⟨#[], by rw [e]; simp⟩) (fun m hm => ?_) (fun b u e => ?_) I.bare
  · have e : b = it := by simpa using hb
    subst e
    exact ⟨h1, hL, h2, h3⟩
  · obtain ⟨o, es, ep, ho, r⟩ := hm
    exact ⟨o, es, ep, k _ o (Ne.symm hL) ho, r⟩
  · refine (I.hok b u e).stay (fun c v hc q => k c v ?_ q) (fun _ q => q) fun _ _ q => q
    rcases hc with z | z
    · rw [z]; exact nit b u e
    · exact nit c _ z
theorem Inv.tok (I : Inv X pins σ H s) (t : Nat) : Inv X pins σ H { s with toks := t } := I.un (h' := s.heap) (t' := t) Un.refl I.hok
theorem Inv.kept {t' : Nat} (I : Inv X pins σ H s) (k : ∀ b u, s.heap.get? b = some u → h'.get? b = some u) : Inv X pins σ H { s with heap := h', toks := t' } := I.un (Un.kept k) (I.hok.kept k)
theorem Inv.laid {a : Addr} {o : HO} {t' : Nat} (I : Inv X pins σ H s) (k : ∀ b u, s.heap.get? b = some u → h'.get? b = some u) (hp : s.heap.objs.size ≤ a) (new : ObjOk X.prog X.w (upd H a o) h' a o) :
    Inv X pins σ (upd H a o) { s with heap := h', toks := t' } := I.un (Un.laid k hp (I.hok.fresh hp)) (I.hok.laid k hp new)
theorem Inv.write {x e : Addr} {o : HO} {t' : Nat} (I : Inv X pins σ H s) (mu : Mut (H x)) (he : e = x ∨ H e = some (.own x)) (k : ∀ b u, b ≠ e → s.heap.get? b = some u → h'.get? b = some u) (heo : ∃ u, h'.get? e = some u)
    (new : ObjOk X.prog X.w (upd H x o) h' x o) : Inv X pins σ (upd H x o) { s with heap := h', toks := t' } := I.un (Un.write mu he k heo) (I.hok.write mu he k heo new)
theorem Inv.weak {σ' : List (Option V)} (I : Inv X pins σ H s) (hl : σ'.length = σ.length) (w : ∀ (i : Nat) v, σ'[i]? = some (some v) → σ[i]? = some (some v)) : Inv X pins σ' H s :=
  ⟨I.ok, I.os, I.bare, I.base, let ⟨m, hn, hl'⟩ := I.loc; ⟨m, hn, fun i x v e1 e2 e3 => hl' i x v e1 (w i v e2) e3⟩, I.cell, I.free, I.freeC, I.pin, I.hok, hl.trans I.len⟩
theorem Inv.pins_of {pins' : List (Addr × Obj)} (I : Inv X pins σ H s) (h : ∀ p ∈ pins', s.heap.get? p.1 = some p.2 ∧ H p.1 = none ∧ p.1 ≠ X.env.locals ∧ p.1 ∉ X.fs ∧ ∀ v, p.2.data ≠ .cell v) : Inv X pins' σ H s :=
  ⟨I.ok, I.os, I.bare, I.base, I.loc, I.cell, I.free, I.freeC, fun p hp => (List.mem_append.mp hp).elim (fun z => I.pin p (List.mem_append_left _ z)) (h p), I.hok, I.len⟩

theorem nodup_ix {N : List Str} (hN : N.Nodup) {i j : Nat} {x : Str} (a : N[i]? = some x) (b : N[j]? = some x) : i = j := by
  obtain ⟨h1, e1⟩ := List.getElem?_eq_some_iff.mp a
  obtain ⟨h2, e2⟩ := List.getElem?_eq_some_iff.mp b
  exact (List.getElem_inj hN).mp (e1.trans e2.symm)

theorem store_ok2 {M : Model} {A : Around} {E : Value → Shared → Prop} {i : Nat} {x : Str} {v : V} {u : Value} {Q : Unit → Shared → Prop} (I : Inv X pins σ H s) (hN : X.N.Nodup) (hi : X.N[i]? = some x) (hx : Loc X.env.scope x) (r : RelV v u)
    (h : ∀ s', Inv X pins (σ.set i (some v)) H s' → (∃ a, Heap.SameBut a s.heap s'.heap ∧ (a = X.env.locals ∨ X.env.cells.lookup x = some a)) → Q () s') (hf : X.fn x = true ∨ X.env.scope.names.lookup x = some .local := by first | exact .inl rfl | exact .inr rfl | assumption) : wpAny M A (storeName X.env x u) Q E s := by
  obtain ⟨m, hn, hl⟩ := id I.loc
  have hcls : (X.env.scope.kind == .class || (X.env.scope.kind == .module && X.env.locals != X.env.globals)) = false := by rw [I.ok.kind]; rfl
  have hiσ : i < σ.length := by rw [I.len]; exact (List.getElem?_eq_some_iff.mp hi).1
  have cne := I.cne
  have tracked : ∀ {a : Addr} {h' : Heap}, (∃ o, s.heap.get? a = some o ∧ H a = none) → Heap.SameBut a s.heap h' → HOk X.prog X.w H h' := fun {a h'} ha hs b ob e => by
    obtain ⟨_, _, hfree⟩ := ha
    refine (I.hok b ob e).stay (fun c w' hc q => (hs.2 c ?_).trans q) (fun _ q => q) fun _ _ q => q
    rintro rfl
    rcases hc with rfl | hc
    · rw [hfree] at e; cases e
    · rw [hfree] at hc; cases hc
  rcases hx with hk | hk
  · refine wpAny_storeName_local hk hn (fun h' hn' hs => ?_) hcls
    obtain ⟨oL, _, _, hoL, _⟩ := id hn
    refine h _ ⟨I.ok, I.os, I.bare, ⟨fun b o e n hb hx => ?_, fun b o e n hb hx => ?_, I.base.free, fun b o e hx => ?_, I.base.tups, I.base.frzs, I.base.tbls⟩, ⟨_, hn', fun j y v' e1 e2 e3 => ?_⟩, fun y c e => ?_, I.free, I.freeC, fun p hp => ?_, tracked ⟨oL, hoL, I.free⟩ hs, by simpa using I.len⟩ ⟨_, hs, .inl rfl⟩
    · exact (hs.2 b (Nat.ne_of_lt (Nat.lt_of_lt_of_le (Heap.lt_size e) I.ok.above))).trans (I.base.keep b o e n hb hx)
    · obtain ⟨sl, e1⟩ := I.base.slot b o e n hb hx
      exact ⟨sl, (hs.2 b (Nat.ne_of_lt (Nat.lt_of_lt_of_le (Heap.lt_size e) I.ok.above))).trans e1⟩
    · obtain ⟨o', e1⟩ := I.base.there b o e hx
      exact ⟨o', (hs.2 b (Nat.ne_of_lt (Nat.lt_of_lt_of_le (Heap.lt_size e) I.ok.above))).trans e1⟩
    · by_cases hj : j = i
      · subst hj
        rw [hi] at e1; cases e1
        rw [List.getElem?_set_self hiσ] at e2
        cases e2
        exact ⟨u, r, .inl ⟨hk, by simp⟩⟩
      · rw [List.getElem?_set_ne (Ne.symm hj)] at e2
        obtain ⟨u', r', q⟩ := hl j y v' e1 e2 e3
        refine ⟨u', r', ?_⟩
        rcases q with ⟨k, e⟩ | ⟨k, c, e, z⟩
        · refine .inl ⟨k, ?_⟩
          have : y ≠ x := fun e => hj (nodup_ix hN e1 (e ▸ hi))
          simp [this, e]
        · exact .inr ⟨k, c, e, z.sameBut hs (cne y c e)⟩
    · obtain ⟨w', z⟩ := I.cell y c e
      exact ⟨w', z.sameBut hs (cne y c e)⟩
    · obtain ⟨e, n, ne, nf, d⟩ := I.pin p hp
      exact ⟨(hs.2 p.1 ne).trans e, n, ne, nf, d⟩
  · have hfn : X.fn x = true := by
      rcases hf with z | z
      · exact z
      · rw [z] at hk; cases hk
    obtain ⟨c, hc⟩ := I.ok.has x (.inl hk)
    obtain ⟨w', z⟩ := I.cell x c hc
    refine wpAny_storeName_cell I.ok.kind hk hc z (fun h' hc' hs => ?_)
    obtain ⟨oc, hoc, hocd⟩ := id z
    refine h { s with heap := h' } ⟨I.ok, I.os, I.bare, ⟨fun b o e n hb hx => ?_, fun b o e n hb hx => ?_, I.base.free, fun b o e hx => ?_, I.base.tups, I.base.frzs, I.base.tbls⟩, ⟨m, hn.sameBut hs (Ne.symm (cne x c hc)), fun j y v' e1 e2 e3 => ?_⟩, fun y c' e => ?_, I.free, I.freeC, fun p hp => ?_, tracked ⟨oc, hoc, I.freeC x c hc⟩ hs, by simpa using I.len⟩ ⟨c, hs, .inr hc⟩
    · exact (hs.2 b (Nat.ne_of_lt (Nat.lt_of_lt_of_le (Heap.lt_size e) (I.ok.cab x c hfn hc)))).trans (I.base.keep b o e n hb hx)
    · obtain ⟨sl, e1⟩ := I.base.slot b o e n hb hx
      exact ⟨sl, (hs.2 b (Nat.ne_of_lt (Nat.lt_of_lt_of_le (Heap.lt_size e) (I.ok.cab x c hfn hc)))).trans e1⟩
    · obtain ⟨o', e1⟩ := I.base.there b o e hx
      exact ⟨o', (hs.2 b (Nat.ne_of_lt (Nat.lt_of_lt_of_le (Heap.lt_size e) (I.ok.cab x c hfn hc)))).trans e1⟩
    · by_cases hj : j = i
      · subst hj
        rw [hi] at e1; cases e1
        rw [List.getElem?_set_self hiσ] at e2
        cases e2
        exact ⟨u, r, .inr ⟨.inl hk, c, hc, hc'⟩⟩
      · rw [List.getElem?_set_ne (Ne.symm hj)] at e2
        obtain ⟨u', r', q⟩ := hl j y v' e1 e2 e3
        refine ⟨u', r', ?_⟩
        rcases q with q | ⟨k, c', e, z'⟩
        · exact .inl q
        · refine .inr ⟨k, c', e, z'.sameBut hs ?_⟩
          rintro rfl
          exact hj (nodup_ix hN e1 (I.ok.inj _ _ _ e hc ▸ hi))
    · by_cases hcc : c' = c
      · subst hcc; exact ⟨_, hc'⟩
      · obtain ⟨w2, z2⟩ := I.cell y c' e
        exact ⟨w2, z2.sameBut hs hcc⟩
    · obtain ⟨e, n, ne, nf, d⟩ := I.pin p hp
      refine ⟨(hs.2 p.1 ?_).trans e, n, ne, nf, d⟩
      intro q
      rw [q, hoc] at e
      have q' : oc = p.2 := Option.some.inj e
      exact d w' (by rw [← q']; exact hocd)
theorem store_ok {M : Model} {A : Around} {E : Value → Shared → Prop} {i : Nat} {x : Str} {v : V} {u : Value} {Q : Unit → Shared → Prop} (I : Inv X pins σ H s) (hN : X.N.Nodup) (hi : X.N[i]? = some x) (hx : Loc X.env.scope x) (r : RelV v u)
    (h : ∀ s', Inv X pins (σ.set i (some v)) H s' → Q () s') (hf : X.fn x = true ∨ X.env.scope.names.lookup x = some .local := by first | exact .inl rfl | exact .inr rfl | assumption) : wpAny M A (storeName X.env x u) Q E s :=
  store_ok2 I hN hi hx r (fun s' I' _ => h s' I') hf
theorem Inv.call' {s' : Shared} {ch : List Addr} (I : Inv X pins σ H s) (ho : s'.os = s.os) (u : Un (frs X.stack) ch H H' s.heap s'.heap) (hok : HOk X.prog X.w H' s'.heap) (hg : AllBare s'.gens)
    (hch : ∀ b ∈ ch, (b ∈ X.ex ∨ X.s₀.heap.objs.size ≤ b) ∧ b ≠ X.env.locals ∧ (∀ x c, X.env.cells.lookup x = some c → c ≠ b) ∧ ∀ p ∈ X.pn ++ pins, p.1 ≠ b) : Inv X pins σ H' s' := by
  obtain ⟨h', g', d', t', o'⟩ := s'
  have e : o' = s.os := ho
  subst e
  exact I.call (g' := g') (t' := t') (d' := d') u hok hg hch
end

/-! ### the judgements -/
abbrev XK := Value → Option Addr → Hp → Prop
abbrev St := List (Option V)
abbrev VK := V → Hp → Prop
abbrev TE := St → Hp → VK → Prop
abbrev TT := St → Hp → (Bool → Hp → Prop) → Prop
abbrev TA := St → Hp → (List V → Hp → Prop) → Prop
structure Ends where
  nx : St → Hp → Prop
  rt : VK
  bk : St → Hp → Prop := fun _ _ => False
  ct : St → Hp → Prop := fun _ _ => False
abbrev TS := Ends → St → Hp → Prop

def EP (X : Cx) (pins : List (Addr × Obj)) (σ : St) (Q : VK) (u : Value) (s' : Shared) : Prop := ∃ v H', Inv X pins σ H' s' ∧ RelV v u ∧ Q v H'
def TP (X : Cx) (pins : List (Addr × Obj)) (σ : St) (Q : Bool → Hp → Prop) (b : Bool) (s' : Shared) : Prop := ∃ H', Inv X pins σ H' s' ∧ Q b H'
def AP (X : Cx) (pins : List (Addr × Obj)) (σ : St) (Q : List V → Hp → Prop) (us : List Value) (s' : Shared) : Prop := ∃ vs H', Inv X pins σ H' s' ∧ Vals vs us ∧ Q vs H'
def SP (X : Cx) (pins : List (Addr × Obj)) (D : Ends) (f : Flow) (s' : Shared) : Prop :=
  match f with
  | .next => ∃ σ' H', Inv X pins σ' H' s' ∧ D.nx σ' H'
  | .brk => ∃ σ' H', Inv X pins σ' H' s' ∧ D.bk σ' H'
  | .cont => ∃ σ' H', Inv X pins σ' H' s' ∧ D.ct σ' H'
  | .ret u => ∃ v σ' H', Inv X pins σ' H' s' ∧ RelV v u ∧ D.rt v H'

def PE (X : Cx) (e : Expr) (t : TE) : Prop :=
  ∀ (pins : List (Addr × Obj)) (s : Shared) (σ : St) (H : Hp) (Q : VK), Inv X pins σ H s → t σ H Q → wpAny (model X.prog X.w) X.A (eval e X.env) (EP X pins σ Q) X.xe s
def PT (X : Cx) (e : Expr) (t : TT) : Prop :=
  ∀ (pins : List (Addr × Obj)) (s : Shared) (σ : St) (H : Hp) (Q : Bool → Hp → Prop), Inv X pins σ H s → t σ H Q → wpAny (model X.prog X.w) X.A (isTrue e X.env (eval e X.env)) (TP X pins σ Q) X.xe s
def PW (X : Cx) (e : Expr) (t : TT) : Prop :=
  ∀ (whole : Sem Value) (pins : List (Addr × Obj)) (s : Shared) (σ : St) (H : Hp) (Q : Bool → Hp → Prop), Inv X pins σ H s → t σ H Q → wpAny (model X.prog X.w) X.A (isTrue e X.env whole) (TP X pins σ Q) X.xe s
theorem PW.pt {X : Cx} {e : Expr} {t : TT} (h : PW X e t) : PT X e t := h _
def PA (X : Cx) (es : List Expr) (t : TA) : Prop :=
  ∀ (pos : Pos) (pins : List (Addr × Obj)) (s : Shared) (σ : St) (H : Hp) (Q : List V → Hp → Prop), Inv X pins σ H s → t σ H Q → wpAny (model X.prog X.w) X.A (spliced (backTo pos (starEach es X.env))) (AP X pins σ Q) X.xe s
def PS (X : Cx) (st : Stmt) (t : TS) : Prop :=
  ∀ (pins : List (Addr × Obj)) (s : Shared) (σ : St) (H : Hp) (D : Ends), Inv X pins σ H s → t D σ H → wpAny (model X.prog X.w) X.A (exec st X.env) (SP X pins D) X.xe s
def PSs (X : Cx) (st : List Stmt) (t : TS) : Prop :=
  ∀ (pins : List (Addr × Obj)) (s : Shared) (σ : St) (H : Hp) (D : Ends), Inv X pins σ H s → t D σ H → wpAny (model X.prog X.w) X.A (execs st X.env) (SP X pins D) X.xe s
theorem thn {α : Type} {t : Sem α} {Q Q' : α → Shared → Prop} {M : Model} {A : Around} {E : Value → Shared → Prop} {s : Shared} (h : wpAny M A t Q E s) (hQ : ∀ a s, Q a s → Q' a s) : wpAny M A t Q' E s := wpAny_mono h hQ fun _ _ x => x
end L2

namespace L2
open PySem PySem.Spec PyProof.Rows
section
variable {X : Cx}

/-! ### names and constants -/
def tVar (i : Nat) : TE := fun σ H Q => ∃ v, σ[i]? = some (some v) ∧ Q v H
def tC (v : V) : TE := fun _ H Q => Q v H
theorem pe_var {i : Nat} {x : Str} {pos : Pos} (hN : X.N[i]? = some x) (hv : Vis X.env.scope x) (hd : (x == ("__debug__" : Str)) = false := by decide) (hcd : (x == ("__classdict__" : Str)) = false := by decide) : PE X (.Name x pos) (tVar i) := by
  intro pins s σ H Q I h
  obtain ⟨v, e, h⟩ := h
  obtain ⟨m, hn, hl⟩ := I.loc
  obtain ⟨u, r, l⟩ := hl i x v hN e hv
  have fin : EP X pins σ Q u s := ⟨v, H, I, r, h⟩
  rcases l with ⟨hk, hm⟩ | ⟨hk, c, hc, hcell⟩
  · exact wpAny_Name (wpAny_loadName_local I.ok.kind hk hn hm fin) hd
  · rcases hk with hk | hk
    · exact wpAny_Name (wpAny_loadName_cell I.ok.kind hk hc hcell fin) hd
    · exact wpAny_Name (wpAny_loadName_free I.ok.kind hk hc hcell fin hcd) hd
theorem pe_int {i j pos} : PE X (.Constant (.int i) j pos) (tC (.int i)) := fun _ _ _ H _ I h => wpAny_Constant_int ⟨.int i, H, I.tok _, ⟨_, rfl⟩, h⟩
theorem pe_bl {b j pos} : PE X (.Constant (.bool b) j pos) (tC (.bl b)) := fun _ _ _ H _ I h => Constant_bool ⟨.bl b, H, I, rfl, h⟩
theorem pe_non {j pos} : PE X (.Constant .none j pos) (tC .non) := fun _ _ _ H _ I h => Constant_none ⟨.non, H, I, rfl, h⟩
theorem pe_str {x j pos} : PE X (.Constant (.str x) j pos) (tC (.str x)) := fun _ _ _ H _ I h => Calls.Constant_str ⟨.str x, H, I.tok _, ⟨_, rfl⟩, h⟩

def Gl (X : Cx) (x : Str) : Prop := X.env.kindOf x = some .globalImplicit
theorem ld_glob {E : Value → Shared → Prop} {pins : List (Addr × Obj)} {s : Shared} {σ : St} {H : Hp} {x : Str} {u : Value} {pos : Pos} {Q : Value → Shared → Prop} (I : Inv X pins σ H s) (hg : Gl X x) (hm : X.mg x = some u) (h : Q u s)
    (hd : (x == ("__debug__" : Str)) = false := by decide) : wpAny (model X.prog X.w) X.A (eval (.Name x pos) X.env) Q E s :=
  Calls.Name_function_global I.ok.kind hg (Calls.loadGlobal_global (by rw [I.ok.glob]; exact I.mod.glob.keeps I.bk) hm h) hd
theorem ld_blt {E : Value → Shared → Prop} {pins : List (Addr × Obj)} {s : Shared} {σ : St} {H : Hp} {x : Str} {u : Value} {pos : Pos} {Q : Value → Shared → Prop} (I : Inv X pins σ H s) (hg : Gl X x) (hm : X.mg x = none) (hv : bootBuiltins x = some u) (h : Q u s)
    (hn : x ≠ "__name__" := by decide) (hd : (x == ("__debug__" : Str)) = false := by decide) : wpAny (model X.prog X.w) X.A (eval (.Name x pos) X.env) Q E s := by
  obtain ⟨mb, h1, h2⟩ := I.mod.blt
  exact Calls.Name_function_global I.ok.kind hg (Calls.loadGlobal_builtin (by rw [I.ok.glob]; exact I.mod.glob.keeps I.bk) hm (by rw [I.ok.blt]; exact h1.keeps I.bk) ((h2 x hn).trans hv) h) hd
theorem pe_glob {x : Str} {v : V} {u : Value} {pos : Pos} (hg : Gl X x) (hm : X.mg x = some u) (r : RelV v u) (hd : (x == ("__debug__" : Str)) = false := by decide) : PE X (.Name x pos) (tC v) :=
  fun _ _ _ H _ I h => ld_glob I hg hm ⟨v, H, I, r, h⟩ hd
theorem pe_bltn {x : Str} {v : V} {u : Value} {pos : Pos} (hg : Gl X x) (hm : X.mg x = none) (hv : bootBuiltins x = some u) (r : RelV v u) (hn : x ≠ "__name__" := by decide) (hd : (x == ("__debug__" : Str)) = false := by decide) : PE X (.Name x pos) (tC v) :=
  fun _ _ _ H _ I h => ld_blt I hg hm hv ⟨v, H, I, r, h⟩ hn hd

/-! ### arithmetic -/
def t2I (ta tb : TE) (k : Int → Int → Hp → Prop) : St → Hp → Prop := fun σ H => ta σ H fun x H1 => tb σ H1 fun y H2 => ∃ i j, x = .int i ∧ y = .int j ∧ k i j H2
variable {a b : Expr} {ta tb : TE} {pos : Pos}
/-! ### comparisons -/
def tCmp (p : Int → Int → Bool) (ta tb : TE) : TE := fun σ H Q => t2I ta tb (fun i j H2 => Q (.bl (p i j)) H2) σ H
abbrev tLt : TE → TE → TE := tCmp fun i j => decide (i < j)
abbrev tLe : TE → TE → TE := tCmp fun i j => decide (i ≤ j)
abbrev tGt : TE → TE → TE := tCmp fun i j => decide (j < i)
abbrev tGe : TE → TE → TE := tCmp fun i j => decide (j ≤ i)
abbrev tEqI : TE → TE → TE := tCmp fun i j => decide (i = j)
abbrev tNeI : TE → TE → TE := tCmp fun i j => !decide (i = j)
/-! ### and, or, not -/
variable {tA tB' : TT} {rest : List Expr}
def tAnd (t u : TT) : TT := fun σ H Q => t σ H fun c H1 => if c = true then u σ H1 Q else Q false H1
def tOr (t u : TT) : TT := fun σ H Q => t σ H fun c H1 => if c = true then Q true H1 else u σ H1 Q
def tNot (t : TT) : TT := fun σ H Q => t σ H fun c H1 => Q (!c) H1
theorem pw_and1 (ha : PT X a tA) : PW X (.BoolOp .And [a] pos) tA := by
  intro wh pins s σ H Q I h
  refine isTrue_and (thn (ha pins s σ H Q I h) fun c s1 e => ?_)
  cases c with
  | true => exact isTrue_and_nil e
  | false => exact e
theorem pw_or1 (ha : PT X a tA) : PW X (.BoolOp .Or [a] pos) tA := by
  intro wh pins s σ H Q I h
  refine isTrue_or (thn (ha pins s σ H Q I h) fun c s1 e => ?_)
  cases c with
  | false => exact isTrue_or_nil e
  | true => exact e
theorem pw_and (ha : PT X a tA) (hb : PW X (.BoolOp .And (b :: rest) pos) tB') : PW X (.BoolOp .And (a :: b :: rest) pos) (tAnd tA tB') := by
  intro wh pins s σ H Q I h
  refine isTrue_and (thn (ha pins s σ H _ I h) fun c s1 ⟨H1, I1, q1⟩ => ?_)
  cases c with
  | true => exact hb wh pins s1 σ H1 Q I1 q1
  | false => exact ⟨H1, I1, q1⟩
theorem pw_or (ha : PT X a tA) (hb : PW X (.BoolOp .Or (b :: rest) pos) tB') : PW X (.BoolOp .Or (a :: b :: rest) pos) (tOr tA tB') := by
  intro wh pins s σ H Q I h
  refine isTrue_or (thn (ha pins s σ H _ I h) fun c s1 ⟨H1, I1, q1⟩ => ?_)
  cases c with
  | true => exact ⟨H1, I1, q1⟩
  | false => exact hb wh pins s1 σ H1 Q I1 q1
theorem pt_not (ha : PT X a tA) : PT X (.UnaryOp .Not a pos) (tNot tA) := by
  intro pins s σ H Q I h
  exact isTrue_not (ha pins s σ H (fun c H1 => Q (!c) H1) I h)
def tAndV (ta tb : TE) : TE := fun σ H Q => ta σ H fun x H1 => ∃ c, x = .bl c ∧ if c = true then tb σ H1 Q else Q (.bl false) H1
def tOrV (ta tb : TE) : TE := fun σ H Q => ta σ H fun x H1 => ∃ c, x = .bl c ∧ if c = true then Q (.bl true) H1 else tb σ H1 Q
def tNotV (ta : TE) : TE := fun σ H Q => ta σ H fun x H1 => ∃ c, x = .bl c ∧ Q (.bl (!c)) H1
theorem pe_one {op} {t : TE} (h : PE X a t) : PE X (.BoolOp op [a] pos) t := fun pins s σ H Q I hw => BoolOp_one (h pins s σ H Q I hw)
theorem pe_and (ha : PE X a ta) (hb : PE X (.BoolOp .And (b :: rest) pos) tb) : PE X (.BoolOp .And (a :: b :: rest) pos) (tAndV ta tb) := by
  intro pins s σ H Q I h
  refine BoolOp_and (thn (ha pins s σ H _ I h) fun v s1 ⟨x, H1, I1, r1, q1⟩ => ?_)
  obtain ⟨c, rfl, q1⟩ := q1
  cases r1
  refine wpAny_truthy_bool ?_
  cases c with
  | true => exact hb pins s1 σ H1 Q I1 q1
  | false => exact ⟨.bl false, H1, I1, rfl, q1⟩
theorem pe_or (ha : PE X a ta) (hb : PE X (.BoolOp .Or (b :: rest) pos) tb) : PE X (.BoolOp .Or (a :: b :: rest) pos) (tOrV ta tb) := by
  intro pins s σ H Q I h
  refine BoolOp_or (thn (ha pins s σ H _ I h) fun v s1 ⟨x, H1, I1, r1, q1⟩ => ?_)
  obtain ⟨c, rfl, q1⟩ := q1
  cases r1
  refine wpAny_truthy_bool ?_
  cases c with
  | false => exact hb pins s1 σ H1 Q I1 q1
  | true => exact ⟨.bl true, H1, I1, rfl, q1⟩
theorem pe_not (ha : PE X a ta) : PE X (.UnaryOp .Not a pos) (tNotV ta) := by
  intro pins s σ H Q I h
  refine UnaryOp_ (thn (ha pins s σ H _ I h) fun v s1 ⟨x, H1, I1, r1, q1⟩ => ?_)
  obtain ⟨c, rfl, q1⟩ := q1
  cases r1
  exact not_of (wpAny_truthy_bool ⟨.bl (!c), H1, I1, rfl, q1⟩)
end
end L2

namespace L2
open PySem PySem.Spec PyProof.Rows

/-! ### a list, a tuple that is read: tracked, frozen, or an object of the module -/
def SqL (K : PySem.W.Frag) (H : Hp) (a : Addr) (xs : List V) : Prop :=
  Rd H a (.lst xs) ∨
    ∃ (o : Obj) (its : Array Value) (n : Nat), K.lookup a = some o ∧ o.cls = .type "list" ∧ o.dict = none ∧ o.data = .seq its n ∧ its.size ≤ sizeLine ∧ Vals xs its.toList
def SqT (K : PySem.W.Frag) (H : Hp) (a : Addr) (xs : List V) : Prop :=
  Rd H a (.tup xs) ∨
    ∃ (o : Obj) (its : Array Value) (n : Nat), K.lookup a = some o ∧ o.cls = .type "tuple" ∧ o.data = .seq its n ∧ its.size ≤ sizeLine ∧ Vals xs its.toList
def absV : Value → Option V
  | .none => some .non
  | .bool b => some (.bl b)
  | .int i _ => some (.int i)
  | .str x _ => some (.str x)
  | .bytes b _ => some (.byt b)
  | .float b _ => some (.flt b)
  | .ref a => some (.ref a)
  | .type n => some (.ty n)
  | _ => none
theorem RelV.abs {x : V} {u : Value} (r : RelV x u) : absV u = some x := by
  cases x with
  | non => cases r; rfl
  | bl _ => cases r; rfl
  | int _ => obtain ⟨t, rfl⟩ := r; rfl
  | str _ => obtain ⟨t, rfl⟩ := r; rfl
  | byt _ => obtain ⟨t, rfl⟩ := r; rfl
  | flt _ => obtain ⟨t, rfl⟩ := r; rfl
  | ref _ => cases r; rfl
  | ty _ => cases r; rfl
theorem RelV.inj {x y : V} {u : Value} (r : RelV x u) (q : RelV y u) : x = y := Option.some.inj (r.abs.symm.trans q.abs)
theorem Vals.inj : ∀ {xs ys : List V} {us : List Value}, Vals xs us → Vals ys us → xs = ys
  | _, _, _, .nil, .nil => rfl
  | _, _, _, .cons r t, .cons r' t' => by rw [r.inj r', Vals.inj t t']
section
variable {X : Cx} {pins : List (Addr × Obj)} {σ : St} {H : Hp} {s : Shared} {a : Addr} {xs ys : List V}
theorem SqL.of {K : PySem.W.Frag} (h : H a = some (.lst xs)) : SqL K H a xs := .inl (.inl h)
theorem SqT.of {K : PySem.W.Frag} (h : H a = some (.tup xs)) : SqT K H a xs := .inl (.inl h)
theorem Inv.list (I : Inv X pins σ H s) (h : SqL X.K H a xs) : ∃ its : List Value, Vals xs its ∧ PlainL s.heap a its.toArray ∧ xs.length ≤ sizeLine := by
  rcases h with h | ⟨o, its, n, hk, hc, hd, hs, hz, r⟩
  · obtain ⟨z, its, n, r, e⟩ := h.ok I.hok
    exact ⟨its, r, ⟨_, n, e, rfl, rfl, rfl⟩, z⟩
  · refine ⟨its.toList, r, ⟨o, n, I.kIn a o hk, hc, hd, by simpa using hs⟩, ?_⟩
    have e := r.length
    simp only [Array.length_toList] at e
    omega
theorem Inv.tuple (I : Inv X pins σ H s) (h : SqT X.K H a xs) : ∃ its : List Value, Vals xs its ∧ IsTup s.heap a its.toArray ∧ xs.length ≤ sizeLine := by
  rcases h with h | ⟨o, its, n, hk, hc, hs, hz, r⟩
  · obtain ⟨z, its, r, p⟩ := h.ok I.hok
    exact ⟨its, r, p, z⟩
  · refine ⟨its.toList, r, ⟨o, I.kIn a o hk, hc, n, by simpa using hs⟩, ?_⟩
    have e := r.length
    simp only [Array.length_toList] at e
    omega
end

/-! ### another wish about exceptions -/
abbrev Cx.wish (X : Cx) (E : Value → Shared → Prop) : Cx := { X with xe := E }
abbrev Cx.nox (X : Cx) : Cx := X.wish fun _ _ => False
theorem Cx.Ok.wish {X : Cx} (ok : X.Ok) (E : Value → Shared → Prop) : (X.wish E).Ok :=
  ⟨ok.mod, ok.kind, ok.glob, ok.blt, ok.above, ok.inj, ok.has, ok.cab, ok.hd, ok.frames, ok.stk, ok.exf, ok.bs, ok.bsz, ok.noex, ok.exfs, ok.funs, ok.frf⟩
theorem Cx.Ok.unwish {X : Cx} {E : Value → Shared → Prop} (ok : (X.wish E).Ok) : X.Ok :=
  ⟨ok.mod, ok.kind, ok.glob, ok.blt, ok.above, ok.inj, ok.has, ok.cab, ok.hd, ok.frames, ok.stk, ok.exf, ok.bs, ok.bsz, ok.noex, ok.exfs, ok.funs, ok.frf⟩
section
variable {X : Cx} {pins : List (Addr × Obj)} {σ : St} {H : Hp} {s : Shared} {E : Value → Shared → Prop}
theorem Inv.wish (I : Inv X pins σ H s) (E : Value → Shared → Prop) : Inv (X.wish E) pins σ H s := ⟨I.ok.wish E, I.os, I.bare, I.base, I.loc, I.cell, I.free, I.freeC, I.pin, I.hok, I.len⟩
theorem Inv.unwish (I : Inv (X.wish E) pins σ H s) : Inv X pins σ H s := ⟨I.ok.unwish, I.os, I.bare, I.base, I.loc, I.cell, I.free, I.freeC, I.pin, I.hok, I.len⟩
theorem SP.unwish {D : Ends} {f : Flow} {s' : Shared} (h : SP (X.wish E) pins D f s') : SP X pins D f s' := by
  cases f with
  | next => obtain ⟨σ', H', I, q⟩ := h; exact ⟨σ', H', I.unwish, q⟩
  | brk => obtain ⟨σ', H', I, q⟩ := h; exact ⟨σ', H', I.unwish, q⟩
  | cont => obtain ⟨σ', H', I, q⟩ := h; exact ⟨σ', H', I.unwish, q⟩
  | ret u => obtain ⟨v, σ', H', I, r, q⟩ := h; exact ⟨v, σ', H', I.unwish, r, q⟩
theorem PE.nox {e : Expr} {t : TE} (h : PE X.nox e t) : PE X e t := fun pins s σ H Q I hw =>
  wpAny_mono (h pins s σ H Q (I.wish _) hw) (fun _ _ ⟨v, H', I', r, q⟩ => ⟨v, H', I'.unwish, r, q⟩) fun _ _ z => False.elim z
theorem PT.nox {e : Expr} {t : TT} (h : PT X.nox e t) : PT X e t := fun pins s σ H Q I hw =>
  wpAny_mono (h pins s σ H Q (I.wish _) hw) (fun _ _ ⟨H', I', q⟩ => ⟨H', I'.unwish, q⟩) fun _ _ z => False.elim z
theorem PSs.nox {st : List Stmt} {t : TS} (h : PSs X.nox st t) : PSs X st t := fun pins s σ H D I hw =>
  wpAny_mono (h pins s σ H D (I.wish _) hw) (fun _ _ q => q.unwish) fun _ _ z => False.elim z
end

/-! ### blocks and small statements -/
section
variable {X : Cx} {st : Stmt} {rest : List Stmt} {t u : TS} {e : Expr} {te : TE} {pos : Pos}
def tNext : TS := fun D σ H => D.nx σ H
def tSeq (t u : TS) : TS := fun D σ H => t { D with nx := u D } σ H
theorem pss_nil : PSs X [] tNext := fun _ _ σ H _ I h => wpAny_execs_nil ⟨σ, H, I, h⟩
theorem pss_cons (h1 : PS X st t) (h2 : PSs X rest u) : PSs X (st :: rest) (tSeq t u) := by
  intro pins s σ H D I h
  refine wpAny_execs_cons (thn (h1 pins s σ H { D with nx := u D } I h) fun f s1 q => ?_)
  cases f with
  | next =>
    obtain ⟨σ', H', I', q⟩ := q
    exact h2 pins s1 σ' H' D I' q
  | ret v => exact q
  | brk => exact q
  | cont => exact q
theorem pss_one (h1 : PS X st t) : PSs X [st] t := by
  intro pins s σ H D I h
  refine wpAny_execs_cons (thn (h1 pins s σ H D I h) fun f s1 q => ?_)
  cases f with
  | next => exact wpAny_execs_nil q
  | ret v => exact q
  | brk => exact q
  | cont => exact q
def tRet (te : TE) : TS := fun D σ H => te σ H D.rt
theorem ps_ret (he : PE X e te) : PS X (.Return (some e) pos) (tRet te) := by
  intro pins s σ H D I h
  exact wpAny_Return_some (thn (he pins s σ H _ I h) fun v s1 ⟨x, H1, I1, r1, q1⟩ => ⟨x, σ, H1, I1, r1, q1⟩)
def tIfS (c : TT) (t u : TS) : TS := fun D σ H => c σ H fun b H1 => if b = true then t D σ H1 else u D σ H1
theorem ps_if {c : Expr} {a b : List Stmt} {tc : TT} (hc : PT X c tc) (ha : PSs X a t) (hb : PSs X b u) : PS X (.If c a b pos) (tIfS tc t u) := by
  intro pins s σ H D I h
  refine wpAny_If (thn (hc pins s σ H _ I h) fun d s1 ⟨H1, I1, q1⟩ => ?_)
  cases d with
  | true => exact ha pins s1 σ H1 D I1 q1
  | false => exact hb pins s1 σ H1 D I1 q1
end

/-! ### targets -/
abbrev TG := V → St → Hp → (St → Hp → Prop) → Prop
abbrev TGs := List V → St → Hp → (St → Hp → Prop) → Prop
def PG (X : Cx) (target : Expr) (t : TG) : Prop :=
  ∀ (pins : List (Addr × Obj)) (s : Shared) (σ : St) (H : Hp) (v : V) (u : Value) (Q : St → Hp → Prop), Inv X pins σ H s → RelV v u → t v σ H Q →
    wpAny (model X.prog X.w) X.A (assign target X.env u) (fun _ s' => ∃ σ' H', Inv X pins σ' H' s' ∧ Q σ' H') X.xe s
abbrev TSet := V → V → V → Hp → (Hp → Prop) → Prop
abbrev TIp := V → V → Hp → VK → Prop
section
variable {X : Cx} {pos : Pos}
def gName (i : Nat) : TG := fun v σ H Q => Q (σ.set i (some v)) H
theorem pg_name {i : Nat} {x : Str} (hN : X.N.Nodup) (hi : X.N[i]? = some x) (hx : Loc X.env.scope x) (hf : X.fn x = true ∨ X.env.scope.names.lookup x = some .local := by first | exact .inl rfl | exact .inr rfl | assumption) : PG X (.Name x pos) (gName i) := by
  intro pins s σ H v u Q I r h
  exact wpAny_assign_Name (store_ok I hN hi hx r (fun s' I' => ⟨_, H, I', h⟩) hf)
def tAsg (te : TE) (g : TG) : TS := fun D σ H => te σ H fun x H1 => g x σ H1 D.nx
theorem ps_set {i : Nat} {x : Str} {e : Expr} {te : TE} {pos' : Pos} (hN : X.N.Nodup) (hi : X.N[i]? = some x) (hx : Loc X.env.scope x) (he : PE X e te) (hs : swapsWith e (some (.Name x pos')) pos.line X.env = pure false := by rfl) (hf : X.fn x = true ∨ X.env.scope.names.lookup x = some .local := by first | exact .inl rfl | exact .inr rfl | assumption) :
    PS X (.Assign [.Name x pos'] e pos) (tAsg te (gName i)) := by
  intro pins s σ H D I h
  refine wpAny_Assign_Name (thn (he pins s σ H _ I h) fun v s1 ⟨y, H1, I1, r1, q1⟩ => ?_) hs
  exact store_ok I1 hN hi hx r1 (fun s2 I2 => ⟨_, H1, I2, q1⟩) hf
end

/-! ### while -/
section
variable {X : Cx} {pos : Pos}
end

/-! ### what a loop or a comprehension walks -/
structure It where
  go : Nat → Hp → Prop
  yld : Nat → Hp → V → Hp → Prop
  stop : Nat → Hp → Prop
def FpOk (X : Cx) (pins : List (Addr × Obj)) (H : Hp) (b : Addr) : Prop :=
  H b = none ∧ b ≠ X.env.locals ∧ b ∉ X.fs ∧ (b ∈ X.ex ∨ X.s₀.heap.objs.size ≤ b) ∧ (∀ x c, X.env.cells.lookup x = some c → c ≠ b) ∧ ∀ p ∈ X.pn ++ pins, p.1 ≠ b
theorem Inv.fpOk {X : Cx} {pins : List (Addr × Obj)} {σ : St} {H H' : Hp} {s : Shared} {b : Addr} (I : Inv X pins σ H s) (hb : s.heap.objs.size ≤ b) (hn : H' b = none) : FpOk X pins H' b := by
  refine ⟨hn, Nat.ne_of_gt (Nat.lt_of_lt_of_le I.lt hb), I.nofs hb, .inr (Nat.le_trans I.sz hb), fun x c e z => ?_, fun p hp z => ?_⟩
  · obtain ⟨v, q⟩ := I.cell x c e
    exact absurd (Nat.lt_of_lt_of_le q.lt (by rw [z]; exact hb)) (Nat.lt_irrefl _)
  · exact absurd (Nat.lt_of_lt_of_le (Heap.lt_size (I.pin p hp).1) (by rw [z]; exact hb)) (Nat.lt_irrefl _)
structure Turn (P : Program) (w : World) (K : PySem.W.Frag) (tg : Expr) (J : It) (fp : List Addr) (it : Addr) (tn : Nat → Heap → Prop) : Prop where
  mem : it ∈ fp
  obj : ∀ i h, tn i h → ∀ b ∈ fp, ∃ o, h.get? b = some o ∧ ∀ v, o.data ≠ .cell v
  keep : ∀ i h h', tn i h → (∀ b ∈ fp, ∀ o, h.get? b = some o → h'.get? b = some o) → tn i h'
  item : ∀ (X : Cx), X.prog = P → X.w = w → X.K = K → X.calm = true → ∀ (i : Nat) (pins : List (Addr × Obj)) (s : Shared) (σ : St) (H : Hp) (E : Value → Shared → Prop), Inv X pins σ H s → (∀ b ∈ fp, FpOk X pins H b) → tn i s.heap → J.go i H →
    wpAny (model P w) X.A (pyNext (.ref it)) (fun r s1 => ∃ u, r = some u ∧
      wpAny (model P w) X.A (letOwnedTupleGo tg (.ref it) u) (fun _ s2 => ∃ x H', Inv X pins σ H' s2 ∧ RelV x u ∧ J.yld i H x H' ∧ tn (i + 1) s2.heap ∧ ∀ b ∈ fp, H' b = none) E s1) E s
  done : ∀ (X : Cx), X.prog = P → X.w = w → X.K = K → X.calm = true → ∀ (i : Nat) (pins : List (Addr × Obj)) (s : Shared) (σ : St) (H : Hp) (E : Value → Shared → Prop), Inv X pins σ H s → (∀ b ∈ fp, FpOk X pins H b) → tn i s.heap → J.stop i H →
    wpAny (model P w) X.A (pyNext (.ref it)) (fun r s1 => r = none ∧ Inv X pins σ H s1) E s
  self : ∀ (A : Around) (i : Nat) (s : Shared) (Q : Value → Shared → Prop) (E : Value → Shared → Prop), tn i s.heap → Q (.ref it) s → wpAny (model P w) A (pyIter (.ref it)) Q E s
abbrev TI := St → Hp → (It → Hp → Prop) → Prop
def PIE (X : Cx) (pins : List (Addr × Obj)) (σ : St) (tg : Expr) (R : It → Hp → Prop) (itv : Value) (s2 : Shared) : Prop :=
  ∃ (it : Addr) (fp : List Addr) (tn : Nat → Heap → Prop) (J : It) (H' : Hp), itv = .ref it ∧ Inv X pins σ H' s2 ∧ Turn X.prog X.w X.K tg J fp it tn ∧ tn 0 s2.heap ∧ (∀ b ∈ fp, FpOk X pins H' b) ∧ R J H'
def PI (X : Cx) (tg iter : Expr) (wi : TI) : Prop :=
  ∀ (pins : List (Addr × Obj)) (s : Shared) (σ : St) (H : Hp) (R : It → Hp → Prop), Inv X pins σ H s → wi σ H R →
    wpAny (model X.prog X.w) X.A (eval iter X.env) (fun v s1 => wpAny (model X.prog X.w) X.A (pyIter v) (PIE X pins σ tg R) X.xe s1) X.xe s

theorem go_of {M : Model} {A : Around} {E : Value → Shared → Prop} {s : Shared} {tg : Expr} {it : Addr} {u : Value} {o : Obj} {n : String} {vs : Array Value} {Q : Unit → Shared → Prop} (ho : s.heap.get? it = some o) (hc : o.cls = .type n) (hd : o.data = .fields vs)
    (hn : ["enumerate", "zip", "dict_itemiterator", "dict_reverseitemiterator", "odict_iterator", "itertools.zip_longest", "itertools.pairwise"].contains n = false) (hQ : Q () s) : wpAny M A (letOwnedTupleGo tg (.ref it) u) Q E s := by
  unfold letOwnedTupleGo
  cases tg <;> first
    | exact wpAny_pure hQ
    | (cases u <;> first
        | exact wpAny_pure hQ
        | (refine wpAny_bind (wpAny_load ho ?_)
           rw [hc, hd]
           show wpAny M A (if (["enumerate", "zip", "dict_itemiterator", "dict_reverseitemiterator", "odict_iterator", "itertools.zip_longest", "itertools.pairwise"].contains n && vs[0]? == some (rawInt _)) = true then _ else _) Q E s
           rw [if_neg (by intro h; rw [hn, Bool.false_and] at h; cases h)]
           exact wpAny_pure hQ))

def Itr (lo : Int) (n : Nat) : It := ⟨fun i _ => i < n, fun i H x H' => H' = H ∧ x = .int (lo + i), fun i _ => n ≤ i⟩
theorem turn_range {P : Program} {w : World} {K : PySem.W.Frag} {tg : Expr} (it : Addr) (lo : Int) (n : Nat) : Turn P w K tg (Itr lo n) [it] it (fun i h => IsRangeIter h it (lo + (i : Nat) * 1) ((n : Int) - (i : Nat)) 1) where
  mem := by simp
  obj := fun i h st b hb => by
    have e : b = it := by simpa using hb
    subst e
    exact ⟨_, st, fun v z => by
      have z' : Data.fields _ = Data.cell v := z
      cases z'⟩
  keep := fun i h h' st k => k it (by simp) _ st
  item := by
    intro X hP hw hK hc i pins s σ H E I hf st hg
    subst hP hw hK
    obtain ⟨f0, f1, f2, f3, f4, f5⟩ := hf it (by simp)
    have W := Walks.range (prog := X.prog) (w := X.w) (I.ok.hd hc) it lo 1 n
    refine W.item i s _ _ hg st fun v h' tk hv st' kk => ?_
    obtain ⟨t, rfl⟩ := hv
    have I1 : Inv X pins σ H { s with heap := h', toks := tk } := I.turned (fun b o hb e => kk b o (by simpa using hb) e) f0 f1 f3 f4 f5
    refine ⟨_, rfl, go_of (s := { s with heap := h', toks := tk }) (n := "range_iterator") st' rfl rfl (by decide) ⟨.int (lo + i), H, I1, ⟨t, ?_⟩, ⟨rfl, rfl⟩, st', fun b hb => (hf b hb).1⟩⟩
    rw [Int.mul_one]
  done := by
    intro X hP hw hK hc i pins s σ H E I hf st hg
    subst hP hw hK
    obtain ⟨f0, f1, f2, f3, f4, f5⟩ := hf it (by simp)
    exact wpAny_pyNext_range_end (I.ok.hd hc) st (by have : n ≤ i := hg; omega) fun h' eb => ⟨rfl, I.turned (t' := s.toks) (fun b o hb e => eb b o hb e) f0 f1 f3 f4 f5⟩
  self := fun _ _ _ _ _ st h => wpAny_pyIter_rangeiter st h
end L2

namespace L2
open PySem PySem.Spec PyProof.Rows
section
variable {X : Cx} {tg : Expr}
theorem range_it {pins : List (Addr × Obj)} {σ : St} {H : Hp} {s : Shared} {R : It → Hp → Prop} {E : Value → Shared → Prop} {lo hi : Int} {t u v : Tok} {tk : Nat} (I : Inv X pins σ H s) (h1 : -(2 ^ 62) ≤ lo) (h2 : lo < 2 ^ 62) (h3 : -(2 ^ 62) ≤ hi) (h4 : hi < 2 ^ 62)
    (q : R (Itr lo (hi - lo).toNat) H) : wpAny (model X.prog X.w) X.A (pyIter (.ref s.heap.objs.size)) (PIE X pins σ tg R) E { s with heap := s.heap.push { cls := .type "range", data := .fields #[.int lo t, .int hi u, .int 1 v] }, toks := tk } := by
  refine wpAny_pyIter_range (IsRange.new ..) (small_one h1 h2 h3 h4) ?_
  have I1 : Inv X pins σ H { s with heap := s.heap.push { cls := .type "range", data := .fields #[.int lo t, .int hi u, .int 1 v] }, toks := tk } := I.kept fun b o e => Heap.get?_push_of_some _ e
  refine ⟨(s.heap.push { cls := .type "range", data := .fields #[.int lo t, .int hi u, .int 1 v] }).objs.size, [(s.heap.push { cls := .type "range", data := .fields #[.int lo t, .int hi u, .int 1 v] }).objs.size], _, _, H, rfl,
    I1.kept (t' := tk) fun b o e => Heap.get?_push_of_some _ e, turn_range _ lo (hi - lo).toNat, ?_, fun b hb => ?_, q⟩
  · have e1 : lo + ((0 : Nat) : Int) * 1 = lo := by simp
    have e2 : (((hi - lo).toNat : Nat) : Int) - ((0 : Nat) : Int) = Builtin.Range.rangeSize lo hi 1 := by rw [rangeSize_one]; split <;> omega
    show IsRangeIter _ _ (lo + ((0 : Nat) : Int) * 1) ((((hi - lo).toNat : Nat) : Int) - ((0 : Nat) : Int)) 1
    rw [e1, e2]
    exact Heap.get?_push_size _ rfl
  · have e : b = (s.heap.push { cls := .type "range", data := .fields #[.int lo t, .int hi u, .int 1 v] }).objs.size := by simpa using hb
    subst e
    exact I1.fpOk (Nat.le_refl _) (I1.hok.fresh (Nat.le_refl _))
def iRng1 (ta : TA) : TI := fun σ H R => ta σ H fun vs H1 => ∃ j : Int, vs = [.int j] ∧ -(2 ^ 62) ≤ j ∧ j < 2 ^ 62 ∧ R (Itr 0 j.toNat) H1
theorem pi_range1 {a : Expr} {ta : TA} {p pos : Pos} (hg : Gl X "range") (hm : X.mg "range" = none) (ha : PA X [a] ta) (hs : starEach [a] X.env = [(false, eval a X.env)] := by rfl) : PI X tg (.Call (.Name "range" p) [a] [] pos) (iRng1 ta) := by
  intro pins s σ H R I h
  refine Call_ (ld_blt I hg hm boot_range (PyProof.Rows.callWith_type1 (thn (ha pos pins s σ H _ I h) fun us s1 ⟨vs, H1, I1, r1, q1⟩ => ?_) hs rfl))
  obtain ⟨j, e, q1, q2, q⟩ := q1
  subst e
  cases r1 with
  | cons r rr =>
    cases rr
    obtain ⟨t, rfl⟩ := r
    exact call_range_1 (range_it I1 (by omega) (by omega) q1 q2 (by simpa using q))
/-! ### for -/
def tFor (wi : TI) (g : TG) (tb : TS) : TS := fun D σ H => wi σ H fun J H1 => ∃ W : Nat → Nat → St → Hp → Prop, (∃ m, W 0 m σ H1) ∧ ∀ i m σ H, W i m σ H →
  (J.stop i H ∧ D.nx σ H) ∨ (J.go i H ∧ ∃ N : St → Hp → Prop, (∀ σ' H', N σ' H' → ∃ m', m' < m ∧ W (i + 1) m' σ' H') ∧ ∀ x H', J.yld i H x H' → g x σ H' fun σ2 H2 => tb { D with nx := N, ct := N, bk := D.nx } σ2 H2)
def pinsAt (fp : List Addr) (h : Heap) : List (Addr × Obj) := fp.filterMap fun b => (h.get? b).map fun o => (b, o)
theorem mem_pinsAt {fp : List Addr} {h : Heap} {b : Addr} {o : Obj} (hb : b ∈ fp) (e : h.get? b = some o) : (b, o) ∈ pinsAt fp h := List.mem_filterMap.mpr ⟨b, hb, by rw [e]; rfl⟩
theorem of_pinsAt {fp : List Addr} {h : Heap} {p : Addr × Obj} (hp : p ∈ pinsAt fp h) : p.1 ∈ fp ∧ h.get? p.1 = some p.2 := by
  obtain ⟨b, hb, e⟩ := List.mem_filterMap.mp hp
  cases q : h.get? b with
  | none => rw [q] at e; cases e
  | some o =>
    rw [q] at e
    have e' : (b, o) = p := Option.some.inj e
    subst e'
    exact ⟨hb, q⟩
theorem Inv.pinned {pins : List (Addr × Obj)} {σ : St} {H : Hp} {s : Shared} {fp : List Addr} (I : Inv X pins σ H s) (hf : ∀ b ∈ fp, FpOk X pins H b) (ho : ∀ b ∈ fp, ∃ o, s.heap.get? b = some o ∧ ∀ v, o.data ≠ .cell v) : Inv X (pins ++ pinsAt fp s.heap) σ H s :=
  I.pins_of fun p hp => (List.mem_append.mp hp).elim (fun z => I.pin p (List.mem_append_right _ z)) fun z => by
    obtain ⟨hb, e⟩ := of_pinsAt z
    obtain ⟨f0, f1, f2, _⟩ := hf p.1 hb
    obtain ⟨o, e', d⟩ := ho p.1 hb
    rw [e] at e'; cases e'
    exact ⟨e, f0, f1, f2, d⟩
theorem Inv.unpinned {pins pl : List (Addr × Obj)} {σ : St} {H : Hp} {s : Shared} (I : Inv X (pins ++ pl) σ H s) : Inv X pins σ H s := I.pins_of fun p hp => I.pin p (List.mem_append_right _ (List.mem_append_left _ hp))
theorem ps_for {iter : Expr} {body : List Stmt} {wi : TI} {g : TG} {tb : TS} {pos : Pos} (hp : PassesOwn (model X.prog X.w) X.A X.env X.xe) (hc : X.calm = true) (hi : PI X tg iter wi) (hg : PG X tg g) (hb : PSs X body tb)
    (hs : ∀ x, foldedSetIterable iter X.env x = pure x := by intro _; rfl) : PS X (.For tg iter body [] pos) (tFor wi g tb) := by
  intro pins s σ H D I h
  refine wpAny_For (thn (hi pins s σ H _ I h) fun v s1 h1 => thn h1 fun itv s2 h2 => ?_) hs
  obtain ⟨it, fp, tn, J, H2, e, I2, T, st2, f2, W, ⟨m0, w0⟩, turn⟩ := h2
  subst e
  -- what stays true of the iterator's objects through the loop
  have stat : ∀ {H' : Hp}, (∀ b ∈ fp, H' b = none) → ∀ b ∈ fp, FpOk X pins H' b := fun hn b hb => ⟨hn b hb, (f2 b hb).2⟩
  refine codeAny_forLoop_any (fun n s' => ∃ i σ' H', Inv X pins σ' H' s' ∧ tn i s'.heap ∧ (∀ b ∈ fp, H' b = none) ∧ W i n σ' H') ?_ m0 ⟨0, σ, H2, I2, st2, fun b hb => (f2 b hb).1, w0⟩
  rintro n s3 ⟨i, σ3, H3, I3, st3, fr3, w3⟩
  rcases turn i n σ3 H3 w3 with ⟨stop, qn⟩ | ⟨go, N, hN, step⟩
  · refine wpAny_passesOwn hp (thn (T.done X rfl rfl rfl hc i pins s3 σ3 H3 X.xe I3 (stat fr3) st3 stop) fun r s4 ⟨hr, I4⟩ => ?_)
    subst hr
    exact wpAny_execs_nil ⟨σ3, H3, I4, qn⟩
  · refine wpAny_passesOwn hp (thn (T.item X rfl rfl rfl hc i pins s3 σ3 H3 X.xe I3 (stat fr3) st3 go) fun r s4 ⟨u, hr, h4⟩ => ?_)
    subst hr
    refine wpAny_passesOwn hp (thn h4 fun _ s5 ⟨x, H5, I5, r5, y5, st5, fr5⟩ => ?_)
    have I5' := I5.pinned (stat fr5) (T.obj _ _ st5)
    refine wpAny_passesOwn hp (thn (hg _ s5 σ3 H5 x u _ I5' r5 (step x H5 y5)) fun _ s6 ⟨σ6, H6, I6, q6⟩ => ?_)
    refine wpAny_passesOwn hp (thn (hb _ s6 σ6 H6 _ I6 q6) fun f s7 q7 => ?_)
    have again : ∀ {σ7 : St} {H7 : Hp}, Inv X (pins ++ pinsAt fp s5.heap) σ7 H7 s7 → N σ7 H7 → ∃ m, m < n ∧ ∃ i σ' H', Inv X pins σ' H' s7 ∧ tn i s7.heap ∧ (∀ b ∈ fp, H' b = none) ∧ W i m σ' H' := fun {σ7 H7} I7 n7 => by
      obtain ⟨m', hm, w7⟩ := hN σ7 H7 n7
      refine ⟨m', hm, i + 1, σ7, H7, I7.unpinned, T.keep _ _ _ st5 fun b hb o e => (I7.pin (b, o) (List.mem_append_right _ (List.mem_append_right _ (mem_pinsAt hb e)))).1, fun b hb => ?_, w7⟩
      obtain ⟨o, e, d⟩ := T.obj _ _ st5 b hb
      exact (I7.pin (b, o) (List.mem_append_right _ (List.mem_append_right _ (mem_pinsAt hb e)))).2.1
    cases f with
    | next => obtain ⟨σ7, H7, I7, n7⟩ := q7; exact again I7 n7
    | cont => obtain ⟨σ7, H7, I7, n7⟩ := q7; exact again I7 n7
    | brk => obtain ⟨σ7, H7, I7, q7⟩ := q7; exact ⟨σ7, H7, I7.unpinned, q7⟩
    | ret v => obtain ⟨x7, σ7, H7, I7, r7, q7⟩ := q7; exact ⟨x7, σ7, H7, I7.unpinned, r7, q7⟩
end

/-! ### the forms one uses -/
end L2

namespace L2
open PySem PySem.Spec PyProof.Rows

abbrev R2 := V → V → Hp → VK → Prop
def OpR (X : Cx) (f : Value → Value → Sem Value) (r : R2) : Prop :=
  ∀ (pins : List (Addr × Obj)) (s : Shared) (σ : St) (H : Hp) (x y : V) (v u : Value) (Q : VK), Inv X pins σ H s → RelV x v → RelV y u → r x y H Q →
    wpAny (model X.prog X.w) X.A (f v u) (EP X pins σ Q) X.xe s
def CallR (X : Cx) (f : Value) (r : List V → Hp → VK → Prop) : Prop :=
  ∀ (pins : List (Addr × Obj)) (s : Shared) (σ : St) (H : Hp) (xs : List V) (us : List Value) (Q : VK), Inv X pins σ H s → Vals xs us → r xs H Q →
    wpAny (model X.prog X.w) X.A (call f us) (EP X pins σ Q) X.xe s
def TruR (X : Cx) (r : V → Hp → (Bool → Hp → Prop) → Prop) : Prop :=
  ∀ (pins : List (Addr × Obj)) (s : Shared) (σ : St) (H : Hp) (x : V) (v : Value) (Q : Bool → Hp → Prop), Inv X pins σ H s → RelV x v → r x H Q →
    wpAny (model X.prog X.w) X.A (truthy v) (TP X pins σ Q) X.xe s

def tOp (r : R2) (ta tb : TE) : TE := fun σ H Q => ta σ H fun x H1 => tb σ H1 fun y H2 => r x y H2 Q
def rI (C : Int → Int → Prop) (g : Int → Int → V) : R2 := fun x y H Q => ∃ i j, x = .int i ∧ y = .int j ∧ C i j ∧ Q (g i j) H
def rI0 (g : Int → Int → V) : R2 := fun x y H Q => ∃ i j, x = .int i ∧ y = .int j ∧ Q (g i j) H
section
variable {X : Cx} {a b c : Expr} {ta tb tc : TE} {pos : Pos}

theorem binT (ha : PE X a ta) (hb : PE X b tb) {pins : List (Addr × Obj)} {s : Shared} {σ : St} {H : Hp} {R : V → V → Hp → Prop} (I : Inv X pins σ H s)
    (h : ta σ H fun x H1 => tb σ H1 fun y H2 => R x y H2) {Q : Value → Shared → Prop} {f : Value → Value → Sem Value}
    (hf : ∀ v u s2 x y H2, Inv X pins σ H2 s2 → RelV x v → RelV y u → R x y H2 → wpAny (model X.prog X.w) X.A (f v u) Q X.xe s2) :
    wpAny (model X.prog X.w) X.A (eval a X.env) (fun v s₁ => wpAny (model X.prog X.w) X.A (eval b X.env) (fun u s₂ => wpAny (model X.prog X.w) X.A (f v u) Q X.xe s₂) X.xe s₁) X.xe s := by
  refine thn (ha pins s σ H _ I h) fun v s1 ⟨x, H1, I1, r1, q1⟩ => ?_
  refine thn (hb pins s1 σ H1 _ I1 q1) fun u s2 ⟨y, H2, I2, r2, q2⟩ => ?_
  exact hf v u s2 x y H2 I2 r1 r2 q2

theorem pe_op {op : Operator} {r : R2} (ho : OpR X (binaryOp op) r) (ha : PE X a ta) (hb : PE X b tb) : PE X (.BinOp a op b pos) (tOp r ta tb) := by
  intro pins s σ H Q I h
  exact wpAny_BinOp (binT ha hb I h fun v u s2 x y H2 I2 rx ry q => ho pins s2 σ H2 x y v u Q I2 rx ry q)
/-! ### ints -/
theorem opI {f : Value → Value → Sem Value} {C : Int → Int → Prop} {g : Int → Int → Int}
    (rule : ∀ (i j : Int) (t u : Tok) (s : Shared) (Q : Value → Shared → Prop) (E : Value → Shared → Prop), C i j → Q (.int (g i j) s.toks) { s with toks := s.toks + 1 } → wpAny (model X.prog X.w) X.A (f (.int i t) (.int j u)) Q E s) :
    OpR X f (rI C fun i j => .int (g i j)) := by
  intro pins s σ H x y v u Q I rx ry h
  obtain ⟨i, j, rfl, rfl, hc, q⟩ := h
  obtain ⟨t, rfl⟩ := rx
  obtain ⟨t', rfl⟩ := ry
  exact rule i j t t' s _ _ hc ⟨.int (g i j), H, I.tok _, ⟨_, rfl⟩, q⟩
theorem opI0 {f : Value → Value → Sem Value} {g : Int → Int → Int}
    (rule : ∀ (i j : Int) (t u : Tok) (s : Shared) (Q : Value → Shared → Prop) (E : Value → Shared → Prop), Q (.int (g i j) s.toks) { s with toks := s.toks + 1 } → wpAny (model X.prog X.w) X.A (f (.int i t) (.int j u)) Q E s) :
    OpR X f (rI0 fun i j => .int (g i j)) := by
  intro pins s σ H x y v u Q I rx ry h
  obtain ⟨i, j, rfl, rfl, q⟩ := h
  obtain ⟨t, rfl⟩ := rx
  obtain ⟨t', rfl⟩ := ry
  exact rule i j t t' s _ _ ⟨.int (g i j), H, I.tok _, ⟨_, rfl⟩, q⟩
theorem opB0 {f : Value → Value → Sem Value} {g : Int → Int → Bool}
    (rule : ∀ (i j : Int) (t u : Tok) (s : Shared) (Q : Value → Shared → Prop) (E : Value → Shared → Prop), Q (.bool (g i j)) s → wpAny (model X.prog X.w) X.A (f (.int i t) (.int j u)) Q E s) :
    OpR X f (rI0 fun i j => .bl (g i j)) := by
  intro pins s σ H x y v u Q I rx ry h
  obtain ⟨i, j, rfl, rfl, q⟩ := h
  obtain ⟨t, rfl⟩ := rx
  obtain ⟨t', rfl⟩ := ry
  exact rule i j t t' s _ _ ⟨.bl (g i j), H, I, rfl, q⟩

def CDiv (i j : Int) : Prop := 0 < j ∧ j < 1073741824
def CMul (i j : Int) : Prop := (-(2 ^ 64) < i ∧ i < 2 ^ 64) ∨ (-(2 ^ 64) < j ∧ j < 2 ^ 64)
theorem CMul.ok {i j : Int} (h : CMul i j) : IntMulOk i j := by
  rcases h with ⟨h1, h2⟩ | ⟨h1, h2⟩
  · exact .of_left (intBits_le_64 h1 h2)
  · exact .of_right (intBits_le_64 h1 h2)
theorem op_add : OpR X (binaryOp .Add) (rI0 fun i j => .int (i + j)) := opI0 fun _ _ _ _ _ _ _ q => add_int q
theorem op_sub : OpR X (binaryOp .Sub) (rI0 fun i j => .int (i - j)) := opI0 fun _ _ _ _ _ _ _ q => sub_int q
theorem op_mul : OpR X (binaryOp .Mult) (rI CMul fun i j => .int (i * j)) := opI fun _ _ _ _ _ _ _ hc q => mul_int q hc.ok
theorem op_fdiv : OpR X (binaryOp .FloorDiv) (rI CDiv fun i j => .int (i / j)) := opI fun i j _ _ _ _ _ hc q => by
  have h1 : (0 : Int) < j := hc.1
  have h2 : j < 1073741824 := hc.2
  exact floordiv_int (by omega) (by rw [Int.fdiv_eq_ediv_of_nonneg i (by omega)]; exact q) (.inl (PyProof.noPylong_small (by omega)))
theorem op_mod : OpR X (binaryOp .Mod) (rI (fun _ j => 0 < j) fun i j => .int (i % j)) := opI fun i j _ _ _ _ _ hc q => by
  have h1 : (0 : Int) < j := hc
  exact mod_int' (by omega) (by rw [Int.fmod_eq_emod_of_nonneg i (by omega)]; exact q)
/-! ### bools among ints: n += (a < b) -/
end

/-! ### comparisons -/
def scal : V → V → Bool
  | .non, .non => true | .non, .int _ => true | .int _, .non => true | .non, .bl _ => true | .bl _, .non => true | .non, .str _ => true | .str _, .non => true
  | .int _, .int _ => true | .bl _, .bl _ => true | .str _, .str _ => true | .byt _, .byt _ => true
  | .int _, .str _ => true | .str _, .int _ => true | .bl _, .str _ => true | .str _, .bl _ => true
  | _, _ => false
def rEq : R2 := fun x y H Q => scal x y = true ∧ Q (.bl (decide (x = y))) H
def rNe : R2 := fun x y H Q => scal x y = true ∧ Q (.bl (!decide (x = y))) H

theorem dec_int {i j : Int} : decide (V.int i = V.int j) = (i == j) := by
  rw [Bool.eq_iff_iff]
  simp
theorem dec_bl {i j : Bool} : decide (V.bl i = V.bl j) = (i == j) := by
  rw [Bool.eq_iff_iff]
  simp
theorem dec_str {i j : Str} : decide (V.str i = V.str j) = (i == j) := by
  rw [Bool.eq_iff_iff]
  simp
theorem dec_byt {i j : Array UInt8} : decide (V.byt i = V.byt j) = (i.toList == j.toList) := by
  rw [Bool.eq_iff_iff]
  cases i
  cases j
  simp

section
variable {X : Cx} {a b c : Expr} {ta tb tc : TE} {pos : Pos}
theorem fin_bl {pins : List (Addr × Obj)} {σ : St} {H : Hp} {s : Shared} {Q : VK} {k k' : Bool} (I : Inv X pins σ H s) (q : Q (.bl k) H) (e : k = k') : EP X pins σ Q (.bool k') s := by
  subst e
  exact ⟨.bl k, H, I, rfl, q⟩
theorem op_eq : OpR X (compareOp .Eq) rEq := by
  intro pins s σ H x y v u Q I rx ry h
  obtain ⟨hs, q⟩ := h
  cases x with
  | non =>
    cases rx
    cases y with
    | non => cases ry; exact PySem.EqNone.eq_none_none (fin_bl I q (by simp))
    | bl j => cases ry; exact PySem.EqNone.eq_none_bool (fin_bl I q (by simp))
    | int j => obtain ⟨t', rfl⟩ := ry; exact PySem.EqNone.eq_none_int (fin_bl I q (by simp))
    | str j => obtain ⟨t', rfl⟩ := ry; exact PySem.EqNone.eq_none_str (fin_bl I q (by simp))
    | _ => exact absurd (show false = true from hs) Bool.false_ne_true
  | bl i =>
    cases rx
    cases y with
    | non => cases ry; exact PySem.EqNone.eq_bool_none (fin_bl I q (by simp))
    | bl j => cases ry; exact eq_bool (fin_bl I q dec_bl)
    | str j => obtain ⟨t', rfl⟩ := ry; exact PySem.EqMixed.eq_bool_str (fin_bl I q (by simp))
    | _ => exact absurd (show false = true from hs) Bool.false_ne_true
  | int i =>
    obtain ⟨t, rfl⟩ := rx
    cases y with
    | non => cases ry; exact PySem.EqNone.eq_int_none (fin_bl I q (by simp))
    | int j => obtain ⟨t', rfl⟩ := ry; exact eq_int (fin_bl I q dec_int)
    | str j => obtain ⟨t', rfl⟩ := ry; exact PySem.EqMixed.eq_int_str (fin_bl I q (by simp))
    | _ => exact absurd (show false = true from hs) Bool.false_ne_true
  | str i =>
    obtain ⟨t, rfl⟩ := rx
    cases y with
    | non => cases ry; exact PySem.EqNone.eq_str_none (fin_bl I q (by simp))
    | bl j => cases ry; exact PySem.EqMixed.eq_str_bool (fin_bl I q (by simp))
    | int j => obtain ⟨t', rfl⟩ := ry; exact PySem.EqMixed.eq_str_int (fin_bl I q (by simp))
    | str j => obtain ⟨t', rfl⟩ := ry; exact eq_str (fin_bl I q dec_str)
    | _ => exact absurd (show false = true from hs) Bool.false_ne_true
  | byt i =>
    obtain ⟨t, rfl⟩ := rx
    cases y with
    | byt j => obtain ⟨t', rfl⟩ := ry; exact PySem.W.eq_bytes (fin_bl I q dec_byt)
    | _ => exact absurd (show false = true from hs) Bool.false_ne_true
  | _ => cases y <;> exact absurd (show false = true from hs) Bool.false_ne_true
theorem op_ne : OpR X (compareOp .NotEq) rNe := by
  intro pins s σ H x y v u Q I rx ry h
  obtain ⟨hs, q⟩ := h
  cases x with
  | non =>
    cases rx
    cases y with
    | non => cases ry; exact PySem.EqNone.ne_none_none (fin_bl I q (by simp))
    | bl j => cases ry; exact PySem.EqNone.ne_none_bool (fin_bl I q (by simp))
    | int j => obtain ⟨t', rfl⟩ := ry; exact PySem.EqNone.ne_none_int (fin_bl I q (by simp))
    | str j => obtain ⟨t', rfl⟩ := ry; exact PySem.EqNone.ne_none_str (fin_bl I q (by simp))
    | _ => exact absurd (show false = true from hs) Bool.false_ne_true
  | bl i =>
    cases rx
    cases y with
    | non => cases ry; exact PySem.EqNone.ne_bool_none (fin_bl I q (by simp))
    | bl j => cases ry; exact ne_bool (fin_bl I q (congrArg not dec_bl))
    | str j => obtain ⟨t', rfl⟩ := ry; exact PySem.EqMixed.ne_bool_str (fin_bl I q (by simp))
    | _ => exact absurd (show false = true from hs) Bool.false_ne_true
  | int i =>
    obtain ⟨t, rfl⟩ := rx
    cases y with
    | non => cases ry; exact PySem.EqNone.ne_int_none (fin_bl I q (by simp))
    | int j => obtain ⟨t', rfl⟩ := ry; exact ne_int (fin_bl I q (congrArg not dec_int))
    | str j => obtain ⟨t', rfl⟩ := ry; exact PySem.EqMixed.ne_int_str (fin_bl I q (by simp))
    | _ => exact absurd (show false = true from hs) Bool.false_ne_true
  | str i =>
    obtain ⟨t, rfl⟩ := rx
    cases y with
    | non => cases ry; exact PySem.EqNone.ne_str_none (fin_bl I q (by simp))
    | bl j => cases ry; exact PySem.EqMixed.ne_str_bool (fin_bl I q (by simp))
    | int j => obtain ⟨t', rfl⟩ := ry; exact PySem.EqMixed.ne_str_int (fin_bl I q (by simp))
    | str j => obtain ⟨t', rfl⟩ := ry; exact ne_str (fin_bl I q (congrArg not dec_str))
    | _ => exact absurd (show false = true from hs) Bool.false_ne_true
  | byt i =>
    obtain ⟨t, rfl⟩ := rx
    cases y with
    | byt j => obtain ⟨t', rfl⟩ := ry; exact PySem.W.ne_bytes (fin_bl I q (congrArg not dec_byt))
    | _ => exact absurd (show false = true from hs) Bool.false_ne_true
  | _ => cases y <;> exact absurd (show false = true from hs) Bool.false_ne_true

theorem op_lt : OpR X (compareOp .Lt) (rI0 fun i j => .bl (decide (i < j))) := opB0 fun _ _ _ _ _ _ _ q => lt_int q
theorem op_gt : OpR X (compareOp .Gt) (rI0 fun i j => .bl (decide (j < i))) := opB0 fun _ _ _ _ _ _ _ q => gt_int q
theorem op_isN : OpR X (compareOp .Is) (fun x y H Q => y = .non ∧ Q (.bl (decide (x = .non))) H) := by
  intro pins s σ H x y v u Q I rx ry h
  obtain ⟨rfl, q⟩ := h
  cases ry
  refine is_none_gen (fin_bl I q ?_)
  cases x <;> first
    | (cases rx; rfl)
    | (obtain ⟨t, rfl⟩ := rx; rfl)
theorem OpR.or {f : Value → Value → Sem Value} {r r' : R2} (h : OpR X f r) (h' : OpR X f r') : OpR X f (fun x y H Q => r x y H Q ∨ r' x y H Q) := by
  intro pins s σ H x y v u Q I rx ry q
  rcases q with q | q
  · exact h pins s σ H x y v u Q I rx ry q
  · exact h' pins s σ H x y v u Q I rx ry q

theorem pe_cmpR {op : CmpOp} {r : R2} (ho : OpR X (compareOp op) r) (ha : PE X a ta) (hb : PE X b tb) (hm : behindInMarks op b = false) : PE X (.Compare a [op] [b] pos) (tOp r ta tb) := by
  intro pins s σ H Q I h
  exact wpAny_Compare1 (binT ha hb I h fun v u s2 x y H2 I2 rx ry q => ho pins s2 σ H2 x y v u Q I2 rx ry q) hm
def tTest (t : TE) : TT := fun σ H Q => t σ H fun x H' => ∃ k, x = .bl k ∧ Q k H'
theorem pt_cmpR {op : CmpOp} {r : R2} (ho : OpR X (compareOp op) r) (ha : PE X a ta) (hb : PE X b tb) (hm : behindInMarks op b = false) : PT X (.Compare a [op] [b] pos) (tTest (tOp r ta tb)) := by
  intro pins s σ H Q I h
  refine wpAny_isTrue_Compare1 (thn (ha pins s σ H _ I h) fun v s1 ⟨x, H1, I1, r1, q1⟩ => thn (hb pins s1 σ H1 _ I1 q1) fun u s2 ⟨y, H2, I2, r2, q2⟩ =>
    thn (ho pins s2 σ H2 x y v u _ I2 r1 r2 q2) fun c s3 ⟨z, H3, I3, r3, k, e, q3⟩ => ?_) hm
  subst e
  cases r3
  exact wpAny_truthy_bool ⟨H3, I3, q3⟩
/-! ### truth -/
def TruV (K : PySem.W.Frag) (x : V) (H : Hp) (k : Bool) : Prop :=
  match x with
  | .non => k = false
  | .bl b => k = b
  | .int i => k = (i != 0)
  | .str y => y.length ≤ sizeLine ∧ k = ((y.length : Int) != 0)
  | .byt y => y.size ≤ sizeLine ∧ k = ((y.size : Int) != 0)
  | .ref p => (∃ xs, SqL K H p xs ∧ k = !xs.isEmpty) ∨ (∃ xs, SqT K H p xs ∧ k = !xs.isEmpty) ∨ ∃ kvs, H p = some (.dK kvs) ∧ k = !kvs.isEmpty
  | _ => False
theorem isEmpty_kv {κ : Type} {kvs : List (κ × V)} {vs : List (κ × Value)} (r : KV kvs vs) : (!vs.isEmpty) = !kvs.isEmpty := by
  cases r <;> rfl
theorem isEmpty_of {xs : List V} {its : List Value} (r : Vals xs its) : (!its.toArray.isEmpty) = !xs.isEmpty := by
  cases r <;> simp
theorem line63 : (sizeLine : Nat) < 2 ^ 63 := by rw [sizeLine_eq]; decide
theorem tru_ok : TruR X (fun x H Q => ∃ k, TruV X.K x H k ∧ Q k H) := by
  intro pins s σ H x v Q I rx h
  obtain ⟨k, e, q⟩ := h
  have hl := line63
  have hs : sizeLine = 16777216 := sizeLine_eq
  cases x with
  | non =>
    cases rx
    have e' : k = false := e
    subst e'
    exact truthy_none ⟨H, I, q⟩
  | bl b =>
    cases rx
    have e' : k = b := e
    subst e'
    exact wpAny_truthy_bool ⟨H, I, q⟩
  | int i =>
    obtain ⟨t, rfl⟩ := rx
    have e' : k = (i != 0) := e
    subst e'
    exact PySem.P.truthy_int ⟨H, I, q⟩
  | str y =>
    obtain ⟨t, rfl⟩ := rx
    obtain ⟨hy, e'⟩ : y.length ≤ sizeLine ∧ k = ((y.length : Int) != 0) := e
    subst e'
    exact PySem.P.truthy_str (by omega) ⟨H, I.tok _, q⟩
  | byt y =>
    obtain ⟨t, rfl⟩ := rx
    obtain ⟨hy, e'⟩ : y.size ≤ sizeLine ∧ k = ((y.size : Int) != 0) := e
    subst e'
    exact PySem.W.truthy_bytes (by omega) ⟨H, I.tok _, q⟩
  | ref p =>
    cases rx
    have e' : (∃ xs, SqL X.K H p xs ∧ k = !xs.isEmpty) ∨ (∃ xs, SqT X.K H p xs ∧ k = !xs.isEmpty) ∨ ∃ kvs, H p = some (.dK kvs) ∧ k = !kvs.isEmpty := e
    rcases e' with ⟨xs, hx, e'⟩ | ⟨xs, hx, e'⟩ | ⟨kvs, hx, e'⟩
    · subst e'
      obtain ⟨its, r, pl, hz⟩ := I.list hx
      have hlen := r.length
      exact wpAny_truthy_list pl.isList (by simp only [List.size_toArray]; omega) ⟨H, I.tok _, by rw [isEmpty_of r]; exact q⟩
    · subst e'
      obtain ⟨its, r, pl, hz⟩ := I.tuple hx
      have hlen := r.length
      exact truthy_tuple pl (by simp only [List.size_toArray]; omega) ⟨H, I.tok _, by rw [isEmpty_of r]; exact q⟩
    · subst e'
      obtain ⟨hz, hS, vs, r, m⟩ : kvs.length ≤ sizeLine ∧ (p == sysModules) = false ∧ ∃ vs, KV kvs vs ∧ s.heap.DictOf (mixKind X.prog X.w) p vs := I.hok p _ hx
      have hlen : kvs.length = vs.length := Paired.length r
      exact wpAny_truthy_dict hS m (by omega) ⟨H, I.tok _, by rw [isEmpty_kv r]; exact q⟩
  | _ => exact (show False from e).elim
theorem pt_truth (ha : PE X a ta) (he : ∀ whole, isTrue a X.env whole = (do let v ← whole; standAt a.pos; holding [v] (truthy v))) :
    PT X a (fun σ H Q => ta σ H fun x H' => ∃ k, TruV X.K x H' k ∧ Q k H') := by
  intro pins s σ H Q I h
  exact isTrue_plain (thn (ha pins s σ H _ I h) fun v s1 ⟨x, H1, I1, r1, q1⟩ => tru_ok pins s1 σ H1 x v Q I1 r1 q1) (he _)

/-! ### strs and bytes -/
theorem op_add_str : OpR X (binaryOp .Add) (fun x y H Q => ∃ i j, x = .str i ∧ y = .str j ∧ i.length + j.length ≤ sizeLine ∧ Q (.str (i ++ j)) H) := by
  intro pins s σ H x y v u Q I rx ry h
  obtain ⟨i, j, rfl, rfl, hz, q⟩ := h
  obtain ⟨t, rfl⟩ := rx
  obtain ⟨t', rfl⟩ := ry
  exact add_str (fun t' tk => ⟨.str (i ++ j), H, I.tok _, ⟨_, rfl⟩, q⟩) hz
/-! ### scalar builtins, by CallR -/
theorem vals1 {x : V} {us : List Value} (r : Vals [x] us) : ∃ u, us = [u] ∧ RelV x u := by
  cases r with
  | cons r1 r2 => cases r2; exact ⟨_, rfl, r1⟩
theorem vals2 {x y : V} {us : List Value} (r : Vals [x, y] us) : ∃ u w', us = [u, w'] ∧ RelV x u ∧ RelV y w' := by
  cases r with
  | cons r1 r2 =>
    cases r2 with
    | cons r3 r4 => cases r4; exact ⟨_, _, rfl, r1, r3⟩
theorem call_max2 (hc : X.calm = true) : CallR X (.builtin "max") (fun xs H Q => ∃ i j, xs = [.int i, .int j] ∧ Q (.int (if j > i then j else i)) H) := by
  intro pins s σ H xs us Q I r h
  obtain ⟨i, j, rfl, q⟩ := h
  obtain ⟨u, w', rfl, ⟨t, rfl⟩, ⟨t', rfl⟩⟩ := vals2 r
  refine max_two_ints (I.ok.hd hc) fun h' tk k => ⟨_, H, I.kept k, ?_, q⟩
  by_cases hj : j > i
  · rw [if_pos hj, if_pos hj]; exact ⟨_, rfl⟩
  · rw [if_neg hj, if_neg hj]; exact ⟨_, rfl⟩
theorem call_min2 (hc : X.calm = true) : CallR X (.builtin "min") (fun xs H Q => ∃ i j, xs = [.int i, .int j] ∧ Q (.int (if j < i then j else i)) H) := by
  intro pins s σ H xs us Q I r h
  obtain ⟨i, j, rfl, q⟩ := h
  obtain ⟨u, w', rfl, ⟨t, rfl⟩, ⟨t', rfl⟩⟩ := vals2 r
  refine min_two_ints (I.ok.hd hc) fun h' tk k => ⟨_, H, I.kept k, ?_, q⟩
  by_cases hj : j < i
  · rw [if_pos hj, if_pos hj]; exact ⟨_, rfl⟩
  · rw [if_neg hj, if_neg hj]; exact ⟨_, rfl⟩
theorem call_int1 : CallR X (.type "int") (fun xs H Q => (∃ i, xs = [.int i] ∧ Q (.int i) H) ∨ ∃ k, xs = [.bl k] ∧ Q (.int (if k then 1 else 0)) H) := by
  intro pins s σ H xs us Q I r h
  rcases h with ⟨i, rfl, q⟩ | ⟨k, rfl, q⟩
  · obtain ⟨u, rfl, t, rfl⟩ := vals1 r
    exact call_int_int ⟨.int i, H, I, ⟨_, rfl⟩, q⟩
  · obtain ⟨u, rfl, r1⟩ := vals1 r
    cases r1
    exact call_int_bool ⟨.int (if k then 1 else 0), H, I.tok _, ⟨_, rfl⟩, q⟩
def LenV (K : PySem.W.Frag) (x : V) (H : Hp) (n : Nat) : Prop :=
  match x with
  | .str y => y.length ≤ sizeLine ∧ n = y.length
  | .byt y => y.size ≤ sizeLine ∧ n = y.size
  | .ref p => (∃ xs, SqL K H p xs ∧ n = xs.length) ∨ ∃ xs, SqT K H p xs ∧ n = xs.length
  | _ => False
theorem call_len : CallR X (.builtin "len") (fun xs H Q => ∃ x n, xs = [x] ∧ LenV X.K x H n ∧ Q (.int n) H) := by
  intro pins s σ H xs us Q I r h
  obtain ⟨x, n, rfl, e, q⟩ := h
  obtain ⟨u, rfl, rx⟩ := vals1 r
  have hl := line63
  have hs : sizeLine = 16777216 := sizeLine_eq
  cases x with
  | str y =>
    obtain ⟨t, rfl⟩ := rx
    obtain ⟨hy, e'⟩ : y.length ≤ sizeLine ∧ n = y.length := e
    subst e'
    exact len_str (by omega) ⟨.int _, H, I.tok _, ⟨_, rfl⟩, q⟩
  | byt y =>
    obtain ⟨t, rfl⟩ := rx
    obtain ⟨hy, e'⟩ : y.size ≤ sizeLine ∧ n = y.size := e
    subst e'
    exact PySem.W.len_bytes (by omega) ⟨.int _, H, I.tok _, ⟨_, rfl⟩, q⟩
  | ref p =>
    cases rx
    have e' : (∃ xs, SqL X.K H p xs ∧ n = xs.length) ∨ ∃ xs, SqT X.K H p xs ∧ n = xs.length := e
    rcases e' with ⟨xs, hx, e'⟩ | ⟨xs, hx, e'⟩
    · subst e'
      obtain ⟨its, r', pl, hz⟩ := I.list hx
      have hlen := r'.length
      exact Calls.call_len_list pl.isList (by simp only [List.size_toArray]; omega) ⟨.int xs.length, H, I.tok _, ⟨_, by simp only [List.size_toArray]; rw [hlen]⟩, q⟩
    · subst e'
      obtain ⟨its, r', pl, hz⟩ := I.tuple hx
      have hlen := r'.length
      exact len_tuple pl (by simp only [List.size_toArray]; omega) ⟨.int xs.length, H, I.tok _, ⟨_, by simp only [List.size_toArray]; rw [hlen]⟩, q⟩
  | _ => exact (show False from e).elim
end
end L2

namespace L2
open PySem PySem.Spec PyProof.Rows

/-! ### an instance, its attributes a map -/
structure ObjM (h : Heap) (x dx C : Addr) (mA : Str → Option Value) : Prop where
  obj : h.get? x = some (PySem.W.instObj C dx)
  ns : h.Ns1 dx mA
  ne : dx ≠ x

theorem lookIn_ns {h : Heap} {dx : Addr} {mA : Str → Option Value} (n : h.Ns1 dx mA) : ∃ od, h.get? dx = some od ∧ ∀ name, PySem.W.lookIn name od = some (mA name) := by
  obtain ⟨o, es, ep, ho, hd, hk, _, hm⟩ := n
  refine ⟨o, ho, fun name => ?_⟩
  have e := hm name
  unfold nsFind findBy at e
  rw [← Array.find?_toList] at e
  unfold PySem.W.lookIn
  rw [hd]
  dsimp only
  split
  · rename_i y q
    rw [q] at e
    exact congrArg some e
  · rename_i q
    rw [q] at e
    have a : es.toList.any (·.refKey) = false := by
      rw [List.any_eq_false]
      intro y hy
      obtain ⟨z, t, hkey⟩ := hk y (Array.mem_toList_iff.mp hy)
      simp [DictEntry.refKey, hkey]
    have a' : ¬ es.toList.any (·.refKey) = true := by rw [a]; exact Bool.false_ne_true
    rw [if_neg a']
    exact congrArg some e

theorem ObjM.look {h : Heap} {x dx C : Addr} {mA : Str → Option Value} (I : ObjM h x dx C mA) : ∃ od, PySem.W.InstAt h x (PySem.W.instObj C dx) C (some od) ∧ ∀ name, PySem.W.lookIn name od = some (mA name) :=
  let ⟨od, ho, hl⟩ := lookIn_ns I.ns
  ⟨od, ⟨I.obj, rfl, rfl, ho⟩, hl⟩

section
variable {prog : Program} {w : World} {A : Around} {E : Value → Shared → Prop} {s : Shared} {K : PySem.W.Frag} {x dx C f : Addr} {mA : Str → Option Value} {name : Str} {v : Value}

theorem get_map {expr : Bool} {Q : Value → Shared → Prop} (X : K.In s.heap) (I : ObjM s.heap x dx C mA) (hg : PySem.W.plainGet K C name = true) (hh : PySem.W.hasDictIn K C = true)
    (ha : PySem.W.findIn K (.ref C) name = some none) (hv : mA name = some v) (hv' : PySem.W.handedIn v = true) (h : Q v { s with toks := s.toks + 1 }) :
    wpAny (model prog w) A (getAttr (.ref x) name expr) Q E s := by
  obtain ⟨od, J, hl⟩ := I.look
  exact PySem.W.get_value X J (PySem.W.plainGet_of hg).1 (PySem.W.findObj_own hh ha rfl (by rw [hl, hv])) hv' h

theorem get_meth {pl : Sem Bool} {Q : Value × List Value → Shared → Prop} (X : K.In s.heap) (I : ObjM s.heap x dx C mA) (hg : PySem.W.plainGet K C name = true)
    (hf : PySem.W.findIn K (.ref C) name = some (some (.ref f))) (ht : PySem.W.isFn K (.ref f) = true) (hv : mA name = none) (h : Q (.ref f, [.ref x]) s) :
    wpAny (model prog w) A (getMethod (.ref x) name pl) Q E s := by
  obtain ⟨od, J, hl⟩ := I.look
  exact PySem.W.method_fn X J (PySem.W.plainGet_of hg).1 (PySem.W.plainGet_of hg).2 hf (beq_iff_eq.mp ht) (by show (PySem.W.lookIn name od).map (·.isSome) = some false; rw [hl, hv]; rfl) h

theorem set_map {ns : List Str} {Q : Unit → Shared → Prop} (X : K.In s.heap) (I : ObjM s.heap x dx C mA)
    (hs : PySem.W.findIn K (.ref C) "__setattr__" = some (some (.builtin "object.__setattr__"))) (hp : PySem.W.plainOver K C = true) (ht : PySem.W.takerIn K C name = some none) (hh : PySem.W.hasDictIn K C = true)
    (hw : PySem.Within mA ns) (hsz : ns.length ≤ sizeLine)
    (h : ∀ h', ObjM h' x dx C (fun y => if y = name then some v else mA y) → Heap.SameBut dx s.heap h' → Q () { s with heap := h', toks := s.toks + 2 }) :
    wpAny (model prog w) A (setAttr (.ref x) name v) Q E s := by
  obtain ⟨od, J, hl⟩ := I.look
  refine PySem.W.set_plain X J hs (PySem.W.osa_open (s := { s with toks := s.toks + 1 }) (r := none) X J hp ht fun b => ?_)
  obtain ⟨cd, hc, hd'⟩ := PySem.W.any_some hh
  have hx : s.heap.get? x = some ⟨.ref C, some dx, .plain, #[]⟩ := I.obj
  refine wpAny_bind (wpAny_pure (wpAny_bind (wpAny_bind (wpAny_loadPart hx (wpAny_bind (PySem.W.Looks.here (s := { s with toks := s.toks + 1 }) (PySem.W.looks_clsIn X hc) ?_))))))
  rw [hd']
  refine wpAny_pure (a := some dx) (wpAny_bind (wpAny_pure (wpAny_bind ?_)))
  refine wpAny_nsSet1 (s := { s with toks := s.toks + 1 }) I.ns fun h' hn2 hs2 => ?_
  obtain ⟨oD, esD, epD, hoD, hdD, hcD⟩ := hn2.count (PySem.Within.cons name v hw)
  refine wpAny_bind (wpAny_lookBehind hoD (by rw [hdD]; exact pastItsLine_dict (Nat.le_trans hcD (by rw [List.length_cons]; omega))) ?_)
  exact wpAny_pure (h _ ⟨(hs2.2 _ (Ne.symm I.ne)).trans I.obj, hn2, I.ne⟩ hs2)

theorem make_map {R : Result → Shared → Prop} {vs : List Value} {kw : List (Str × Value)} (X : K.In s.heap) (hm : PySem.W.makesIn K C = true)
    (hi : PySem.W.findIn K (.ref C) "__init__" = some (some (.ref f))) (hf : PySem.W.typeIn K (.ref f) = some (.type "function"))
    (h : codeAny (model prog w) (A.under (.builtin "type.__call__" ⟨.ref C :: vs, kw⟩)) (.call (.ref f) ⟨.ref (s.heap.objs.size + 1) :: vs, kw⟩) (PySem.W.InitBack (s.heap.objs.size + 1) R)
      { s with heap := (s.heap.push PySem.W.emptyDict).push (PySem.W.instObj C s.heap.objs.size) }) :
    codeAny (model prog w) A (.call (.ref C) ⟨vs, kw⟩) R s := by
  obtain ⟨hh, g, d, t, os⟩ := s
  exact PySem.W.make_core (PySem.W.makes_of X hm) (PySem.W.looks_findIn X hi) (fun self => PySem.W.bind_fn X self hf) (.inl rfl) h
end

/-! ### the attributes as a list of pairs -/
def putF (f : Str) (v : V) : List (Str × V) → List (Str × V)
  | [] => [(f, v)]
  | (g, x) :: r => if g = f then (g, v) :: r else (g, x) :: putF f v r
theorem lookup_putF (f g : Str) (v : V) : ∀ fs : List (Str × V), (putF f v fs).lookup g = if g = f then some v else fs.lookup g
  | [] => by
    show List.lookup g [(f, v)] = _
    by_cases h : g = f
    · have hb : (g == f) = true := beq_iff_eq.mpr h
      simp only [List.lookup, hb, if_pos h]
    · have hb : (g == f) = false := beq_eq_false_iff_ne.mpr h
      simp only [List.lookup, hb, if_neg h]
  | (k, x) :: r => by
    have ih := lookup_putF f g v r
    rw [show putF f v ((k, x) :: r) = (if k = f then (k, v) :: r else (k, x) :: putF f v r) from rfl]
    by_cases hk : k = f
    · rw [if_pos hk]
      by_cases h : g = k
      · have hb : (g == k) = true := beq_iff_eq.mpr h
        simp only [List.lookup, hb, if_pos (h.trans hk)]
      · have hb : (g == k) = false := beq_eq_false_iff_ne.mpr h
        simp only [List.lookup, hb, if_neg (fun e : g = f => h (e.trans hk.symm))]
    · rw [if_neg hk]
      by_cases h : g = k
      · have hb : (g == k) = true := beq_iff_eq.mpr h
        simp only [List.lookup, hb, if_neg (fun e : g = f => hk (h.symm.trans e))]
      · have hb : (g == k) = false := beq_eq_false_iff_ne.mpr h
        simp only [List.lookup, hb]
        exact ih
theorem keys_putF (f : Str) (v : V) : ∀ fs : List (Str × V), f ∈ (putF f v fs).map (·.1) ∧ ∀ g, g ∈ fs.map (·.1) → g ∈ (putF f v fs).map (·.1)
  | [] => ⟨by simp [putF], fun g h => by simp at h⟩
  | (k, x) :: r => by
    obtain ⟨i1, i2⟩ := keys_putF f v r
    rw [show putF f v ((k, x) :: r) = (if k = f then (k, v) :: r else (k, x) :: putF f v r) from rfl]
    by_cases hk : k = f
    · rw [if_pos hk]
      subst hk
      exact ⟨by simp, fun g h => by simpa using h⟩
    · rw [if_neg hk]
      refine ⟨?_, fun g h => ?_⟩
      · rw [List.map_cons]
        exact List.mem_cons_of_mem _ i1
      · rw [List.map_cons] at h ⊢
        rcases List.mem_cons.mp h with e | e
        · exact List.mem_cons.mpr (.inl e)
        · exact List.mem_cons_of_mem _ (i2 g e)
theorem length_putF (f : Str) (v : V) : ∀ fs : List (Str × V), (putF f v fs).length ≤ fs.length + 1
  | [] => by simp [putF]
  | (k, x) :: r => by
    have ih := length_putF f v r
    rw [show putF f v ((k, x) :: r) = (if k = f then (k, v) :: r else (k, x) :: putF f v r) from rfl]
    by_cases hk : k = f
    · rw [if_pos hk, List.length_cons, List.length_cons]; omega
    · rw [if_neg hk, List.length_cons, List.length_cons]; omega

theorem RelO.some_of {v : V} {o : Option Value} (r : RelO (some v) o) : ∃ u, o = some u ∧ RelV v u := by
  cases o with
  | none => exact (show False from r).elim
  | some u => exact ⟨u, rfl, r⟩
theorem RelO.none_of {o : Option Value} (r : RelO none o) : o = none := by
  cases o with
  | none => rfl
  | some u => exact (show False from r).elim
theorem handed_of {v : V} {u : Value} (r : RelV v u) : PySem.W.handedIn u = true := by
  cases v with
  | non => cases (show u = Value.none from r); rfl
  | bl b => cases (show u = Value.bool b from r); rfl
  | int i => obtain ⟨t, e⟩ := (show ∃ t, u = Value.int i t from r); cases e; rfl
  | str x => obtain ⟨t, e⟩ := (show ∃ t, u = Value.str x t from r); cases e; rfl
  | byt b => obtain ⟨t, e⟩ := (show ∃ t, u = Value.bytes b t from r); cases e; rfl
  | flt b => obtain ⟨t, e⟩ := (show ∃ t, u = Value.float b t from r); cases e; rfl
  | ref a => cases (show u = Value.ref a from r); rfl
  | ty n => cases (show u = Value.type n from r); rfl

section
variable {P : Program} {w : World} {H H' : Hp} {h h' : Heap} {a C dx : Addr} {fs fs' : List (Str × V)}
theorem ins_get (hok : HOk P w H h) (e : H a = some (.ins C dx fs)) : ∃ mA, ObjM h a dx C mA ∧ (∀ f, RelO (fs.lookup f) (mA f)) ∧ PySem.Within mA (fs.map (·.1)) ∧ fs.length ≤ 1000 ∧ H dx = some (.own a) := by
  obtain ⟨d, z, ne, ob, mA, n, r, q⟩ := (show ObjOk P w H h a (.ins C dx fs) from hok a _ e)
  exact ⟨mA, ⟨ob, n, ne⟩, r, q, z, d⟩
end

/-! ### what of the text a class must have -/
structure Cls (K : PySem.W.Frag) (C : Addr) : Prop where
  pg : PySem.W.plainGet K C Str.empty = true
  hd : PySem.W.hasDictIn K C = true
  po : PySem.W.plainOver K C = true
  sa : PySem.W.findIn K (.ref C) "__setattr__" = some (some (.builtin "object.__setattr__"))
theorem Cls.get {K : PySem.W.Frag} {C : Addr} (c : Cls K C) (f : Str) : PySem.W.plainGet K C f = true := c.pg
def NoAttr (K : PySem.W.Frag) (C : Addr) (f : Str) : Prop := PySem.W.findIn K (.ref C) f = some none
theorem NoAttr.taker {K : PySem.W.Frag} {C : Addr} {f : Str} (n : NoAttr K C f) : PySem.W.takerIn K C f = some none := by
  unfold PySem.W.takerIn
  rw [show PySem.W.findIn K (.ref C) f = some none from n]
  rfl
structure Con (K : PySem.W.Frag) (C : Addr) (f : Str) (v : V) (u : Value) : Prop where
  at_ : PySem.W.findIn K (.ref C) f = some (some u)
  rel : RelV v u
  get : PySem.W.specialIn K u "__get__" = some none
  cp : PySem.W.copiedNames.contains f = false
structure Meth (K : PySem.W.Frag) (C : Addr) (m : Str) (f : Addr) : Prop where
  at_ : PySem.W.findIn K (.ref C) m = some (some (.ref f))
  fn : PySem.W.isFn K (.ref f) = true
  kp : PySem.W.keepIn K (.ref f) = true

section
variable {X : Cx} {pins : List (Addr × Obj)} {σ : St} {H : Hp} {s : Shared} {a C dx : Addr} {fs : List (Str × V)} {f : Str} {v : V} {A : Around} {E : Value → Shared → Prop}

theorem getattr_ok {b : Bool} {Q : Value → Shared → Prop} (I : Inv X pins σ H s) (e : H a = some (.ins C dx fs)) (c : Cls X.K C) (n : NoAttr X.K C f) (l : fs.lookup f = some v)
    (h : ∀ u s', Inv X pins σ H s' → RelV v u → Q u s') : wpAny (model X.prog X.w) A (getAttr (.ref a) f b) Q E s := by
  obtain ⟨mA, O, r, _, _, _⟩ := ins_get I.hok e
  obtain ⟨u, hu, ru⟩ := RelO.some_of (v := v) (o := mA f) (by rw [← l]; exact r f)
  exact get_map I.kIn O (c.get f) c.hd n hu (handed_of ru) (h u _ (I.tok _) ru)

theorem getmeth_ok {m : Str} {g : Addr} {pl : Sem Bool} {Q : Value × List Value → Shared → Prop} (I : Inv X pins σ H s) (e : H a = some (.ins C dx fs)) (c : Cls X.K C) (k : Meth X.K C m g) (l : fs.lookup m = none)
    (h : Q (.ref g, [.ref a]) s) : wpAny (model X.prog X.w) A (getMethod (.ref a) m pl) Q E s := by
  obtain ⟨mA, O, r, _, _, _⟩ := ins_get I.hok e
  have hn : mA m = none := RelO.none_of (by rw [← l]; exact r m)
  exact get_meth I.kIn O (c.get m) k.at_ k.fn hn h

theorem setattr_ok {y : V} {u : Value} {Q : Unit → Shared → Prop} (I : Inv X pins σ H s) (e : H a = some (.ins C dx fs)) (c : Cls X.K C) (n : NoAttr X.K C f) (hl : fs.length < 1000) (ry : RelV y u)
    (h : ∀ s', Inv X pins σ (upd H a (.ins C dx (putF f y fs))) s' → Q () s') : wpAny (model X.prog X.w) A (setAttr (.ref a) f u) Q E s := by
  obtain ⟨mA, O, r, wi, _, ho⟩ := ins_get I.hok e
  have hz : (fs.map (·.1)).length ≤ sizeLine := by rw [List.length_map, sizeLine_eq]; omega
  refine set_map I.kIn O c.sa c.po n.taker c.hd wi hz fun h' O' sb => h _ ?_
  have hd : ∃ o, h'.get? dx = some o := let ⟨o, _, _, e', _⟩ := O'.ns; ⟨o, e'⟩
  refine I.write (x := a) (e := dx) (by rw [e]; exact True.intro) (.inr ho) (fun b q hb z => (sb.2 b hb).trans z) hd ?_
  refine ⟨by rw [upd_ne O.ne]; exact ho, ?_, O.ne, O'.obj, _, O'.ns, fun g => ?_, fun g hg => ?_⟩
  · have := length_putF f y fs; omega
  · show RelO ((putF f y fs).lookup g) (if g = f then some u else mA g)
    rw [lookup_putF]
    by_cases q : g = f
    · rw [if_pos q, if_pos q]; exact ry
    · rw [if_neg q, if_neg q]; exact r g
  · by_cases q : g = f
    · rw [q]; exact (keys_putF f y fs).1
    · refine (keys_putF f y fs).2 g (wi g fun z => hg ?_)
      show (if g = f then some u else mA g) = none
      rw [if_neg q]; exact z

theorem Inv.made (I : Inv X pins σ H s) : Inv X pins σ (upd (upd H s.heap.objs.size (.own (s.heap.objs.size + 1))) (s.heap.objs.size + 1) (.ins C s.heap.objs.size []))
    { s with heap := (s.heap.push PySem.W.emptyDict).push (PySem.W.instObj C s.heap.objs.size) } := by
  have e1 : (s.heap.push PySem.W.emptyDict).get? s.heap.objs.size = some PySem.W.emptyDict := Heap.get?_push_size s.heap rfl
  have e2 : ((s.heap.push PySem.W.emptyDict).push (PySem.W.instObj C s.heap.objs.size)).get? (s.heap.objs.size + 1) = some (PySem.W.instObj C s.heap.objs.size) := by
    have := Heap.get?_push_size (s.heap.push PySem.W.emptyDict) (o := PySem.W.instObj C s.heap.objs.size) rfl
    rwa [Heap.size_push] at this
  have e3 : (s.heap.push PySem.W.emptyDict).Ns s.heap.objs.size (fun _ => none) := ⟨PySem.W.emptyDict, #[], _, e1, rfl, (fun e he => absurd he (by simp)), fun _ => rfl⟩
  have I1 := I.laid (a := s.heap.objs.size) (o := .own (s.heap.objs.size + 1)) (h' := s.heap.push PySem.W.emptyDict) (t' := s.toks) (fun b u q => Heap.get?_push_of_some _ q) (Nat.le_refl _) ⟨_, e1⟩
  refine I1.laid (a := s.heap.objs.size + 1) (o := .ins C s.heap.objs.size []) (t' := s.toks) (fun b u q => Heap.get?_push_of_some _ q) (Nat.le_of_eq (Heap.size_push _ _)) ?_
  have ne : s.heap.objs.size ≠ s.heap.objs.size + 1 := Nat.ne_of_lt (Nat.lt_succ_self _)
  refine ⟨by rw [upd_ne ne, upd_same], Nat.zero_le _, ne, e2, fun _ => none, (Heap.Ns1.of_empty e3).at fun o q => Heap.get?_push_of_some _ q, fun _ => True.intro, fun y hy => absurd rfl hy⟩

theorem attr_of {prog : Program} {w : World} {env : Env} {e : Expr} {f : Str} {pos : Pos} {s : Shared} {Q : Value → Shared → Prop} (hb : attributeBase e f env (eval e env) = eval e env)
    (h : wpAny (model prog w) A (eval e env) (fun o s₁ => wpAny (model prog w) A (getAttr o f true) Q E s₁) E s) : wpAny (model prog w) A (eval (.Attribute e f pos) env) Q E s :=
  Attribute_any_ h (by rw [arm_eval_Attribute, hb])
end

/-! ### readings and rules -/
def tFld (K : PySem.W.Frag) (ta : TE) (f : Str) : TE := fun σ H Q => ta σ H fun x H1 => ∃ a C dx fs v, x = .ref a ∧ H1 a = some (.ins C dx fs) ∧ Cls K C ∧ NoAttr K C f ∧ fs.lookup f = some v ∧ Q v H1
def sFld (K : PySem.W.Frag) (ta tv : TE) (f : Str) : TS := fun D σ H => tv σ H fun y H1 => ta σ H1 fun x H2 => ∃ a C dx fs, x = .ref a ∧ H2 a = some (.ins C dx fs) ∧ Cls K C ∧ NoAttr K C f ∧ fs.length < 1000 ∧
  D.nx σ (upd H2 a (.ins C dx (putF f y fs)))
section
variable {X : Cx} {o e value : Expr} {f : Str} {pos pos' tpos : Pos} {ta tv : TE}
theorem pe_fld (he : PE X e ta) (hb : attributeBase e f X.env (eval e X.env) = eval e X.env) : PE X (.Attribute e f pos) (tFld X.K ta f) := by
  intro pins s σ H Q I h
  refine attr_of hb (thn (he pins s σ H _ I h) fun u s1 ⟨x, H1, I1, rx, a, C, dx, fs, v, ex, ea, c, n, l, q⟩ => ?_)
  subst ex
  obtain rfl : u = Value.ref a := rx
  exact getattr_ok I1 ea c n l fun u' s2 I2 ru => ⟨v, H1, I2, ru, q⟩
theorem ps_fld (ha : PE X o ta) (hv : PE X value tv) (hs : swapsWith value (some (.Attribute o f pos')) pos.line X.env = pure false) : PS X (.Assign [.Attribute o f pos'] value pos) (sFld X.K ta tv f) := by
  intro pins s σ H D I h
  refine plainObj_wpAny_Assign_Attribute (thn (hv pins s σ H _ I h) fun u s1 ⟨y, H1, I1, ry, q⟩ => thn (ha pins s1 σ H1 _ I1 q) fun ov s2 ⟨x, H2, I2, rx, a, C, dx, fs, ex, ea, c, n, l, q2⟩ => ?_) hs
  subst ex
  obtain rfl : ov = Value.ref a := rx
  exact setattr_ok I2 ea c n l ry fun s3 I3 => ⟨σ, _, I3, q2⟩
end

/-! ### isinstance -/
section
variable {X : Cx} {pins : List (Addr × Obj)} {σ : St} {H : Hp} {s : Shared} {A : Around} {E : Value → Shared → Prop} {Q : Value → Shared → Prop} {c : Value} {b : Bool}
inductive TyOf (K : PySem.W.Frag) (H : Hp) : V → Value → Prop where
  | non : TyOf K H .non (.type "NoneType")
  | bl (x : Bool) : TyOf K H (.bl x) (.type "bool")
  | int (i : Int) : TyOf K H (.int i) (.type "int")
  | str (x : Str) : TyOf K H (.str x) (.type "str")
  | flt (x : UInt64) : TyOf K H (.flt x) (.type "float")
  | lst {a : Addr} {xs : List V} (e : H a = some (.lst xs)) : TyOf K H (.ref a) (.type "list")
  | frz {a : Addr} {o : Obj} {xs : List V} (e : H a = some (.frz o (.lst xs))) : TyOf K H (.ref a) (.type "list")
  | tup {a : Addr} {xs : List V} (e : H a = some (.tup xs)) : TyOf K H (.ref a) (.type "tuple")
  | dK {a : Addr} {kvs : List (Key × V)} (e : H a = some (.dK kvs)) : TyOf K H (.ref a) (.type "dict")
  | dT {a : Addr} {kvs : List (List Key × V)} (e : H a = some (.dT kvs)) : TyOf K H (.ref a) (.type "dict")
  | ins {a C dx : Addr} {fs : List (Str × V)} (e : H a = some (.ins C dx fs)) (cl : Cls K C) (ha : PySem.W.findIn K (.ref C) "__class__" = some (some (.builtin "object.__class__")))
      (hn : PySem.W.specialIn K (.builtin "object.__class__") "__get__" = some (some (.builtin "getset_descriptor.__get__"))) (htk : PySem.W.takesIn K (.builtin "object.__class__") = some true)
      (hm : PySem.W.mroIn K C (.type "object") = some true) : TyOf K H (.ref a) (.ref C)
end
end L2

namespace L2
open PySem PySem.Spec PyProof.Rows

/-! ### room -/
structure Room (k : Nat) (A : Around) : Prop where
  hd : A.handled = none
  dp : A.depth + 3 * k + 5 < recursionLimit
  un : A.units + 16 * k + 200 < cLine
theorem Room.mono {j k : Nat} {A : Around} (r : Room k A) (h : j ≤ k) : Room j A := ⟨r.hd, by have := r.dp; omega, by have := r.un; omega⟩
theorem Room.deeper {k : Nat} {A : Around} (r : Room (k + 1) A) (env : Env) : Room k (A.deeper env) :=
  ⟨r.hd, by have := r.dp; show A.depth + 1 + 3 * k + 5 < _; omega, by have := r.un; show A.units + 3 + 16 * k + 200 < _; omega⟩
theorem make_depth {A : Around} {C : Addr} {us : List Value} {kw : List (Str × Value)} : (A.under (.builtin "type.__call__" ⟨.ref C :: us, kw⟩)).depth = A.depth + 1 := by
  first | rfl | simp [Around.under, Code.weight, Code.isCreation, Code.isGuard, Code.isCaller, Code.frames, Code.isFrame, guardIds]
theorem make_units {A : Around} {C : Addr} {us : List Value} {kw : List (Str × Value)} : (A.under (.builtin "type.__call__" ⟨.ref C :: us, kw⟩)).units = A.units + 1 := by
  first | rfl | simp [Around.under, Code.cUnits, Code.frames, Code.isFrame]
theorem Room.make {k : Nat} {A : Around} (r : Room (k + 1) A) (C : Addr) (us : List Value) (kw : List (Str × Value)) : Room k (A.under (.builtin "type.__call__" ⟨.ref C :: us, kw⟩)) :=
  ⟨r.hd, by have := r.dp; rw [make_depth]; omega, by have := r.un; rw [make_units]; omega⟩
theorem Room.depth {k : Nat} {A : Around} (r : Room k A) : A.depth < recursionLimit := by have := r.dp; omega
theorem Room.units {k : Nat} {A : Around} (r : Room k A) : A.units + 64 < cLine := by have := r.un; omega
/-! ### argument lists and displays -/
def tNil : TA := fun _ H Q => Q [] H
def tCons (ta : TE) (tr : TA) : TA := fun σ H Q => ta σ H fun x H1 => tr σ H1 fun xs H2 => Q (x :: xs) H2
section
variable {X : Cx} {e : Expr} {es : List Expr} {te : TE} {t : TA} {pos : Pos}
theorem pa_nil : PA X [] tNil := fun _ _ _ _ H Q I h => Calls.spliced_nil ⟨[], H, I, .nil, h⟩
theorem pa_cons (ha : PE X e te) (hr : PA X es t) (hs : starEach (e :: es) X.env = (false, eval e X.env) :: starEach es X.env := by rfl) : PA X (e :: es) (tCons te t) := by
  intro pos pins s σ H Q I h
  rw [hs]
  show wpAny _ _ (spliced ((false, eval e X.env) :: backTo pos (starEach es X.env))) _ _ s
  refine Calls.spliced_cons (thn (ha pins s σ H _ I h) fun u s1 ⟨x, H1, I1, r1, q1⟩ => ?_)
  exact thn (hr pos pins s1 σ H1 _ I1 q1) fun us s2 ⟨xs, H2, I2, r2, q2⟩ => ⟨x :: xs, H2, I2, .cons r1 r2, q2⟩

def tTup (t : TA) : TE := fun σ H Q => t σ H fun xs H1 => xs.length ≤ sizeLine ∧ ∀ p, H1 p = none → Q (.ref p) (upd H1 p (.tup xs))
def tLst (t : TA) : TE := fun σ H Q => t σ H fun xs H1 => xs.length ≤ sizeLine ∧ ∀ p, H1 p = none → Q (.ref p) (upd H1 p (.lst xs))
theorem pe_tup {x1} (h : PA X es t) : PE X (.Tuple es x1 pos) (tTup t) := by
  intro pins s σ H Q I hq
  refine wpAny_Tuple_spliced (thn (h pos pins s σ H _ I hq) fun us s1 ⟨xs, H1, I1, r, z, q⟩ => ⟨by rw [← r.length]; exact z, ?_⟩)
  have hf : H1 s1.heap.objs.size = none := I1.hok.fresh (Nat.le_refl _)
  refine ⟨.ref s1.heap.objs.size, upd H1 s1.heap.objs.size (.tup xs), I1.laid (t' := s1.toks) (fun b u e => Heap.get?_push_of_some _ e) (Nat.le_refl _) ?_, rfl, q _ hf⟩
  exact ⟨z, us, r, ⟨_, Heap.get?_push_size _ rfl, rfl, _, rfl⟩⟩
theorem pe_lst (h : PA X es t) : PE X (.List es pos) (tLst t) := by
  intro pins s σ H Q I hq
  refine wpAny_List_spliced (thn (h pos pins s σ H _ I hq) fun us s1 ⟨xs, H1, I1, r, z, q⟩ => ⟨by rw [← r.length]; exact z, ?_⟩)
  have hf : H1 s1.heap.objs.size = none := I1.hok.fresh (Nat.le_refl _)
  refine ⟨.ref s1.heap.objs.size, upd H1 s1.heap.objs.size (.lst xs), I1.laid (t' := s1.toks) (fun b u e => Heap.get?_push_of_some _ e) (Nat.le_refl _) ?_, rfl, q _ hf⟩
  exact ⟨z, us, 0, r, Heap.get?_push_size _ rfl⟩
end

/-! ### what a def promises -/
abbrev Sp := List V → Hp → VK → XK → Prop
abbrev CXT := List Env → Hp → Shared → XK → Value → Shared → Prop

structure Env0 (P : Program) (w : World) (K : PySem.W.Frag) (mg : Str → Option Value) (base : Heap) (A : Around) (outer : List Env) (s : Shared) (H : Hp) : Prop where
  frames : A.frames = some outer
  mod : Mod K mg base
  bs : ∀ b o, base.get? b = some o → s.heap.get? b = some o ∧ H b = none
  bsz : base.objs.size ≤ s.heap.objs.size
  funs : s.heap.FunFrames base outer
  frf : ∀ b ∈ frs outer, H b = none
  hok : HOk P w H s.heap
  bare : AllBare s.gens
def CE (outer : List Env) (P : Program) (w : World) (H : Hp) (s : Shared) (Q : VK) (u : Value) (s' : Shared) : Prop :=
  ∃ v H', s'.os = s.os ∧ AllBare s'.gens ∧ Un (frs outer) [] H H' s.heap s'.heap ∧ HOk P w H' s'.heap ∧ RelV v u ∧ Q v H'
def CR (CX : CXT) (outer : List Env) (P : Program) (w : World) (H : Hp) (s : Shared) (Q : VK) (E : XK) (r : Result) (s' : Shared) : Prop :=
  match r with
  | .ok (.ret u) => CE outer P w H s Q u s'
  | .ok _ => False
  | .error e => CX outer H s E e s'
structure FnOk (P : Program) (w : World) (K : PySem.W.Frag) (mg : Str → Option Value) (base : Heap) (CX : CXT) (k : Nat) (f : Addr) (fd : FuncData) (ps : List Str) (sp : Sp) : Prop where
  len : ∀ vs H Q E, sp vs H Q E → vs.length = ps.length
  run : ∀ (A : Around) (outer : List Env) (s : Shared) (H : Hp) (args : Args) (us : List Value) (vs : List V) (Q : VK) (E : XK), Room k A → Env0 P w K mg base A outer s H → BindsTo s fd args (ps.zip us) → Vals vs us → sp vs H Q E →
    codeAny (model P w) A (.call (.ref f) args) (CR CX outer P w H s Q E) s
theorem FnOk.mono {P : Program} {w : World} {K : PySem.W.Frag} {mg : Str → Option Value} {base : Heap} {CX : CXT} {j k : Nat} {f : Addr} {fd : FuncData} {ps : List Str} {sp : Sp} (F : FnOk P w K mg base CX j f fd ps sp) (h : j ≤ k) :
    FnOk P w K mg base CX k f fd ps sp := ⟨F.len, fun A outer s H args us vs Q E hr => F.run A outer s H args us vs Q E (hr.mono h)⟩
theorem FnOk.imp {P : Program} {w : World} {K : PySem.W.Frag} {mg : Str → Option Value} {base : Heap} {CX : CXT} {k : Nat} {f : Addr} {fd : FuncData} {ps : List Str} {sp sp' : Sp} (F : FnOk P w K mg base CX k f fd ps sp)
    (h : ∀ vs H Q E, sp' vs H Q E → sp vs H Q E) : FnOk P w K mg base CX k f fd ps sp' :=
  ⟨fun vs H Q E q => F.len vs H Q E (h _ _ _ _ q), fun A outer s H args us vs Q E hr he hb hv hs => F.run A outer s H args us vs Q E hr he hb hv (h _ _ _ _ hs)⟩

theorem Env0.make {P : Program} {w : World} {K : PySem.W.Frag} {mg : Str → Option Value} {base : Heap} {A : Around} {outer : List Env} {s : Shared} {H : Hp} (e : Env0 P w K mg base A outer s H) (C : Addr) (us : List Value) (kw : List (Str × Value)) :
    Env0 P w K mg base (A.under (.builtin "type.__call__" ⟨.ref C :: us, kw⟩)) outer s H := ⟨by first | exact e.frames | (simpa [Around.under, Code.envs, Code.isFrame, pushEnvs] using e.frames), e.mod, e.bs, e.bsz, e.funs, e.frf, e.hok, e.bare⟩
section
variable {X : Cx} {pins : List (Addr × Obj)} {σ : St} {H : Hp} {s s' : Shared}
theorem Inv.env0 (I : Inv X pins σ H s) : Env0 X.prog X.w X.K X.mg X.base X.A X.stack s H :=
  ⟨I.ok.frames, I.ok.mod, I.bs, Nat.le_trans I.ok.bsz I.sz, I.stack, I.stkFree, I.hok, I.bare⟩
theorem Inv.after {Q : VK} {u : Value} (I : Inv X pins σ H s) (h : CE X.stack X.prog X.w H s Q u s') : EP X pins σ Q u s' := by
  obtain ⟨v, H', os, bare, un, hok, r, q⟩ := h
  obtain ⟨hh, g, d, t, os'⟩ := s'
  obtain rfl : os' = s.os := os
  exact ⟨v, H', I.call (h' := hh) (g' := g) (d' := d) (t' := t) (ch := []) un hok bare (fun b z => absurd z (by simp)), r, q⟩
end

/-! ### calls -/
def tCall (sp : Sp) (dvs : List V) (E : XK) (t : TA) : TE := fun σ H Q => t σ H fun vs H1 => sp (vs ++ dvs) H1 Q E
def tMake (C : Addr) (sp : Sp) (dvs : List V) (E : XK) (t : TA) : TE := fun σ H Q => t σ H fun vs H1 => ∀ x dx, H1 x = none → H1 dx = none → dx ≠ x →
  sp (.ref x :: (vs ++ dvs)) (upd (upd H1 dx (.own x)) x (.ins C dx [])) (fun v H2 => v = .non ∧ Q (.ref x) H2) E

def Binds (K : PySem.W.Frag) (fd : FuncData) (ps : List Str) (ds : List Value) : Prop :=
  ∀ (s : Shared) (us : List Value), K.In s.heap → (us ++ ds).length = ps.length → BindsTo s fd ⟨us, []⟩ (ps.zip (us ++ ds))
theorem Binds.all {K : PySem.W.Frag} {fd : FuncData} {ps : List Str} (h : ∀ us : List Value, us.length = ps.length → bindArgs fd ⟨us, []⟩ = pure (ps.zip us)) : Binds K fd ps [] := fun s us _ hl => by
  rw [List.append_nil] at hl ⊢
  exact .of_eq (h us hl)

def Passes (CX : CXT) (X : Cx) (E : XK) : Prop := ∀ (pins : List (Addr × Obj)) (σ : St) (H : Hp) (s : Shared) (e : Value) (s' : Shared), Inv X pins σ H s → CX X.stack H s E e s' → X.xe e s'

section
variable {X : Cx} {CX : CXT} {k : Nat} {f C : Addr} {fd : FuncData} {ps : List Str} {sp : Sp} {dvs : List V} {ds : List Value} {E : XK} {x m : Str} {p pos apos : Pos} {e o : Expr} {es : List Expr} {ta : TE} {t : TA}

theorem run_fn {pins : List (Addr × Obj)} {σ : St} {H : Hp} {s : Shared} {Q : VK} {us : List Value} {vs : List V} (F : FnOk X.prog X.w X.K X.mg X.base CX k f fd ps sp) (hr : Room k X.A) (hb : Binds X.K fd ps ds) (hd : Vals dvs ds) (hx : Passes CX X E)
    (I : Inv X pins σ H s) (r : Vals vs us) (h : sp (vs ++ dvs) H Q E) : wpAny (model X.prog X.w) X.A (call (.ref f) us) (EP X pins σ Q) X.xe s := by
  have r2 : Vals (vs ++ dvs) (us ++ ds) := r.append hd
  have hl : (us ++ ds).length = ps.length := by rw [← r2.length]; exact F.len _ _ _ _ h
  refine wpAny_call (codeAny_mono (F.run X.A X.stack s H ⟨us, []⟩ (us ++ ds) (vs ++ dvs) Q E hr I.env0 (hb s us I.kIn hl) r2 h) fun r s' hq => ?_)
  cases r with
  | error e => exact hx pins σ H s e s' I hq
  | ok fl =>
    cases fl with
    | ret u => exact I.after hq
    | next => exact False.elim hq
    | brk => exact False.elim hq
    | cont => exact False.elim hq

theorem pe_call (F : FnOk X.prog X.w X.K X.mg X.base CX k f fd ps sp) (hr : Room k X.A) (hg : Gl X x) (hm : X.mg x = some (.ref f)) (hk : PySem.W.keepIn X.K (.ref f) = true) (hb : Binds X.K fd ps ds) (hd : Vals dvs ds) (hx : Passes CX X E)
    (ha : PA X (e :: es) t) (hdb : (x == ("__debug__" : Str)) = false := by decide) (he : starEach (e :: es) X.env = (false, eval e X.env) :: starEach es X.env := by rfl) (hpl : (backTo pos (starEach es X.env)).any (·.1) = false := by rfl) :
    PE X (.Call (.Name x p) (e :: es) [] pos) (tCall sp dvs E t) := by
  intro pins s σ H Q I h
  refine wpAny_Call_Name_kw (ld_glob I hg hm ?_ hdb)
  refine PySem.W.callWith_K (h₀ := X.base) I.ok.mod.kin hk (thn (ha pos pins s σ H _ I h) fun us s1 ⟨vs, H1, I1, r, q⟩ => ⟨I1.kIn, ?_⟩) he hpl
  exact run_fn F hr hb hd hx I1 r q
theorem pe_call0 (F : FnOk X.prog X.w X.K X.mg X.base CX k f fd ps sp) (hr : Room k X.A) (hg : Gl X x) (hm : X.mg x = some (.ref f)) (hk : PySem.W.keepIn X.K (.ref f) = true) (hb : Binds X.K fd ps ds) (hd : Vals dvs ds) (hx : Passes CX X E)
    (hdb : (x == ("__debug__" : Str)) = false := by decide) : PE X (.Call (.Name x p) [] [] pos) (tCall sp dvs E tNil) := by
  intro pins s σ H Q I h
  refine wpAny_Call_Name_kw (ld_glob I hg hm ?_ hdb)
  exact PySem.W.callWith_K0 I.kIn hk (run_fn (us := []) F hr hb hd hx I .nil h)

structure Mk (K : PySem.W.Frag) (C f : Addr) : Prop where
  makes : PySem.W.makesIn K C = true
  init : PySem.W.findIn K (.ref C) "__init__" = some (some (.ref f))
  fn : PySem.W.isFn K (.ref f) = true
  kp : PySem.W.keepIn K (.ref C) = true

theorem run_make {pins : List (Addr × Obj)} {σ : St} {H : Hp} {s : Shared} {Q : VK} {us : List Value} {vs : List V} (M : Mk X.K C f) (F : FnOk X.prog X.w X.K X.mg X.base CX k f fd ps sp) (hr : Room (k + 1) X.A) (hb : Binds X.K fd ps ds) (hd : Vals dvs ds)
    (hx : Passes CX X E) (I : Inv X pins σ H s) (r : Vals vs us)
    (h : ∀ x dx, H x = none → H dx = none → dx ≠ x → sp (.ref x :: (vs ++ dvs)) (upd (upd H dx (.own x)) x (.ins C dx [])) (fun v H2 => v = .non ∧ Q (.ref x) H2) E) :
    wpAny (model X.prog X.w) X.A (call (.ref C) us) (EP X pins σ Q) X.xe s := by
  have hq := h (s.heap.objs.size + 1) s.heap.objs.size (I.hok.fresh (Nat.le_succ _)) (I.hok.fresh (Nat.le_refl _)) (Nat.ne_of_lt (Nat.lt_succ_self _))
  have I2 := Inv.made (C := C) I
  have r2 : Vals (V.ref (s.heap.objs.size + 1) :: (vs ++ dvs)) (Value.ref (s.heap.objs.size + 1) :: (us ++ ds)) := .cons rfl (r.append hd)
  have hl : (Value.ref (s.heap.objs.size + 1) :: us ++ ds).length = ps.length := by
    have e := r2.length
    rw [F.len _ _ _ _ hq] at e
    exact e.symm
  refine wpAny_call (make_map (f := f) I.kIn M.makes M.init (beq_iff_eq.mp M.fn) (codeAny_mono (F.run _ X.stack _ _ ⟨Value.ref (s.heap.objs.size + 1) :: us, []⟩ (Value.ref (s.heap.objs.size + 1) :: (us ++ ds)) _ _ E (hr.make C us [])
    (I2.env0.make C us []) (hb _ (Value.ref (s.heap.objs.size + 1) :: us) I2.kIn hl) r2 hq) fun r s' hq' => ?_))
  cases r with
  | error e => exact hx pins σ _ _ e s' I2 hq'
  | ok fl =>
    cases fl with
    | ret u =>
      obtain ⟨v, H', I3, rv, ev, q3⟩ := I2.after hq'
      subst ev
      exact ⟨rv, ⟨V.ref (s.heap.objs.size + 1), H', I3, rfl, q3⟩⟩
    | next => exact False.elim hq'
    | brk => exact False.elim hq'
    | cont => exact False.elim hq'
theorem pe_make (M : Mk X.K C f) (F : FnOk X.prog X.w X.K X.mg X.base CX k f fd ps sp) (hr : Room (k + 1) X.A) (hg : Gl X x) (hm : X.mg x = some (.ref C)) (hb : Binds X.K fd ps ds) (hd : Vals dvs ds) (hx : Passes CX X E)
    (ha : PA X (e :: es) t) (hdb : (x == ("__debug__" : Str)) = false := by decide) (he : starEach (e :: es) X.env = (false, eval e X.env) :: starEach es X.env := by rfl) (hpl : (backTo pos (starEach es X.env)).any (·.1) = false := by rfl) :
    PE X (.Call (.Name x p) (e :: es) [] pos) (tMake C sp dvs E t) := by
  intro pins s σ H Q I h
  refine wpAny_Call_Name_kw (ld_glob I hg hm ?_ hdb)
  refine PySem.W.callWith_K (h₀ := X.base) I.ok.mod.kin M.kp (thn (ha pos pins s σ H _ I h) fun us s1 ⟨vs, H1, I1, r, q⟩ => ⟨I1.kIn, ?_⟩) he hpl
  exact run_make M F hr hb hd hx I1 r q
end

/-! ### keywords -/
section
variable {X : Cx} {CX : CXT} {k : Nat} {f C : Addr} {fd : FuncData} {ps ks : List Str} {sp : Sp} {E : XK} {x m : Str} {p pos apos kpos : Pos} {e o : Expr} {es : List Expr} {kws : List Keyword} {te ta : TE} {t tk : TA} {nm : Option Str}
structure KBinds (K : PySem.W.Frag) (fd : FuncData) (ps ks : List Str) (g : List Value → List Value → List Value) (gV : List V → List V → List V) : Prop where
  to : ∀ (s : Shared) (us ws : List Value), K.In s.heap → (g us ws).length = ps.length → BindsTo s fd ⟨us, ks.zip ws⟩ (ps.zip (g us ws))
  rel : ∀ {vs : List V} {us : List Value} {zs : List V} {ws : List Value}, Vals vs us → Vals zs ws → Vals (gV vs zs) (g us ws)
variable {g : List Value → List Value → List Value} {gV : List V → List V → List V}
end

/-! ### a def's body keeps its promise -/
structure FnScope (N P : List Str) (sc : Scope) : Prop where
  kind : sc.kind = .function
  co : sc.isCoroutine = false
  gen : sc.isGenerator = false
  nd : N.Nodup
  pre : N.take P.length = P
  par : ∀ x ∈ P, sc.names.lookup x = some .local ∨ sc.names.lookup x = some .cell
  nofree : ∀ y ∈ sc.names, y.2 ≠ .free

theorem bindL_out {kindOf : Str → Option NameKind} {x : Str} : ∀ {binds : List (Str × Value)} {m : Str → Option Value}, (∀ v, (x, v) ∉ binds) → bindL kindOf binds m x = m x
  | [], _, _ => rfl
  | (n, v) :: r, m, h => by
    unfold bindL
    rw [bindL_out fun w hw => h w (List.mem_cons_of_mem _ hw)]
    split
    · have : x ≠ n := by rintro rfl; exact h v List.mem_cons_self
      simp [this]
    · rfl
theorem bindC_out {kindOf : Str → Option NameKind} {x : Str} : ∀ {binds : List (Str × Value)} {m : Str → Option Value}, (∀ v, (x, v) ∉ binds) → bindC kindOf binds m x = m x
  | [], _, _ => rfl
  | (n, v) :: r, m, h => by
    unfold bindC
    rw [bindC_out fun w hw => h w (List.mem_cons_of_mem _ hw)]
    split
    · rfl
    · have : x ≠ n := by rintro rfl; exact h v List.mem_cons_self
      simp [this]
theorem bindL_get {kindOf : Str → Option NameKind} {x : Str} {v : Value} : ∀ {P : List Str} {vs : List Value} {i : Nat} {m : Str → Option Value}, P.Nodup → P[i]? = some x → vs[i]? = some v → kindOf x = some .local →
    bindL kindOf (P.zip vs) m x = some v
  | [], _, _, _, _, h, _, _ => by simp at h
  | _ :: _, [], _, _, _, _, h, _ => by simp at h
  | p :: P, w :: vs, 0, m, nd, h1, h2, hk => by
    simp at h1 h2; subst h1; subst h2
    show bindL kindOf ((p, w) :: P.zip vs) m p = _
    unfold bindL
    rw [bindL_out fun v hv => (List.nodup_cons.mp nd).1 (List.of_mem_zip hv).1, if_pos hk]
    simp
  | p :: P, w :: vs, i + 1, m, nd, h1, h2, hk => by
    show bindL kindOf ((p, w) :: P.zip vs) m x = _
    unfold bindL
    exact bindL_get (i := i) (List.nodup_cons.mp nd).2 (by simpa using h1) (by simpa using h2) hk
theorem bindC_get {kindOf : Str → Option NameKind} {x : Str} {v : Value} : ∀ {P : List Str} {vs : List Value} {i : Nat} {m : Str → Option Value}, P.Nodup → P[i]? = some x → vs[i]? = some v → kindOf x ≠ some .local →
    bindC kindOf (P.zip vs) m x = some v
  | [], _, _, _, _, h, _, _ => by simp at h
  | _ :: _, [], _, _, _, _, h, _ => by simp at h
  | p :: P, w :: vs, 0, m, nd, h1, h2, hk => by
    simp at h1 h2; subst h1; subst h2
    show bindC kindOf ((p, w) :: P.zip vs) m p = _
    unfold bindC
    rw [bindC_out fun v hv => (List.nodup_cons.mp nd).1 (List.of_mem_zip hv).1, if_neg hk]
    simp
  | p :: P, w :: vs, i + 1, m, nd, h1, h2, hk => by
    show bindC kindOf ((p, w) :: P.zip vs) m x = _
    unfold bindC
    exact bindC_get (i := i) (List.nodup_cons.mp nd).2 (by simpa using h1) (by simpa using h2) hk

def start (N : List Str) (vs : List V) : St := vs.map some ++ List.replicate (N.length - vs.length) none

def cxOf (CX : CXT) (P : Program) (w : World) (K : PySem.W.Frag) (mg : Str → Option Value) (base : Heap) (N : List Str) (qual : Str) (scope : Scope) (f : Addr) (cd : Value) (A : Around) (outer : List Env) (s : Shared) (H : Hp) (E : XK) : Cx where
  prog := P
  w := w
  K := K
  mg := mg
  base := base
  A := A.deeper (envOfC qual scope s.heap.objs.size f cd)
  N := N
  s₀ := s
  H₀ := H
  env := envOfC qual scope s.heap.objs.size f cd
  outer := outer
  stack := envOfC qual scope s.heap.objs.size f cd :: outer
  ex := []
  calm := true
  fn := fun _ => true
  pn := []
  xe := fun e s' => wpAny (model P w) (A.deeper (envOfC qual scope s.heap.objs.size f cd)) (leaving (envOfC qual scope s.heap.objs.size f cd) e) (fun _ s'' => CX outer H s E e s'') (fun e' s'' => CX outer H s E e' s'') s'

theorem cell_has {sc : Scope} {n : Nat} {x : Str} (h : sc.names.lookup x = some .cell) : ∃ c, (cellsFrom n sc.names []).lookup x = some c := by
  have q := PySem.W.cellsFrom_some sc.names n [] (.inl h)
  exact Option.isSome_iff_exists.mp q

theorem inv_start {CX : CXT} {P : Program} {w : World} {K : PySem.W.Frag} {mg : Str → Option Value} {base : Heap} {N ps : List Str} {qual : Str} {scope : Scope} {f : Addr} {cd : Value} {A : Around} {outer : List Env} {s s1 : Shared} {H : Hp} {E : XK} {us : List Value} {vs : List V}
    (S : FnScope N ps scope) (hd : A.handled = none) (e0 : Env0 P w K mg base A outer s H) (hl : vs.length = ps.length) (r : Vals vs us)
    (x : InCallC s s.heap.objs.size (bindL (envOfC qual scope s.heap.objs.size f cd).kindOf (ps.zip us) fun _ => none) (cellsFrom (s.heap.objs.size + 1) scope.names []) (bindC (envOfC qual scope s.heap.objs.size f cd).kindOf (ps.zip us) fun _ => none) s1) :
    Inv (cxOf CX P w K mg base N qual scope f cd A outer s H E) [] (start N vs) H s1 := by
  have hpl : ps.length ≤ N.length := by have := congrArg List.length S.pre; rw [List.length_take] at this; omega
  obtain ⟨h1, tk, rfl, hk⟩ := x.done
  have noA : ∀ b : Addr, b ∉ (cxOf CX P w K mg base N qual scope f cd A outer s H E).ex := fun b z => absurd (show b ∈ ([] : List Addr) from z) (by simp)
  refine ⟨⟨e0.mod, S.kind, rfl, rfl, Nat.le_refl _, fun y z c h1 h2 => ?_, fun y hy => ?_, fun y c _ h => ?_, fun _ => hd, Around.frames_deeper e0.frames, .inr ⟨rfl, rfl⟩, fun b z => absurd z (noA b), e0.bs, e0.bsz, fun b _ _ => noA b, fun b z => absurd z (noA b), e0.funs, e0.frf⟩,
    rfl, e0.bare, Un.kept hk, ⟨_, x.toInCall.ns, fun i y v h1 h2 h3 => ?_⟩, fun y c h => ⟨_, x.cell y c h⟩, e0.hok.fresh (Nat.le_refl _), fun y c h => ?_, fun p hp => absurd (show p ∈ ([] : List (Addr × Obj)) from hp) (by simp), e0.hok.kept hk, ?_⟩
  · exact name_of_addr x.apart (PySem.mem_of_lookup h1) (PySem.mem_of_lookup h2)
  · have hy : scope.names.lookup y = some .cell ∨ scope.names.lookup y = some .free := hy
    rcases hy with hy | hy
    · exact cell_has hy
    · exact absurd rfl (S.nofree _ (PySem.mem_of_lookup hy))
  · exact Nat.le_of_lt (x.above y c (PySem.mem_of_lookup h))
  · have hi : i < vs.length := by
      unfold start at h2
      by_cases hi : i < vs.length
      · exact hi
      · rw [List.getElem?_append_right (by simpa using hi)] at h2
        rw [List.getElem?_replicate] at h2
        split at h2 <;> cases h2
    have ha : vs[i]? = some v := by
      unfold start at h2
      rw [List.getElem?_append_left (by simpa using hi), List.getElem?_map] at h2
      cases e : vs[i]? with
      | none => rw [e] at h2; cases h2
      | some a => rw [e] at h2; cases h2; rfl
    obtain ⟨u, hu, rv⟩ := r.get ha
    have hp : ps[i]? = some y := by
      rw [← S.pre, List.getElem?_take_of_lt (by omega)]; exact h1
    have ndP : ps.Nodup := by rw [← S.pre]; exact S.nd.sublist (List.take_sublist _ _)
    refine ⟨u, rv, ?_⟩
    rcases S.par y (List.mem_of_getElem? hp) with k | k
    · exact .inl ⟨k, bindL_get ndP hp hu k⟩
    · obtain ⟨c, e⟩ := cell_has (n := s.heap.objs.size + 1) k
      refine .inr ⟨.inl k, c, e, ?_⟩
      have q := x.cell y c e
      rw [bindC_get ndP hp hu (by show scope.names.lookup y ≠ _; rw [k]; decide)] at q
      exact q
  · exact e0.hok.fresh (Nat.le_of_lt (x.above y c (PySem.mem_of_lookup h)))
  · unfold start
    show _ = N.length
    rw [List.length_append, List.length_map, List.length_replicate]
    omega

theorem fn_of {CX : CXT} {P : Program} {w : World} {K : PySem.W.Frag} {mg : Str → Option Value} {base : Heap} {k : Nat} {f : Addr} {name qual : Str} {params : Arguments} {body : List Stmt} {scope : Scope} {dV kV doc pm cdv ct oc : Value} {an od : Option Addr}
    {osl : Array (Option Value)} {N ps : List Str} {sp : Sp} (lk : K.lookup f = some ⟨oc, od, .func (PySem.W.fnOf name qual params body scope dV kV doc pm an cdv ct), osl⟩) (hcd : PySem.W.codeIn K cdv qual = true) (S : FnScope N ps scope)
    (len : ∀ vs H Q E, sp vs H Q E → vs.length = ps.length)
    (hbody : ∀ (A : Around) (outer : List Env) (s : Shared) (H : Hp) (vs : List V) (Q : VK) (E : XK), Room k (A.deeper (envOfC qual scope s.heap.objs.size f cdv)) → sp vs H Q E →
      ∃ t, PSs (cxOf CX P w K mg base N qual scope f cdv A outer s H E) body t ∧ t { nx := fun _ H' => Q .non H', rt := Q } (start N vs) H) :
    FnOk P w K mg base CX (k + 1) f (PySem.W.fnOf name qual params body scope dV kV doc pm an cdv ct) ps sp := by
  refine ⟨len, fun A outer s H args us vs Q E hr e0 hb r hsp => ?_⟩
  have hl := len _ _ _ _ hsp
  have KX : K.In s.heap := e0.mod.kin.keeps fun b o e => (e0.bs b o e).1
  have lim : s.heap.NoLimit := e0.mod.nolimit.keeps fun b o e => (e0.bs b o e).1
  have hkind : ∀ y ∈ ps.zip us, scope.names.lookup y.1 = some .local ∨ (scope.names.lookup y.1 = some .cell ∧ ((cellsFrom (s.heap.objs.size + 1) scope.names []).lookup y.1).isSome = true) := fun ⟨n, v⟩ hy => by
    rcases S.par n (List.of_mem_zip hy).1 with q | q
    · exact .inl q
    · exact .inr ⟨q, PySem.W.cellsFrom_some _ _ _ (.inl q)⟩
  refine codeAny_call_function hr.depth (KX _ _ lk) rfl S.co S.gen rfl (PySem.W.codeRec_of KX hcd) (hb _ _ _ _ ?_)
  refine wpAny_newFunctionEnv_cells S.kind hkind fun env he s1 x => ?_
  subst he
  refine ⟨lim.keeps x.toInCall.keep, codeAny_func ?_⟩
  obtain ⟨t, ht, hq⟩ := hbody A outer s H vs Q E (hr.deeper _) hsp
  have I : Inv (cxOf CX P w K mg base N qual scope f cdv A outer s H E) [] (start N vs) H s1 := inv_start S hr.hd e0 hl r x
  refine wpAny_mono (ht [] s1 (start N vs) H _ I hq) (fun fl s' hs => ?_) fun e s' hs => hs
  have fin : ∀ {σ' : St} {H' : Hp} {v : V} {u : Value}, Inv (cxOf CX P w K mg base N qual scope f cdv A outer s H E) [] σ' H' s' → RelV v u → Q v H' → CE outer P w H s Q u s' :=
    fun {σ' H' v u} J rv q => ⟨v, H', J.os, J.bare, J.base, J.hok, rv, q⟩
  cases fl with
  | ret u =>
    obtain ⟨v, σ', H', J, rv, q⟩ := hs
    exact fin J rv q
  | next =>
    obtain ⟨σ', H', J, q⟩ := hs
    exact fin (v := V.non) (u := Value.none) J rfl q
  | brk =>
    obtain ⟨_, _, _, q⟩ := hs
    exact False.elim q
  | cont =>
    obtain ⟨_, _, _, q⟩ := hs
    exact False.elim q
end L2

namespace L2
open PySem PySem.Spec PyProof.Rows
section
variable {X : Cx} {x : Str} {p pos : Pos} {e : Expr} {es : List Expr} {t : TA} {id T : String} {r : List V → Hp → VK → Prop}

def tCB (r : List V → Hp → VK → Prop) (t : TA) : TE := fun σ H Q => t σ H fun vs H1 => r vs H1 Q
theorem pe_callB (hc : CallR X (.builtin id) r) (hg : Gl X x) (hm : X.mg x = none) (hv : bootBuiltins x = some (.builtin id)) (ha : PA X (e :: es) t) (hn : x ≠ "__name__" := by decide) (hdb : (x == ("__debug__" : Str)) = false := by decide)
    (he : starEach (e :: es) X.env = (false, eval e X.env) :: starEach es X.env := by rfl) (hpl : (backTo pos (starEach es X.env)).any (·.1) = false := by rfl) : PE X (.Call (.Name x p) (e :: es) [] pos) (tCB r t) := by
  intro pins s σ H Q I h
  refine wpAny_Call_Name_kw (ld_blt I hg hm hv ?_ hn hdb)
  exact PyProof.Rows.callWith_builtin1 (thn (ha pos pins s σ H _ I h) fun us s1 ⟨vs, H1, I1, r1, q1⟩ => hc pins s1 σ H1 vs us Q I1 r1 q1) he hpl
theorem pe_callTy (hc : CallR X (.type T) r) (hg : Gl X x) (hm : X.mg x = none) (hv : bootBuiltins x = some (.type T)) (ha : PA X (e :: es) t) (hn : x ≠ "__name__" := by decide) (hdb : (x == ("__debug__" : Str)) = false := by decide)
    (he : starEach (e :: es) X.env = (false, eval e X.env) :: starEach es X.env := by rfl) (hpl : (backTo pos (starEach es X.env)).any (·.1) = false := by rfl) : PE X (.Call (.Name x p) (e :: es) [] pos) (tCB r t) := by
  intro pins s σ H Q I h
  refine wpAny_Call_Name_kw (ld_blt I hg hm hv ?_ hn hdb)
  exact PyProof.Rows.callWith_type1 (thn (ha pos pins s σ H _ I h) fun us s1 ⟨vs, H1, I1, r1, q1⟩ => hc pins s1 σ H1 vs us Q I1 r1 q1) he hpl
end
end L2

namespace HT
open PySem PyProof.Rows

section
open PySem.SeqAt
open PySem.AutoSeq1 (wpAny_loadPart')
open PySem.MeetsSeq PySem.MeetsSeq2 PySem.MeetsSeq3

end

section
variable {prog : Program} {w : World} {A : Around} {E : Value → Shared → Prop} {s : Shared}

theorem cat_tup {t b : Addr} {vs ws : List Value} {Q : Value → Shared → Prop} (ht : IsTup s.heap t vs.toArray) (hb : IsTup s.heap b ws.toArray) (hv : vs ≠ [])
    (h1 : ws = [] → Q (.ref t) s) (h2 : ws ≠ [] → Q (.ref s.heap.objs.size) { s with heap := s.heap.push { cls := .type "tuple", data := .seq (vs ++ ws).toArray } })
    (hsz : vs.length + ws.length ≤ sizeLine) : wpAny (model prog w) A (binaryOp .Add (.ref t) (.ref b)) Q E s := by
  obtain ⟨⟨cls, dd, data, sl⟩, ho, hc, n, hd⟩ := id ht
  obtain ⟨⟨cls2, dd2, data2, sl2⟩, ho2, hc2, n2, hd2⟩ := id hb
  simp only at hc hd hc2 hd2
  subst hc hd hc2 hd2
  have e : vs.toArray ++ ws.toArray = (vs ++ ws).toArray := by simp
  by_cases hw : ws = []
  · exact concat_meets ⟨_, ho, rfl⟩ ⟨_, ho2, rfl⟩ noFill_tuple_add seq_tuple_add PySem.F.slot_tuple_add PySem.F.entry_tuple_add (PySem.F.args_tuple_add_2 _ _)
      (tuple_addW1 t b vs.toArray ws.toArray n n2 dd dd2 sl sl2 (by simpa using hv) (by simp [hw])) ⟨ho, ho2, h1 hw⟩
  · refine concat_meets ⟨_, ho, rfl⟩ ⟨_, ho2, rfl⟩ noFill_tuple_add seq_tuple_add PySem.F.slot_tuple_add PySem.F.entry_tuple_add (PySem.F.args_tuple_add_2 _ _)
      (tuple_addW2 t b vs.toArray ws.toArray n n2 dd dd2 sl sl2 (by simpa using hv) (by simpa using hw) (by rw [List.size_toArray, List.size_toArray]; exact hsz)) ⟨ho, ho2, ?_⟩
    rw [e]
    exact h2 hw

/-! ### t[a:b], not the whole -/
def sIx (n d : Nat) : Option Int → Nat
  | none => d
  | some v => if v < 0 then (v + (n : Int)).toNat else min v.toNat n
theorem sIx_le (n d : Nat) (hd : d ≤ n) (o : Option Int) : sIx n d o ≤ n := by
  cases o with
  | none => exact hd
  | some v =>
    show (if v < 0 then (v + (n : Int)).toNat else min v.toNat n) ≤ n
    by_cases hv : v < 0
    · rw [if_pos hv]; omega
    · rw [if_neg hv]; exact Nat.min_le_right _ _
theorem clip_eq (v : Int) (n d : Nat) : (if v < 0 then max (v + (n : Int)) 0 else min v (n : Int)) = ((sIx n d (some v) : Nat) : Int) := by
  show (if v < 0 then max (v + (n : Int)) 0 else min v (n : Int)) = (((if v < 0 then (v + (n : Int)).toNat else min v.toNat n) : Nat) : Int)
  by_cases hv : v < 0
  · simp only [if_pos hv]; omega
  · simp only [if_neg hv]; omega
theorem adjust_gen (lo hi : Option Int) (n : Nat) : Builtin.Slice.sliceAdjust lo hi 1 (n : Int) = (((sIx n 0 lo : Nat) : Int), ((sIx n n hi : Nat) : Int)) := by
  have h1 : ¬ ((1 : Int) < 0) := by omega
  unfold Builtin.Slice.sliceAdjust
  simp only [h1, if_false]
  refine Prod.ext ?_ ?_
  · cases lo with
    | none => rfl
    | some v => exact clip_eq v n 0
  · cases hi with
    | none => rfl
    | some v => exact clip_eq v n n
theorem places_gen (i j : Nat) : Builtin.Slice.slicePlaces (i : Int) (j : Int) 1 = j - i := by
  unfold Builtin.Slice.slicePlaces
  have h1 : (1 : Int) > 0 := by omega
  simp only [h1, if_true, Int.ediv_one]
  split <;> omega
theorem slicePart_ {v : Value} {o : Option Int} {Q : Option Int → Shared → Prop} (p : IsPart v o) (h : Q o s) : wpAny (model prog w) A (Builtin.Slice.slicePartIndex v) Q E s := by
  cases p with
  | none => exact slicePart_none h
  | int i t => exact slicePart_int h
theorem sliceApplied_gen {sl : Addr} {vl vu : Value} {lo hi : Option Int} {n : Nat} {Q : Int × Int × Nat → Shared → Prop} (hs : s.heap.IsSliceOf sl vl vu .none) (pl : IsPart vl lo) (pu : IsPart vu hi)
    (h : Q (((sIx n 0 lo : Nat) : Int), 1, sIx n n hi - sIx n 0 lo) s) : wpAny (model prog w) A (Builtin.Slice.sliceApplied (.ref sl) (pure (n : Int))) Q E s := by
  obtain ⟨os, hos, hcs, hds⟩ := id hs
  unfold Builtin.Slice.sliceApplied Builtin.Slice.sliceFields
  refine wpAny_bind (wpAny_bind (wpAny_field hos hds (x := vl) rfl (wpAny_bind (wpAny_field hos hds (x := vu) rfl (wpAny_bind (wpAny_field hos hds (x := .none) rfl (wpAny_pure ?_)))))))
  refine wpAny_bind (slicePart_none ?_)
  show wpAny _ _ (if ((1 : Int) == 0) = true then _ else _) _ _ s
  rw [if_neg (by decide)]
  refine wpAny_bind (slicePart_ pl (wpAny_bind (slicePart_ pu (wpAny_bind (wpAny_pure ?_)))))
  show wpAny _ _ (match Builtin.Slice.sliceAdjust lo hi 1 (n : Int) with | (lo, hi) => pure (lo, (1 : Int), Builtin.Slice.slicePlaces lo hi 1)) _ _ s
  rw [adjust_gen lo hi n]
  show wpAny _ _ (pure (((sIx n 0 lo : Nat) : Int), (1 : Int), Builtin.Slice.slicePlaces ((sIx n 0 lo : Nat) : Int) ((sIx n n hi : Nat) : Int) 1)) _ _ s
  rw [places_gen]
  exact wpAny_pure h
theorem pick_gen (xs : Array Value) (i k : Nat) : ((List.range k).filterMap fun (m : Nat) => xs[((i : Int) + (m : Int) * 1).toNat]?).toArray = ((xs.toList.drop i).take k).toArray := by
  have e : (fun (m : Nat) => xs[((i : Int) + (m : Int) * 1).toNat]?) = fun m => xs[i + m]? := by
    funext m
    have : ((i : Int) + (m : Int) * 1).toNat = i + m := by omega
    rw [this]
  rw [e]
  have := pick_run xs i k
  rw [List.filterMap_map] at this
  have e2 : ((fun x => xs[x]?) ∘ fun x => i + x) = fun m => xs[i + m]? := rfl
  rw [e2] at this
  rw [this]

theorem getItem_tuple_cut {t sl : Addr} {items : Array Value} {vl vu : Value} {lo hi : Option Int} {Q : Value → Shared → Prop} (ht : IsTup s.heap t items) (hs : s.heap.IsSliceOf sl vl vu .none) (pl : IsPart vl lo) (pu : IsPart vu hi)
    (hw : ¬ (sIx items.size 0 lo = 0 ∧ sIx items.size items.size hi = items.size))
    (h : Q (.ref s.heap.objs.size) { s with heap := s.heap.push { cls := .type "tuple", data := .seq ((items.toList.drop (sIx items.size 0 lo)).take (sIx items.size items.size hi - sIx items.size 0 lo)).toArray } })
    (hsz : items.size ≤ sizeLine) : wpAny (model prog w) A (getItem (.ref t) (.ref sl)) Q E s := by
  have htake : sizeOk (.seq ((items.toList.drop (sIx items.size 0 lo)).take (sIx items.size items.size hi - sIx items.size 0 lo)).toArray) := by
    show ((items.toList.drop (sIx items.size 0 lo)).take (sIx items.size items.size hi - sIx items.size 0 lo)).toArray.size ≤ sizeLine
    rw [List.size_toArray, List.length_take, List.length_drop, Array.length_toList]
    omega
  have hj : sIx items.size items.size hi ≤ items.size := sIx_le _ _ (Nat.le_refl _) hi
  obtain ⟨os, hos, hcs, hds⟩ := id hs
  have hTs : s.TypeIs (.ref sl) "slice" := ⟨os, hos, hcs⟩
  unfold getItem
  try with_reducible refine wpAny_holding ?_
  first | refine wpAny_bind (wpAny_pure ?_) | skip
  refine wpAny_bind (wpAny_sequenceKey ht.typeIs (by decide) ?_)
  refine wpAny_bind (wpAny_callSpecial?_slot (name := Str.ofString "__getitem__") ht.typeIs PyProof.Rows.slot_tuple_getitem
    (wpAny_call_entry PyProof.Rows.slot_tuple_getitem ht.typeIs entry_tuple_getitem ?_ (args_tuple_getitem _ _)))
  show wpAny _ _ (Builtin.Tuple.tupleItemsOf (.ref t) >>= _) _ _ s
  refine wpAny_bind (tupleItemsOf_ ht ?_)
  refine wpAny_bind (wpAny_typeOf hTs ?_)
  rw [if_pos (by decide)]
  refine wpAny_bind (sliceApplied_gen hs pl pu ?_)
  have hno : ¬ ((((sIx items.size 0 lo : Nat) : Int) == 0 && (1 : Int) == 1 && (sIx items.size items.size hi - sIx items.size 0 lo) == items.size) = true) := by
    intro q
    rw [Bool.and_eq_true, Bool.and_eq_true] at q
    have q1 : ((sIx items.size 0 lo : Nat) : Int) = 0 := eq_of_beq q.1.1
    have q2 : sIx items.size items.size hi - sIx items.size 0 lo = items.size := eq_of_beq q.2
    exact hw ⟨by omega, by omega⟩
  show wpAny _ _ (if (((sIx items.size 0 lo : Nat) : Int) == 0 && (1 : Int) == 1 && (sIx items.size items.size hi - sIx items.size 0 lo) == items.size) = true then _ else _) _ _ s
  rw [if_neg hno, pick_gen]
  first
    | exact wpAny_bind (m := Builtin.Tuple.tupleExact _) (wpAny_newObj_type (wpAny_pure ⟨_, rfl, wpAny_pure h⟩) htake)
    | exact wpAny_bind (m := Builtin.Tuple.tupleExact _) (wpAny_newObj_type (wpAny_bind (wpAny_pure (wpAny_pure ⟨_, rfl, wpAny_pure h⟩))) htake)
    | exact wpAny_bind (wpAny_bind (m := Builtin.Tuple.tupleExact _) (wpAny_newObj_type (wpAny_pure (wpAny_pure ⟨_, rfl, wpAny_pure h⟩)) htake))
    | exact wpAny_bind (wpAny_bind (m := Builtin.Tuple.tupleExact _) (wpAny_newObj_type (wpAny_pure ⟨_, rfl, wpAny_pure h⟩) htake))
end
end HT

namespace L2
open PySem PySem.Spec PyProof.Rows

/-! ### the parts of a slice -/
abbrev TO := St → Hp → (Option Int → Hp → Prop) → Prop
def PO (X : Cx) (e : Option Expr) (t : TO) : Prop :=
  ∀ (pins : List (Addr × Obj)) (s : Shared) (σ : St) (H : Hp) (Q : Option Int → Hp → Prop), Inv X pins σ H s → t σ H Q →
    wpAny (model X.prog X.w) X.A (evalPart e X.env) (fun u s' => ∃ o H', Inv X pins σ H' s' ∧ IsPart u o ∧ Q o H') X.xe s
def tNoPart : TO := fun _ H Q => Q none H
def tPart (t : TE) : TO := fun σ H Q => t σ H fun x H1 => ∃ i, x = .int i ∧ Q (some i) H1

section
variable {X : Cx} {e : Expr} {te : TE} {lo hi : Option Expr} {tl th : TO} {pos p2 : Pos}

theorem po_none : PO X none tNoPart := by
  intro pins s σ H Q I h
  rw [evalPart_none]
  exact wpAny_pure ⟨none, H, I, .none, h⟩
theorem po_some (h : PE X e te) : PO X (some e) (tPart te) := by
  intro pins s σ H Q I hw
  rw [evalPart_some]
  refine thn (h pins s σ H _ I hw) fun u s1 ⟨x, H1, I1, r1, q1⟩ => ?_
  obtain ⟨i, rfl, q⟩ := q1
  obtain ⟨t, rfl⟩ := r1
  exact ⟨some i, H1, I1, .int i t, q⟩

def SlR (X : Cx) (r : V → Option Int → Option Int → Hp → VK → Prop) : Prop :=
  ∀ (pins : List (Addr × Obj)) (s : Shared) (σ : St) (H : Hp) (x : V) (v vl vu : Value) (lo hi : Option Int) (sl : Addr) (Q : VK), Inv X pins σ H s → RelV x v → s.heap.IsSliceOf sl vl vu .none → IsPart vl lo → IsPart vu hi → r x lo hi H Q →
    ∃ T id, typeLookup (.type T) "__getitem__" = pure (some (.builtin id)) ∧ s.TypeIs v T ∧ wpAny (model X.prog X.w) X.A (getItem v (.ref sl)) (EP X pins σ Q) X.xe s
theorem SlR.or {r r' : V → Option Int → Option Int → Hp → VK → Prop} (h : SlR X r) (h' : SlR X r') : SlR X (fun x lo hi H Q => r x lo hi H Q ∨ r' x lo hi H Q) := by
  intro pins s σ H x v vl vu lo hi sl Q I rx hs pl pu q
  rcases q with q | q
  · exact h pins s σ H x v vl vu lo hi sl Q I rx hs pl pu q
  · exact h' pins s σ H x v vl vu lo hi sl Q I rx hs pl pu q
def tSl (r : V → Option Int → Option Int → Hp → VK → Prop) (te : TE) (tl th : TO) : TE := fun σ H Q => te σ H fun x H1 => tl σ H1 fun l H2 => th σ H2 fun u H3 => r x l u H3 Q
theorem pe_slice {r : V → Option Int → Option Int → Hp → VK → Prop} (hr : SlR X r) (he : PE X e te) (hl : PO X lo tl) (hu : PO X hi th) : PE X (.Subscript e (.Slice lo hi none p2) pos) (tSl r te tl th) := by
  intro pins s σ H Q I h
  refine Subscript_ (thn (he pins s σ H _ I h) fun v s1 ⟨x, H1, I1, r1, q1⟩ => ?_)
  refine wpAny_Slice (thn (hl pins s1 σ H1 _ I1 q1) fun vl s2 ⟨l, H2, I2, pl, q2⟩ => thn (hu pins s2 σ H2 _ I2 q2) fun vu s3 ⟨u, H3, I3, pu, q3⟩ => ?_)
  rw [evalPart_none]
  refine wpAny_pure ?_
  have I4 : Inv X pins σ H3 { s3 with heap := s3.heap.push { cls := .type "slice", data := .fields #[vl, vu, .none] } } := I3.kept (t' := s3.toks) fun b ob q => Heap.get?_push_of_some _ q
  obtain ⟨T, id, hT, ht, hg⟩ := hr pins { s3 with heap := s3.heap.push { cls := .type "slice", data := .fields #[vl, vu, .none] } } σ H3 x v vl vu l u s3.heap.objs.size Q I4 r1 (Heap.IsSliceOf.new ..) pl pu q3
  show wpAny (model X.prog X.w) X.A (subscriptTail e (.Slice lo hi none p2) v (.ref s3.heap.objs.size)) (EP X pins σ Q) X.xe { s3 with heap := s3.heap.push { cls := .type "slice", data := .fields #[vl, vu, .none] } }
  exact tail_any (ops := [.ref s3.heap.objs.size, v]) ht hT hg (by with_unfolding_all rfl)

def cutV (xs : List V) (lo hi : Option Int) : List V := (xs.drop (HT.sIx xs.length 0 lo)).take (HT.sIx xs.length xs.length hi - HT.sIx xs.length 0 lo)
theorem cutV_length (xs : List V) (lo hi : Option Int) : (cutV xs lo hi).length ≤ xs.length := by
  unfold cutV
  rw [List.length_take, List.length_drop]
  omega
def rSlT (K : PySem.W.Frag) : V → Option Int → Option Int → Hp → VK → Prop := fun x lo hi H Q => ∃ a xs, x = .ref a ∧ SqT K H a xs ∧
  ¬ (HT.sIx xs.length 0 lo = 0 ∧ HT.sIx xs.length xs.length hi = xs.length) ∧ ∀ p, H p = none → Q (.ref p) (upd H p (.tup (cutV xs lo hi)))
theorem sl_tup : SlR X (rSlT X.K) := by
  intro pins s σ H x v vl vu lo hi sl Q I rx hs pl pu h
  obtain ⟨a, xs, rfl, hx, hw, q⟩ := h
  cases rx
  obtain ⟨its, r, ht, hz⟩ := I.tuple hx
  have hlen : its.toArray.size = xs.length := by rw [List.size_toArray]; exact r.length.symm
  refine ⟨"tuple", _, PyProof.Rows.slot_tuple_getitem.lookup, ht.typeIs, ?_⟩
  refine HT.getItem_tuple_cut ht hs pl pu (by rw [hlen]; exact hw) ?_ (by rw [hlen]; exact hz)
  rw [hlen]
  refine ⟨.ref s.heap.objs.size, _, I.laid (t' := s.toks) (o := .tup (cutV xs lo hi)) (fun b ob q => Heap.get?_push_of_some _ q) (Nat.le_refl _) ?_, rfl, q _ (I.hok.fresh (Nat.le_refl _))⟩
  exact ⟨Nat.le_trans (cutV_length xs lo hi) hz, _, (r.drop (HT.sIx xs.length 0 lo)).take (HT.sIx xs.length xs.length hi - HT.sIx xs.length 0 lo), IsTup.new _ _⟩

/-! ### t < u, t + u -/
def rCatT (K : PySem.W.Frag) : R2 := fun x y H Q => ∃ a b xs ys, x = .ref a ∧ y = .ref b ∧ SqT K H a xs ∧ SqT K H b ys ∧ xs ≠ [] ∧ xs.length + ys.length ≤ sizeLine ∧
  (ys = [] → Q (.ref a) H) ∧ (ys ≠ [] → ∀ p, H p = none → Q (.ref p) (upd H p (.tup (xs ++ ys))))
theorem Vals.nil_iff {xs : List V} {us : List Value} (r : Vals xs us) : us = [] ↔ xs = [] := by
  cases r with
  | nil => simp
  | cons _ _ => simp
theorem op_catT : OpR X (binaryOp .Add) (rCatT X.K) := by
  intro pins s σ H x y v u Q I rx ry h
  obtain ⟨a, b, xs, ys, rfl, rfl, ha, hb, hx, hz, q1, q2⟩ := h
  cases rx
  cases ry
  obtain ⟨its, r1, p1, _⟩ := I.tuple ha
  obtain ⟨its2, r2, p2, _⟩ := I.tuple hb
  refine HT.cat_tup p1 p2 (fun z => hx (r1.nil_iff.mp z)) (fun z => ⟨.ref a, H, I, rfl, q1 (r2.nil_iff.mp z)⟩) (fun z => ?_) (by rw [← r1.length, ← r2.length]; exact hz)
  refine ⟨.ref s.heap.objs.size, _, I.laid (t' := s.toks) (o := .tup (xs ++ ys)) (fun b ob q => Heap.get?_push_of_some _ q) (Nat.le_refl _) ?_, rfl, q2 (fun w => z (r2.nil_iff.mpr w)) _ (I.hok.fresh (Nat.le_refl _))⟩
  exact ⟨by rw [List.length_append]; exact hz, _, r1.append r2, IsTup.new _ _⟩
end
end L2

namespace L2
open PySem PySem.Spec PyProof.Rows

/-! ### places -/
def ixN (n : Nat) (i : Int) : Option Nat := if 0 ≤ i then (if i < n then some i.toNat else none) else if -(n : Int) ≤ i then some (i + n).toNat else none
def atI {α : Type} (xs : List α) (i : Int) : Option α := (ixN xs.length i).bind fun j => xs[j]?
theorem ixN_seq {n : Nat} {i : Int} {j : Nat} (h : ixN n i = some j) : seqIndex? i n = some j ∧ j < n ∧ -(n : Int) ≤ i ∧ i < n := by
  unfold ixN at h
  by_cases h0 : 0 ≤ i
  · rw [if_pos h0] at h
    by_cases h1 : i < n
    · rw [if_pos h1] at h
      have e : i.toNat = j := Option.some.inj h
      exact ⟨by rw [seqIndex_of h0 h1, e], by omega, by omega, h1⟩
    · rw [if_neg h1] at h; cases h
  · rw [if_neg h0] at h
    by_cases h1 : -(n : Int) ≤ i
    · rw [if_pos h1] at h
      have e : (i + n).toNat = j := Option.some.inj h
      exact ⟨by rw [seqIndex_neg (by omega) h1, e], by omega, h1, by omega⟩
    · rw [if_neg h1] at h; cases h
theorem atI_get {α : Type} {xs : List α} {i : Int} {v : α} (h : atI xs i = some v) : ∃ j, seqIndex? i xs.length = some j ∧ xs[j]? = some v ∧ j < xs.length ∧ -(xs.length : Int) ≤ i ∧ i < xs.length := by
  unfold atI at h
  cases e : ixN xs.length i with
  | none => rw [e] at h; cases h
  | some j =>
    rw [e] at h
    obtain ⟨h1, h2, h3, h4⟩ := ixN_seq e
    exact ⟨j, h1, h, h2, h3, h4⟩
/-! ### what may be subscripted -/
def PlainIx (b : Expr) : Prop := ∀ o i, subscripted b false o i = operate [o, i] (getItem o i)
def IxR (X : Cx) (r : R2) : Prop :=
  ∀ (value slice : Expr) (pins : List (Addr × Obj)) (s : Shared) (σ : St) (H : Hp) (x y : V) (v u : Value) (Q : VK), Inv X pins σ H s → RelV x v → RelV y u → r x y H Q →
    subscripted slice false v u = operate [v, u] (getItem v u) → wpAny (model X.prog X.w) X.A (subscriptTail value slice v u) (EP X pins σ Q) X.xe s
def MtR (X : Cx) (id : String) (r : V → List V → Hp → VK → Prop) : Prop :=
  ∀ (pins : List (Addr × Obj)) (s : Shared) (σ : St) (H : Hp) (x : V) (xs : List V) (v : Value) (us : List Value) (Q : VK), Inv X pins σ H s → RelV x v → Vals xs us → r x xs H Q →
    wpAny (model X.prog X.w) X.A (call (.builtin id) (v :: us)) (EP X pins σ Q) X.xe s
section
variable {X : Cx} {a b : Expr} {ta tb : TE} {pos : Pos}
theorem IxR.or {r r' : R2} (h : IxR X r) (h' : IxR X r') : IxR X (fun x y H Q => r x y H Q ∨ r' x y H Q) := by
  intro value slice pins s σ H x y v u Q I rx ry q hs
  rcases q with q | q
  · exact h value slice pins s σ H x y v u Q I rx ry q hs
  · exact h' value slice pins s σ H x y v u Q I rx ry q hs
theorem MtR.or {id : String} {r r' : V → List V → Hp → VK → Prop} (h : MtR X id r) (h' : MtR X id r') : MtR X id (fun x xs H Q => r x xs H Q ∨ r' x xs H Q) := by
  intro pins s σ H x xs v us Q I rx rs q
  rcases q with q | q
  · exact h pins s σ H x xs v us Q I rx rs q
  · exact h' pins s σ H x xs v us Q I rx rs q
theorem pe_ix {r : R2} (hr : IxR X r) (ha : PE X a ta) (hb : PE X b tb) (hs : PlainIx b) : PE X (.Subscript a b pos) (tOp r ta tb) := by
  intro pins s σ H Q I h
  exact Subscript_ (binT ha hb I h fun v u s2 x y H2 I2 rx ry q => hr a b pins s2 σ H2 x y v u Q I2 rx ry q (hs _ _))

def rIxL (K : PySem.W.Frag) : R2 := fun x y H Q => ∃ p xs i v, x = .ref p ∧ y = .int i ∧ SqL K H p xs ∧ atI xs i = some v ∧ Q v H
def rIxT (K : PySem.W.Frag) : R2 := fun x y H Q => ∃ p xs i v, x = .ref p ∧ y = .int i ∧ SqT K H p xs ∧ atI xs i = some v ∧ Q v H
def rIxS : R2 := fun x y H Q => ∃ z i c, x = .str z ∧ y = .int i ∧ z.length ≤ sizeLine ∧ atI z.cps.toList i = some c ∧ Q (.str ⟨#[c]⟩) H
theorem ix_list : IxR X (rIxL X.K) := by
  intro value slice pins s σ H x y v u Q I rx ry h hs
  obtain ⟨p, xs, i, z, rfl, rfl, hq, he, q⟩ := h
  cases rx
  obtain ⟨t, rfl⟩ := ry
  obtain ⟨its, r, pl, hz⟩ := I.list hq
  obtain ⟨j, h1, h2, h3, h4, h5⟩ := atI_get he
  obtain ⟨w, ew, rw'⟩ := r.get h2
  have hl := r.length
  have hn := line63
  have fin : EP X pins σ Q w s := ⟨z, H, I, rw', q⟩
  by_cases h0 : 0 ≤ i
  · have hj : i.toNat = j := by
      rw [seqIndex_of h0 h5] at h1
      exact Option.some.inj h1
    exact item_listR pl.isList h0 (by omega) (by rw [hj]; simpa using ew) fin hs
  · have hj : (i + (its.toArray.size : Int)).toNat = j := by
      rw [seqIndex_neg (by omega) h4] at h1
      rw [List.size_toArray, ← hl]
      exact Option.some.inj h1
    exact subscriptTail_builtinR (x := w) pl.isList.typeIs slot_list_getitem.lookup
      (wpAny_getItem_list_neg (Q := fun r s' => r = w ∧ EP X pins σ Q r s') pl.isList (by omega) (by rw [List.size_toArray] <;> omega) (by omega) (by rw [hj]; simpa using ew) ⟨rfl, fin⟩) hs
theorem ix_tup : IxR X (rIxT X.K) := by
  intro value slice pins s σ H x y v u Q I rx ry h hs
  obtain ⟨p, xs, i, z, rfl, rfl, hq, he, q⟩ := h
  cases rx
  obtain ⟨t, rfl⟩ := ry
  obtain ⟨its, r, pl, hz⟩ := I.tuple hq
  obtain ⟨j, h1, h2, h3, h4, h5⟩ := atI_get he
  obtain ⟨w, ew, rw'⟩ := r.get h2
  have hl := r.length
  have hn := line63
  have fin : EP X pins σ Q w s := ⟨z, H, I, rw', q⟩
  exact subscriptTail_builtinR (x := w) pl.typeIs slot_tuple_getitem.lookup
    (getItem_tuple (j := j) (Q := fun r s' => r = w ∧ EP X pins σ Q r s') pl (by omega) (by omega) (by rw [List.size_toArray, ← hl]; exact h1) (by simpa using ew) ⟨rfl, fin⟩) hs
theorem ix_str : IxR X rIxS := by
  intro value slice pins s σ H x y v u Q I rx ry h hs
  obtain ⟨z, i, c, rfl, rfl, hz, he, q⟩ := h
  obtain ⟨t, rfl⟩ := rx
  obtain ⟨t', rfl⟩ := ry
  obtain ⟨j, h1, h2, h3, h4, h5⟩ := atI_get he
  have hl : z.cps.toList.length = z.length := by simp [Str.length]
  rw [hl] at h1 h4 h5
  have hn := line63
  exact tail_any (typeIs_str s z t) slot_str_getitem.lookup (getItem_str (c := c) (by
    have e1 : decide (i < -(2 ^ 63 : Int)) = false := decide_eq_false (by omega)
    have e2 : decide (i ≥ 2 ^ 63) = false := decide_eq_false (by omega)
    rw [e1, e2, Bool.or_false]) (by rw [h1]; simpa using h2) ⟨.str ⟨#[c]⟩, H, I.tok _, ⟨_, rfl⟩, q⟩) hs
def rIx (K : PySem.W.Frag) : R2 := fun x y H Q => rIxL K x y H Q ∨ rIxT K x y H Q ∨ rIxS x y H Q
theorem ix_seq : IxR X (rIx X.K) := ix_list.or (ix_tup.or ix_str)

/-! ### xs[i] = v, any sign -/
theorem Inv.lst {pins : List (Addr × Obj)} {σ : St} {H : Hp} {s : Shared} {p : Addr} {xs : List V} (I : Inv X pins σ H s) (h : H p = some (.lst xs)) :
    ∃ (its : List Value) (n : Nat), Vals xs its ∧ s.heap.get? p = some { cls := .type "list", data := .seq its.toArray n } ∧ xs.length ≤ sizeLine := by
  obtain ⟨z, its, n, r, e⟩ := I.hok p _ h
  exact ⟨its, n, r, e, z⟩
/-! ### slices -/
theorem slice_bounds (lo hi : Option Int) (n : Nat) : (sliceBounds lo hi none n).1 = ((HT.sIx n 0 lo : Nat) : Int) ∧ (sliceBounds lo hi none n).2.1 = ((HT.sIx n n hi : Nat) : Int) ∧ (sliceBounds lo hi none n).2.2 = 1 := by
  refine ⟨?_, ?_, rfl⟩
  · cases lo with
    | none => simp [sliceBounds, HT.sIx]
    | some i =>
      simp only [sliceBounds, HT.sIx, Option.getD_none, show (1 : Int) > 0 by decide, if_true]
      by_cases h : i < 0
      · simp only [h, if_true] <;> omega
      · simp only [h, if_false] <;> omega
  · cases hi with
    | none => simp [sliceBounds, HT.sIx]
    | some i =>
      simp only [sliceBounds, HT.sIx, Option.getD_none, show (1 : Int) > 0 by decide, if_true]
      by_cases h : i < 0
      · simp only [h, if_true] <;> omega
      · simp only [h, if_false] <;> omega
theorem slicePick_cut (its : List Value) (lo hi : Option Int) : slicePick its.toArray lo hi none = ((its.drop (HT.sIx its.length 0 lo)).take (HT.sIx its.length its.length hi - HT.sIx its.length 0 lo)).toArray := by
  obtain ⟨h1, h2, h3⟩ := slice_bounds lo hi its.toArray.size
  unfold slicePick
  rw [h1, h2, h3]
  simp only [sliceRange_one, pick_run, List.size_toArray] <;> rfl
def rSlL (K : PySem.W.Frag) : V → Option Int → Option Int → Hp → VK → Prop := fun x lo hi H Q => ∃ a xs, x = .ref a ∧ SqL K H a xs ∧ ∀ p, H p = none → Q (.ref p) (upd H p (.lst (cutV xs lo hi)))
theorem sl_list : SlR X (rSlL X.K) := by
  intro pins s σ H x v vl vu lo hi sl Q I rx hs pl pu h
  obtain ⟨a, xs, rfl, hx, q⟩ := h
  cases rx
  obtain ⟨its, r, ht, hz⟩ := I.list hx
  have hlen := r.length
  refine ⟨"list", _, slot_list_getitem.lookup, ht.isList.typeIs, ?_⟩
  refine wpAny_getItem_list_slice ht.isList hs pl pu .none (by simp) ?_ (by rw [List.size_toArray] <;> omega)
  rw [slicePick_cut, ← hlen]
  refine ⟨.ref s.heap.objs.size, _, I.laid (t' := s.toks) (o := .lst (cutV xs lo hi)) (fun b ob q => Heap.get?_push_of_some _ q) (Nat.le_refl _) ?_, rfl, q _ (I.hok.fresh (Nat.le_refl _))⟩
  exact ⟨Nat.le_trans (cutV_length xs lo hi) hz, _, 0, (r.drop (HT.sIx xs.length 0 lo)).take (HT.sIx xs.length xs.length hi - HT.sIx xs.length 0 lo), Heap.get?_push_size _ rfl⟩

/-! ### in, not in: flat items -/
def flatV : V → Bool
  | .non => true
  | .bl _ => true
  | .int _ => true
  | .str _ => true
  | _ => false
def eqV : V → V → Bool
  | .non, .non => true
  | .bl a, .bl b => a == b
  | .bl a, .int b => (if a then 1 else 0) == b
  | .int a, .bl b => a == (if b then 1 else 0)
  | .int a, .int b => a == b
  | .str a, .str b => a == b
  | _, _ => false
theorem eqAt_V {A : Around} {s : Shared} {y x : V} {u v : Value} (ry : RelV y u) (rx : RelV x v) (fy : flatV y = true) (fx : flatV x = true) : SeqAt.EqAt A s u v (eqV y x) := by
  cases y with
  | non =>
    cases ry
    cases x with
    | non => cases rx; exact SeqAt.EqAt.same _
    | bl b => cases rx; exact SeqAt.EqAt.none_bool b
    | int b => obtain ⟨t, rfl⟩ := rx; exact SeqAt.EqAt.none_int b t
    | str b => obtain ⟨t, rfl⟩ := rx; exact SeqAt.EqAt.none_str b t
    | _ => exact absurd (show false = true from fx) Bool.false_ne_true
  | bl a =>
    cases ry
    cases x with
    | non => cases rx; exact SeqAt.EqAt.bool_none a
    | bl b => cases rx; exact SeqAt.EqAt.bool_bool a b
    | int b => obtain ⟨t, rfl⟩ := rx; exact SeqAt.EqAt.bool_int a b t
    | str b => obtain ⟨t, rfl⟩ := rx; exact SeqAt.EqAt.bool_str a b t
    | _ => exact absurd (show false = true from fx) Bool.false_ne_true
  | int a =>
    obtain ⟨t', rfl⟩ := ry
    cases x with
    | non => cases rx; exact SeqAt.EqAt.int_none a t'
    | bl b => cases rx; exact SeqAt.EqAt.int_bool a t' b
    | int b => obtain ⟨t, rfl⟩ := rx; exact SeqAt.EqAt.int_int a t' b t
    | str b => obtain ⟨t, rfl⟩ := rx; exact SeqAt.EqAt.int_str a t' b t
    | _ => exact absurd (show false = true from fx) Bool.false_ne_true
  | str a =>
    obtain ⟨t', rfl⟩ := ry
    cases x with
    | non => cases rx; exact SeqAt.EqAt.str_none a t'
    | bl b => cases rx; exact SeqAt.EqAt.str_bool a t' b
    | int b => obtain ⟨t, rfl⟩ := rx; exact SeqAt.EqAt.str_int a t' b t
    | str b => obtain ⟨t, rfl⟩ := rx; exact SeqAt.EqAt.str_str a t' b t
    | _ => exact absurd (show false = true from fx) Bool.false_ne_true
  | _ => exact absurd (show false = true from fy) Bool.false_ne_true
def eqU (x : V) (u : Value) : Bool := match u with
  | .none => eqV .non x
  | .bool b => eqV (.bl b) x
  | .int i _ => eqV (.int i) x
  | .str z _ => eqV (.str z) x
  | _ => false
theorem eqU_of {x y : V} {u : Value} (r : RelV y u) (f : flatV y = true) : eqU x u = eqV y x := by
  cases y with
  | non => cases r; rfl
  | bl b => cases r; rfl
  | int i => obtain ⟨t, rfl⟩ := r; rfl
  | str z => obtain ⟨t, rfl⟩ := r; rfl
  | _ => exact absurd (show false = true from f) Bool.false_ne_true
theorem any_eqU {x : V} : ∀ {xs : List V} {us : List Value}, Vals xs us → xs.all flatV = true → us.any (eqU x) = xs.any fun y => eqV y x
  | _, _, .nil, _ => rfl
  | y :: xs, u :: us, .cons r t, f => by
    rw [List.all_cons, Bool.and_eq_true] at f
    rw [List.any_cons, List.any_cons, eqU_of r f.1, any_eqU t f.2]
theorem mem_eqAt {A : Around} {s : Shared} {x : V} {v : Value} (rx : RelV x v) (fx : flatV x = true) : ∀ {xs : List V} {us : List Value}, Vals xs us → xs.all flatV = true → ∀ u ∈ us, SeqAt.EqAt A s u v (eqU x u)
  | _, _, .nil, _ => fun u hu => by cases hu
  | y :: xs, u :: us, .cons r t, f => fun u' hu => by
    rw [List.all_cons, Bool.and_eq_true] at f
    rcases List.mem_cons.mp hu with rfl | hu
    · rw [eqU_of r f.1]; exact eqAt_V r rx f.1 fx
    · exact mem_eqAt rx fx t f.2 u' hu
def inV (x : V) (xs : List V) : Bool := xs.any fun y => eqV y x
def rIn (K : PySem.W.Frag) (neg : Bool) : R2 := fun x y H Q => ∃ p xs, y = .ref p ∧ (SqL K H p xs ∨ SqT K H p xs) ∧ flatV x = true ∧ xs.all flatV = true ∧ Q (.bl (if neg then !inV x xs else inV x xs)) H
theorem op_in_seq : OpR X (compareOp .In) (rIn X.K false) := by
  intro pins s σ H x y v u Q I rx ry h
  obtain ⟨p, xs, rfl, hq, fx, fs, q⟩ := h
  cases ry
  rcases hq with hq | hq
  · obtain ⟨its, r, pl, hz⟩ := I.list hq
    refine SeqAt.in_listAt (eqU x) pl.isList (fun w hw => mem_eqAt rx fx r fs w (by simpa using hw)) ⟨.bl _, H, I, rfl, ?_⟩
    rw [show its.toArray.any (eqU x) = its.any (eqU x) by simp, any_eqU r fs]
    exact q
  · obtain ⟨its, r, pl, hz⟩ := I.tuple hq
    refine SeqAt.in_tupleAt (eqU x) pl (fun w hw => mem_eqAt rx fx r fs w (by simpa using hw)) ⟨.bl _, H, I, rfl, ?_⟩
    rw [show its.toArray.any (eqU x) = its.any (eqU x) by simp, any_eqU r fs]
    exact q
/-! ### len, list(x), tuple(x) of any list or tuple that is read -/
theorem CallR.or {f : Value} {r r' : List V → Hp → VK → Prop} (h : CallR X f r) (h' : CallR X f r') : CallR X f (fun xs H Q => r xs H Q ∨ r' xs H Q) := by
  intro pins s σ H xs us Q I rs q
  rcases q with q | q
  · exact h pins s σ H xs us Q I rs q
  · exact h' pins s σ H xs us Q I rs q
/-! ### the call of a builtin's method: o.m(..) -/
def tyV (K : PySem.W.Frag) (T : String) (x : V) (H : Hp) : Prop := match x with
  | .str _ => T = "str"
  | .int _ => T = "int"
  | .ref p => (T = "list" ∧ ∃ xs, SqL K H p xs) ∨ (T = "tuple" ∧ ∃ o, K.lookup p = some o ∧ o.cls = .type "tuple" ∧ o.dict = none) ∨
      (T = "dict" ∧ ((∃ kvs, H p = some (.dK kvs)) ∨ ∃ kvs, H p = some (.dT kvs))) ∨ (T = "set" ∧ ∃ S n, H p = some (.set S n))
  | _ => False
theorem tyV_is {pins : List (Addr × Obj)} {σ : St} {H : Hp} {s : Shared} {T : String} {x : V} {v : Value} (I : Inv X pins σ H s) (r : RelV x v) (ty : tyV X.K T x H) :
    s.TypeIs v T ∧ ∀ a, v = .ref a → ∃ ob, s.heap.get? a = some ob ∧ ob.dict = none := by
  cases x with
  | str z =>
    obtain ⟨t, rfl⟩ := r
    cases (show T = "str" from ty)
    exact ⟨typeIs_str s z t, fun _ e => nomatch e⟩
  | int i =>
    obtain ⟨t, rfl⟩ := r
    cases (show T = "int" from ty)
    exact ⟨typeIs_int s i t, fun _ e => nomatch e⟩
  | ref p =>
    cases r
    rcases ty with ⟨rfl, xs, hq⟩ | ⟨rfl, o, hk, hc, hd⟩ | ⟨rfl, hk⟩ | ⟨rfl, S, n, hk⟩
    · obtain ⟨its, _, pl, _⟩ := I.list hq
      refine ⟨pl.isList.typeIs, fun a e => ?_⟩
      cases e
      obtain ⟨o, n, e, c, hd, _⟩ := pl
      exact ⟨o, e, hd⟩
    · refine ⟨⟨o, I.kIn p o hk, hc⟩, fun a e => ?_⟩
      cases e
      exact ⟨o, I.kIn _ o hk, hd⟩
    · have z : ∃ o, s.heap.get? p = some o ∧ o.ExactDict := by
        rcases hk with ⟨kvs, hk⟩ | ⟨kvs, hk⟩
        · obtain ⟨_, _, _, _, o, _, _, e, ex, _⟩ := I.hok p _ hk
          exact ⟨o, e, ex⟩
        · obtain ⟨_, _, _, _, o, _, _, e, ex, _⟩ := I.hok p _ hk
          exact ⟨o, e, ex⟩
      obtain ⟨o, e, ex⟩ := z
      refine ⟨⟨o, e, ex.1⟩, fun a e2 => ?_⟩
      cases e2
      exact ⟨o, e, ex.2.1⟩
    · obtain ⟨o, _, _, _, e, ex, _⟩ := I.hok p _ hk
      refine ⟨⟨o, e, ex.1⟩, fun a e2 => ?_⟩
      cases e2
      exact ⟨o, e, ex.2.1⟩
  | _ => exact False.elim ty
def tBM (K : PySem.W.Frag) (T : String) (r : V → List V → Hp → VK → Prop) (to : TE) (t : TA) : TE := fun σ H Q => to σ H fun x H1 => tyV K T x H1 ∧ t σ H1 fun xs H2 => r x xs H2 Q
variable {o e : Expr} {es : List Expr} {to : TE} {t : TA} {name : Str} {apos cpos : Pos} {T id : String} {r : V → List V → Hp → VK → Prop}
theorem pe_bm (pa : PlainAttrs T) (slot : Slot T name id) (hty : typeOf (.builtin id) = pure (.type "method_descriptor")) (hm : MtR X id r) (ho : PE X o to) (ha : PA X (e :: es) t)
    (hbase : attributeBase o name X.env (eval o X.env) = eval o X.env := by rfl)
    (hfew : ((backTo cpos (starEach (e :: es) X.env)).all (fun x => !x.1) && (backToKw cpos (keywordEach [] X.env)).all (fun x => x.1.isSome)
      && decide ((e :: es).length + ([] : List Keyword).length + (if ([] : List Keyword).isEmpty then 0 else 1) < 30)) = true := by rfl)
    (hline : (apos.endLine == cpos.line) = true := by rfl) (hs : starEach (e :: es) X.env = (false, eval e X.env) :: starEach es X.env := by rfl) (hplain : (backTo cpos (starEach es X.env)).any (·.1) = false := by rfl) :
    PE X (.Call (.Attribute o name apos) (e :: es) [] cpos) (tBM X.K T r to t) := by
  intro pins s σ H Q I h
  refine wpAny_Call_method_late hbase hfew hline rfl (thn (ho pins s σ H _ I h) fun v s1 ⟨x, H1, I1, r1, ty, q1⟩ => ?_)
  obtain ⟨h1, h2⟩ := tyV_is I1 r1 ty
  refine ⟨T, id, pa, slot, hty, h1, h2, ?_⟩
  have hA := ha cpos pins s1 σ H1 _ I1 q1
  rw [hs] at hA ⊢
  refine Calls.callWith_builtin (by show (false || (backTo cpos (starEach es X.env)).any (·.1)) = false; rw [hplain] <;> rfl) (Calls.evalArgs_plain ?_)
  exact thn hA fun us s2 ⟨vs, H2, I2, r2, q2⟩ => hm pins s2 σ H2 x vs v us Q I2 r1 r2 q2
/- xs.append(e), list.index on a module's tuple .. are MtR facts of 06m -/
end
end L2

namespace L2
open PySem PySem.Spec PyProof.Rows

def MtM (X : Cx) (id : String) (r : V → List V → Hp → VK → Prop) : Prop :=
  ∀ (pins : List (Addr × Obj)) (s : Shared) (σ : St) (H : Hp) (x : V) (xs : List V) (v : Value) (us : List Value) (Q : VK), Inv X pins σ H s → RelV x v → Vals xs us → r x xs H Q →
    wpAny (model X.prog X.w) X.A (call (.builtin id) (v :: us)) (EP X pins σ Q) X.xe s

/-! ### lists of values -/
theorem Vals.one : ∀ {x : V} {us : List Value}, Vals [x] us → ∃ u, us = [u] ∧ RelV x u
  | _, _, .cons r .nil => ⟨_, rfl, r⟩
theorem Vals.two : ∀ {x y : V} {us : List Value}, Vals [x, y] us → ∃ u v, us = [u, v] ∧ RelV x u ∧ RelV y v
  | _, _, _, .cons r (.cons q .nil) => ⟨_, _, rfl, r, q⟩
theorem Vals.zero : ∀ {us : List Value}, Vals [] us → us = []
  | _, .nil => rfl
theorem Vals.rep {xs : List V} {us : List Value} (h : Vals xs us) : ∀ k : Nat, Vals (List.replicate k xs).flatten (List.replicate k us).flatten
  | 0 => .nil
  | k + 1 => by
    rw [List.replicate_succ, List.replicate_succ, List.flatten_cons, List.flatten_cons]
    exact Vals.append h (Vals.rep h k)
theorem foldl_rep (its : List Value) : ∀ (k : Nat) (acc : List Value),
    List.foldl (fun x1 x2 => x1 ++ x2) acc.toArray (List.replicate k its.toArray) = (acc ++ (List.replicate k its).flatten).toArray
  | 0, acc => by simp
  | k + 1, acc => by
    have e : acc.toArray ++ its.toArray = (acc ++ its).toArray := by simp
    have e2 : (acc ++ its) ++ (List.replicate k its).flatten = acc ++ (List.replicate (k + 1) its).flatten := by
      rw [List.replicate_succ, List.flatten_cons, List.append_assoc]
    rw [← e2, ← foldl_rep its k (acc ++ its), ← e, List.replicate_succ, List.foldl_cons]

section
variable {X : Cx} {pins : List (Addr × Obj)} {σ : St} {H : Hp} {s : Shared} {l b : Addr} {xs ys zs : List V}

/-! ### the two steps: a tracked list is rewritten, a new list is laid -/
theorem Inv.lset {its its' : List Value} {n : Nat} {f : Array Value → Array Value} {t' : Nat} (I : Inv X pins σ H s) (hH : H l = some (.lst xs))
    (e : s.heap.get? l = some { cls := .type "list", data := .seq its.toArray n }) (hf : f its.toArray = its'.toArray) (hv : Vals ys its') (hz : ys.length ≤ sizeLine) :
    Inv X pins σ (upd H l (.lst ys)) { s with heap := s.heap.update l (Obj.mapSeq f), toks := t' } := by
  have q := PySem.IsL.update e f
  rw [hf] at q
  refine I.write (x := l) (e := l) (by rw [hH]; exact trivial) (.inl rfl) (fun b' u hb hu => (Heap.get?_update_other s.heap (Obj.mapSeq f) (Ne.symm hb)).trans hu) ⟨_, q⟩ ?_
  exact ⟨hz, its', _, hv, q⟩
theorem Inv.lnew {its : List Value} {t' : Nat} (I : Inv X pins σ H s) (hv : Vals ys its) (hz : ys.length ≤ sizeLine) :
    Inv X pins σ (upd H s.heap.objs.size (.lst ys)) { s with heap := s.heap.push { cls := .type "list", data := .seq its.toArray }, toks := t' } :=
  I.laid (fun _ _ q => Heap.get?_push_of_some _ q) (Nat.le_refl _) ⟨hz, its, 0, hv, Heap.get?_push_size _ rfl⟩
theorem Inv.fresh (I : Inv X pins σ H s) : H s.heap.objs.size = none := I.hok.fresh (Nat.le_refl _)
theorem Inv.lstM (I : Inv X pins σ H s) (hH : H l = some (.lst xs)) : xs.length ≤ sizeLine ∧ ∃ (its : List Value) (n : Nat), Vals xs its ∧ xs.length = its.length ∧ s.heap.get? l = some { cls := .type "list", data := .seq its.toArray n } := by
  obtain ⟨z, its, n, r, e⟩ := I.hok l _ hH
  exact ⟨z, its, n, r, r.length, e⟩

theorem notLongL {n : Nat} (h : n ≤ sizeLine) : Builtin.List.listTooLong n = false := by
  unfold Builtin.List.listTooLong
  exact decide_eq_false (by omega)
end

section
variable {X : Cx}

/-! ### methods -/
def rAppend : V → List V → Hp → VK → Prop := fun x vs H Q => ∃ l xs y, x = .ref l ∧ vs = [y] ∧ H l = some (.lst xs) ∧ xs.length < sizeLine ∧ Q .non (upd H l (.lst (xs ++ [y])))
theorem mt_append : MtM X "list.append" rAppend := by
  intro pins s σ H x vs v us Q I rx rv h
  obtain ⟨l, xs, y, rfl, rfl, hH, hz, q⟩ := h
  cases rx
  obtain ⟨u, rfl, ru⟩ := rv.one
  obtain ⟨z, its, n, r, hl, e⟩ := I.lstM hH
  refine call_meets F.slot_list_append ⟨_, e, rfl⟩ F.entry_list_append (F.args_list_append_2 _ _) (PySem.list_append l its.toArray n u (by rw [List.size_toArray]; omega)) ⟨e, ?_⟩
  refine ⟨.non, _, I.lset (its' := its ++ [u]) hH e (by simp) (r.append (.cons ru .nil)) ?_, rfl, q⟩
  rw [List.length_append, List.length_singleton]
  omega

/-! ### list + list, list += list, list * int -/
def rCat : R2 := fun x y H Q => ∃ l b xs zs, x = .ref l ∧ y = .ref b ∧ H l = some (.lst xs) ∧ H b = some (.lst zs) ∧ xs.length + zs.length ≤ sizeLine ∧ ∀ p, H p = none → Q (.ref p) (upd H p (.lst (xs ++ zs)))
theorem op_cat : OpR X (binaryOp .Add) rCat := by
  intro pins s σ H x y v u Q I rx ry h
  obtain ⟨l, b, xs, zs, rfl, rfl, hH, hB, hz, q⟩ := h
  cases rx
  cases ry
  obtain ⟨z, its, n, r, hl, e⟩ := I.lstM hH
  obtain ⟨z2, its2, n2, r2, hl2, e2⟩ := I.lstM hB
  refine PySem.P.add_list e e2 ?_ (by rw [List.size_toArray, List.size_toArray]; omega)
  have ea : its.toArray ++ its2.toArray = (its ++ its2).toArray := by simp
  rw [ea]
  exact ⟨.ref _, _, I.lnew (t' := s.toks) (r.append r2) (by rw [List.length_append]; omega), rfl, q _ I.fresh⟩
def rRep : R2 := fun x y H Q => ∃ l k xs, x = .ref l ∧ y = .int k ∧ H l = some (.lst xs) ∧ -(2 ^ 63) ≤ k ∧ k < 2 ^ 63 ∧ xs.length * k.toNat ≤ sizeLine ∧
  ∀ p, H p = none → Q (.ref p) (upd H p (.lst (List.replicate k.toNat xs).flatten))
theorem len_rep {α : Type} (xs : List α) (k : Nat) : (List.replicate k xs).flatten.length = k * xs.length := by
  induction k with
  | zero => simp
  | succ k ih => rw [List.replicate_succ, List.flatten_cons, List.length_append, ih, Nat.succ_mul, Nat.add_comm]
theorem op_rep : OpR X (binaryOp .Mult) rRep := by
  intro pins s σ H x y v u Q I rx ry h
  obtain ⟨l, k, xs, rfl, rfl, hH, h1, h2, hz, q⟩ := h
  cases rx
  obtain ⟨t, rfl⟩ := ry
  obtain ⟨z, its, n, r, hl, e⟩ := I.lstM hH
  have hlen : its.toArray.size * k.toNat ≤ sizeLine := by rw [List.size_toArray, ← hl]; exact hz
  have hcap : ¬ its.toArray.size * k.toNat > (2 ^ 63 - 1) / 8 := by
    have : (sizeLine : Nat) ≤ (2 ^ 63 - 1) / 8 := by decide
    omega
  have hfit : ¬ (!Builtin.List.listFitsIndex k) = true := by
    rw [fitsIndex_both h1 h2]
    exact Bool.false_ne_true
  have hlong : ¬ Builtin.List.listTooLong (its.toArray.size * k.toNat) = true := by
    rw [notLongL hlen]
    exact Bool.false_ne_true
  have hnew : List.foldl (fun x1 x2 => x1 ++ x2) #[] (List.replicate (if its.toArray.isEmpty = true then 0 else k.toNat) its.toArray) = (List.replicate k.toNat its).flatten.toArray := by
    have f0 : ∀ m : Nat, List.foldl (fun x1 x2 => x1 ++ x2) #[] (List.replicate m its.toArray) = (List.replicate m its).flatten.toArray := fun m => by
      have := foldl_rep its m []
      rw [List.nil_append] at this
      exact this
    rw [f0]
    cases its with
    | nil => simp
    | cons a r' => rw [if_neg (by simp)]
  refine wpAny_binaryOp_repeat_ref (T := "list") (U := "int") (by decide) ⟨_, e, rfl⟩ (fun s' => typeIs_int s' k t) noFill_list_mul F.fills_int_mul F.slot_int_rmul repeat_list F.slot_int_index.lookup
    (call_meets F.slot_int_rmul (typeIs_int s k t) F.entry_int_rmul (F.args_int_rmul_2 _ _) (int___rmul___int_list k t l its.toArray n)
      ⟨e, rfl, ⟨_, e, rfl⟩, call_meets F.slot_list_mul ⟨_, e, rfl⟩ F.entry_list_mul (F.args_list_mul_2 _ _) (AutoListH.list___mul___list_int_3 l its.toArray n k t hfit hcap hlong) ⟨e, ?_⟩⟩)
  rw [hnew]
  exact ⟨.ref _, _, I.lnew (t' := s.toks) (r.rep k.toNat) (by rw [len_rep, Nat.mul_comm]; exact hz), rfl, q _ I.fresh⟩

/-! ### del xs[i] -/
end

/-! ### xs[a:b] = ys -/
section
variable {prog : Program} {w : World} {A : Around} {E : Value → Shared → Prop} {s : Shared}
set_option maxRecDepth 100000 in
end

section
variable {X : Cx}
end
end L2

namespace Att
open PySem PySem.W PySem.Calls PyProof.Rows

/-! ### the script -/
theorem ints_of_wellAll {P : Params} {h : Heap} : ∀ (ns : List Int) (vs : List Value), WellAll P h vs (ns.map WData.int) → IntsAre vs ns := by
  intro ns
  induction ns with
  | nil =>
    intro vs w
    rw [List.map_nil] at w
    cases w
    exact .nil
  | cons n ns ih =>
    intro vs w
    rw [List.map_cons] at w
    cases w with
    | cons a b =>
      cases a
      exact .cons _ _ (ih _ b)

theorem script_of {l : OpenLaw} {n : Nat} (hn : l.most = some n) {P : Params} {h : Heap} {args : List WData} {vals : List Value}
    (hpre : l.row.toRowW.claim.pre args = true) (hwl : WellAll P h vals args) :
    ∃ a vs ns, vals = [Value.ref a] ∧ args = [WData.list (ns.map WData.int)] ∧ h.get? a = some { cls := .type "list", data := .seq vs.toArray } ∧ IntsAre vs ns ∧ ns.length ≤ n := by
  have hsh : WShape.hasAll [] args [.list .int] = true := (pre_splitW hpre).1
  have hc : l.pre.holds [] { args := args } = true := (pre_splitW hpre).2
  obtain ⟨d, r, rfl, h1, h2⟩ := hasAllW_cons hsh
  obtain rfl := hasAllW_nil h2
  obtain ⟨xs, rfl, h3⟩ := hasW_list h1
  obtain ⟨ns, rfl⟩ := items_int h3
  have hlen : ns.length ≤ n := by
    unfold OpenLaw.pre at hc
    have h4 : (WTm.not (.lt (.lit (.int (n : Int))) (.len (.arg 0)))).holds [] { args := [.list (ns.map .int)] } = true := by
      have h4 := (holds_andW hc).1
      rw [hn] at h4
      exact h4
    have h5 := condW_of h4 (w_not (w_lt w_lit (w_len_list (w_arg rfl))))
    rw [List.length_map] at h5
    refine Nat.le_of_not_lt fun q => ?_
    have q' : (n : Int) < ((ns.length : Nat) : Int) := by omega
    first
      | (rw [decide_eq_true q'] at h5; exact absurd h5 (by decide))
      | (simp at h5; omega)
  cases hwl with
  | cons w1 w2 =>
    cases w2
    cases w1 with
    | list ho hall => exact ⟨_, _, ns, rfl, rfl, ho, ints_of_wellAll ns _ hall, hlen⟩

theorem post_true (l : OpenLaw) (args : List WData) : l.row.toRowW.claim.post args (.bool true) args = true :=
  postW_of (r := l.row.toRowW) (X := (true == true))
    (show WShape.has [] (.bool true) .bool = true by first | rfl | decide | simp [WShape.has, WShape.arms, WShape.armsAll])
    (show (WTm.eq .res (.lit (.bool true))).value [] { args := args, res := some (.bool true), after := args } = some (.bool (true == true)) from w_eq_bool (w_res rfl) w_lit) rfl

/-! ### the attachment: holds_open's last premise (the goal 'hc' behind k_head) from a wpAny of the law's body -/
theorem attach_call {l : OpenLaw} {n : Nat} {q : Program} {loose : List Str} {XP : (Str → Option Value) → Heap → Prop} {YP : World → Heap → Prop} {d : DefRec}
    (hn : l.most = some n) (hdf : d.params.defaults = [])
    (call : ∀ (w : World) (s₀ s₁ : Shared) (mg mb : Str → Option Value) (fa : Addr) (o : Obj) (pm cd doc : Value) (a : Addr) (vs : List Value) (ns : List Int),
      Ground q loose [] XP w s₀ mg mb s₁.heap → YP w s₁.heap →
      s₁.heap.get? fa = some o → o.data = .func (docDef d.name d.params d.body d.scope pm cd doc) → s₁.heap.CodeRec cd d.name → mg d.name = some (.ref fa) →
      s₁.heap.get? a = some { cls := .type "list", data := .seq vs.toArray } → IntsAre vs ns → ns.length ≤ n → s₁.gens = #[] →
      codeAny (model l.prog w) callerA (.call (.ref fa) ⟨[.ref a], []⟩) (fun r s' => r = .ok (.ret (.bool true)) ∧ OldK s₁.heap s'.heap ∧ s'.os = s₁.os ∧ AllBare s'.gens) s₁) :
    WalkO q loose XP YP l.row.toRowW d [] (fun f vs => PySem.call f vs) := by
  intro w s₀ s₁ mg mb G Y fa o pm cd doc dV kV ho hd hcd hD hmg hg args vals as hpre hlay hrd hwl hlo
  obtain rfl : dV = .none := Dflts.none hD hdf
  obtain rfl : kV = .none := Dflts.noKw hD
  obtain ⟨a, vs, ns, rfl, rfl, hobj, hints, hlen⟩ := script_of hn hpre hwl
  refine enter_call (codeAny_mono (call w s₀ s₁ mg mb fa o pm cd doc a vs ns G Y ho (fd_plain hd) hcd hmg hobj hints hlen hg) fun r s' hq => ?_)
  obtain ⟨rfl, h2, h3, h4⟩ := hq
  exact ⟨.inl ⟨.bool true, .bool true, [], rfl, fun _ => rfl, .bool true, post_true l _, fun _ => ⟨List.Pairwise.nil, fun _ hm => (nomatch hm)⟩⟩, h2, h3, h4⟩

/-! ### rules over ANY heap (no ledger) from facts about the written part K: the library's own take a ledger (News) for what they write -/
section
variable {prog : Program} {w : World} {A : Around} {E : Value → Shared → Prop} {s : Shared} {K : Frag}

/-! the whole heap as the ledger: makes every rule that writes through a ledger a rule over any heap -/
def ledger (h : Heap) (L d : Addr) : List (Addr × Obj) := (List.range h.objs.size).filterMap fun a => if a = L ∨ a = d then none else (h.get? a).map fun o => (a, o)
end
end Att

namespace L2
open PySem PySem.Spec PyProof.Rows

theorem vals_ints : ∀ {vs : List Value} {ns : List Int}, IntsAre vs ns → Vals (ns.map V.int) vs
  | _, _, .nil => .nil
  | _, _, .cons n t h => .cons ⟨t, rfl⟩ (vals_ints h)

def Only (H : Hp) : Prop := ∀ b, H b = none ∨ ∃ o xs, H b = some (.frz o (.lst xs))

theorem law_call {P : Program} {w : World} {K : PySem.W.Frag} {mg mb : Str → Option Value} {CX : CXT} {k : Nat} {fa a : Addr} {fd : FuncData} {x : Str} {sp : Sp} {s₁ : Shared} {vs : List Value} {ns : List Int}
    (KX : K.In s₁.heap) (hns : s₁.heap.Ns mainGlobals mg) (hb : s₁.heap.Ns builtinsNs mb) (hbb : ∀ x : Str, x ≠ "__name__" → mb x = bootBuiltins x) (hlim : s₁.heap.NoLimit) (hg : s₁.gens = #[])
    (ha : s₁.heap.get? a = some { cls := .type "list", data := .seq vs.toArray }) (hi : IntsAre vs ns) (hl : ns.length ≤ sizeLine) (hr : Room k callerA)
    (F : ∀ base : Heap, K.In base → base.Ns mainGlobals mg → FnOk P w K mg base CX k fa fd [x] sp) (hbind : ∀ (s : Shared) (u : Value), BindsTo s fd ⟨[u], []⟩ [(x, u)])
    (hsp : ∀ H : Hp, Only H → SqL K H a (ns.map V.int) → sp [.ref a] H (fun v _ => v = .bl true) fun _ _ _ => False)
    (hCX : ∀ H e s', CX [] H s₁ (fun _ _ _ => False) e s' → False) :
    codeAny (model P w) callerA (.call (.ref fa) ⟨[.ref a], []⟩) (fun r s' => r = .ok (.ret (.bool true)) ∧ OldK s₁.heap s'.heap ∧ s'.os = s₁.os ∧ AllBare s'.gens) s₁ := by
  have rv := vals_ints hi
  have lenV := hi.length
  -- from an abstract heap in which nothing but the script may be tracked
  have core : ∀ H : Hp, Only H → SqL K H a (ns.map V.int) → HOk P w H s₁.heap → (∀ b, H b ≠ none → b = a) → (H a ≠ none → K.lookup a = none) →
      codeAny (model P w) callerA (.call (.ref fa) ⟨[.ref a], []⟩) (fun r s' => r = .ok (.ret (.bool true)) ∧ OldK s₁.heap s'.heap ∧ s'.os = s₁.os ∧ AllBare s'.gens) s₁ := by
    intro H hO hS hok hA hK
    have base_of : ∀ {b : Addr} {o : Obj}, s₁.heap.get? b = some o → H b = none → (hidT s₁.heap H).get? b = some o := fun e n => hidT_get e n
    have noA : ∀ {b : Addr} {o : Obj} {es : Array DictEntry} {ep : Nat}, s₁.heap.get? b = some o → o.data = .dict es ep → H b = none := fun {b o es ep} e d => by
      cases q : H b with
      | none => rfl
      | some u =>
        have e' : b = a := hA b (by rw [q]; simp)
        subst e'
        rw [ha] at e; cases e
        have d' : Data.seq vs.toArray _ = Data.dict es ep := d
        cases d'
    have nsK : ∀ {b : Addr} {m : Str → Option Value}, s₁.heap.Ns b m → (hidT s₁.heap H).Ns b m := fun {b m} ⟨o, es, ep, e, d, r⟩ => ⟨o, es, ep, base_of e (noA e d), d, r⟩
    have hKb : K.In (hidT s₁.heap H) := fun b o e => base_of (KX b o e) (by
      cases q : H b with
      | none => rfl
      | some u =>
        have e' : b = a := hA b (by rw [q]; simp)
        subst e'
        rw [hK (by rw [q]; simp)] at e; cases e)
    have hM : Mod K mg (hidT s₁.heap H) := ⟨hKb, nsK hns, ⟨mb, nsK hb, hbb⟩, let ⟨mc, h1, h2⟩ := hlim; ⟨mc, nsK h1, h2⟩⟩
    have e0 : Env0 P w K mg (hidT s₁.heap H) callerA [] s₁ H := ⟨rfl, hM, fun b o e => of_hidT e, Nat.le_of_eq (hidT_size _ _), trivial, fun b hb => absurd (show b ∈ ([] : List Addr) from hb) (by simp), hok, .of_eq hg⟩
    refine codeAny_mono ((F _ hKb (nsK hns)).run callerA [] s₁ H ⟨[.ref a], []⟩ [.ref a] [.ref a] _ _ hr e0 (hbind s₁ (.ref a)) (.cons rfl .nil) (hsp H hO hS)) fun r s' h => ?_
    cases r with
    | error e => exact (hCX H e s' h).elim
    | ok fl =>
      cases fl with
      | next => exact False.elim h
      | brk => exact False.elim h
      | cont => exact False.elim h
      | ret u =>
        obtain ⟨v, H', os, bare, un, hok', r', q⟩ := h
        have q' : v = .bl true := q
        subst q'
        obtain rfl : u = Value.bool true := r'
        refine ⟨rfl, OldK.of_keep fun b o e => ?_, os, bare⟩
        cases q : H b with
        | none => exact un.keep b o e q (by intro z; exact absurd (show b ∈ ([] : List Addr) from z) (by simp)) (by simp)
        | some u =>
          rcases hO b with z | ⟨ob, xs, z⟩
          · rw [q] at z; cases z
          · have z2 := un.frzs b ob _ z
            obtain ⟨e1, _⟩ := hok b _ z
            obtain ⟨e2, _⟩ := hok' b _ z2
            rw [e] at e1; cases e1
            exact e2
  cases hk : K.lookup a with
  | some o =>
    -- the script is one of the module's own objects
    have e := KX a o hk
    rw [ha] at e
    cases e
    refine core (fun _ => none) (fun _ => .inl rfl) (.inr ⟨_, vs.toArray, _, hk, rfl, rfl, rfl, by rw [List.size_toArray, lenV]; exact hl, by simpa using rv⟩) (fun b u z => by have z' : (none : Option HO) = some u := z; cases z') (fun b z => absurd rfl z) fun z => absurd rfl z
  | none =>
    refine core (fun b => if b = a then some (.frz { cls := .type "list", data := .seq vs.toArray } (.lst (ns.map V.int))) else none) (fun b => ?_) (.inl (.inr ⟨{ cls := .type "list", data := .seq vs.toArray }, if_pos rfl⟩)) (fun b u z => ?_) (fun b z => ?_) fun _ => hk
    · by_cases hb : b = a
      · exact .inr ⟨_, _, if_pos hb⟩
      · exact .inl (if_neg hb)
    · by_cases hb : b = a
      · have z' := (if_pos hb).symm.trans z
        cases z'
        subst hb
        exact ⟨ha, by rw [List.length_map]; exact hl, vs, _, rv, ha⟩
      · have z' := (if_neg hb).symm.trans z
        cases z'
    · by_cases hb : b = a
      · exact hb
      · exact absurd (if_neg hb) z
end L2

namespace L2
open PySem PySem.Spec PyProof.Rows

abbrev KOf {K : PySem.W.Frag} {h : Heap} (_ : K.In h) : PySem.W.Frag := K

theorem walk_of {l : PySem.W.OpenLaw} {n k : Nat} {q : Program} {loose : List Str} {XP : (Str → Option Value) → Heap → Prop} {YP : World → Heap → Prop} {d : DefRec} {K : Params → PySem.W.Frag} {CX : World → CXT} {sp : World → Sp} {x : Str}
    (hn : l.most = some n) (hn2 : n ≤ sizeLine) (hdf : d.params.defaults = []) (hr : Room k callerA)
    (hY : ∀ (w : World) (h : Heap), YP w h → (K w.params).In h)
    (F : ∀ (w : World) (mg : Str → Option Value) (fa : Addr) (h : Heap), (K w.params).In h → h.Ns mainGlobals mg → mg d.name = some (.ref fa) →
      ∃ fd : FuncData, (∀ (s : Shared) (u : Value), BindsTo s fd ⟨[u], []⟩ [(x, u)]) ∧
        ∀ base : Heap, (K w.params).In base → base.Ns mainGlobals mg → FnOk l.prog w (K w.params) mg base (CX w) k fa fd [x] (sp w))
    (hsp : ∀ (w : World) (H : Hp) (a : Addr) (ns : List Int), ns.length ≤ n → Only H → SqL (K w.params) H a (ns.map V.int) → sp w [.ref a] H (fun v _ => v = .bl true) fun _ _ _ => False)
    (hCX : ∀ (w : World) (H : Hp) (s : Shared) (e : Value) (s' : Shared), CX w [] H s (fun _ _ _ => False) e s' → False) :
    PySem.W.WalkO q loose XP YP l.row.toRowW d [] (fun f vs => PySem.call f vs) := by
  refine Att.attach_call hn hdf fun w s₀ s₁ mg mb fa o pm cd doc a vs ns G Y ho hd hcd hmg hobj hints hlen hg => ?_
  have KX := hY w _ Y
  obtain ⟨fd, hb, hF⟩ := F w mg fa _ KX G.T.g hmg
  exact law_call KX G.T.g G.T.b G.T.builtins G.T.nolimit hg hobj hints (Nat.le_trans hlen hn2) hr hF hb (fun H hO hS => hsp w H a ns hlen hO hS) fun H e s' => hCX w H s₁ e s'
end L2

/- THE LAST THEOREM (shape; LID, My.* are yours):
   My.Adr: a structure of the addresses that your layer names (classes, functions); My.Txt K t: a structure (Prop) of the equations over K;
   My.txt_mk : {K} {implicit addresses ..} (e1 : nsIn K mainGlobals "law" = some (some (.ref f))) (e2 : K.lookup f = some ⟨oc, od, .func (fnOf "law" "law" params body scope dV kV doc pm an cdv ct), sl⟩) (e3 : codeIn K cdv "law" = true) .. : ∃ t, My.Txt K t

set_option maxRecDepth 100000 in
set_option maxHeartbeats 0 in
theorem PySem.Challenge.cw_LID_holds : PySem.Challenge.rw_LID.Holds := by
  w_on; o_law; k_head; (case hw => w_witness2)
  k_fill
  refine L2.walk_of (l := PySem.Challenge.rw_LID) (n := 63) (k := 40) (x := "script") (CX := fun w => ..) (sp := fun _ => My.sp_law) rfl (by decide) rfl ⟨rfl, by decide, by decide⟩ (fun w h Y => PySem.W.kIn_of Y) ?F ?S ?C
  case F =>
    intro w mg fa h KX G hmg
    have T : ∃ t, My.Txt (L2.KOf KX) t := by
      dsimp only [L2.KOf]                          -- K must stand as «<heap const> w.params» for k_is
      refine' My.txt_mk ?e1 ?e2 ?e3 ..
      (case e1 => PySem.W.k_is)                    -- in the order: a name -> its address -> its object -> its parts
      (case e2 => PySem.W.k_is)
      ..
    obtain ⟨t, T⟩ := T
    have e0 := hmg.symm.trans (PySem.W.mg_of KX G T.law)
    cases e0                                       -- fa is the law's own address
    exact ⟨_, fun s u => .of_eq rfl, fun base kb nb => My.law_fn T kb nb⟩     -- if «.of_eq rfl» comes too early: refine' ⟨_, ?b, fun base kb nb => My.law_fn T kb nb⟩; exact fun s u => .of_eq rfl
  case S => exact fun w H a ns hl hO hS => ..
  case C => exact ..
(the tactic k_is has no namespace: write k_is) -/

/-! SHORT WORDS over the layer: a def of the text, its body, what a loop and a test want. -/
namespace L2
open PySem PySem.Spec PyProof.Rows

/-! ### the text by places -/
def inClass (s : Stmt) (j : Nat) : Stmt := match s with
  | .ClassDef _ _ _ body _ _ _ _ _ _ _ => body.getD j (.Pass ⟨0, 0, 0, 0⟩)
  | _ => .Pass ⟨0, 0, 0, 0⟩
def defArgs (s : Stmt) : Arguments := match s with
  | .FunctionDef _ a _ _ _ _ _ _ _ _ => a
  | _ => { posonlyargs := [], args := [], vararg := none, kwonlyargs := [], kw_defaults := [], kwarg := none, defaults := [] }
def defBody (s : Stmt) : List Stmt := match s with
  | .FunctionDef _ _ b _ _ _ _ _ _ _ => b
  | _ => []
def defScope (s : Stmt) : Scope := match s with
  | .FunctionDef _ _ _ _ _ _ sc _ _ _ => sc
  | _ => { kind := .function, names := [], isGenerator := false, isCoroutine := false }

/-! ### no exception leaves a def -/
abbrev CX0 : CXT := fun _ _ _ _ _ _ => False
abbrev E0 : XK := fun _ _ _ => False
theorem pass0 {X : Cx} : Passes CX0 X E0 := fun _ _ _ _ _ _ _ h => h.elim

/-! ### a def (or method) of the text as it stands behind the top -/
structure Fun (K : PySem.W.Frag) (x qual : Str) (st : Stmt) (f : Addr) (fd : FuncData) : Prop where
  ex : ∃ (oc : Value) (od : Option Addr) (kV doc pm : Value) (an : Option Addr) (cdv ct : Value) (osl : Array (Option Value)),
    fd = PySem.W.fnOf x qual (defArgs st) (defBody st) (defScope st) .none kV doc pm an cdv ct ∧ K.lookup f = some ⟨oc, od, .func fd, osl⟩ ∧ PySem.W.codeIn K cdv qual = true
  kp : PySem.W.keepIn K (.ref f) = true
section
variable {P : Program} {w : World} {K : PySem.W.Frag} {mg : Str → Option Value} {base : Heap}
theorem Fun.ok {x qual : Str} {st : Stmt} {f : Addr} {fd : FuncData} {N ps : List Str} {k : Nat} {sp : Sp} (F : Fun K x qual st f fd) (S : FnScope N ps (defScope st)) (len : ∀ vs H Q E, sp vs H Q E → vs.length = ps.length)
    (hbody : ∀ (cdv : Value) (A : Around) (outer : List Env) (s : Shared) (H : Hp) (vs : List V) (Q : VK) (E : XK), Room k (A.deeper (envOfC qual (defScope st) s.heap.objs.size f cdv)) → sp vs H Q E →
      ∃ t, PSs (cxOf CX0 P w K mg base N qual (defScope st) f cdv A outer s H E).nox (defBody st) t ∧ t { nx := fun _ H' => Q .non H', rt := Q } (start N vs) H) : FnOk P w K mg base CX0 (k + 1) f fd ps sp := by
  obtain ⟨oc, od, kV, doc, pm, an, cdv, ct, osl, rfl, lk, hcd⟩ := F.ex
  refine fn_of lk hcd S len fun A outer s H vs Q E hr hsp => ?_
  obtain ⟨t, h, q⟩ := hbody cdv A outer s H vs Q E hr hsp
  exact ⟨t, h.nox, q⟩
theorem Fun.binds {x qual : Str} {st : Stmt} {f : Addr} {fd : FuncData} {ps : List Str} (F : Fun K x qual st f fd)
    (h : ∀ (kV doc pm : Value) (an : Option Addr) (cdv ct : Value) (us : List Value), us.length = ps.length → bindArgs (PySem.W.fnOf x qual (defArgs st) (defBody st) (defScope st) .none kV doc pm an cdv ct) ⟨us, []⟩ = pure (ps.zip us)) : Binds K fd ps [] := by
  obtain ⟨oc, od, kV, doc, pm, an, cdv, ct, osl, rfl, lk, hcd⟩ := F.ex
  exact .all (h kV doc pm an cdv ct)
theorem fun_mk {x qual : Str} {st : Stmt} {f : Addr} {oc : Value} {od an : Option Addr} {osl : Array (Option Value)} {kV doc pm cdv ct : Value} (l : K.lookup f = some ⟨oc, od, .func (PySem.W.fnOf x qual (defArgs st) (defBody st) (defScope st) .none kV doc pm an cdv ct), osl⟩)
    (c : PySem.W.codeIn K cdv qual = true) (k : PySem.W.keepIn K (.ref f) = true) : Fun K x qual st f (PySem.W.fnOf x qual (defArgs st) (defBody st) (defScope st) .none kV doc pm an cdv ct) := ⟨⟨oc, od, kV, doc, pm, an, cdv, ct, osl, rfl, l, c⟩, k⟩
end
/-! ### expressions in short: the name that stands in the i-th slot -/
section
variable {X : Cx}
end

/-! ### tests -/
/-! ### heaps -/
def Same (H H' : Hp) : Prop := ∀ b o, H b = some o → H' b = some o
theorem Same.refl (H : Hp) : Same H H := fun _ _ h => h
theorem Same.trans {H H1 H2 : Hp} (a : Same H H1) (b : Same H1 H2) : Same H H2 := fun c o h => b c o (a c o h)
theorem Same.free {H H' : Hp} (e : Same H H') {l : Addr} (h : H' l = Option.none) : H l = Option.none := by
  cases q : H l with
  | none => rfl
  | some o =>
    rw [e l o q] at h
    cases h
theorem Same.seq {K : PySem.W.Frag} {H H' : Hp} {a : Addr} {xs : List V} (e : Same H H') (h : SqL K H a xs) : SqL K H' a xs := by
  rcases h with (h | ⟨o, h⟩) | h
  · exact .inl (.inl (e _ _ h))
  · exact .inl (.inr ⟨o, e _ _ h⟩)
  · exact .inr h

end L2


set_option Elab.async false
set_option linter.all false
set_option maxRecDepth 100000
namespace L2
open PySem PySem.Spec PyProof.Rows
section
variable {X : Cx}
def clsOf : V → Value
  | .ref a => .ref a
  | .ty n => .type n
  | _ => .none
def isC : V → Bool
  | .ref _ => true
  | .ty _ => true
  | _ => false
theorem RelV.cls {c : V} {u : Value} (r : RelV c u) (h : isC c = true) : u = clsOf c := by
  cases c with
  | ref a => exact r
  | ty n => exact r
  | _ => cases h
end
structure TopFn (K : PySem.W.Frag) (mg : Str → Option Value) (x : Str) (st : Stmt) : Prop where
  ex : ∃ f fd, Fun K x x st f fd ∧ mg x = some (.ref f)
structure Def (P : Program) (w : World) (K : PySem.W.Frag) (mg : Str → Option Value) (base : Heap) (k : Nat) (x : Str) (ps : List Str) (sp : Sp) : Prop where
  ex : ∃ f fd, FnOk P w K mg base CX0 k f fd ps sp ∧ mg x = some (.ref f) ∧ PySem.W.keepIn K (.ref f) = true ∧ Binds K fd ps []
section
variable {P : Program} {w : World} {K : PySem.W.Frag} {mg : Str → Option Value} {base : Heap}
theorem topFn_mk {h : Heap} {x : Str} {st : Stmt} {f : Addr} {oc : Value} {od an : Option Addr} {osl : Array (Option Value)} {kV doc pm cdv ct : Value} (X : K.In h) (G : h.Ns mainGlobals mg)
    (a : PySem.W.nsIn K mainGlobals x = some (some (.ref f))) (l : K.lookup f = some ⟨oc, od, .func (PySem.W.fnOf x x (defArgs st) (defBody st) (defScope st) .none kV doc pm an cdv ct), osl⟩)
    (c : PySem.W.codeIn K cdv x = true) (k : PySem.W.keepIn K (.ref f) = true) : TopFn K mg x st := ⟨f, _, fun_mk l c k, PySem.W.mg_of X G a⟩
theorem TopFn.mk_def {x : Str} {st : Stmt} {N ps : List Str} {k : Nat} {sp : Sp} (F : TopFn K mg x st) (S : FnScope N ps (defScope st))
    (hb : ∀ (kV doc pm : Value) (an : Option Addr) (cdv ct : Value) (us : List Value), us.length = ps.length → bindArgs (PySem.W.fnOf x x (defArgs st) (defBody st) (defScope st) .none kV doc pm an cdv ct) ⟨us, []⟩ = pure (ps.zip us))
    (len : ∀ vs H Q E, sp vs H Q E → vs.length = ps.length)
    (hbody : ∀ (f : Addr) (cdv : Value) (A : Around) (outer : List Env) (s : Shared) (H : Hp) (vs : List V) (Q : VK) (E : XK), Room k (A.deeper (envOfC x (defScope st) s.heap.objs.size f cdv)) → sp vs H Q E →
      ∃ t, PSs (cxOf CX0 P w K mg base N x (defScope st) f cdv A outer s H E).nox (defBody st) t ∧ t { nx := fun _ H' => Q .non H', rt := Q } (start N vs) H) : Def P w K mg base (k + 1) x ps sp := by
  obtain ⟨f, fd, F, m⟩ := F.ex
  exact ⟨f, fd, F.ok S len (hbody f), m, F.kp, F.binds hb⟩
end
theorem pe_def {X : Cx} {k : Nat} {x : Str} {ps : List Str} {sp : Sp} {p pos : Pos} {e : Expr} {es : List Expr} {t : TA} (D : Def X.prog X.w X.K X.mg X.base k x ps sp) (hr : Room k X.A) (hg : Gl X x) (ha : PA X (e :: es) t) (hdb : (x == ("__debug__" : Str)) = false := by decide)
    (he : starEach (e :: es) X.env = (false, eval e X.env) :: starEach es X.env := by rfl) (hpl : (backTo pos (starEach es X.env)).any (·.1) = false := by rfl) : PE X (.Call (.Name x p) (e :: es) [] pos) (tCall sp [] E0 t) := by
  obtain ⟨f, fd, F, m, kp, b⟩ := D.ex
  exact pe_call F hr hg m kp b .nil pass0 ha hdb he hpl
end L2


set_option Elab.async false
set_option linter.all false
set_option maxRecDepth 100000
namespace L2
open PySem PySem.Spec PyProof.Rows
/-! ### readings by functions, for simp -/
theorem upd_ne' {H : Hp} {p q : Addr} {o : HO} (h1 : (H q).isSome = true) (h2 : H p = none) : upd H p o q = H q := upd_ne (by intro z; rw [z, h2] at h1; cases h1)
abbrev Ext (H H' : Hp) : Prop := ∀ b, (H b).isSome = true → H' b = H b
theorem Ext.refl (H : Hp) : Ext H H := fun _ _ => rfl
theorem Ext.upd {H : Hp} {p : Addr} (o : HO) (h : H p = none) : Ext H (upd H p o) := fun _ hb => upd_ne' hb h
theorem Ext.trans {H H1 H2 : Hp} (a : Ext H H1) (b : Ext H1 H2) : Ext H H2 := fun c hc => by
  have e := a c hc
  rw [b c (by rw [e]; exact hc), e]

section
variable {X : Cx} {a b : Expr} {ta tb : TE} {pos : Pos}
end
/-! ### isinstance, by functions -/
structure InsOk (K : PySem.W.Frag) (C : Addr) : Prop where
  cl : Cls K C
  ha : PySem.W.findIn K (.ref C) "__class__" = some (some (.builtin "object.__class__"))
  hn : PySem.W.specialIn K (.builtin "object.__class__") "__get__" = some (some (.builtin "getset_descriptor.__get__"))
  htk : PySem.W.takesIn K (.builtin "object.__class__") = some true
  hm : PySem.W.mroIn K C (.type "object") = some true
/-! ### range, max, min, int by matching -/
def rMax2 : List V → Hp → VK → Prop := fun xs H Q => match xs with
  | [.int i, .int j] => Q (.int (if j > i then j else i)) H
  | _ => False
def rMin2 : List V → Hp → VK → Prop := fun xs H Q => match xs with
  | [.int i, .int j] => Q (.int (if j < i then j else i)) H
  | _ => False
theorem call_max2F {X : Cx} (hc : X.calm = true) : CallR X (.builtin "max") rMax2 := by
  intro pins s σ H xs us Q I r h
  match xs, h with
  | [.int i, .int j], h => exact call_max2 hc pins s σ H _ us Q I r ⟨i, j, rfl, h⟩
theorem call_min2F {X : Cx} (hc : X.calm = true) : CallR X (.builtin "min") rMin2 := by
  intro pins s σ H xs us Q I r h
  match xs, h with
  | [.int i, .int j], h => exact call_min2 hc pins s σ H _ us Q I r ⟨i, j, rfl, h⟩
def rInt1 : List V → Hp → VK → Prop := fun xs H Q => match xs with
  | [.int i] => Q (.int i) H
  | [.bl k] => Q (.int (if k then 1 else 0)) H
  | _ => False
theorem call_int1F {X : Cx} : CallR X (.type "int") rInt1 := by
  intro pins s σ H xs us Q I r h
  match xs, h with
  | [.int i], h => exact call_int1 pins s σ H _ us Q I r (.inl ⟨i, rfl, h⟩)
  | [.bl k], h => exact call_int1 pins s σ H _ us Q I r (.inr ⟨k, rfl, h⟩)
/-! ### truth -/
/-! ### the script: tracked, or an object of the module -/
def Scr (K : PySem.W.Frag) (H : Hp) (x : V) (ns : List Int) : Prop := ∃ a, x = .ref a ∧ SqL K H a (ns.map V.int)
theorem Scr.ext {K : PySem.W.Frag} {H H' : Hp} {x : V} {ns : List Int} (h : Scr K H x ns) (e : Ext H H') : Scr K H' x ns := by
  obtain ⟨a, rfl, h⟩ := h
  refine ⟨a, rfl, ?_⟩
  rcases h with (h | ⟨o, h⟩) | h
  · exact .inl (.inl (by rw [e a (by rw [h]; rfl), h]))
  · exact .inl (.inr ⟨o, by rw [e a (by rw [h]; rfl), h]⟩)
  · exact .inr h
theorem Scr.upd {K : PySem.W.Frag} {H : Hp} {x : V} {ns : List Int} {p : Addr} {o : HO} (hp : H p = none) (h : Scr K H x ns) : Scr K (upd H p o) x ns := h.ext (Ext.upd o hp)
section
variable {X : Cx}
end
/-! ### a cell of the script -/
def mixV (c k : Int) : Int :=
  ((c % 2147483647 * (c % 2147483647) % 2147483629) * (c % 2147483647 * (c % 2147483647) % 2147483629) + 69621 * (c % 2147483647 * (c % 2147483647) % 2147483629) + k) % 2147483587
def cellV (ns : List Int) (k : Int) : Int :=
  mixV (if ns = [] then 7919 * k + 11 else ns.getD (k % ns.length).toNat 0 * 48271 + 104729 * k + k / ns.length * 7919) k
def sp_law (K : PySem.W.Frag) : Sp := fun vs H Q _ => match vs with
  | [x] => ∃ ns, Scr K H x ns ∧ ns.length ≤ 63 ∧ ∀ H', Q (.bl true) H'
  | _ => False
/-! ### equations for simp -/
/-! ### loops -/
structure Is {α : Type} (a b : α) : Prop where
  eq : a = b
theorem room64 {A : Around} {k : Nat} (h : Room k A) : A.units + 64 < cLine := h.units
end L2


set_option Elab.async false
set_option linter.all false
set_option maxRecDepth 100000
set_option maxHeartbeats 4000000
namespace L2
open PySem PySem.Spec PyProof.Rows PySem.W
/-! ### own exceptions, under ValueError -/
def excBM : List Value := [.type "ValueError", .type "Exception", .type "BaseException", .type "object"]
def excCls (K : Frag) (C : Addr) : Bool := match K.lookup C with
  | some ⟨.type "type", _, .cls cd, sl⟩ => (match cd.mro, sl.toList with
    | .ref C' :: bm, [_, _, _, _, some (.builtin n), _] => C' == C && n == "ValueError.__new__" && !cd.hasDel && cd.hasDict && tailIn K excBM bm && nsOkIn K cd.ns
    | _, _ => false)
  | _ => false
theorem exc_obj {K : Frag} {h : Heap} {C : Addr} (X : K.In h) (q : excCls K C = true) : ∃ bm N nm qn bs sn sub ab col dd k0 k1 k2 k3 k5,
    h.get? C = some (excClassObj nm qn C N bs bm true sn sub ab col dd k0 k1 k2 k3 k5 "ValueError.__new__") ∧ OwnTail h excBM bm ∧ clsIn K C = some { name := nm, bases := bs, mro := .ref C :: bm, ns := N, qualname := qn, hasDict := true, slotNames := sn, subclasses := sub, abstract := ab, collection := col, hasDel := false } := by
  unfold excCls at q
  split at q
  · rename_i dd cd sl ho
    split at q
    · rename_i C' bm k0 k1 k2 k3 n k5 hm hs
      simp only [Bool.and_eq_true, beq_iff_eq, Bool.not_eq_true'] at q
      obtain ⟨⟨⟨⟨⟨rfl, rfl⟩, hdel⟩, hhd⟩, ht⟩, hok⟩ := q
      obtain ⟨nm, bs, mro, ns, qn, hd, sn, sub, ab, col, del⟩ := cd
      dsimp only at hm hdel hok hhd
      subst hm hdel hhd
      have hsl : sl = #[k0, k1, k2, k3, some (.builtin "ValueError.__new__"), k5] := by
        obtain ⟨l⟩ := sl
        simp only at hs
        rw [hs]
      subst hsl
      exact ⟨bm, ns, nm, qn, bs, sn, sub, ab, col, dd, k0, k1, k2, k3, k5, X _ _ ho, tail_of_in X ht, by unfold clsIn; rw [ho]⟩
    · cases q
  · cases q
abbrev tupObj (vs : List Value) : Obj := { cls := .type "tuple", data := .seq vs.toArray }
abbrev excObj (C t : Addr) : Obj := { cls := .ref C, data := .fields #[.ref t, .none, .none, .none, .bool false, .none] }
section
variable {prog : Program} {w : World} {A : Around} {R : Result → Shared → Prop} {h : Heap} {g : Array GenState} {d : Drawn} {t : Nat} {os : OsState} {K : Frag} {C : Addr}
end
structure ExcAt (K : Frag) (C : Addr) : Prop where
  cl : excCls K C = true
  sa : findIn K (.ref C) "__setattr__" = some (some (.builtin "object.__setattr__"))
  ga : findIn K (.ref C) "__getattribute__" = some (some (.builtin "BaseException.__getattribute__"))
  gt : findIn K (.ref C) "__getattr__" = some none
section
variable {prog : Program} {w : World} {A : Around} {R : Result → Shared → Prop} {K : Frag} {C x : Addr} {s : Shared}
theorem exc_mro {h : Heap} {M : Model} (X : K.In h) (q : excCls K C = true) {b : Value} {T : String} (e : b = .type T) (hb : excBM.contains (.type T) = true) : Looks M h (isSubtype (.ref C) b) true := by
  obtain ⟨bm, N, nm, qn, bs, sn, sub, ab, col, dd, k0, k1, k2, k3, k5, hC, T', hcl⟩ := exc_obj X q
  subst e
  refine looks_mroIn X ?_
  unfold mroIn
  rw [hcl, Option.bind_some]
  show (if (Value.ref C :: bm).isEmpty = true then none else some ((Value.ref C :: bm).contains (.type T))) = some true
  rw [if_neg (by simp), List.contains_cons, T'.hasType hb, Bool.or_true]
end
section
variable {X : Cx} {pins : List (Addr × Obj)} {σ : St} {H : Hp} {s : Shared} {a C : Addr} {dx : Option Addr} {fs : List (Str × V)} {f : Str} {v : V} {A : Around} {E : Value → Shared → Prop}
theorem exc_get (I : Inv X pins σ H s) (e : H a = some (.exc C dx fs)) : ∃ o vs, s.heap.get? a = some o ∧ o.cls = .ref C ∧ o.dict = dx ∧ o.data = .fields vs ∧ fs.length ≤ 1000 ∧ (∀ d, dx = some d → H d = some (.own a) ∧ d ≠ a) ∧
    ∃ mA, NsO s.heap dx mA ∧ (∀ f, RelO (fs.lookup f) (mA f)) ∧ PySem.Within mA (fs.map (·.1)) :=
  (show ObjOk X.prog X.w H s.heap a (.exc C dx fs) from I.hok a _ e)
theorem exc_look (I : Inv X pins σ H s) (e : H a = some (.exc C dx fs)) : ∃ ox od, InstAt s.heap a ox C od ∧ ox.dict = dx ∧ (∃ vs, ox.data = .fields vs) ∧ (∀ name, RelO (fs.lookup name) ((match od with | some o => lookIn name o | none => some none).getD none)) ∧ (∀ name, (match od with | some o => lookIn name o | none => some none).isSome = true) ∧ s.heap.get? a = some ox := by
  obtain ⟨o, vs, ho, hc, hd, hv, hl, hw, mA, hm, r, wi⟩ := exc_get I e
  cases dx with
  | none =>
    refine ⟨o, none, ⟨ho, hc, by unfold notCls; rw [hv], by rw [hd]; exact True.intro⟩, hd, ⟨vs, hv⟩, fun name => ?_, fun _ => rfl, ho⟩
    have := r name
    rw [hm name] at this
    exact this
  | some d =>
    obtain ⟨od, hod, hlk⟩ := lookIn_ns hm
    refine ⟨o, some od, ⟨ho, hc, by unfold notCls; rw [hv], by rw [hd]; exact hod⟩, hd, ⟨vs, hv⟩, fun name => ?_, fun name => ?_, ho⟩
    · show RelO (fs.lookup name) ((lookIn name od).getD none)
      rw [hlk name]; exact r name
    · show (lookIn name od).isSome = true
      rw [hlk name]; rfl
end
structure ExcIs (K : Frag) (C : Addr) : Prop extends ExcAt K C where
  ha : findIn K (.ref C) "__class__" = some (some (.builtin "object.__class__"))
  hn : specialIn K (.builtin "object.__class__") "__get__" = some (some (.builtin "getset_descriptor.__get__"))
  htk : takesIn K (.builtin "object.__class__") = some true
theorem exc_class {K : Frag} {C a : Addr} {ox : Obj} {od : Option Obj} {prog : Program} {w : World} {A : Around} {E : Value → Shared → Prop} {Q : Option Value → Shared → Prop} {s : Shared} (c : ExcIs K C) (KX : K.In s.heap) (J : InstAt s.heap a ox C od) (h : Q (some (.ref C)) { s with toks := s.toks + 1 }) :
    wpAny (model prog w) A (getAttr? (.ref a) "__class__") Q E s := by
  have Lt : Looks (model prog w) s.heap (typeOf (.ref a)) (.ref C) := J.type
  have Lf := looks_findIn (M := model prog w) KX c.ha
  have Lga := looks_findIn (M := model prog w) KX c.ga
  have Lgt := looks_findIn (M := model prog w) KX c.gt
  have Lg := looks_specialIn (M := model prog w) KX c.hn
  have Ltk := looks_takesIn (M := model prog w) KX c.htk
  have hm : mroIn K C (.type "object") = some true := by
    obtain ⟨bm, N, nm, qn, bs, sn, sub, ab, col, dd, k0, k1, k2, k3, k5, hC, T', hcl⟩ := exc_obj KX c.cl
    unfold mroIn
    rw [hcl, Option.bind_some]
    show (if (Value.ref C :: bm).isEmpty = true then none else some ((Value.ref C :: bm).contains (.type "object"))) = some true
    rw [if_neg (by simp), List.contains_cons, T'.hasType (show excBM.contains (.type "object") = true by decide), Bool.or_true]
  obtain ⟨hp, g, d, tk, os⟩ := s
  dsimp only at *
  have FB := PySem.F.attrBase_ValueError
  have f3 := FB.ga.bind (.ref a)
  have hx2 : (Value.builtin "BaseException.__getattribute__" == Value.builtin "object.__getattribute__") = false := by decide +kernel
  have hx1 : (onTheHeap (Value.ref C) && Value.builtin "BaseException.__getattribute__" == Value.builtin "object.__getattribute__") = false := by rw [hx2]; rfl
  unfold getAttr? getAttrBy?
  repeat (any_goals (first | assumption | with_reducible refine Lt.at ?_ | with_reducible refine Lga.at ?_ | with_reducible refine Lgt.at ?_ | wp_step))
  have sub : Looks (model prog w) hp (isInstance (.ref a) (.type "BaseException")) true := Lt.andThen (exc_mro KX c.cl rfl (by decide))
  refine codeAny_call_builtin FB.ga.plain PySem.F.entry_bexc_ga (@check_slot (model prog w) _ _ ⟨hp, g, d, tk + 1, os⟩ "BaseException.__getattribute__" "BaseException" "__getattribute__" (.ref a) [.str "__class__" tk] [] _ (by decide +kernel) (by decide +kernel) sub (PySem.F.args_bexc_ga _ _) ?_)
  show wpAny _ _ (Builtin.«object.__getattribute__» ⟨[.ref a, .str "__class__" tk], []⟩) _ _ _
  unfold Builtin.«object.__getattribute__» Builtin.ObjectAttr.find
  repeat (any_goals (first | assumption | with_reducible refine Lt.at ?_ | with_reducible refine Lf.at ?_ | with_reducible refine Lg.at ?_ | with_reducible refine Ltk.at ?_ | wp_step))
  refine class_get (s := ⟨hp, g, d, tk + 1, os⟩) KX J hm ?_
  repeat (any_goals (first | assumption | wp_step))
section
variable {X : Cx} {pins : List (Addr × Obj)} {σ : St} {H : Hp} {s : Shared} {a C : Addr} {dx : Option Addr} {fs : List (Str × V)} {f : Str} {v : V} {A : Around} {E : Value → Shared → Prop}
structure Exc0 (K : Frag) (mg : Str → Option Value) (x : Str) (C : Addr) : Prop where
  at_ : mg x = some (.ref C)
  ex : excIn K C excBM "ValueError.__new__" = true
  kp : keepIn K (.ref C) = true
structure Exc1 (K : Frag) (mg : Str → Option Value) (x : Str) (C f : Addr) : Prop where
  at_ : mg x = some (.ref C)
  ex : excCls K C = true
  kp : keepIn K (.ref C) = true
  init : findIn K (.ref C) "__init__" = some (some (.ref f))
  fn : isFn K (.ref f) = true
end
end L2


set_option Elab.async false
set_option linter.all false
set_option maxRecDepth 100000
set_option maxHeartbeats 4000000
namespace L2
open PySem PySem.Spec PyProof.Rows
/-! ### list comprehensions -/
abbrev capL (X : Cx) (cs : List Str) : List (Str × Addr) := cs.map fun y => (y, (X.env.cells.lookup y).getD 0)
structure Cap (X : Cx) (scope : Scope) (cs : List Str) : Prop where
  clos : closureFor scope X.env = pure (capL X cs)
  some_ : ∀ y ∈ cs, (X.env.cells.lookup y).isSome = true
  kc : ∀ y ∈ cs, X.env.scope.names.lookup y = some .cell ∧ (relabel scope X.env).names.lookup y = some .cell
  kind : scope.kind = .function
  nocell : ∀ y ∈ scope.names, y.2 ≠ .cell
  names : ∀ y ∈ scope.names, y.2 = .local → scope.names.lookup y.1 = some .local
  has : ∀ y ∈ (relabel scope X.env).names, y.2 = .cell ∨ y.2 = .free → y.1 ∈ cs
theorem cap_mk {X : Cx} {scope : Scope} (cs : List Str) (h1 : closureFor scope X.env = pure (capL X cs)) (h2 : cs.all (fun y => (X.env.cells.lookup y).isSome) = true)
    (h3 : cs.all (fun y => X.env.scope.names.lookup y == some .cell && (relabel scope X.env).names.lookup y == some .cell) = true) (h4 : scope.kind = .function) (h5 : ∀ y ∈ scope.names, y.2 ≠ .cell)
    (h6 : ∀ y ∈ scope.names, y.2 = .local → scope.names.lookup y.1 = some .local) (h7 : (relabel scope X.env).names.all (fun y => (y.2 != .cell && y.2 != .free) || cs.contains y.1) = true) : Cap X scope cs where
  clos := h1
  some_ := fun y hy => List.all_eq_true.mp h2 y hy
  kc := fun y hy => by
    have := List.all_eq_true.mp h3 y hy
    simp only [Bool.and_eq_true, beq_iff_eq] at this
    exact this
  kind := h4
  nocell := h5
  names := h6
  has := fun y hy hk => by
    have := List.all_eq_true.mp h7 y hy
    simp only [Bool.or_eq_true, Bool.and_eq_true, bne_iff_ne, List.contains_iff_mem] at this
    rcases this with ⟨n1, n2⟩ | h
    · rcases hk with k | k
      · exact absurd k n1
      · exact absurd k n2
    · exact h
theorem lookup_mem {β : Type} : ∀ {l : List (Str × β)} {y : Str} {k : β}, l.lookup y = some k → (y, k) ∈ l
  | [], _, _, h => by cases h
  | (z, b) :: r, y, k, h => by
    rw [List.lookup_cons] at h
    split at h
    · rename_i e
      cases h
      rw [beq_iff_eq.mp e]
      exact List.mem_cons_self
    · exact List.mem_cons_of_mem _ (lookup_mem h)
theorem cap_look {X : Cx} : ∀ {cs : List Str} {y : Str}, y ∈ cs → (capL X cs).lookup y = some ((X.env.cells.lookup y).getD 0)
  | z :: r, y, h => by
    show List.lookup y ((z, (X.env.cells.lookup z).getD 0) :: capL X r) = _
    rw [List.lookup_cons]
    split
    · rename_i e
      rw [beq_iff_eq.mp e]
    · rename_i e
      rcases List.mem_cons.mp h with q | q
      · subst q
        simp at e
      · exact cap_look q
section
variable {X : Cx} {scope : Scope} {cs : List Str} {pins : List (Addr × Obj)} {σ : St} {H : Hp} {s : Shared} {fp : List Addr}
theorem Cap.sub (c : Cap X scope cs) {y : Str} {a : Addr} (h : (capL X cs).lookup y = some a) : X.env.cells.lookup y = some a ∧ y ∈ cs := by
  have m := lookup_mem h
  obtain ⟨z, hz, e⟩ := List.mem_map.mp m
  injection e with e1 e2
  subst e1
  refine ⟨?_, hz⟩
  have := c.some_ z hz
  cases q : X.env.cells.lookup z with
  | none => rw [q] at this; cases this
  | some b => rw [q] at e2; rw [← e2]; rfl
def cxComp (X : Cx) (scope : Scope) (cs N' : List Str) (s₀ : Shared) (H₀ : Hp) (ex : List Addr) : Cx where
  prog := X.prog
  w := X.w
  K := X.K
  mg := X.mg
  base := X.base
  A := X.A
  N := N'
  s₀ := s₀
  H₀ := H₀
  env := compEnvC scope (capL X cs) s₀.heap.objs.size X.env
  outer := X.stack
  stack := X.stack
  ex := ex
  fn := fun _ => false
  calm := X.calm
  pn := []
  xe := fun _ _ => False
theorem comp_ok (c : Cap X scope cs) (I : Inv X pins σ H s) (hf : ∀ b ∈ fp, FpOk X pins H b) (ho : ∀ b ∈ fp, ∃ o, s.heap.get? b = some o) (N' : List Str) : (cxComp X scope cs N' s H fp).Ok where
  mod := I.ok.mod
  kind := c.kind
  glob := I.ok.glob
  blt := I.ok.blt
  above := Nat.le_refl _
  inj := fun x y a h1 h2 => I.ok.inj x y a (c.sub h1).1 (c.sub h2).1
  has := fun x h => by
    have m : x ∈ cs := by
      rcases h with h | h
      · exact c.has _ (lookup_mem h) (.inl rfl)
      · exact c.has _ (lookup_mem h) (.inr rfl)
    exact ⟨_, cap_look m⟩
  cab := fun _ _ h => nomatch h
  hd := I.ok.hd
  frames := I.ok.frames
  stk := .inl rfl
  exf := fun b hb => by
    obtain ⟨o, e⟩ := ho b hb
    exact ⟨Nat.ne_of_lt (Heap.lt_size e), fun x a h => (hf b hb).2.2.2.2.1 x a (c.sub h).1⟩
  bs := fun b o e => I.bs b o e
  bsz := Nat.le_trans I.ok.bsz I.sz
  noex := fun b o e hb => by
    rcases (hf b hb).2.2.2.1 with z | z
    · exact I.ok.noex b o e z
    · exact absurd (Nat.lt_of_lt_of_le (Nat.lt_of_lt_of_le (Heap.lt_size e) I.ok.bsz) z) (Nat.lt_irrefl _)
  exfs := fun b hb hs => by
    rcases List.mem_cons.mp (I.stkSub b hs) with z | z
    · exact (hf b hb).2.1 z
    · exact (hf b hb).2.2.1 z
  funs := I.stack
  frf := I.stkFree
def capS (js : List Nat) (σ : St) : St := none :: js.map fun j => (σ[j]?).getD none
theorem comp_end {N' : List Str} {σ' : St} {H' : Hp} {s' : Shared} {h' : Heap} {pl : List (Addr × Obj)} (c : Cap X scope cs) (I : Inv X pins σ H s) (hf : ∀ b ∈ fp, FpOk X pins H b) (J : Inv (cxComp X scope cs N' s H fp) pl σ' H' s') (hs : Heap.SameBut s.heap.objs.size s'.heap h') :
    Inv X pins σ H' { s' with heap := h' } := by
  have hL : H' s.heap.objs.size = none := J.free
  have u := J.base
  have ne : ∀ b o, s.heap.get? b = some o → b ≠ s.heap.objs.size := fun b o e => Nat.ne_of_lt (Heap.lt_size e)
  have neT : ∀ b o, H' b = some o → b ≠ s.heap.objs.size := fun b o e z => by rw [z, hL] at e; cases e
  refine Inv.call' (s' := { s' with heap := h' }) (ch := fp) I J.os ?_ ?_ J.bare fun b hb => ⟨(hf b hb).2.2.2.1, (hf b hb).2.1, (hf b hb).2.2.2.2.1, (hf b hb).2.2.2.2.2⟩
  · exact ⟨fun b o q n hb hx => (hs.2 b (ne b o q)).trans (u.keep b o q n hb hx), fun b o q n hb hx => by
      obtain ⟨sl, e⟩ := u.slot b o q n hb hx
      exact ⟨sl, (hs.2 b (ne b o q)).trans e⟩, u.free, fun b o q hx => by
      obtain ⟨o', e⟩ := u.there b o q hx
      exact ⟨o', (hs.2 b (ne b o q)).trans e⟩, u.tups, u.frzs, u.tbls⟩
  · intro a o e
    exact (J.hok a o e).stay (fun b v hb q => (hs.2 b (by
      rcases hb with rfl | hb
      · exact neT _ _ e
      · exact neT _ _ hb)).trans q) (fun _ q => q) fun _ _ q => q
end
/-! ### a comprehension over a range whose element makes nothing -/
/-! ### deep equality of data -/
section
variable {X : Cx} {pins : List (Addr × Obj)} {σ : St} {H : Hp} {s : Shared}
end
end L2


set_option Elab.async false
set_option linter.all false
set_option maxRecDepth 100000
set_option maxHeartbeats 4000000
namespace L2
open PySem PySem.Spec PyProof.Rows PySem.W
/-! ### what is known of the heap, as a list -/
def Kn (H : Hp) (L : List (Addr × HO)) : Prop := ∀ p ∈ L, H p.1 = some p.2
theorem Kn.at_ {H : Hp} {L : List (Addr × HO)} (h : Kn H L) (i : Nat) {a : Addr} {o : HO} (e : L[i]? = some (a, o)) : H a = some o := h (a, o) (List.mem_of_getElem? e)
theorem Kn.ext {H H' : Hp} {L : List (Addr × HO)} (h : Kn H L) (e : Ext H H') : Kn H' L := fun p hp => by
  rw [e p.1 (by rw [h p hp]; rfl)]
  exact h p hp
theorem Kn.new {H : Hp} {L : List (Addr × HO)} {a : Addr} {o : HO} (h : Kn H L) (e : H a = none) : Kn (upd H a o) ((a, o) :: L) := fun p hp => by
  rcases List.mem_cons.mp hp with rfl | hp
  · exact upd_same
  · rw [upd_ne (ne_of_none (h p hp) e)]
    exact h p hp
theorem Kn.nil (H : Hp) : Kn H [] := fun _ h => by cases h
section
variable {H H1 : Hp} {L : List (Addr × HO)} {σ : St} {i : Nat} {v : V} {C : Addr} {Q : VK}
end
/-! ### methods of the text's classes -/
structure MethFn (K : Frag) (C : Addr) (m qual : Str) (st : Stmt) : Prop where
  ex : ∃ f fd, Fun K m qual st f fd ∧ findIn K (.ref C) m = some (some (.ref f)) ∧ isFn K (.ref f) = true
structure MDef (P : Program) (w : World) (K : Frag) (mg : Str → Option Value) (base : Heap) (k : Nat) (C : Addr) (m : Str) (ps : List Str) (sp : Sp) : Prop where
  ex : ∃ f fd, FnOk P w K mg base CX0 k f fd ps sp ∧ findIn K (.ref C) m = some (some (.ref f)) ∧ isFn K (.ref f) = true ∧ keepIn K (.ref f) = true ∧ Binds K fd ps []
theorem MethFn.mk_def {P : Program} {w : World} {K : Frag} {mg : Str → Option Value} {base : Heap} {C : Addr} {m qual : Str} {st : Stmt} {N ps : List Str} {k : Nat} {sp : Sp} (F : MethFn K C m qual st) (S : FnScope N ps (defScope st))
    (hb : ∀ (kV doc pm : Value) (an : Option Addr) (cdv ct : Value) (us : List Value), us.length = ps.length → bindArgs (PySem.W.fnOf m qual (defArgs st) (defBody st) (defScope st) .none kV doc pm an cdv ct) ⟨us, []⟩ = pure (ps.zip us))
    (len : ∀ vs H Q E, sp vs H Q E → vs.length = ps.length)
    (hbody : ∀ (f : Addr) (cdv : Value) (A : Around) (outer : List Env) (s : Shared) (H : Hp) (vs : List V) (Q : VK) (E : XK), Room k (A.deeper (envOfC qual (defScope st) s.heap.objs.size f cdv)) → sp vs H Q E →
      ∃ t, PSs (cxOf CX0 P w K mg base N qual (defScope st) f cdv A outer s H E).nox (defBody st) t ∧ t { nx := fun _ H' => Q .non H', rt := Q } (start N vs) H) : MDef P w K mg base (k + 1) C m ps sp := by
  obtain ⟨f, fd, F, a, n⟩ := F.ex
  exact ⟨f, fd, F.ok S len (hbody f), a, n, F.kp, F.binds hb⟩
structure ExcC (K : Frag) (mg : Str → Option Value) (x : Str) (C : Addr) : Prop where
  at_ : mg x = some (.ref C)
  ex : excCls K C = true
  kp : keepIn K (.ref C) = true
end L2


set_option Elab.async false
set_option linter.all false
namespace HL
open PySem (Str)
/-! A small interpreter: values, a heap as a list, statements; what the program does, reckoned. -/
inductive W where
  | non | bl (b : Bool) | int (i : Int) | str (s : Str) | ref (i : Nat) | ty (n : String) | gl (x : Str)
  deriving DecidableEq, Repr, Inhabited
inductive SO where
  | lst (xs : List W) | rol (xs : List W) | tup (xs : List W) | ins (c : Str) (fs : List (Str × W)) | exc (c : Str) (fs : List (Str × W))
  deriving DecidableEq, Repr, Inhabited
abbrev Sh := List SO
inductive R (α : Type) where
  | ok (a : α) (h : Sh) | ex (e : Nat) (h : Sh) | er
  deriving Repr
def R.bind {α β : Type} (r : R α) (f : α → Sh → R β) : R β := match r with
  | .ok a h => f a h
  | .ex e h => .ex e h
  | .er => .er
inductive OR where
  | er | val (v : W) | new (o : SO)
def OR.fin (o : OR) (h : Sh) : R W := match o with
  | .er => .er
  | .val v => .ok v h
  | .new o => .ok (.ref h.length) (h ++ [o])
abbrev Sg := List (Option W)
inductive C where
  | nx (s : Sg) (h : Sh) | rt (v : W) (h : Sh) | bk (s : Sg) (h : Sh) | ct (s : Sg) (h : Sh) | ex (e : Nat) (h : Sh) | er
  deriving Repr
abbrev DE := Sg → Sh → R W
abbrev DT := Sg → Sh → R Bool
abbrev DA := Sg → Sh → R (List W)
abbrev DS := Sg → Sh → C
abbrev Fn := List W → Sh → R W
def LIM : Nat := 100000
/-! ### what is read -/
def lstW (h : Sh) (x : W) : Option (List W) := match x with
  | .ref i => (match h[i]? with
    | some (.lst xs) => some xs
    | some (.rol xs) => some xs
    | _ => none)
  | _ => none
def tupW (h : Sh) (x : W) : Option (List W) := match x with
  | .ref i => (match h[i]? with
    | some (.tup xs) => some xs
    | _ => none)
  | _ => none
def seqW (h : Sh) (x : W) : Option (List W) := (lstW h x).or (tupW h x)
/-! ### deep data -/
inductive D where
  | non | bl (b : Bool) | int (i : Int) | str (s : Str) | lst (xs : List D) | tup (xs : List D)
mutual
def D.eq : D → D → Bool
  | .non, y => (match y with | .non => true | _ => false)
  | .bl a, y => (match y with | .bl b => a == b | .int j => (if a then 1 else 0) == j | _ => false)
  | .int i, y => (match y with | .bl b => i == (if b then 1 else 0) | .int j => i == j | _ => false)
  | .str a, y => (match y with | .str b => a == b | _ => false)
  | .lst xs, y => (match y with | .lst ys => D.eqs xs ys | _ => false)
  | .tup xs, y => (match y with | .tup ys => D.eqs xs ys | _ => false)
def D.eqs : List D → List D → Bool
  | [], ys => ys.isEmpty
  | x :: xs, ys => (match ys with | [] => false | y :: ys => D.eq x y && D.eqs xs ys)
end
def dats (f : W → Option D) : List W → Option (List D)
  | [] => some []
  | x :: r => (f x).bind fun d => (dats f r).map (d :: ·)
def sOk (s : Str) : Bool := decide (s.length ≤ LIM) && s.cps.toList.all fun c => decide (c < 1114112)
def dat : Nat → Sh → W → Option D
  | _, _, .non => some .non
  | _, _, .bl b => some (.bl b)
  | _, _, .int i => some (.int i)
  | _, _, .str x => if sOk x then some (.str x) else none
  | n + 1, h, .ref i => (match h[i]? with
    | some (.lst xs) => (dats (dat n h) xs).map .lst
    | some (.rol xs) => (dats (dat n h) xs).map .lst
    | some (.tup xs) => (dats (dat n h) xs).map .tup
    | _ => none)
  | _, _, _ => none
def DEEP : Nat := 8
/-! ### operations on values -/
abbrev O1 := W → Sh → OR
abbrev O2 := W → W → Sh → OR
def mulOk (i j : Int) : Bool := decide (i.natAbs < 2 ^ 64) || decide (j.natAbs < 2 ^ 64)
def oAdd : O2 := fun x y h => match x, y with
  | .int i, .int j => .val (.int (i + j))
  | .str s, .str t => if s.length + t.length ≤ LIM then .val (.str (s ++ t)) else .er
  | .ref i, .ref j => (match h[i]?, h[j]? with
    | some (.lst xs), some (.lst ys) => if xs.length + ys.length ≤ LIM then .new (.lst (xs ++ ys)) else .er
    | some (.tup xs), some (.tup ys) => if xs.length + ys.length ≤ LIM ∧ xs ≠ [] then (if ys = [] then .val x else .new (.tup (xs ++ ys))) else .er
    | _, _ => .er)
  | _, _ => .er
def oInt (c : Int → Int → Bool) (f : Int → Int → Int) : O2 := fun x y _ => match x, y with
  | .int i, .int j => if c i j then .val (.int (f i j)) else .er
  | _, _ => .er
def oSub : O2 := oInt (fun _ _ => true) fun i j => i - j
def oMul : O2 := fun x y h => match x, y with
  | .int i, .int j => if mulOk i j then .val (.int (i * j)) else .er
  | .ref i, .int k => (match h[i]? with
    | some (.lst xs) => if k < 2 ^ 20 ∧ -(2 ^ 20) < k ∧ xs.length * k.toNat ≤ LIM then .new (.lst (List.replicate k.toNat xs).flatten) else .er
    | _ => .er)
  | _, _ => .er
def oDiv : O2 := oInt (fun _ j => decide (0 < j) && decide (j < 1073741824)) fun i j => i / j
def oMod : O2 := oInt (fun _ j => decide (0 < j)) fun i j => i % j
def oCmp (p : Int → Int → Bool) : O2 := fun x y _ => match x, y with
  | .int i, .int j => .val (.bl (p i j))
  | _, _ => .er
def oLt : O2 := oCmp fun i j => decide (i < j)
def oGt : O2 := oCmp fun i j => decide (j < i)
def eqH (x y : W) (h : Sh) : Option Bool := match x, y with
  | .str a, .str b => some (decide (a = b))
  | .int a, .int b => some (decide (a = b))
  | x, y => (match dat DEEP h x, dat DEEP h y with
    | some a, some b => some (D.eq a b)
    | _, _ => none)
def oEq : O2 := fun x y h => match eqH x y h with
  | some b => .val (.bl b)
  | none => .er
def oNe : O2 := fun x y h => match eqH x y h with
  | some b => .val (.bl (!b))
  | none => .er
def oIs : O2 := fun x y _ => match y with
  | .non => .val (.bl (decide (x = .non)))
  | _ => .er
def flatW : W → Bool
  | .non => true
  | .bl _ => true
  | .int _ => true
  | .str _ => true
  | _ => false
def eqW : W → W → Bool
  | .non, .non => true
  | .bl a, .bl b => a == b
  | .bl a, .int b => (if a then 1 else 0) == b
  | .int a, .bl b => a == (if b then 1 else 0)
  | .int a, .int b => a == b
  | .str a, .str b => a == b
  | _, _ => false
def inW (x : W) (xs : List W) : Bool := xs.any fun y => eqW y x
def oIn : O2 := fun x y h => match seqW h y with
  | some xs => if flatW x && xs.all flatW then .val (.bl (inW x xs)) else .er
  | none => .er
def ixW (n : Nat) (i : Int) : Option Nat := if 0 ≤ i then (if i < n then some i.toNat else none) else if -(n : Int) ≤ i then some (i + n).toNat else none
def atW (xs : List W) (i : Int) : Option W := (ixW xs.length i).bind fun j => xs[j]?
def oIx : O2 := fun x y h => match seqW h x, y with
  | some xs, .int i => (match atW xs i with
    | some v => .val v
    | none => .er)
  | _, _ => .er
def truW (x : W) (h : Sh) : Option Bool := match x with
  | .non => some false
  | .bl b => some b
  | .int i => some (i != 0)
  | .str s => if s.length ≤ LIM then some ((s.length : Int) != 0) else none
  | .ref i => (match h[i]? with
    | some (.lst xs) => some (!xs.isEmpty)
    | some (.rol xs) => some (!xs.isEmpty)
    | some (.tup xs) => some (!xs.isEmpty)
    | _ => none)
  | _ => none
/-! ### expressions -/
def dVar (i : Nat) : DE := fun s h => match s[i]? with
  | some (some v) => .ok v h
  | _ => .er
def dC (v : W) : DE := fun _ h => .ok v h
def dOp (f : O2) (a b : DE) : DE := fun s h => (a s h).bind fun x h => (b s h).bind fun y h => (f x y h).fin h
def dNil : DA := fun _ h => .ok [] h
def dCons (a : DE) (r : DA) : DA := fun s h => (a s h).bind fun x h => (r s h).bind fun xs h => .ok (x :: xs) h
def dB (f : List W → Sh → OR) (as : DA) : DE := fun s h => (as s h).bind fun xs h => (f xs h).fin h
def bLst : List W → Sh → OR := fun xs _ => if xs.length ≤ LIM then .new (.lst xs) else .er
def bTup : List W → Sh → OR := fun xs _ => if xs.length ≤ LIM then .new (.tup xs) else .er
def dT (a : DE) : DT := fun s h => (a s h).bind fun x h => match truW x h with
  | some b => .ok b h
  | none => .er
def tNot (a : DT) : DT := fun s h => (a s h).bind fun b h => .ok (!b) h
def tAnd (a b : DT) : DT := fun s h => (a s h).bind fun c h => if c = true then b s h else .ok false h
def tOr (a b : DT) : DT := fun s h => (a s h).bind fun c h => if c = true then .ok true h else b s h
def dAnd (a b : DE) : DE := fun s h => (a s h).bind fun x h => match x with
  | .bl c => if c = true then b s h else .ok (.bl false) h
  | _ => .er
def dOr (a b : DE) : DE := fun s h => (a s h).bind fun x h => match x with
  | .bl c => if c = true then .ok (.bl true) h else b s h
  | _ => .er
def dNot (a : DE) : DE := fun s h => (a s h).bind fun x h => match x with
  | .bl c => .ok (.bl (!c)) h
  | _ => .er
def dCall (f : Fn) (as : DA) : DE := fun s h => (as s h).bind fun xs h => f xs h
def start (n : Nat) (vs : List W) : Sg := vs.map some ++ List.replicate (n - vs.length) none
def fnOf (p n : Nat) (b : DS) : Fn := fun vs h => if vs.length = p then (match b (start n vs) h with
  | .nx _ h => .ok .non h
  | .rt v h => .ok v h
  | .ex e h => .ex e h
  | _ => .er) else .er
abbrev DO := Sg → Sh → R (Option Int)
def dNoPart : DO := fun _ h => .ok none h
def dPart (a : DE) : DO := fun s h => (a s h).bind fun x h => match x with
  | .int i => .ok (some i) h
  | _ => .er
def sIx (n d : Nat) : Option Int → Nat
  | none => d
  | some i => if i < 0 then (i + (n : Int)).toNat else min i.toNat n
def cutW (xs : List W) (lo hi : Option Int) : List W := (xs.drop (sIx xs.length 0 lo)).take (sIx xs.length xs.length hi - sIx xs.length 0 lo)
def oSl (x : W) (lo hi : Option Int) (h : Sh) : OR := match lstW h x with
  | some xs => .new (.lst (cutW xs lo hi))
  | none => (match tupW h x with
    | some xs => if sIx xs.length 0 lo = 0 ∧ sIx xs.length xs.length hi = xs.length then .er else .new (.tup (cutW xs lo hi))
    | none => .er)
def dSl (a : DE) (lo hi : DO) : DE := fun s h => (a s h).bind fun x h => (lo s h).bind fun l h => (hi s h).bind fun u h => (oSl x l u h).fin h
/-! ### statements -/
def sNx : DS := fun s h => .nx s h
def sSeq (a b : DS) : DS := fun s h => match a s h with
  | .nx s h => b s h
  | c => c
def sSet (i : Nat) (e : DE) : DS := fun s h => match e s h with
  | .ok v h => .nx (s.set i (some v)) h
  | .ex e h => .ex e h
  | .er => .er
def sRet (e : DE) : DS := fun s h => match e s h with
  | .ok v h => .rt v h
  | .ex e h => .ex e h
  | .er => .er
def sIf (c : DT) (a b : DS) : DS := fun s h => match c s h with
  | .ok k h => if k = true then a s h else b s h
  | .ex e h => .ex e h
  | .er => .er
/-! ### loops -/
inductive It where
  | fix (xs : List W) | lst (i : Nat) (xs : List W) | tup (i : Nat) (xs : List W)
def It.items : It → List W
  | .fix xs => xs
  | .lst _ xs => xs
  | .tup _ xs => xs
def It.stays : It → Sh → Prop
  | .fix _, _ => True
  | .lst i xs, h => lstW h (.ref i) = some xs
  | .tup i xs, h => tupW h (.ref i) = some xs
instance (t : It) (h : Sh) : Decidable (t.stays h) := by cases t <;> unfold It.stays <;> infer_instance
abbrev DI := Sg → Sh → R It
def rangeW (lo : Int) (n : Nat) : List W := (List.range n).map fun (k : Nat) => .int (lo + (k : Int))
def iRange1 (a : DE) : DI := fun s h => (a s h).bind fun x h => match x with
  | .int j => if -(2 ^ 62) ≤ j ∧ j < 2 ^ 62 then .ok (.fix (rangeW 0 j.toNat)) h else .er
  | _ => .er
abbrev DG := W → Sg → Sh → Option Sg
def gName (i : Nat) : DG := fun v s _ => some (s.set i (some v))
def forW (t : It) (g : DG) (b : DS) : List W → DS
  | [], s, h => .nx s h
  | x :: xs, s, h => match g x s h with
    | none => .er
    | some s1 => match b s1 h with
      | .nx s2 h2 => if t.stays h2 then forW t g b xs s2 h2 else .er
      | .ct s2 h2 => if t.stays h2 then forW t g b xs s2 h2 else .er
      | .bk s2 h2 => .nx s2 h2
      | c => c
def sFor (i : DI) (g : DG) (b : DS) : DS := fun s h => match i s h with
  | .ok t h => forW t g b t.items s h
  | .ex e h => .ex e h
  | .er => .er
def compW (t : It) (g : DG) (c : DT) (e : DE) (acc : Nat) : List W → Sg → Sh → R W
  | [], _, h => .ok (.ref acc) h
  | x :: xs, s, h => match g x s h with
    | none => .er
    | some s1 => (c s1 h).bind fun k h1 => if k = true then (e s1 h1).bind fun v h2 => (match h2[acc]? with
        | some (.lst ys) => if ys.length < LIM ∧ t.stays h2 ∧ acc < h2.length then compW t g c e acc xs s1 (h2.set acc (.lst (ys ++ [v]))) else .er
        | _ => .er)
      else if t.stays h1 then compW t g c e acc xs s1 h1 else .er
def capS (n : Nat) (js : List Nat) (s : Sg) : Sg := List.replicate n none ++ js.map fun j => (s[j]?).getD none
def dComp (i : DI) (n : Nat) (js : List Nat) (g : DG) (c : DT) (e : DE) : DE := fun s h => (i s h).bind fun t h => compW t g c e h.length t.items (capS n js s) (h ++ [.lst []])
/-! ### built-in functions -/
def bLen : List W → Sh → OR := fun xs h => match xs with
  | [.str s] => if s.length ≤ LIM then .val (.int s.length) else .er
  | [x] => (match seqW h x with
    | some ys => .val (.int ys.length)
    | none => .er)
  | _ => .er
def bMax2 : List W → Sh → OR := fun xs _ => match xs with
  | [.int i, .int j] => .val (.int (if j > i then j else i))
  | _ => .er
def bMin2 : List W → Sh → OR := fun xs _ => match xs with
  | [.int i, .int j] => .val (.int (if j < i then j else i))
  | _ => .er
def bInt : List W → Sh → OR := fun xs _ => match xs with
  | [.int i] => .val (.int i)
  | [.bl k] => .val (.int (if k then 1 else 0))
  | _ => .er
/-! ### methods of lists -/
def isLst (x : W) (h : Sh) : Bool := (lstW h x).isSome
def dMt (T : W → Sh → Bool) (f : W → List W → Sh → R W) (o : DE) (as : DA) : DE := fun s h => (o s h).bind fun x h => if T x h = true then (as s h).bind fun xs h => f x xs h else .er
inductive Ty where
  | bi (n : String) | own (x : Bool) (c : Str)
  deriving DecidableEq
def tyW (h : Sh) (x : W) : Option Ty := match x with
  | .non => some (.bi "NoneType")
  | .bl _ => some (.bi "bool")
  | .int _ => some (.bi "int")
  | .str _ => some (.bi "str")
  | .ref i => (match h[i]? with
    | some (.lst _) => some (.bi "list")
    | some (.rol _) => some (.bi "list")
    | some (.tup _) => some (.bi "tuple")
    | some (.ins c _) => some (.own false c)
    | some (.exc c _) => some (.own true c)
    | none => none)
  | _ => none
def biN : List String := ["int", "bool", "str", "list", "tuple", "dict"]
def subB (a b : String) : Bool := a == b || (a == "bool" && b == "int")
abbrev CT := List (Str × List W)
def isi1 (T : CT) (t : Ty) (c : W) : Option Bool := match t, c with
  | .bi a, .ty b => if biN.contains b then some (subB a b) else none
  | .bi _, .gl x => if (T.lookup x).isSome then some false else none
  | .own k a, c => (match T.lookup a with
    | some l => if l.contains (.ty "ValueError") = k then (match c with
        | .ty b => if biN.contains b then some (l.contains (.ty b)) else none
        | .gl x => if (T.lookup x).isSome then some (l.contains (.gl x)) else none
        | _ => none) else none
    | none => none)
  | _, _ => none
def isCl : W → Bool
  | .ty _ => true
  | .gl _ => true
  | _ => false
def isiN (T : CT) (t : Ty) : List W → Option Bool
  | [] => some false
  | c :: cs => match isi1 T t c with
    | some true => some true
    | some false => isiN T t cs
    | none => none
def isi (T : CT) (h : Sh) (x c : W) : Option Bool := match tyW h x with
  | none => none
  | some t => (match c with
    | .ref i => (match h[i]? with
      | some (.tup cs) => if cs.all isCl && !cs.isEmpty then isiN T t cs else none
      | _ => none)
    | c => isi1 T t c)
def bIsi (T : CT) : List W → Sh → OR := fun xs h => match xs with
  | [x, c] => (match isi T h x c with
    | some b => .val (.bl b)
    | none => .er)
  | _ => .er
end HL


set_option Elab.async false
set_option linter.all false
namespace HL
open PySem (Str)
/-! ### own classes -/
def getF (cs : List Str) (f : Str) (x : W) (h : Sh) : Option W := match x with
  | .ref i => (match h[i]? with
    | some (.ins c fs) => if cs.contains c = true then fs.lookup f else none
    | _ => none)
  | _ => none
def dFld (cs : List Str) (f : Str) (a : DE) : DE := fun s h => (a s h).bind fun x h => match getF cs f x h with
  | some v => .ok v h
  | none => .er
def putW (f : Str) (v : W) : List (Str × W) → List (Str × W)
  | [] => [(f, v)]
  | (g, x) :: r => if g = f then (g, v) :: r else (g, x) :: putW f v r
def setF (cs : List Str) (f : Str) (x v : W) (h : Sh) : R W := match x with
  | .ref i => (match h[i]? with
    | some (.ins c fs) => if cs.contains c = true ∧ fs.length < 1000 then .ok .non (h.set i (.ins c (putW f v fs))) else .er
    | _ => .er)
  | _ => .er
def sFld (cs : List Str) (f : Str) (o e : DE) : DS := fun s h => match ((e s h).bind fun v h => (o s h).bind fun x h => setF cs f x v h) with
  | .ok _ h => .nx s h
  | .ex e h => .ex e h
  | .er => .er
def findM (tb : List (Str × Fn)) (m : Str) (x : W) (h : Sh) : Option Fn := match x with
  | .ref i => (match h[i]? with
    | some (.ins c fs) => if fs.lookup m = none then tb.lookup c else none
    | _ => none)
  | _ => none
def dMeth (tb : List (Str × Fn)) (m : Str) (o : DE) (as : DA) : DE := fun s h => (o s h).bind fun x h => match findM tb m x h with
  | some f => (as s h).bind fun xs h => f (x :: xs) h
  | none => .er
def dNew (c : Str) (f : Fn) (ds : List W) (as : DA) : DE := fun s h => (as s h).bind fun xs h1 => (f (.ref h1.length :: (xs ++ ds)) (h1 ++ [.ins c []])).bind fun v h2 => if v = .non then .ok (.ref h1.length) h2 else .er
end HL


set_option Elab.async false
set_option linter.all false
set_option maxRecDepth 100000
set_option maxHeartbeats 4000000
namespace L2
open PySem PySem.Spec PyProof.Rows
open HL (W SO Sh Sg OR)
/-! ### the interpreter's heap lies in the tracked one -/
def RoL (K : PySem.W.Frag) (H : Hp) (a : Addr) (xs : List V) : Prop := (∃ o, H a = some (.frz o (.lst xs))) ∨
    ∃ (o : Obj) (its : Array Value) (n : Nat), K.lookup a = some o ∧ o.cls = .type "list" ∧ o.dict = none ∧ o.data = .seq its n ∧ its.size ≤ sizeLine ∧ Vals xs its.toList
theorem RoL.sq {K : PySem.W.Frag} {H : Hp} {a : Addr} {xs : List V} (h : RoL K H a xs) : SqL K H a xs := by
  rcases h with h | h
  · exact .inl (.inr h)
  · exact .inr h
section
variable (γ : Str → Addr) (ρ : Nat → Addr)
def renW : W → V
  | .non => .non
  | .bl b => .bl b
  | .int i => .int i
  | .str s => .str s
  | .ref i => .ref (ρ i)
  | .ty n => .ty n
  | .gl x => .ref (γ x)
def renS (s : Sg) : St := s.map (Option.map (renW γ ρ))
def renF (fs : List (Str × W)) : List (Str × V) := fs.map fun p => (p.1, renW γ ρ p.2)
def ObS (K : PySem.W.Frag) (H : Hp) (a : Addr) : SO → Prop
  | .lst xs => H a = some (.lst (xs.map (renW γ ρ)))
  | .rol xs => RoL K H a (xs.map (renW γ ρ))
  | .tup xs => SqT K H a (xs.map (renW γ ρ))
  | .ins c fs => ∃ dx, H a = some (.ins (γ c) dx (renF γ ρ fs))
  | .exc c fs => ∃ dx, H a = some (.exc (γ c) dx (renF γ ρ fs))
end
def wf (n : Nat) : W → Prop
  | .ref i => i < n
  | _ => True
def wfs (n : Nat) (xs : List W) : Prop := ∀ x ∈ xs, wf n x
def wfS (n : Nat) (s : Sg) : Prop := ∀ x, some x ∈ s → wf n x
def wfO (n : Nat) : SO → Prop
  | .lst xs => wfs n xs
  | .rol xs => wfs n xs
  | .tup xs => wfs n xs
  | .ins _ fs => ∀ p ∈ fs, wf n p.2
  | .exc _ fs => ∀ p ∈ fs, wf n p.2
def mutO : SO → Bool
  | .lst _ => true
  | .ins _ _ => true
  | .exc _ _ => true
  | _ => false
def Ag (n : Nat) (ρ ρ' : Nat → Addr) : Prop := ∀ i < n, ρ i = ρ' i
theorem wf.mono {n m : Nat} {x : W} (h : wf n x) (l : n ≤ m) : wf m x := by
  cases x with
  | ref i => exact Nat.lt_of_lt_of_le h l
  | _ => trivial
theorem wfs.mono {n m : Nat} {xs : List W} (h : wfs n xs) (l : n ≤ m) : wfs m xs := fun x hx => (h x hx).mono l
theorem wfS.mono {n m : Nat} {s : Sg} (h : wfS n s) (l : n ≤ m) : wfS m s := fun x hx => (h x hx).mono l
theorem wfO.mono {n m : Nat} {o : SO} (h : wfO n o) (l : n ≤ m) : wfO m o := by
  cases o with
  | lst xs => exact wfs.mono h l
  | rol xs => exact wfs.mono h l
  | tup xs => exact wfs.mono h l
  | ins c fs => exact fun p hp => (h p hp).mono l
  | exc c fs => exact fun p hp => (h p hp).mono l
theorem ren_ag {γ : Str → Addr} {ρ ρ' : Nat → Addr} {n : Nat} {x : W} (h : wf n x) (a : Ag n ρ ρ') : renW γ ρ x = renW γ ρ' x := by
  cases x with
  | ref i => exact congrArg V.ref (a i h)
  | _ => rfl
theorem rens_ag {γ : Str → Addr} {ρ ρ' : Nat → Addr} {n : Nat} {xs : List W} (h : wfs n xs) (a : Ag n ρ ρ') : xs.map (renW γ ρ) = xs.map (renW γ ρ') :=
  List.map_congr_left fun x hx => ren_ag (h x hx) a
theorem renF_ag {γ : Str → Addr} {ρ ρ' : Nat → Addr} {n : Nat} {fs : List (Str × W)} (h : ∀ p ∈ fs, wf n p.2) (a : Ag n ρ ρ') : renF γ ρ fs = renF γ ρ' fs :=
  List.map_congr_left fun p hp => by rw [ren_ag (h p hp) a]
theorem renS_ag {γ : Str → Addr} {ρ ρ' : Nat → Addr} {n : Nat} {s : Sg} (h : wfS n s) (a : Ag n ρ ρ') : renS γ ρ s = renS γ ρ' s := by
  refine List.map_congr_left fun x hx => ?_
  cases x with
  | none => rfl
  | some v => exact congrArg some (ren_ag (h v hx) a)
theorem Ag.refl (n : Nat) (ρ : Nat → Addr) : Ag n ρ ρ := fun _ _ => rfl
theorem Ag.trans {n m : Nat} {ρ ρ1 ρ2 : Nat → Addr} (a : Ag n ρ ρ1) (b : Ag m ρ1 ρ2) (l : n ≤ m) : Ag n ρ ρ2 := fun i hi => (a i hi).trans (b i (Nat.lt_of_lt_of_le hi l))
structure Nxt (h : Sh) (ρ : Nat → Addr) (h' : Sh) (ρ' : Nat → Addr) : Prop where
  le : h.length ≤ h'.length
  ag : Ag h.length ρ ρ'
theorem Nxt.refl (h : Sh) (ρ : Nat → Addr) : Nxt h ρ h ρ := ⟨Nat.le_refl _, Ag.refl _ _⟩
theorem Nxt.trans {h h1 h2 : Sh} {ρ ρ1 ρ2 : Nat → Addr} (a : Nxt h ρ h1 ρ1) (b : Nxt h1 ρ1 h2 ρ2) : Nxt h ρ h2 ρ2 := ⟨Nat.le_trans a.le b.le, a.ag.trans b.ag a.le⟩
structure SimH (K : PySem.W.Frag) (γ : Str → Addr) (ρ : Nat → Addr) (h : Sh) (H : Hp) : Prop where
  ob : ∀ (i : Nat) (o : SO), h[i]? = some o → ObS γ ρ K H (ρ i) o
  inj : ∀ (i j : Nat) (o u : SO), h[i]? = some o → h[j]? = some u → mutO o = true → mutO u = true → ρ i = ρ j → i = j
  wf : ∀ (i : Nat) (o : SO), h[i]? = some o → wfO h.length o
structure Sim (K : PySem.W.Frag) (γ : Str → Addr) (ρ : Nat → Addr) (s : Sg) (h : Sh) (σ : St) (H : Hp) : Prop where
  hp : SimH K γ ρ h H
  ws : wfS h.length s
  eq : σ = renS γ ρ s
section
variable {K : PySem.W.Frag} {γ : Str → Addr} {ρ ρ' : Nat → Addr} {s : Sg} {h h' : Sh} {σ : St} {H H' : Hp}
theorem Sim.next (S : Sim K γ ρ s h σ H) (n : Nxt h ρ h' ρ') (S' : SimH K γ ρ' h' H') : Sim K γ ρ' s h' σ H' := ⟨S', S.ws.mono n.le, S.eq.trans (renS_ag S.ws n.ag)⟩
theorem ObS.ren {a : Addr} {o : SO} (x : ObS γ ρ K H a o) {n : Nat} (w : wfO n o) (g : Ag n ρ ρ') : ObS γ ρ' K H a o := by
  cases o with
  | lst xs => show _ = _; rw [← rens_ag w g]; exact x
  | rol xs => show RoL _ _ _ _; rw [← rens_ag w g]; exact x
  | tup xs => show SqT _ _ _ _; rw [← rens_ag w g]; exact x
  | ins c fs => obtain ⟨dx, e⟩ := x; exact ⟨dx, by rw [← renF_ag w g]; exact e⟩
  | exc c fs => obtain ⟨dx, e⟩ := x; exact ⟨dx, by rw [← renF_ag w g]; exact e⟩
theorem SqL.at {a : Addr} {xs : List V} (h : SqL K H a xs) (e : H a ≠ none → H' a = H a) : SqL K H' a xs := by
  rcases h with (h | ⟨o, h⟩) | h
  · exact .inl (.inl (by rw [e (by rw [h]; exact nofun), h]))
  · exact .inl (.inr ⟨o, by rw [e (by rw [h]; exact nofun), h]⟩)
  · exact .inr h
theorem SqT.at {a : Addr} {xs : List V} (h : SqT K H a xs) (e : H a ≠ none → H' a = H a) : SqT K H' a xs := by
  rcases h with (h | ⟨o, h⟩) | h
  · exact .inl (.inl (by rw [e (by rw [h]; exact nofun), h]))
  · exact .inl (.inr ⟨o, by rw [e (by rw [h]; exact nofun), h]⟩)
  · exact .inr h
theorem RoL.at {a : Addr} {xs : List V} (h : RoL K H a xs) (e : H a ≠ none → H' a = H a) : RoL K H' a xs := by
  rcases h with ⟨o, h⟩ | h
  · exact .inl ⟨o, by rw [e (by rw [h]; exact nofun), h]⟩
  · exact .inr h
theorem ObS.at {a : Addr} {o : SO} (x : ObS γ ρ K H a o) (e : H a ≠ none → H' a = H a) : ObS γ ρ K H' a o := by
  cases o with
  | lst xs => have x' : H a = _ := x; show H' a = _; rw [e (by rw [x']; exact nofun)]; exact x'
  | rol xs => exact RoL.at x e
  | tup xs => exact SqT.at x e
  | ins c fs => obtain ⟨dx, q⟩ := x; exact ⟨dx, by rw [e (by rw [q]; exact nofun)]; exact q⟩
  | exc c fs => obtain ⟨dx, q⟩ := x; exact ⟨dx, by rw [e (by rw [q]; exact nofun)]; exact q⟩
def put (ρ : Nat → Addr) (n : Nat) (p : Addr) : Nat → Addr := fun i => if i = n then p else ρ i
theorem put_ag (ρ : Nat → Addr) (n : Nat) (p : Addr) : Ag n ρ (put ρ n p) := fun i hi => by unfold put; rw [if_neg (Nat.ne_of_lt hi)]
theorem put_at (ρ : Nat → Addr) (n : Nat) (p : Addr) : put ρ n p n = p := by unfold put; rw [if_pos rfl]
theorem getElem?_snoc {α : Type} (l : List α) (x : α) (i : Nat) : (l ++ [x])[i]? = if i < l.length then l[i]? else if i = l.length then some x else none := by
  by_cases h1 : i < l.length
  · rw [if_pos h1, List.getElem?_append_left h1]
  · rw [if_neg h1, List.getElem?_append_right (by omega)]
    by_cases h2 : i = l.length
    · rw [if_pos h2, h2, Nat.sub_self]; rfl
    · rw [if_neg h2]
      exact List.getElem?_eq_none_iff.mpr (by simp; omega)
theorem ObS.mut {a : Addr} {o : SO} (x : ObS γ ρ K H a o) (m : mutO o = true) : ∃ u, H a = some u ∧ (∀ xs, u ≠ .tup xs) ∧ ∀ ob t, u ≠ .frz ob t := by
  cases o with
  | lst xs => exact ⟨_, x, (fun _ z => nomatch z), fun _ _ z => nomatch z⟩
  | rol xs => cases m
  | tup xs => cases m
  | ins c fs => obtain ⟨dx, e⟩ := x; exact ⟨_, e, (fun _ z => nomatch z), fun _ _ z => nomatch z⟩
  | exc c fs => obtain ⟨dx, e⟩ := x; exact ⟨_, e, (fun _ z => nomatch z), fun _ _ z => nomatch z⟩
theorem ObS.still {a b : Addr} {o : SO} {u v : HO} (x : ObS γ ρ K H a o) (m : mutO o = false) (e : H b = some u) (n1 : ∀ xs, u ≠ .tup xs) (n2 : ∀ ob t, u ≠ .frz ob t) : ObS γ ρ K (upd H b v) a o := by
  cases o with
  | lst xs => cases m
  | ins c fs => cases m
  | exc c fs => cases m
  | rol xs =>
    rcases x with ⟨o, h⟩ | h
    · exact .inl ⟨o, by rw [upd_ne (ne_of h e (fun z => n2 _ _ z.symm))]; exact h⟩
    · exact .inr h
  | tup xs =>
    rcases x with (h | ⟨o, h⟩) | h
    · exact .inl (.inl (by rw [upd_ne (ne_of h e (fun z => n1 _ z.symm))]; exact h))
    · exact .inl (.inr ⟨o, by rw [upd_ne (ne_of h e (fun z => n2 _ _ z.symm))]; exact h⟩)
    · exact .inr h
theorem SimH.push {p : Addr} {o : SO} (S : SimH K γ ρ h H) (w : wfO h.length o) (E : Ext H H') (hp : H p = none) (n : ObS γ ρ K H' p o) : SimH K γ (put ρ h.length p) (h ++ [o]) H' where
  ob := fun i u e => by
    rw [getElem?_snoc] at e
    by_cases h1 : i < h.length
    · rw [if_pos h1] at e
      have x := (S.ob i u e).at (H' := H') fun z => E _ (by cases q : H (ρ i) with | none => exact absurd q z | some _ => rfl)
      rw [← put_ag ρ h.length p i h1]
      exact x.ren (S.wf i u e) (put_ag _ _ _)
    · rw [if_neg h1] at e
      by_cases h2 : i = h.length
      · rw [if_pos h2] at e
        cases e
        rw [h2, put_at]
        exact n.ren w (put_ag _ _ _)
      · rw [if_neg h2] at e; cases e
  inj := fun i j u v e1 e2 m1 m2 q => by
    rw [getElem?_snoc] at e1 e2
    have tr : ∀ k w, k < h.length → h[k]? = some w → mutO w = true → ρ k ≠ p := fun k w _ e m z => by
      obtain ⟨y, hy, _⟩ := (S.ob k w e).mut m
      rw [z, hp] at hy; cases hy
    by_cases h1 : i < h.length
    · rw [if_pos h1] at e1
      by_cases h2 : j < h.length
      · rw [if_pos h2] at e2
        rw [← put_ag ρ h.length p i h1, ← put_ag ρ h.length p j h2] at q
        exact S.inj i j u v e1 e2 m1 m2 q
      · rw [if_neg h2] at e2
        by_cases h3 : j = h.length
        · rw [h3, put_at, ← put_ag ρ h.length p i h1] at q
          exact absurd q (tr i u h1 e1 m1)
        · rw [if_neg h3] at e2; cases e2
    · rw [if_neg h1] at e1
      by_cases h3 : i = h.length
      · by_cases h2 : j < h.length
        · rw [if_pos h2] at e2
          rw [h3, put_at, ← put_ag ρ h.length p j h2] at q
          exact absurd q.symm (tr j v h2 e2 m2)
        · rw [if_neg h2] at e2
          by_cases h4 : j = h.length
          · rw [h3, h4]
          · rw [if_neg h4] at e2; cases e2
      · rw [if_neg h3] at e1; cases e1
  wf := fun i u e => by
    rw [getElem?_snoc] at e
    have le : h.length ≤ (h ++ [o]).length := by simp
    by_cases h1 : i < h.length
    · rw [if_pos h1] at e
      exact (S.wf i u e).mono le
    · rw [if_neg h1] at e
      by_cases h2 : i = h.length
      · rw [if_pos h2] at e; cases e; exact w.mono le
      · rw [if_neg h2] at e; cases e
theorem Nxt.push (h : Sh) (ρ : Nat → Addr) (o : SO) (p : Addr) : Nxt h ρ (h ++ [o]) (put ρ h.length p) := ⟨by simp, put_ag _ _ _⟩
theorem SimH.chg {i : Nat} {o u : SO} {v : HO} (S : SimH K γ ρ h H) (e : h[i]? = some o) (m : mutO o = true) (m' : mutO u = true) (w : wfO h.length u) (n : ObS γ ρ K (upd H (ρ i) v) (ρ i) u) : SimH K γ ρ (h.set i u) (upd H (ρ i) v) where
  ob := fun j t q => by
    rw [List.getElem?_set] at q
    have hi : i < h.length := by
      rcases Nat.lt_or_ge i h.length with z | z
      · exact z
      · rw [List.getElem?_eq_none_iff.mpr z] at e; cases e
    by_cases hj : i = j
    · rw [if_pos hj, if_pos hi] at q
      cases q
      rw [← hj]; exact n
    · rw [if_neg hj] at q
      obtain ⟨y, hy, n1, n2⟩ := (S.ob i o e).mut m
      cases c : mutO t with
      | true =>
        have ne : ρ j ≠ ρ i := fun z => hj (S.inj i j o t e q m c z.symm)
        exact (S.ob j t q).at fun _ => upd_ne ne
      | false => exact (S.ob j t q).still c hy n1 n2
  inj := fun j k t r e1 e2 m1 m2 q => by
    rw [List.getElem?_set] at e1 e2
    have g : ∀ j t, (if i = j then if i < h.length then some u else none else h[j]?) = some t → mutO t = true → ∃ t', h[j]? = some t' ∧ mutO t' = true := fun j t e1 m1 => by
      by_cases hj : i = j
      · rw [← hj]; exact ⟨o, e, m⟩
      · rw [if_neg hj] at e1; exact ⟨t, e1, m1⟩
    obtain ⟨t1, f1, g1⟩ := g j t e1 m1
    obtain ⟨t2, f2, g2⟩ := g k r e2 m2
    exact S.inj j k t1 t2 f1 f2 g1 g2 q
  wf := fun j t q => by
    rw [List.getElem?_set] at q
    rw [List.length_set]
    by_cases hj : i = j
    · rw [if_pos hj] at q
      by_cases hi : i < h.length
      · rw [if_pos hi] at q; cases q; exact w
      · rw [if_neg hi] at q; cases q
    · rw [if_neg hj] at q; exact S.wf j t q
theorem Nxt.chg (h : Sh) (ρ : Nat → Addr) (i : Nat) (u : SO) : Nxt h ρ (h.set i u) ρ := ⟨by simp, Ag.refl _ _⟩
end
end L2


set_option Elab.async false
set_option linter.all false
set_option maxRecDepth 100000
set_option maxHeartbeats 4000000
namespace L2
open PySem PySem.Spec PyProof.Rows
open HL (W SO Sh Sg OR DE DT DA DS Fn)
/-! ### what the interpreter says, as a reading -/
section
variable (K : PySem.W.Frag) (γ : Str → Addr)
def GoodR {α β : Type} (g : (Nat → Addr) → α → β) (w : Nat → α → Prop) (ρ : Nat → Addr) (h : Sh) (r : HL.R α) (Q : β → Hp → Prop) : Prop := match r with
  | .ok a h' => ∀ ρ' H', Nxt h ρ h' ρ' → SimH K γ ρ' h' H' → w h'.length a → Q (g ρ' a) H'
  | _ => False
abbrev GoodV := GoodR K γ (renW γ) wf
abbrev GoodL := GoodR K γ (fun ρ (vs : List W) => vs.map (renW γ ρ)) wfs
abbrev GoodB := GoodR K γ (fun _ (b : Bool) => b) (fun _ _ => True)
abbrev GoodO := GoodR K γ (fun _ (b : Option Int) => b) (fun _ _ => True)
def eE (d : DE) : TE := fun σ H Q => ∃ ρ s h, Sim K γ ρ s h σ H ∧ GoodV K γ ρ h (d s h) Q
def eA (d : DA) : TA := fun σ H Q => ∃ ρ s h, Sim K γ ρ s h σ H ∧ GoodL K γ ρ h (d s h) Q
def eT (d : DT) : TT := fun σ H Q => ∃ ρ s h, Sim K γ ρ s h σ H ∧ GoodB K γ ρ h (d s h) Q
def eO (d : HL.DO) : TO := fun σ H Q => ∃ ρ s h, Sim K γ ρ s h σ H ∧ GoodO K γ ρ h (d s h) Q
def GoodC (ρ : Nat → Addr) (h : Sh) (c : HL.C) (D : Ends) : Prop := match c with
  | .nx s' h' => ∀ ρ' H', Nxt h ρ h' ρ' → SimH K γ ρ' h' H' → wfS h'.length s' → D.nx (renS γ ρ' s') H'
  | .rt v h' => ∀ ρ' H', Nxt h ρ h' ρ' → SimH K γ ρ' h' H' → wf h'.length v → D.rt (renW γ ρ' v) H'
  | .bk s' h' => ∀ ρ' H', Nxt h ρ h' ρ' → SimH K γ ρ' h' H' → wfS h'.length s' → D.bk (renS γ ρ' s') H'
  | .ct s' h' => ∀ ρ' H', Nxt h ρ h' ρ' → SimH K γ ρ' h' H' → wfS h'.length s' → D.ct (renS γ ρ' s') H'
  | _ => False
def eS (d : DS) : TS := fun D σ H => ∃ ρ s h, Sim K γ ρ s h σ H ∧ GoodC K γ ρ h (d s h) D
end
section
variable {K : PySem.W.Frag} {γ : Str → Addr} {ρ ρ' : Nat → Addr} {s : Sg} {h h' : Sh} {σ : St} {H H' : Hp}
theorem GoodR.later {α β : Type} {g : (Nat → Addr) → α → β} {w : Nat → α → Prop} {r : HL.R α} {Q : β → Hp → Prop} (x : GoodR K γ g w ρ h r Q) (n : Nxt h ρ h' ρ') : GoodR K γ g w ρ' h' r Q := by
  cases r with
  | ok a h2 => exact fun ρ2 H2 n2 => x ρ2 H2 (n.trans n2)
  | ex e h2 => exact x.elim
  | er => exact x.elim
theorem GoodC.later {c : HL.C} {D : Ends} (x : GoodC K γ ρ h c D) (n : Nxt h ρ h' ρ') : GoodC K γ ρ' h' c D := by
  cases c with
  | nx s2 h2 => exact fun ρ2 H2 n2 => x ρ2 H2 (n.trans n2)
  | rt v h2 => exact fun ρ2 H2 n2 => x ρ2 H2 (n.trans n2)
  | bk s2 h2 => exact fun ρ2 H2 n2 => x ρ2 H2 (n.trans n2)
  | ct s2 h2 => exact fun ρ2 H2 n2 => x ρ2 H2 (n.trans n2)
  | ex e h2 => exact x.elim
  | er => exact x.elim
theorem GoodR.bind {α α' β β' : Type} {g : (Nat → Addr) → α → β} {w : Nat → α → Prop} {g' : (Nat → Addr) → α' → β'} {w' : Nat → α' → Prop} {r : HL.R α} {f : α → Sh → HL.R α'} {Q : β' → Hp → Prop} (x : GoodR K γ g' w' ρ h (r.bind f) Q) {R : β → Hp → Prop}
    (k : ∀ a h1 ρ1 H1, r = .ok a h1 → Nxt h ρ h1 ρ1 → SimH K γ ρ1 h1 H1 → w h1.length a → GoodR K γ g' w' ρ1 h1 (f a h1) Q → R (g ρ1 a) H1) : GoodR K γ g w ρ h r R := by
  cases r with
  | ok a h1 => exact fun ρ1 H1 n1 S1 wa => k a h1 ρ1 H1 rfl n1 S1 wa (x.later n1)
  | ex e h2 => exact x.elim
  | er => exact x.elim
def OrQ (K : PySem.W.Frag) (γ : Str → Addr) (ρ : Nat → Addr) (h : Sh) (H : Hp) (o : OR) (Q : VK) : Prop := match o with
  | .er => False
  | .val v => wf h.length v → Q (renW γ ρ v) H
  | .new (.lst xs) => wfs h.length xs → ∀ p, H p = none → Q (.ref p) (upd H p (.lst (xs.map (renW γ ρ))))
  | .new (.tup xs) => wfs h.length xs → ∀ p, H p = none → Q (.ref p) (upd H p (.tup (xs.map (renW γ ρ))))
  | .new _ => False
def newOk : OR → Bool
  | .new (.lst _) => true
  | .new (.tup _) => true
  | .new _ => false
  | _ => true
theorem fin_q {o : OR} {Q : VK} (S : SimH K γ ρ h H) (b : newOk o = true) (x : GoodV K γ ρ h (o.fin h) Q) : OrQ K γ ρ h H o Q := by
  cases o with
  | er => exact x.elim
  | val v => exact fun w => x ρ H (Nxt.refl _ _) S w
  | new o =>
    cases o with
    | lst xs =>
      intro w p hp
      have q := x (put ρ h.length p) (upd H p (.lst (xs.map (renW γ ρ)))) (Nxt.push _ _ _ _) (S.push (o := .lst xs) w (Ext.upd _ hp) hp upd_same) (by show h.length < (h ++ [_]).length; simp)
      rw [show renW γ (put ρ h.length p) (.ref h.length) = V.ref p from congrArg V.ref (put_at _ _ _)] at q
      exact q
    | tup xs =>
      intro w p hp
      have q := x (put ρ h.length p) (upd H p (.tup (xs.map (renW γ ρ)))) (Nxt.push _ _ _ _) (S.push (o := .tup xs) w (Ext.upd _ hp) hp (SqT.of upd_same)) (by show h.length < (h ++ [_]).length; simp)
      rw [show renW γ (put ρ h.length p) (.ref h.length) = V.ref p from congrArg V.ref (put_at _ _ _)] at q
      exact q
    | _ => cases b
theorem lstW_sq {x : W} {xs : List W} (S : SimH K γ ρ h H) (e : HL.lstW h x = some xs) : ∃ i, x = .ref i ∧ SqL K H (ρ i) (xs.map (renW γ ρ)) ∧ wfs h.length xs := by
  cases x with
  | ref i =>
    unfold HL.lstW at e
    simp only at e
    cases q : h[i]? with
    | none => rw [q] at e; cases e
    | some o =>
      rw [q] at e
      cases o with
      | lst ys => cases e; exact ⟨i, rfl, SqL.of (S.ob i _ q), S.wf i _ q⟩
      | rol ys => cases e; exact ⟨i, rfl, (show RoL K H (ρ i) _ from S.ob i _ q).sq, S.wf i _ q⟩
      | _ => cases e
  | _ => cases e
theorem tupW_sq {x : W} {xs : List W} (S : SimH K γ ρ h H) (e : HL.tupW h x = some xs) : ∃ i, x = .ref i ∧ SqT K H (ρ i) (xs.map (renW γ ρ)) ∧ wfs h.length xs := by
  cases x with
  | ref i =>
    unfold HL.tupW at e
    simp only at e
    cases q : h[i]? with
    | none => rw [q] at e; cases e
    | some o =>
      rw [q] at e
      cases o with
      | tup ys => cases e; exact ⟨i, rfl, S.ob i _ q, S.wf i _ q⟩
      | _ => cases e
  | _ => cases e
theorem seqW_sq {x : W} {xs : List W} (S : SimH K γ ρ h H) (e : HL.seqW h x = some xs) : ∃ i, x = .ref i ∧ (SqL K H (ρ i) (xs.map (renW γ ρ)) ∨ SqT K H (ρ i) (xs.map (renW γ ρ))) ∧ wfs h.length xs := by
  unfold HL.seqW at e
  cases q : HL.lstW h x with
  | some ys =>
    rw [q] at e
    cases e
    obtain ⟨i, a, b, c⟩ := lstW_sq S q
    exact ⟨i, a, .inl b, c⟩
  | none =>
    rw [q] at e
    obtain ⟨i, a, b, c⟩ := tupW_sq S (show HL.tupW h x = some xs by simpa using e)
    exact ⟨i, a, .inr b, c⟩
theorem wf_get {n i : Nat} {xs : List W} {v : W} (w : wfs n xs) (e : xs[i]? = some v) : wf n v := w v (List.mem_of_getElem? e)
end
/-! ### the judgements -/
theorem PE.imp {X : Cx} {e : Expr} {t t' : TE} (h : PE X e t) (i : ∀ σ H Q, t' σ H Q → t σ H Q) : PE X e t' := fun pins s σ H Q I hw => h pins s σ H Q I (i _ _ _ hw)
theorem PT.imp {X : Cx} {e : Expr} {t t' : TT} (h : PT X e t) (i : ∀ σ H Q, t' σ H Q → t σ H Q) : PT X e t' := fun pins s σ H Q I hw => h pins s σ H Q I (i _ _ _ hw)
theorem PW.imp {X : Cx} {e : Expr} {t t' : TT} (h : PW X e t) (i : ∀ σ H Q, t' σ H Q → t σ H Q) : PW X e t' := fun w pins s σ H Q I hw => h w pins s σ H Q I (i _ _ _ hw)
theorem PA.imp {X : Cx} {e : List Expr} {t t' : TA} (h : PA X e t) (i : ∀ σ H Q, t' σ H Q → t σ H Q) : PA X e t' := fun pos pins s σ H Q I hw => h pos pins s σ H Q I (i _ _ _ hw)
theorem PO.imp {X : Cx} {e : Option Expr} {t t' : TO} (h : PO X e t) (i : ∀ σ H Q, t' σ H Q → t σ H Q) : PO X e t' := fun pins s σ H Q I hw => h pins s σ H Q I (i _ _ _ hw)
theorem PS.imp {X : Cx} {e : Stmt} {t t' : TS} (h : PS X e t) (i : ∀ D σ H, t' D σ H → t D σ H) : PS X e t' := fun pins s σ H D I hw => h pins s σ H D I (i _ _ _ hw)
theorem PSs.imp {X : Cx} {e : List Stmt} {t t' : TS} (h : PSs X e t) (i : ∀ D σ H, t' D σ H → t D σ H) : PSs X e t' := fun pins s σ H D I hw => h pins s σ H D I (i _ _ _ hw)
abbrev QE (γ : Str → Addr) (X : Cx) (e : Expr) (d : DE) : Prop := PE X e (eE X.K γ d)
abbrev QT (γ : Str → Addr) (X : Cx) (e : Expr) (d : DT) : Prop := PT X e (eT X.K γ d)
abbrev QW (γ : Str → Addr) (X : Cx) (e : Expr) (d : DT) : Prop := PW X e (eT X.K γ d)
abbrev QA (γ : Str → Addr) (X : Cx) (e : List Expr) (d : DA) : Prop := PA X e (eA X.K γ d)
abbrev QO (γ : Str → Addr) (X : Cx) (e : Option Expr) (d : HL.DO) : Prop := PO X e (eO X.K γ d)
abbrev QS (γ : Str → Addr) (X : Cx) (e : Stmt) (d : DS) : Prop := PS X e (eS X.K γ d)
abbrev QSs (γ : Str → Addr) (X : Cx) (e : List Stmt) (d : DS) : Prop := PSs X e (eS X.K γ d)
section
variable {X : Cx} {γ : Str → Addr} {a b c e : Expr} {da db dc de : DE} {pos : Pos}
theorem q_var {i : Nat} {x : Str} (hN : X.N[i]? = some x) (hv : Vis X.env.scope x) (hd : (x == ("__debug__" : Str)) = false := by decide) (hcd : (x == ("__classdict__" : Str)) = false := by decide) : QE γ X (.Name x pos) (HL.dVar i) :=
  (pe_var hN hv hd hcd).imp fun σ H Q ⟨ρ, s, h, S, x⟩ => by
    unfold HL.dVar at x
    split at x
    · rename_i v e
      refine ⟨renW γ ρ v, ?_, x ρ H (Nxt.refl _ _) S.hp (S.ws v (List.mem_of_getElem? e))⟩
      rw [S.eq]
      unfold renS
      rw [List.getElem?_map, e]
      rfl
    · exact x.elim
theorem q_c {v : W} {e : Expr} (w : ∀ n, wf n v) (r : ∀ ρ, PE X e (tC (renW γ ρ v))) : QE γ X e (HL.dC v) := fun pins s σ H Q I ⟨ρ, t, h, S, x⟩ => r ρ pins s σ H Q I (x ρ H (Nxt.refl _ _) S.hp (w _))
theorem q_int {i j pos} : QE γ X (.Constant (.int i) j pos) (HL.dC (.int i)) := q_c (fun _ => trivial) fun _ => pe_int
theorem q_bl {i j pos} : QE γ X (.Constant (.bool i) j pos) (HL.dC (.bl i)) := q_c (fun _ => trivial) fun _ => pe_bl
theorem q_non {j pos} : QE γ X (.Constant .none j pos) (HL.dC .non) := q_c (fun _ => trivial) fun _ => pe_non
theorem q_str {x j pos} : QE γ X (.Constant (.str x) j pos) (HL.dC (.str x)) := q_c (fun _ => trivial) fun _ => pe_str
theorem q_glob {x : Str} (hg : Gl X x) (hm : X.mg x = some (.ref (γ x))) (hd : (x == ("__debug__" : Str)) = false := by decide) : QE γ X (.Name x pos) (HL.dC (.gl x)) := q_c (fun _ => trivial) fun _ => pe_glob hg hm rfl hd
theorem q_ty {x : Str} {n : String} (hg : Gl X x) (hm : X.mg x = none) (hv : bootBuiltins x = some (.type n)) (hn : x ≠ "__name__" := by decide) (hd : (x == ("__debug__" : Str)) = false := by decide) : QE γ X (.Name x pos) (HL.dC (.ty n)) := q_c (fun _ => trivial) fun _ => pe_bltn hg hm hv rfl hn hd
def OpS (K : PySem.W.Frag) (γ : Str → Addr) (r : R2) (f : HL.O2) : Prop := ∀ ρ h H x y Q, SimH K γ ρ h H → wf h.length x → wf h.length y → OrQ K γ ρ h H (f x y h) Q → r (renW γ ρ x) (renW γ ρ y) H Q
def NewOk2 (f : HL.O2) : Prop := ∀ x y h, newOk (f x y h) = true
theorem op2_of {r : R2} {f : HL.O2} (hs : OpS X.K γ r f) (nw : NewOk2 f) (σ : St) (H : Hp) (Q : VK) (x : eE X.K γ (HL.dOp f da db) σ H Q) : tOp r (eE X.K γ da) (eE X.K γ db) σ H Q := by
  obtain ⟨ρ, s, h, S, x⟩ := x
  refine ⟨ρ, s, h, S, GoodR.bind x fun v h1 ρ1 H1 _ n1 S1 w1 x1 => ?_⟩
  refine ⟨ρ1, s, h1, S.next n1 S1, GoodR.bind x1 fun u h2 ρ2 H2 _ n2 S2 w2 x2 => ?_⟩
  rw [ren_ag w1 n2.ag]
  exact hs ρ2 h2 H2 v u Q S2 (w1.mono n2.le) w2 (fin_q S2 (nw _ _ _) x2)
theorem q_op {op : Operator} {r : R2} {f : HL.O2} (ho : OpR X (binaryOp op) r) (hs : OpS X.K γ r f) (nw : NewOk2 f) (ha : QE γ X a da) (hb : QE γ X b db) : QE γ X (.BinOp a op b pos) (HL.dOp f da db) :=
  (pe_op ho ha hb).imp (op2_of hs nw)
theorem q_cmp {op : CmpOp} {r : R2} {f : HL.O2} (ho : OpR X (compareOp op) r) (hs : OpS X.K γ r f) (nw : NewOk2 f) (ha : QE γ X a da) (hb : QE γ X b db) (hm : behindInMarks op b = false) : QE γ X (.Compare a [op] [b] pos) (HL.dOp f da db) :=
  (pe_cmpR ho ha hb hm).imp (op2_of hs nw)
theorem q_ix {r : R2} {f : HL.O2} (ho : IxR X r) (hs : OpS X.K γ r f) (nw : NewOk2 f) (ha : QE γ X a da) (hb : QE γ X b db) (hp : PlainIx b) : QE γ X (.Subscript a b pos) (HL.dOp f da db) :=
  (pe_ix ho ha hb hp).imp (op2_of hs nw)
/-! arguments -/
theorem qa_nil : QA γ X [] HL.dNil := pa_nil.imp fun σ H Q ⟨ρ, s, h, S, x⟩ => x ρ H (Nxt.refl _ _) S.hp fun _ z => by cases z
theorem qa_cons {es : List Expr} {d : DA} (ha : QE γ X e de) (hr : QA γ X es d) (hs : starEach (e :: es) X.env = (false, eval e X.env) :: starEach es X.env := by rfl) : QA γ X (e :: es) (HL.dCons de d) :=
  (pa_cons ha hr hs).imp fun σ H Q x => by
    obtain ⟨ρ, s, h, S, x⟩ := x
    refine ⟨ρ, s, h, S, GoodR.bind x fun v h1 ρ1 H1 _ n1 S1 w1 x1 => ?_⟩
    refine ⟨ρ1, s, h1, S.next n1 S1, GoodR.bind x1 fun us h2 ρ2 H2 _ n2 S2 w2 x2 => ?_⟩
    rw [ren_ag w1 n2.ag]
    exact x2 ρ2 H2 (Nxt.refl _ _) S2 fun y hy => by
      rcases List.mem_cons.mp hy with rfl | hy
      · exact w1.mono n2.le
      · exact w2 y hy
def CbS (K : PySem.W.Frag) (γ : Str → Addr) (r : List V → Hp → VK → Prop) (f : List W → Sh → OR) : Prop := ∀ ρ h H xs Q, SimH K γ ρ h H → wfs h.length xs → OrQ K γ ρ h H (f xs h) Q → r (xs.map (renW γ ρ)) H Q
theorem cb_of {r : List V → Hp → VK → Prop} {f : List W → Sh → OR} {d : DA} (hs : CbS X.K γ r f) (nw : ∀ x h, newOk (f x h) = true) (σ : St) (H : Hp) (Q : VK) (x : eE X.K γ (HL.dB f d) σ H Q) : tCB r (eA X.K γ d) σ H Q := by
  obtain ⟨ρ, s, h, S, x⟩ := x
  refine ⟨ρ, s, h, S, GoodR.bind x fun v h1 ρ1 H1 _ n1 S1 w1 x1 => ?_⟩
  exact hs ρ1 h1 H1 v Q S1 w1 (fin_q S1 (nw _ _) x1)
theorem q_callB {x : Str} {id : String} {p : Pos} {es : List Expr} {d : DA} {r : List V → Hp → VK → Prop} {f : List W → Sh → OR} (hc : CallR X (.builtin id) r) (hs : CbS X.K γ r f) (nw : ∀ x h, newOk (f x h) = true) (hg : Gl X x) (hm : X.mg x = none) (hv : bootBuiltins x = some (.builtin id)) (ha : QA γ X (e :: es) d)
    (hn : x ≠ "__name__" := by decide) (hdb : (x == ("__debug__" : Str)) = false := by decide) (he : starEach (e :: es) X.env = (false, eval e X.env) :: starEach es X.env := by rfl) (hpl : (backTo pos (starEach es X.env)).any (·.1) = false := by rfl) :
    QE γ X (.Call (.Name x p) (e :: es) [] pos) (HL.dB f d) := (pe_callB hc hg hm hv ha hn hdb he hpl).imp (cb_of hs nw)
theorem q_callTy {x : Str} {T : String} {p : Pos} {es : List Expr} {d : DA} {r : List V → Hp → VK → Prop} {f : List W → Sh → OR} (hc : CallR X (.type T) r) (hs : CbS X.K γ r f) (nw : ∀ x h, newOk (f x h) = true) (hg : Gl X x) (hm : X.mg x = none) (hv : bootBuiltins x = some (.type T)) (ha : QA γ X (e :: es) d)
    (hn : x ≠ "__name__" := by decide) (hdb : (x == ("__debug__" : Str)) = false := by decide) (he : starEach (e :: es) X.env = (false, eval e X.env) :: starEach es X.env := by rfl) (hpl : (backTo pos (starEach es X.env)).any (·.1) = false := by rfl) :
    QE γ X (.Call (.Name x p) (e :: es) [] pos) (HL.dB f d) := (pe_callTy hc hg hm hv ha hn hdb he hpl).imp (cb_of hs nw)
theorem lim_line {n : Nat} (h : n ≤ HL.LIM) : n ≤ sizeLine := by
  have : HL.LIM = 100000 := rfl
  rw [sizeLine_eq]; omega
theorem q_lst {es : List Expr} {d : DA} (ha : QA γ X es d) : QE γ X (.List es pos) (HL.dB HL.bLst d) :=
  (pe_lst ha).imp fun σ H Q x => by
    obtain ⟨ρ, s, h, S, x⟩ := x
    refine ⟨ρ, s, h, S, GoodR.bind x fun v h1 ρ1 H1 _ n1 S1 w1 x1 => ?_⟩
    unfold HL.bLst at x1
    split at x1
    · rename_i hl
      exact ⟨by rw [List.length_map]; exact lim_line hl, fin_q S1 rfl x1 w1⟩
    · exact x1.elim
theorem q_tup {x1} {es : List Expr} {d : DA} (ha : QA γ X es d) : QE γ X (.Tuple es x1 pos) (HL.dB HL.bTup d) :=
  (pe_tup ha).imp fun σ H Q x => by
    obtain ⟨ρ, s, h, S, x⟩ := x
    refine ⟨ρ, s, h, S, GoodR.bind x fun v h1 ρ1 H1 _ n1 S1 w1 x1 => ?_⟩
    unfold HL.bTup at x1
    split at x1
    · rename_i hl
      exact ⟨by rw [List.length_map]; exact lim_line hl, fin_q S1 rfl x1 w1⟩
    · exact x1.elim
/-! tests -/
def tTrv (K : PySem.W.Frag) (ta : TE) : TT := fun σ H Q => ta σ H fun x H' => ∃ k, TruV K x H' k ∧ Q k H'
theorem tru_of (σ : St) (H : Hp) (Q : Bool → Hp → Prop) (x : eT X.K γ (HL.dT da) σ H Q) : tTrv X.K (eE X.K γ da) σ H Q := by
  obtain ⟨ρ, s, h, S, x⟩ := x
  refine ⟨ρ, s, h, S, GoodR.bind x fun v h1 ρ1 H1 _ n1 S1 w1 x1 => ?_⟩
  have fin : ∀ b, HL.truW v h1 = some b → Q b H1 := fun b e => by
    simp only [e] at x1
    exact x1 ρ1 H1 (Nxt.refl _ _) S1 trivial
  cases v with
  | non => exact ⟨_, rfl, fin _ rfl⟩
  | bl b => exact ⟨_, rfl, fin _ rfl⟩
  | int i => exact ⟨_, rfl, fin _ rfl⟩
  | str y =>
    by_cases hl : y.length ≤ HL.LIM
    · exact ⟨_, ⟨lim_line hl, rfl⟩, fin _ (if_pos hl)⟩
    · simp only [HL.truW, if_neg hl] at x1
      exact x1.elim
  | ref i =>
    cases q : h1[i]? with
    | none => simp only [HL.truW, q] at x1; exact x1.elim
    | some o =>
      have ob := S1.ob i o q
      cases o with
      | lst xs => exact ⟨_, .inl ⟨_, SqL.of ob, rfl⟩, by have := fin (!xs.isEmpty) (by simp only [HL.truW, q]); simpa using this⟩
      | rol xs => exact ⟨_, .inl ⟨_, (show RoL _ _ _ _ from ob).sq, rfl⟩, by have := fin (!xs.isEmpty) (by simp only [HL.truW, q]); simpa using this⟩
      | tup xs => exact ⟨_, .inr (.inl ⟨_, ob, rfl⟩), by have := fin (!xs.isEmpty) (by simp only [HL.truW, q]); simpa using this⟩
      | ins c fs => simp only [HL.truW, q] at x1; exact x1.elim
      | exc c fs => simp only [HL.truW, q] at x1; exact x1.elim
  | ty n => exact x1.elim
  | gl n => exact x1.elim
theorem qt_e (ha : QE γ X a da) (he : ∀ whole, isTrue a X.env whole = (do let v ← whole; standAt a.pos; holding [v] (truthy v)) := by intro _; rfl) : QT γ X a (HL.dT da) := (pt_truth ha he).imp tru_of
theorem test_of {t : TE} (ht : ∀ σ H Q, eE X.K γ da σ H Q → t σ H Q) (σ : St) (H : Hp) (Q : Bool → Hp → Prop) (x : eT X.K γ (HL.dT da) σ H Q) (bo : ∀ s h v h', da s h = .ok v h' → ∃ k, v = .bl k) : tTest t σ H Q := by
  obtain ⟨ρ, s, h, S, x⟩ := x
  refine ht σ H _ ⟨ρ, s, h, S, GoodR.bind x fun v h1 ρ1 H1 e n1 S1 w1 x1 => ?_⟩
  obtain ⟨k, rfl⟩ := bo _ _ _ _ e
  exact ⟨k, rfl, x1 ρ1 H1 (Nxt.refl _ _) S1 trivial⟩
def Bo (f : HL.O2) : Prop := ∀ x y h, f x y h = .er ∨ ∃ k, f x y h = .val (.bl k)
theorem Bo.op {f : HL.O2} (b : Bo f) : ∀ s h v h', HL.dOp f da db s h = .ok v h' → ∃ k, v = .bl k := fun s h v h' e => by
  unfold HL.dOp HL.R.bind at e
  cases ea : da s h with
  | ok x h1 =>
    rw [ea] at e
    simp only at e
    cases eb : db s h1 with
    | ok y h2 =>
      rw [eb] at e
      simp only at e
      rcases b x y h2 with z | ⟨k, z⟩
      · rw [z] at e; cases e
      · rw [z] at e; cases e; exact ⟨k, rfl⟩
    | ex => rw [eb] at e; cases e
    | er => rw [eb] at e; cases e
  | ex => rw [ea] at e; cases e
  | er => rw [ea] at e; cases e
theorem qt_cmp {op : CmpOp} {r : R2} {f : HL.O2} (ho : OpR X (compareOp op) r) (hs : OpS X.K γ r f) (nw : NewOk2 f) (bo : Bo f) (ha : QE γ X a da) (hb : QE γ X b db) (hm : behindInMarks op b = false) : QT γ X (.Compare a [op] [b] pos) (HL.dT (HL.dOp f da db)) :=
  (pt_cmpR ho ha hb hm).imp fun σ H Q x => test_of (op2_of hs nw) σ H Q x bo.op
section
variable {dA dB : DT} {rest : List Expr}
theorem not_of (σ : St) (H : Hp) (Q : Bool → Hp → Prop) (x : eT X.K γ (HL.tNot dA) σ H Q) : tNot (eT X.K γ dA) σ H Q := by
  obtain ⟨ρ, s, h, S, x⟩ := x
  exact ⟨ρ, s, h, S, GoodR.bind x fun k h1 ρ1 H1 _ n1 S1 w1 x1 => x1 ρ1 H1 (Nxt.refl _ _) S1 trivial⟩
theorem qt_not (ha : QT γ X a dA) : QT γ X (.UnaryOp .Not a pos) (HL.tNot dA) := (pt_not ha).imp not_of
theorem and_of (σ : St) (H : Hp) (Q : Bool → Hp → Prop) (x : eT X.K γ (HL.tAnd dA dB) σ H Q) : tAnd (eT X.K γ dA) (eT X.K γ dB) σ H Q := by
  obtain ⟨ρ, s, h, S, x⟩ := x
  refine ⟨ρ, s, h, S, GoodR.bind x fun k h1 ρ1 H1 _ n1 S1 w1 x1 => ?_⟩
  cases k with
  | true => exact ⟨ρ1, s, h1, S.next n1 S1, x1⟩
  | false => exact x1 ρ1 H1 (Nxt.refl _ _) S1 trivial
theorem or_of (σ : St) (H : Hp) (Q : Bool → Hp → Prop) (x : eT X.K γ (HL.tOr dA dB) σ H Q) : tOr (eT X.K γ dA) (eT X.K γ dB) σ H Q := by
  obtain ⟨ρ, s, h, S, x⟩ := x
  refine ⟨ρ, s, h, S, GoodR.bind x fun k h1 ρ1 H1 _ n1 S1 w1 x1 => ?_⟩
  cases k with
  | false => exact ⟨ρ1, s, h1, S.next n1 S1, x1⟩
  | true => exact x1 ρ1 H1 (Nxt.refl _ _) S1 trivial
theorem qw_and1 (ha : QT γ X a dA) : QW γ X (.BoolOp .And [a] pos) dA := pw_and1 ha
theorem qw_or1 (ha : QT γ X a dA) : QW γ X (.BoolOp .Or [a] pos) dA := pw_or1 ha
theorem qw_and (ha : QT γ X a dA) (hb : QW γ X (.BoolOp .And (b :: rest) pos) dB) : QW γ X (.BoolOp .And (a :: b :: rest) pos) (HL.tAnd dA dB) := (pw_and ha hb).imp and_of
theorem qw_or (ha : QT γ X a dA) (hb : QW γ X (.BoolOp .Or (b :: rest) pos) dB) : QW γ X (.BoolOp .Or (a :: b :: rest) pos) (HL.tOr dA dB) := (pw_or ha hb).imp or_of
theorem qt_w (h : QW γ X a dA) : QT γ X a dA := h _
theorem q_one {op} (h : QE γ X a da) : QE γ X (.BoolOp op [a] pos) da := pe_one h
theorem q_and (ha : QE γ X a da) (hb : QE γ X (.BoolOp .And (b :: rest) pos) db) : QE γ X (.BoolOp .And (a :: b :: rest) pos) (HL.dAnd da db) := (pe_and ha hb).imp fun σ H Q x => by
  obtain ⟨ρ, s, h, S, x⟩ := x
  refine ⟨ρ, s, h, S, GoodR.bind x fun v h1 ρ1 H1 _ n1 S1 w1 x1 => ?_⟩
  cases v with
  | bl k =>
    refine ⟨k, rfl, ?_⟩
    cases k with
    | true => exact ⟨ρ1, s, h1, S.next n1 S1, x1⟩
    | false => exact x1 ρ1 H1 (Nxt.refl _ _) S1 trivial
  | _ => exact x1.elim
theorem q_or (ha : QE γ X a da) (hb : QE γ X (.BoolOp .Or (b :: rest) pos) db) : QE γ X (.BoolOp .Or (a :: b :: rest) pos) (HL.dOr da db) := (pe_or ha hb).imp fun σ H Q x => by
  obtain ⟨ρ, s, h, S, x⟩ := x
  refine ⟨ρ, s, h, S, GoodR.bind x fun v h1 ρ1 H1 _ n1 S1 w1 x1 => ?_⟩
  cases v with
  | bl k =>
    refine ⟨k, rfl, ?_⟩
    cases k with
    | false => exact ⟨ρ1, s, h1, S.next n1 S1, x1⟩
    | true => exact x1 ρ1 H1 (Nxt.refl _ _) S1 trivial
  | _ => exact x1.elim
theorem q_not (ha : QE γ X a da) : QE γ X (.UnaryOp .Not a pos) (HL.dNot da) := (pe_not ha).imp fun σ H Q x => by
  obtain ⟨ρ, s, h, S, x⟩ := x
  refine ⟨ρ, s, h, S, GoodR.bind x fun v h1 ρ1 H1 _ n1 S1 w1 x1 => ?_⟩
  cases v with
  | bl k => exact ⟨k, rfl, x1 ρ1 H1 (Nxt.refl _ _) S1 trivial⟩
  | _ => exact x1.elim
end
/-! chains -/
/-! slices -/
theorem qo_none : QO γ X none HL.dNoPart := po_none.imp fun σ H Q ⟨ρ, s, h, S, x⟩ => x ρ H (Nxt.refl _ _) S.hp trivial
theorem qo_some (ha : QE γ X a da) : QO γ X (some a) (HL.dPart da) := (po_some ha).imp fun σ H Q x => by
  obtain ⟨ρ, s, h, S, x⟩ := x
  refine ⟨ρ, s, h, S, GoodR.bind x fun v h1 ρ1 H1 _ n1 S1 w1 x1 => ?_⟩
  cases v with
  | int i => exact ⟨i, rfl, x1 ρ1 H1 (Nxt.refl _ _) S1 trivial⟩
  | _ => exact x1.elim
theorem sIx_eq (n d : Nat) (o : Option Int) : HL.sIx n d o = HT.sIx n d o := by
  cases o with
  | none => rfl
  | some i =>
    rfl
theorem cut_eq (γ : Str → Addr) (ρ : Nat → Addr) (xs : List W) (lo hi : Option Int) : (HL.cutW xs lo hi).map (renW γ ρ) = cutV (xs.map (renW γ ρ)) lo hi := by
  unfold HL.cutW cutV
  rw [List.map_take, List.map_drop, List.length_map, sIx_eq, sIx_eq]
theorem wf_cut {n : Nat} {xs : List W} (w : wfs n xs) (lo hi : Option Int) : wfs n (HL.cutW xs lo hi) := fun x hx => w x (List.mem_of_mem_drop (List.mem_of_mem_take hx))
def rSlB (K : PySem.W.Frag) : V → Option Int → Option Int → Hp → VK → Prop := fun x lo hi H Q => rSlL K x lo hi H Q ∨ rSlT K x lo hi H Q
theorem sl_both : SlR X (rSlB X.K) := sl_list.or sl_tup
theorem q_sl {lo hi : Option Expr} {dl dh : HL.DO} {p2 : Pos} (ha : QE γ X a da) (hl : QO γ X lo dl) (hu : QO γ X hi dh) : QE γ X (.Subscript a (.Slice lo hi none p2) pos) (HL.dSl da dl dh) := (pe_slice sl_both ha hl hu).imp fun σ H Q x => by
  obtain ⟨ρ, s, h, S, x⟩ := x
  refine ⟨ρ, s, h, S, GoodR.bind x fun v h1 ρ1 H1 _ n1 S1 w1 x1 => ?_⟩
  refine ⟨ρ1, s, h1, S.next n1 S1, GoodR.bind x1 fun l h2 ρ2 H2 _ n2 S2 w2 x2 => ?_⟩
  refine ⟨ρ2, s, h2, (S.next n1 S1).next n2 S2, GoodR.bind x2 fun u h3 ρ3 H3 _ n3 S3 w3 x3 => ?_⟩
  rw [ren_ag w1 n2.ag, ren_ag (w1.mono n2.le) n3.ag]
  unfold HL.oSl at x3
  split at x3
  · rename_i xs e
    obtain ⟨i, rfl, q, w⟩ := lstW_sq S3 e
    refine .inl ⟨_, _, rfl, q, fun p hp => ?_⟩
    rw [← cut_eq]
    exact fin_q S3 rfl x3 (wf_cut w _ _) p hp
  · split at x3
    · rename_i xs e
      obtain ⟨i, rfl, q, w⟩ := tupW_sq S3 e
      split at x3
      · exact x3.elim
      · rename_i ne
        refine .inr ⟨_, _, rfl, q, ?_, fun p hp => ?_⟩
        · rw [List.length_map, ← sIx_eq, ← sIx_eq]; exact ne
        · rw [← cut_eq]
          exact fin_q S3 rfl x3 (wf_cut w _ _) p hp
    · exact x3.elim
end
end L2


set_option Elab.async false
set_option linter.all false
set_option maxRecDepth 100000
set_option maxHeartbeats 4000000
namespace L2
open PySem PySem.Spec PyProof.Rows
open HL (W SO Sh Sg OR DE DT DA DS Fn)
/-! ### calls -/
def spF (K : PySem.W.Frag) (γ : Str → Addr) (p : Nat) (f : Fn) : Sp := fun vs H Q _ => vs.length = p ∧ ∃ ρ h us, SimH K γ ρ h H ∧ wfs h.length us ∧ vs = us.map (renW γ ρ) ∧ GoodV K γ ρ h (f us h) Q
section
variable {X : Cx} {γ : Str → Addr} {a b c e : Expr} {da db dc de : DE} {pos : Pos}
theorem call_of {f : Fn} {p : Nat} {d : DA} (hp : ∀ us h v h', f us h = .ok v h' → us.length = p) (σ : St) (H : Hp) (Q : VK) (x : eE X.K γ (HL.dCall f d) σ H Q) : tCall (spF X.K γ p f) [] E0 (eA X.K γ d) σ H Q := by
  obtain ⟨ρ, s, h, S, x⟩ := x
  refine ⟨ρ, s, h, S, GoodR.bind x fun us h1 ρ1 H1 _ n1 S1 w1 x1 => ?_⟩
  rw [List.append_nil]
  refine ⟨?_, ρ1, h1, us, S1, w1, rfl, x1⟩
  rw [List.length_map]
  cases q : f us h1 with
  | ok v h' => exact hp _ _ _ _ q
  | ex => rw [q] at x1; exact x1.elim
  | er => rw [q] at x1; exact x1.elim
theorem fnOf_len {p n : Nat} {b : DS} {us : List W} {h : Sh} {v : W} {h' : Sh} (e : HL.fnOf p n b us h = .ok v h') : us.length = p := by
  unfold HL.fnOf at e
  split at e
  · assumption
  · cases e
theorem q_call {x : Str} {k p n : Nat} {bd : DS} {ps : List Str} {pp : Pos} {es : List Expr} {d : DA} (D : Def X.prog X.w X.K X.mg X.base k x ps (spF X.K γ p (HL.fnOf p n bd))) (hr : Room k X.A) (hg : Gl X x) (ha : QA γ X (e :: es) d) (hdb : (x == ("__debug__" : Str)) = false := by decide)
    (he : starEach (e :: es) X.env = (false, eval e X.env) :: starEach es X.env := by rfl) (hpl : (backTo pos (starEach es X.env)).any (·.1) = false := by rfl) : QE γ X (.Call (.Name x pp) (e :: es) [] pos) (HL.dCall (HL.fnOf p n bd) d) :=
  (pe_def D hr hg ha hdb he hpl).imp (call_of fun _ _ _ _ => fnOf_len)
theorem pe_def0 {X : Cx} {k : Nat} {x : Str} {ps : List Str} {sp : Sp} {p pos : Pos} (D : Def X.prog X.w X.K X.mg X.base k x ps sp) (hr : Room k X.A) (hg : Gl X x) (hdb : (x == ("__debug__" : Str)) = false := by decide) : PE X (.Call (.Name x p) [] [] pos) (tCall sp [] E0 tNil) := by
  obtain ⟨f, fd, F, m, kp, b⟩ := D.ex
  exact pe_call0 F hr hg m kp b .nil pass0 hdb
theorem q_call0 {x : Str} {k p n : Nat} {bd : DS} {ps : List Str} {pp : Pos} (D : Def X.prog X.w X.K X.mg X.base k x ps (spF X.K γ p (HL.fnOf p n bd))) (hr : Room k X.A) (hg : Gl X x) (hdb : (x == ("__debug__" : Str)) = false := by decide) : QE γ X (.Call (.Name x pp) [] [] pos) (HL.dCall (HL.fnOf p n bd) HL.dNil) :=
  (pe_def0 D hr hg hdb).imp fun σ H Q x => by
    obtain ⟨ρ, s, h, S, x⟩ := call_of (fun _ _ _ _ => fnOf_len) σ H Q x
    exact x ρ H (Nxt.refl _ _) S.hp fun _ z => by cases z
/-! ### statements -/
theorem qs_nil : QSs γ X [] HL.sNx := pss_nil.imp fun D σ H ⟨ρ, s, h, S, x⟩ => by rw [S.eq]; exact x ρ H (Nxt.refl _ _) S.hp S.ws
theorem seq_of' {d1 d2 : DS} (D : Ends) (σ : St) (H : Hp) (x : eS X.K γ (HL.sSeq d1 d2) D σ H) : tSeq (eS X.K γ d1) (eS X.K γ d2) D σ H := by
  obtain ⟨ρ, s, h, S, x⟩ := x
  refine ⟨ρ, s, h, S, ?_⟩
  unfold HL.sSeq at x
  cases q : d1 s h with
  | nx s1 h1 =>
    rw [q] at x
    exact fun ρ1 H1 n1 S1 w1 => ⟨ρ1, s1, h1, ⟨S1, w1, rfl⟩, GoodC.later x n1⟩
  | rt v h1 => rw [q] at x; exact x
  | bk s1 h1 => rw [q] at x; exact x
  | ct s1 h1 => rw [q] at x; exact x
  | ex => rw [q] at x; exact x.elim
  | er => rw [q] at x; exact x.elim
theorem qs_cons {st : Stmt} {rest : List Stmt} {d1 d2 : DS} (h1 : QS γ X st d1) (h2 : QSs γ X rest d2) : QSs γ X (st :: rest) (HL.sSeq d1 d2) := (pss_cons h1 h2).imp seq_of'
theorem qs_one {st : Stmt} {d1 : DS} (h1 : QS γ X st d1) : QSs γ X [st] d1 := pss_one h1
theorem qs_ret (he : QE γ X e de) : QS γ X (.Return (some e) pos) (HL.sRet de) := (ps_ret he).imp fun D σ H ⟨ρ, s, h, S, x⟩ => by
  refine ⟨ρ, s, h, S, ?_⟩
  unfold HL.sRet at x
  cases q : de s h with
  | ok v h1 => rw [q] at x; exact x
  | ex => rw [q] at x; exact x.elim
  | er => rw [q] at x; exact x.elim
theorem wf_set {n i : Nat} {s : Sg} {v : W} (w : wfS n s) (wv : wf n v) : wfS n (s.set i (some v)) := fun y hy => by
  rcases List.mem_or_eq_of_mem_set hy with z | z
  · exact w y z
  · cases z; exact wv
theorem renS_set {ρ : Nat → Addr} {i : Nat} {s : Sg} {v : W} : renS γ ρ (s.set i (some v)) = (renS γ ρ s).set i (some (renW γ ρ v)) := by
  unfold renS
  rw [List.map_set]
  rfl
theorem qs_set {i : Nat} {x : Str} {pos' : Pos} (hN : X.N.Nodup) (hi : X.N[i]? = some x) (hx : Loc X.env.scope x) (he : QE γ X e de) (hs : swapsWith e (some (.Name x pos')) pos.line X.env = pure false := by rfl) (hf : X.fn x = true ∨ X.env.scope.names.lookup x = some .local := by first | exact .inl rfl | exact .inr rfl | assumption) :
    QS γ X (.Assign [.Name x pos'] e pos) (HL.sSet i de) := (ps_set hN hi hx he hs hf).imp fun D σ H ⟨ρ, s, h, S, x⟩ => by
  refine ⟨ρ, s, h, S, ?_⟩
  unfold HL.sSet at x
  cases q : de s h with
  | ok v h1 =>
    rw [q] at x
    intro ρ1 H1 n1 S1 w1
    have z := x ρ1 H1 n1 S1 (wf_set (S.ws.mono n1.le) w1)
    rw [renS_set, ← (S.next n1 S1).eq] at z
    exact z
  | ex => rw [q] at x; exact x.elim
  | er => rw [q] at x; exact x.elim
theorem qs_if {dc : DT} {d1 d2 : DS} {s1 s2 : List Stmt} (hc : QT γ X c dc) (ha : QSs γ X s1 d1) (hb : QSs γ X s2 d2) : QS γ X (.If c s1 s2 pos) (HL.sIf dc d1 d2) := (ps_if hc ha hb).imp fun D σ H ⟨ρ, s, h, S, x⟩ => by
  refine ⟨ρ, s, h, S, ?_⟩
  unfold HL.sIf at x
  cases q : dc s h with
  | ok k h1 =>
    rw [q] at x
    intro ρ1 H1 n1 S1 w1
    cases k with
    | true => exact ⟨ρ1, s, h1, S.next n1 S1, GoodC.later x n1⟩
    | false => exact ⟨ρ1, s, h1, S.next n1 S1, GoodC.later x n1⟩
  | ex => rw [q] at x; exact x.elim
  | er => rw [q] at x; exact x.elim
theorem ix_eq (n : Nat) (i : Int) : HL.ixW n i = ixN n i := rfl
/-! ### targets -/
def eG (K : PySem.W.Frag) (γ : Str → Addr) (d : HL.DG) : TG := fun v σ H Q => ∃ ρ s h w, Sim K γ ρ s h σ H ∧ v = renW γ ρ w ∧ wf h.length w ∧ ∃ s', d w s h = some s' ∧ (wfS h.length s' → Q (renS γ ρ s') H)
abbrev QG (γ : Str → Addr) (X : Cx) (e : Expr) (d : HL.DG) : Prop := PG X e (eG X.K γ d)
theorem PG.imp {X : Cx} {e : Expr} {t t' : TG} (h : PG X e t) (i : ∀ v σ H Q, t' v σ H Q → t v σ H Q) : PG X e t' := fun pins s σ H v u Q I r hw => h pins s σ H v u Q I r (i _ _ _ _ hw)
theorem qg_name {i : Nat} {x : Str} (hN : X.N.Nodup) (hi : X.N[i]? = some x) (hx : Loc X.env.scope x) (hf : X.fn x = true ∨ X.env.scope.names.lookup x = some .local := by first | exact .inl rfl | exact .inr rfl | assumption) : QG γ X (.Name x pos) (HL.gName i) :=
  (pg_name hN hi hx hf).imp fun v σ H Q ⟨ρ, s, h, w, S, e, ww, s', e', q⟩ => by
    cases e'
    have z := q (wf_set S.ws ww)
    rw [renS_set, ← S.eq, ← e] at z
    exact z
/-! ### loops -/
def Wlk (K : PySem.W.Frag) (γ : Str → Addr) (J : It) (t : HL.It) (h₀ : Sh) (ρ₀ : Nat → Addr) : Prop := wfs h₀.length t.items ∧ ∀ ρ h H, Nxt h₀ ρ₀ h ρ → SimH K γ ρ h H → t.stays h → ∀ i : Nat,
  (t.items.length ≤ i → J.stop i H) ∧ ∀ x, t.items[i]? = some x → J.go i H ∧ ∀ v H', J.yld i H v H' → H' = H ∧ v = renW γ ρ x
def eI (K : PySem.W.Frag) (γ : Str → Addr) (d : HL.DI) : TI := fun σ H R => ∃ ρ s h, Sim K γ ρ s h σ H ∧ (match d s h with
  | .ok t h1 => ∀ ρ1 H1 J, Nxt h ρ h1 ρ1 → SimH K γ ρ1 h1 H1 → t.stays h1 → Wlk K γ J t h1 ρ1 → R J H1
  | _ => False)
abbrev QI (γ : Str → Addr) (X : Cx) (tg e : Expr) (d : HL.DI) : Prop := PI X tg e (eI X.K γ d)
theorem PI.imp {X : Cx} {tg e : Expr} {t t' : TI} (h : PI X tg e t) (i : ∀ σ H Q, t' σ H Q → t σ H Q) : PI X tg e t' := fun pins s σ H R I hw => h pins s σ H R I (i _ _ _ hw)
theorem wlk_range {K : PySem.W.Frag} (lo : Int) (n : Nat) (h : Sh) (ρ : Nat → Addr) : Wlk K γ (Itr lo n) (.fix (HL.rangeW lo n)) h ρ := by
  have len : (HL.rangeW lo n).length = n := by unfold HL.rangeW; rw [List.length_map, List.length_range]
  refine ⟨fun y hy => ?_, fun ρ2 h2 H2 n2 S2 st k => ⟨fun le => ?_, fun y hy => ?_⟩⟩
  · obtain ⟨k, _, rfl⟩ := List.mem_map.mp hy
    exact trivial
  · have le' : (HL.rangeW lo n).length ≤ k := le
    rw [len] at le'
    exact le'
  · have hy' : (HL.rangeW lo n)[k]? = some y := hy
    have hk : k < n := by
      have := (List.getElem?_eq_some_iff.mp hy').1
      rw [len] at this; exact this
    unfold HL.rangeW at hy'
    rw [List.getElem?_map, List.getElem?_range hk] at hy'
    cases hy'
    exact ⟨hk, fun v H' ⟨e, u⟩ => ⟨e, u⟩⟩
theorem qi_range1 {tg : Expr} {p : Pos} (hg : Gl X "range") (hm : X.mg "range" = none) (ha : QE γ X a da) (hs : starEach [a] X.env = [(false, eval a X.env)] := by rfl) : QI γ X tg (.Call (.Name "range" p) [a] [] pos) (HL.iRange1 da) :=
  (pi_range1 hg hm (qa_cons ha qa_nil hs) hs).imp fun σ H R ⟨ρ, s, h, S, x⟩ => by
  refine ⟨ρ, s, h, S, ?_⟩
  unfold HL.iRange1 at x
  unfold HL.dCons HL.dNil
  cases q : da s h with
  | ok v h1 =>
    rw [q] at x
    simp only [HL.R.bind] at x
    intro ρ1 H1 n1 S1 w1
    cases v with
    | int j =>
      by_cases hj : -(2 ^ 62) ≤ j ∧ j < 2 ^ 62
      · simp only [if_pos hj] at x
        exact ⟨j, rfl, hj.1, hj.2, x ρ1 H1 _ n1 S1 trivial (wlk_range _ _ _ _)⟩
      · simp only [if_neg hj] at x
    | _ => exact x.elim
  | ex => rw [q] at x; exact x.elim
  | er => rw [q] at x; exact x.elim
theorem for_of {di : HL.DI} {g : HL.DG} {bd : DS} (D : Ends) (σ : St) (H : Hp) (x : eS X.K γ (HL.sFor di g bd) D σ H) : tFor (eI X.K γ di) (eG X.K γ g) (eS X.K γ bd) D σ H := by
  obtain ⟨ρ, s, h, S, x⟩ := x
  unfold HL.sFor at x
  refine ⟨ρ, s, h, S, ?_⟩
  cases q : di s h with
  | ex => rw [q] at x; exact x.elim
  | er => rw [q] at x; exact x.elim
  | ok t h1 =>
    rw [q] at x
    simp only at x
    intro ρ1 H1 J n1 S1 st ⟨wi, wl⟩
    have T1 := S.next n1 S1
    let St' : Nat → St → Hp → Prop := fun i σ' H' => i ≤ t.items.length ∧ ∃ ρ2 s2 h2, Sim X.K γ ρ2 s2 h2 σ' H' ∧ Nxt h1 ρ1 h2 ρ2 ∧ t.stays h2 ∧ GoodC X.K γ ρ2 h2 (HL.forW t g bd (t.items.drop i) s2 h2) D
    refine ⟨fun i m σ' H' => m = t.items.length - i ∧ St' i σ' H', ⟨_, rfl, Nat.zero_le _, ρ1, s, h1, T1, Nxt.refl _ _, st, GoodC.later x n1⟩, ?_⟩
    rintro i m σ' H' ⟨rfl, hi, ρ2, s2, h2, T2, n2, st2, g2⟩
    obtain ⟨w1, w2⟩ := wl ρ2 h2 H' n2 T2.hp st2 i
    cases e : t.items[i]? with
    | none =>
      have hl : t.items.length ≤ i := List.getElem?_eq_none_iff.mp e
      rw [List.drop_eq_nil_of_le hl] at g2
      refine .inl ⟨w1 hl, ?_⟩
      have z := g2 ρ2 H' (Nxt.refl _ _) T2.hp T2.ws
      rw [T2.eq]; exact z
    | some y =>
      obtain ⟨hlt, ey⟩ := List.getElem?_eq_some_iff.mp e
      obtain ⟨go, yl⟩ := w2 y e
      refine .inr ⟨go, St' (i + 1), fun σ3 H3 z => ⟨_, by omega, rfl, z⟩, fun v H3 hv => ?_⟩
      obtain ⟨rfl, rfl⟩ := yl v H3 hv
      rw [List.drop_eq_getElem_cons hlt, ey] at g2
      unfold HL.forW at g2
      have wy : wf h2.length y := (wi y (List.mem_of_getElem? e)).mono n2.le
      cases q3 : g y s2 h2 with
      | none => rw [q3] at g2; exact g2.elim
      | some s3 =>
        rw [q3] at g2
        simp only at g2
        refine ⟨ρ2, s2, h2, y, T2, rfl, wy, s3, q3, fun w3 => ⟨ρ2, s3, h2, ⟨T2.hp, w3, rfl⟩, ?_⟩⟩
        cases q4 : bd s3 h2 with
        | nx s4 h4 =>
          rw [q4] at g2
          simp only at g2
          split at g2
          · rename_i st4
            exact fun ρ4 H4 n4 S4 w4 => ⟨hlt, ρ4, s4, h4, ⟨S4, w4, rfl⟩, n2.trans n4, st4, GoodC.later g2 n4⟩
          · exact g2.elim
        | ct s4 h4 =>
          rw [q4] at g2
          simp only at g2
          split at g2
          · rename_i st4
            exact fun ρ4 H4 n4 S4 w4 => ⟨hlt, ρ4, s4, h4, ⟨S4, w4, rfl⟩, n2.trans n4, st4, GoodC.later g2 n4⟩
          · exact g2.elim
        | bk s4 h4 => rw [q4] at g2; exact g2
        | rt v4 h4 => rw [q4] at g2; exact g2
        | ex => rw [q4] at g2; exact g2.elim
        | er => rw [q4] at g2; exact g2.elim
theorem qs_for {tg iter : Expr} {body : List Stmt} {di : HL.DI} {g : HL.DG} {bd : DS} (hp : PassesOwn (model X.prog X.w) X.A X.env X.xe) (hc : X.calm = true) (hi : QI γ X tg iter di) (hg : QG γ X tg g) (hb : QSs γ X body bd)
    (hs : ∀ x, foldedSetIterable iter X.env x = pure x := by intro _; rfl) : QS γ X (.For tg iter body [] pos) (HL.sFor di g bd) := (ps_for hp hc hi hg hb hs).imp for_of
end
/-! ### defs -/
theorem renS_start {γ : Str → Addr} {ρ : Nat → Addr} (N : List Str) (us : List W) : start N (us.map (renW γ ρ)) = renS γ ρ (HL.start N.length us) := by
  unfold start renS HL.start
  rw [List.map_append, List.map_map, List.map_map, List.map_replicate, List.length_map]
  rfl
theorem wf_start {n m : Nat} {us : List W} (w : wfs n us) : wfS n (HL.start m us) := fun x hx => by
  unfold HL.start at hx
  rcases List.mem_append.mp hx with z | z
  · obtain ⟨y, hy, e⟩ := List.mem_map.mp z
    cases e; exact w _ hy
  · cases (List.mem_replicate.mp z).2
theorem fn_good {K : PySem.W.Frag} {γ : Str → Addr} {ρ : Nat → Addr} {h : Sh} {H : Hp} {N : List Str} {us : List W} {bd : DS} {Q : VK} {p : Nat} (S : SimH K γ ρ h H) (w : wfs h.length us) (x : GoodV K γ ρ h (HL.fnOf p N.length bd us h) Q) :
    eS K γ bd { nx := fun _ H' => Q .non H', rt := Q } (start N (us.map (renW γ ρ))) H := by
  refine ⟨ρ, HL.start N.length us, h, ⟨S, wf_start w, renS_start N us⟩, ?_⟩
  unfold HL.fnOf at x
  split at x
  · cases q : bd (HL.start N.length us) h with
    | nx s' h' => rw [q] at x; exact fun ρ1 H1 n1 S1 _ => x ρ1 H1 n1 S1 trivial
    | rt v h' => rw [q] at x; exact fun ρ1 H1 n1 S1 w1 => x ρ1 H1 n1 S1 w1
    | bk => rw [q] at x; exact x.elim
    | ct => rw [q] at x; exact x.elim
    | ex => rw [q] at x; exact x.elim
    | er => rw [q] at x; exact x.elim
  · exact x.elim
section
variable {P : Program} {w : World} {K : PySem.W.Frag} {mg : Str → Option Value} {base : Heap} {γ : Str → Addr}
theorem TopFn.qdef {x : Str} {st : Stmt} {N ps : List Str} {k p n : Nat} {bd : DS} (F : TopFn K mg x st) (S : FnScope N ps (defScope st)) (hp : ps.length = p) (hn : N.length = n)
    (hb : ∀ (kV doc pm : Value) (an : Option Addr) (cdv ct : Value) (us : List Value), us.length = ps.length → bindArgs (PySem.W.fnOf x x (defArgs st) (defBody st) (defScope st) .none kV doc pm an cdv ct) ⟨us, []⟩ = pure (ps.zip us))
    (hbody : ∀ (f : Addr) (cdv : Value) (A : Around) (outer : List Env) (s : Shared) (H : Hp) (E : XK), Room k (A.deeper (envOfC x (defScope st) s.heap.objs.size f cdv)) →
      QSs γ (cxOf CX0 P w K mg base N x (defScope st) f cdv A outer s H E).nox (defBody st) bd) : Def P w K mg base (k + 1) x ps (spF K γ p (HL.fnOf p n bd)) :=
  F.mk_def S hb (fun vs H Q E h => h.1.trans hp.symm) fun f cdv A outer s H vs Q E hr h => ⟨_, hbody f cdv A outer s H E hr, by
    obtain ⟨_, ρ, hh, us, S, wu, e, x⟩ := h
    rw [e]
    subst hn
    exact fn_good S wu x⟩
end
end L2


set_option Elab.async false
set_option linter.all false
set_option maxRecDepth 100000
set_option maxHeartbeats 4000000
namespace L2
open PySem PySem.Spec PyProof.Rows
open HL (W SO Sh Sg OR DE DT DA DS Fn)
/-! ### the operations -/
section
variable {X : Cx} {K : PySem.W.Frag} {γ : Str → Addr}
theorem os_int {c : Int → Int → Bool} {C : Int → Int → Prop} {f : Int → Int → Int} (hc : ∀ i j, c i j = true → C i j) : OpS K γ (rI C fun i j => .int (f i j)) (HL.oInt c f) := by
  intro ρ h H x y Q S wx wy q
  cases x with
  | int i =>
    cases y with
    | int j =>
      unfold HL.oInt at q
      simp only at q
      split at q
      · rename_i z; exact ⟨i, j, rfl, rfl, hc i j z, q trivial⟩
      · exact q.elim
    | _ => exact q.elim
  | _ => cases y <;> exact q.elim
theorem nw_int {c : Int → Int → Bool} {f : Int → Int → Int} : NewOk2 (HL.oInt c f) := by
  intro x y h
  unfold HL.oInt
  cases x <;> cases y <;> first | rfl | (simp only; split <;> rfl)
theorem os_cmp {p : Int → Int → Bool} : OpS K γ (rI0 fun i j => .bl (p i j)) (HL.oCmp p) := by
  intro ρ h H x y Q S wx wy q
  cases x with
  | int i =>
    cases y with
    | int j => exact ⟨i, j, rfl, rfl, q trivial⟩
    | _ => exact q.elim
  | _ => cases y <;> exact q.elim
theorem bo_cmp {p : Int → Int → Bool} : Bo (HL.oCmp p) := by
  intro x y h
  unfold HL.oCmp
  cases x <;> cases y <;> first | exact .inl rfl | exact .inr ⟨_, rfl⟩
theorem Bo.nw {f : HL.O2} (b : Bo f) : NewOk2 f := fun x y h => by
  rcases b x y h with z | ⟨k, z⟩ <;> rw [z] <;> rfl
/-! the four sums -/
def rAddA (K : PySem.W.Frag) : R2 := fun x y H Q => (rI0 (fun i j => .int (i + j)) x y H Q) ∨ (∃ i j, x = .str i ∧ y = .str j ∧ i.length + j.length ≤ sizeLine ∧ Q (.str (i ++ j)) H) ∨ rCat x y H Q ∨ rCatT K x y H Q
theorem op_addA : OpR X (binaryOp .Add) (rAddA X.K) := op_add.or (op_add_str.or (op_cat.or op_catT))
theorem os_add : OpS K γ (rAddA K) HL.oAdd := by
  intro ρ h H x y Q S wx wy q
  cases x with
  | int i =>
    cases y with
    | int j => exact .inl ⟨i, j, rfl, rfl, q trivial⟩
    | _ => exact q.elim
  | str i =>
    cases y with
    | str j =>
      unfold HL.oAdd at q
      simp only at q
      split at q
      · rename_i z; exact .inr (.inl ⟨i, j, rfl, rfl, lim_line z, q trivial⟩)
      · exact q.elim
    | _ => exact q.elim
  | ref i =>
    cases y with
    | ref j =>
      unfold HL.oAdd at q
      simp only at q
      split at q
      · rename_i xs ys e1 e2
        split at q
        · rename_i z
          refine .inr (.inr (.inl ⟨ρ i, ρ j, xs.map (renW γ ρ), ys.map (renW γ ρ), rfl, rfl, S.ob i _ e1, S.ob j _ e2, by rw [List.length_map, List.length_map]; exact lim_line z, fun p hp => ?_⟩))
          rw [← List.map_append]
          refine q ?_ p hp
          intro y hy
          rcases List.mem_append.mp hy with z | z
          · exact S.wf i _ e1 y z
          · exact S.wf j _ e2 y z
        · exact q.elim
      · rename_i xs ys e1 e2
        split at q
        · rename_i z
          refine .inr (.inr (.inr ⟨ρ i, ρ j, xs.map (renW γ ρ), ys.map (renW γ ρ), rfl, rfl, S.ob i _ e1, S.ob j _ e2, ?_, by rw [List.length_map, List.length_map]; exact lim_line z.1, fun ey => ?_, fun ey p hp => ?_⟩))
          · intro e; exact z.2 (List.map_eq_nil_iff.mp e)
          · rw [if_pos (List.map_eq_nil_iff.mp ey)] at q
            exact q wx
          · rw [if_neg (fun e => ey (by rw [e]; rfl))] at q
            rw [← List.map_append]
            refine q ?_ p hp
            intro y hy
            rcases List.mem_append.mp hy with z | z
            · exact S.wf i _ e1 y z
            · exact S.wf j _ e2 y z
        · exact q.elim
      · exact q.elim
    | _ => exact q.elim
  | _ => cases y <;> exact q.elim
theorem nw_add : NewOk2 HL.oAdd := by
  intro x y h
  unfold HL.oAdd
  cases x <;> cases y <;> first | rfl | (simp only; repeat' (first | rfl | split))
/-! products -/
def rMulA : R2 := fun x y H Q => rI CMul (fun i j => .int (i * j)) x y H Q ∨ rRep x y H Q
theorem op_mulA : OpR X (binaryOp .Mult) rMulA := op_mul.or op_rep
theorem mulOk_c {i j : Int} (h : HL.mulOk i j = true) : CMul i j := by
  unfold HL.mulOk at h
  rcases (Bool.or_eq_true _ _).mp h with z | z
  · have := of_decide_eq_true z
    exact .inl ⟨by omega, by omega⟩
  · have := of_decide_eq_true z
    exact .inr ⟨by omega, by omega⟩
theorem os_mul : OpS K γ rMulA HL.oMul := by
  intro ρ h H x y Q S wx wy q
  cases x with
  | int i =>
    cases y with
    | int j =>
      unfold HL.oMul at q
      simp only at q
      split at q
      · rename_i z; exact .inl ⟨i, j, rfl, rfl, mulOk_c z, q trivial⟩
      · exact q.elim
    | _ => exact q.elim
  | ref i =>
    cases y with
    | int k =>
      unfold HL.oMul at q
      simp only at q
      split at q
      · rename_i xs e
        split at q
        · rename_i z
          refine .inr ⟨ρ i, k, xs.map (renW γ ρ), rfl, rfl, S.ob i _ e, by omega, by omega, by rw [List.length_map]; exact lim_line z.2.2, fun p hp => ?_⟩
          have e2 : (List.replicate k.toNat (xs.map (renW γ ρ))).flatten = ((List.replicate k.toNat xs).flatten).map (renW γ ρ) := by rw [List.map_flatten, List.map_replicate]
          first
            | rw [e2]; exact q (fun y hy => by
                obtain ⟨l, hl, hy⟩ := List.mem_flatten.mp hy
                rw [(List.mem_replicate.mp hl).2] at hy
                exact S.wf i _ e y hy) p hp
            | skip
        · exact q.elim
      · exact q.elim
    | _ => exact q.elim
  | _ => cases y <;> exact q.elim
theorem nw_mul : NewOk2 HL.oMul := by
  intro x y h
  unfold HL.oMul
  cases x <;> cases y <;> first | rfl | (simp only; repeat' (first | rfl | split))
theorem os_isN : OpS K γ (fun x y H Q => y = .non ∧ Q (.bl (decide (x = .non))) H) HL.oIs := by
  intro ρ h H x y Q S wx wy q
  unfold HL.oIs at q
  cases y with
  | non => exact ⟨rfl, by have := q trivial; cases x <;> exact this⟩
  | _ => exact q.elim
theorem bo_is : Bo HL.oIs := by
  intro x y h; unfold HL.oIs; cases y <;> first | exact .inl rfl | exact .inr ⟨_, rfl⟩
/-! in -/
theorem flat_eq (ρ : Nat → Addr) (x : W) (h : HL.flatW x = true) : flatV (renW γ ρ x) = true := by cases x <;> first | rfl | cases h
theorem eqW_eq (ρ : Nat → Addr) (x y : W) (hx : HL.flatW x = true) (hy : HL.flatW y = true) : HL.eqW x y = eqV (renW γ ρ x) (renW γ ρ y) := by
  cases x <;> cases y <;> first | rfl | cases hx | cases hy
theorem inW_eq (ρ : Nat → Addr) (x : W) (hx : HL.flatW x = true) : ∀ xs : List W, xs.all HL.flatW = true → HL.inW x xs = inV (renW γ ρ x) (xs.map (renW γ ρ)) ∧ (xs.map (renW γ ρ)).all flatV = true
  | [], _ => ⟨rfl, rfl⟩
  | y :: ys, h => by
    rw [List.all_cons, Bool.and_eq_true] at h
    obtain ⟨a, b⟩ := inW_eq ρ x hx ys h.2
    unfold HL.inW inV at a ⊢
    rw [List.map_cons, List.any_cons, List.any_cons, a, eqW_eq (γ := γ) ρ y x h.1 hx, List.all_cons, flat_eq ρ y h.1, b]
    exact ⟨rfl, rfl⟩
theorem os_in : OpS K γ (rIn K false) HL.oIn := by
  intro ρ h H x y Q S wx wy q
  unfold HL.oIn at q
  split at q
  · rename_i xs e
    split at q
    · rename_i z
      obtain ⟨i, rfl, sq, w⟩ := seqW_sq S e
      obtain ⟨z1, z2⟩ := (Bool.and_eq_true _ _).mp z
      obtain ⟨a, b⟩ := inW_eq (γ := γ) ρ x z1 xs z2
      exact ⟨ρ i, _, rfl, sq, flat_eq ρ x z1, b, by have := q trivial; rw [a] at this; exact this⟩
    · exact q.elim
  · exact q.elim
theorem bo_in : Bo HL.oIn := by
  intro x y h; unfold HL.oIn; split
  · split
    · exact .inr ⟨_, rfl⟩
    · exact .inl rfl
  · exact .inl rfl
/-! items -/
theorem os_ix : OpS K γ (rIx K) HL.oIx := by
  intro ρ h H x y Q S wx wy q
  unfold HL.oIx at q
  split at q
  · rename_i xs i e
    split at q
    · rename_i v ev
      obtain ⟨p, rfl, sq, w⟩ := seqW_sq S e
      unfold HL.atW at ev
      cases e2 : HL.ixW xs.length i with
      | none => rw [e2] at ev; cases ev
      | some j =>
        rw [e2] at ev
        have ev' : xs[j]? = some v := ev
        have at_ : atI (xs.map (renW γ ρ)) i = some (renW γ ρ v) := by
          unfold atI
          rw [List.length_map, ← ix_eq, e2]
          show (xs.map (renW γ ρ))[j]? = _
          rw [List.getElem?_map, ev']; rfl
        have qq := q (wf_get w ev')
        rcases sq with sq | sq
        · exact .inl ⟨_, _, i, _, rfl, rfl, sq, at_, qq⟩
        · exact .inr (.inl ⟨_, _, i, _, rfl, rfl, sq, at_, qq⟩)
    · exact q.elim
  · exact q.elim
theorem nw_ix : NewOk2 HL.oIx := by
  intro x y h; unfold HL.oIx; split
  · split <;> rfl
  · rfl
/-! built-in functions -/
theorem cs_len : CbS K γ (fun xs H Q => ∃ x n, xs = [x] ∧ LenV K x H n ∧ Q (.int n) H) HL.bLen := by
  intro ρ h H xs Q S w q
  unfold HL.bLen at q
  split at q
  · rename_i y
    split at q
    · rename_i z; exact ⟨_, _, rfl, ⟨lim_line z, rfl⟩, q trivial⟩
    · exact q.elim
  · rename_i x ne
    split at q
    · rename_i ys e
      obtain ⟨p, rfl, sq, w⟩ := seqW_sq S e
      have qq := q trivial
      refine ⟨_, ys.length, rfl, ?_, qq⟩
      rcases sq with sq | sq
      · exact .inl ⟨_, sq, by rw [List.length_map]⟩
      · exact .inr ⟨_, sq, by rw [List.length_map]⟩
    · exact q.elim
  · exact q.elim
theorem nw_len (x : List W) (h : Sh) : newOk (HL.bLen x h) = true := by
  unfold HL.bLen; split
  · split <;> rfl
  · split <;> rfl
  · rfl
theorem cs_max2 : CbS K γ rMax2 HL.bMax2 := by
  intro ρ h H xs Q S w q
  unfold HL.bMax2 at q
  split at q
  · exact q trivial
  · exact q.elim
theorem nw_max2 (x : List W) (h : Sh) : newOk (HL.bMax2 x h) = true := by unfold HL.bMax2; split <;> rfl
theorem cs_min2 : CbS K γ rMin2 HL.bMin2 := by
  intro ρ h H xs Q S w q
  unfold HL.bMin2 at q
  split at q
  · exact q trivial
  · exact q.elim
theorem nw_min2 (x : List W) (h : Sh) : newOk (HL.bMin2 x h) = true := by unfold HL.bMin2; split <;> rfl
theorem cs_int : CbS K γ rInt1 HL.bInt := by
  intro ρ h H xs Q S w q
  unfold HL.bInt at q
  split at q
  · exact q trivial
  · exact q trivial
  · exact q.elim
theorem nw_bint (x : List W) (h : Sh) : newOk (HL.bInt x h) = true := by unfold HL.bInt; split <;> rfl
end
end L2


set_option Elab.async false
set_option linter.all false
set_option maxRecDepth 100000
set_option maxHeartbeats 4000000
namespace L2
open PySem PySem.Spec PyProof.Rows
open HL (W SO Sh Sg OR DE DT DA DS Fn)
/-! ### deep equality -/
def flatD : V → PyData → Prop
  | .non, d => d = .none
  | .bl b, d => d = .bool b
  | .int i, d => d = .int i
  | .str x, d => d = .str x
  | _, _ => False
def DatP (K : PySem.W.Frag) (H : Hp) : Nat → V → PyData → Prop
  | 0, x, d => flatD x d
  | n + 1, x, d => flatD x d ∨ ∃ a xs ds, x = .ref a ∧ Paired (DatP K H n) xs ds ∧ (SqL K H a xs ∧ d = .list ds ∨ SqT K H a xs ∧ d = .tuple ds)
section
variable {X : Cx} {pins : List (Addr × Obj)} {σ : St} {H : Hp} {s : Shared}
theorem reads_flat {x : V} {v : Value} {d : PyData} (h : flatD x d) (r : RelV x v) : ∃ as, Reads s.heap v d as := by
  cases x with
  | non => cases h; cases r; exact ⟨_, .none⟩
  | bl b => cases h; cases r; exact ⟨_, .bool b⟩
  | int i => cases h; obtain ⟨t, rfl⟩ := r; exact ⟨_, .int i t⟩
  | str y => cases h; obtain ⟨t, rfl⟩ := r; exact ⟨_, .str y t⟩
  | _ => cases h
theorem readsP_all {f : V → PyData → Prop} (hf : ∀ x v d, f x d → RelV x v → ∃ as, Reads s.heap v d as) : ∀ {xs : List V} {us : List Value} {ds : List PyData}, Vals xs us → Paired f xs ds → ∃ as, ReadsAll s.heap us ds as
  | _, _, _, .nil, .nil => ⟨_, .nil⟩
  | _, _, _, .cons r rs, .cons p ps => by
    obtain ⟨as, h1⟩ := hf _ _ _ p r
    obtain ⟨bs, h2⟩ := readsP_all hf rs ps
    exact ⟨_, .cons h1 h2⟩
theorem readsP (I : Inv X pins σ H s) : ∀ (n : Nat) (x : V) (v : Value) (d : PyData), DatP X.K H n x d → RelV x v → ∃ as, Reads s.heap v d as
  | 0, x, v, d, h, r => reads_flat h r
  | n + 1, x, v, d, h, r => by
    rcases h with h | ⟨a, xs, ds, rfl, p, ⟨sq, rfl⟩ | ⟨sq, rfl⟩⟩
    · exact reads_flat h r
    · cases r
      obtain ⟨its, rv, pl, _⟩ := I.list sq
      obtain ⟨o, m, ho, hc, _, hs⟩ := pl
      obtain ⟨as, ra⟩ := readsP_all (readsP I n) rv p
      exact ⟨_, .list ho hc hs ra⟩
    · cases r
      obtain ⟨its, rv, pl, _⟩ := I.tuple sq
      obtain ⟨o, ho, hc, m, hs⟩ := pl
      obtain ⟨as, ra⟩ := readsP_all (readsP I n) rv p
      exact ⟨_, .tuple ho hc hs ra⟩
def rEqP (K : PySem.W.Frag) (neg : Bool) : R2 := fun x y H Q => (scal x y = true ∧ Q (.bl (if neg then !decide (x = y) else decide (x = y))) H) ∨
  ∃ da db, DatP K H 8 x da ∧ DatP K H 8 y db ∧ SeqAt.shaped da = true ∧ SeqAt.shaped db = true ∧ Q (.bl (if neg then !PyData.eqv da db else PyData.eqv da db)) H
theorem op_eqP (hu : X.A.units + 64 < cLine) : OpR X (compareOp .Eq) (rEqP X.K false) := by
  intro pins s σ H x y v u Q I rx ry h
  rcases h with ⟨sc, q⟩ | ⟨da, db, h1, h2, s1, s2, q⟩
  · exact op_eq pins s σ H x y v u Q I rx ry ⟨sc, q⟩
  · obtain ⟨as, r1⟩ := readsP I 8 x v da h1 rx
    obtain ⟨bs, r2⟩ := readsP I 8 y u db h2 ry
    exact PyProof.Rows.eq_dataH r1 r2 s1 s2 hu ⟨.bl _, H, I, rfl, q⟩
theorem op_neP (hu : X.A.units + 64 < cLine) : OpR X (compareOp .NotEq) (rEqP X.K true) := by
  intro pins s σ H x y v u Q I rx ry h
  rcases h with ⟨sc, q⟩ | ⟨da, db, h1, h2, s1, s2, q⟩
  · exact op_ne pins s σ H x y v u Q I rx ry ⟨sc, q⟩
  · obtain ⟨as, r1⟩ := readsP I 8 x v da h1 rx
    obtain ⟨bs, r2⟩ := readsP I 8 y u db h2 ry
    exact PyProof.Rows.ne_dataH r1 r2 s1 s2 hu ⟨.bl _, H, I, rfl, q⟩
end
mutual
def toPy : HL.D → PyData
  | .non => .none
  | .bl b => .bool b
  | .int i => .int i
  | .str s => .str s
  | .lst xs => .list (toPys xs)
  | .tup xs => .tuple (toPys xs)
def toPys : List HL.D → List PyData
  | [] => []
  | x :: xs => toPy x :: toPys xs
end
mutual
theorem toPy_eq : ∀ a b : HL.D, PyData.eqv (toPy a) (toPy b) = HL.D.eq a b
  | .non, b => by cases b <;> simp only [toPy, PyData.eqv, HL.D.eq]
  | .bl _, b => by cases b <;> simp only [toPy, PyData.eqv, HL.D.eq]
  | .int _, b => by cases b <;> simp only [toPy, PyData.eqv, HL.D.eq]
  | .str _, b => by cases b <;> simp only [toPy, PyData.eqv, HL.D.eq]
  | .lst xs, b => by
    cases b with
    | lst ys => simp only [toPy, PyData.eqv, HL.D.eq]; exact toPys_eq xs ys
    | _ => simp only [toPy, PyData.eqv, HL.D.eq]
  | .tup xs, b => by
    cases b with
    | tup ys => simp only [toPy, PyData.eqv, HL.D.eq]; exact toPys_eq xs ys
    | _ => simp only [toPy, PyData.eqv, HL.D.eq]
theorem toPys_eq : ∀ xs ys : List HL.D, PyData.eqvAll (toPys xs) (toPys ys) = HL.D.eqs xs ys
  | [], ys => by cases ys <;> simp only [toPys, PyData.eqvAll, HL.D.eqs] <;> rfl
  | x :: xs, ys => by
    cases ys with
    | nil => simp only [toPys, PyData.eqvAll, HL.D.eqs]
    | cons y ys => simp only [toPys, PyData.eqvAll, HL.D.eqs]; rw [toPy_eq x y, toPys_eq xs ys]
end
section
variable {K : PySem.W.Frag} {γ : Str → Addr} {ρ : Nat → Addr} {h : Sh} {H : Hp}
theorem dats_of {n : Nat} {f : W → Option HL.D} (hf : ∀ x d, f x = some d → DatP K H n (renW γ ρ x) (toPy d) ∧ (toPy d).canLay0 = true ∧ (toPy d).depth ≤ n) :
    ∀ (xs : List W) (ds : List HL.D), HL.dats f xs = some ds → Paired (DatP K H n) (xs.map (renW γ ρ)) (toPys ds) ∧ PyData.canLayAll0 (toPys ds) = true ∧ PyData.depthAll (toPys ds) ≤ n
  | [], ds, e => by
    cases e
    exact ⟨.nil, by simp [toPys, PyData.canLayAll0], by simp [toPys, PyData.depthAll]⟩
  | x :: xs, ds, e => by
    unfold HL.dats at e
    cases q : f x with
    | none => rw [q] at e; cases e
    | some d =>
      rw [q] at e
      cases q2 : HL.dats f xs with
      | none => rw [q2] at e; cases e
      | some ds' =>
        rw [q2] at e
        cases e
        obtain ⟨a, b, c⟩ := hf x d q
        obtain ⟨a', b', c'⟩ := dats_of hf xs ds' q2
        refine ⟨?_, ?_, ?_⟩
        · simp only [toPys, List.map_cons]; exact .cons a a'
        · simp only [toPys, PyData.canLayAll0, b, b']; rfl
        · simp only [toPys, PyData.depthAll]; omega
theorem sOk_of {x : Str} (e : HL.sOk x = true) : PyData.strOk x = true := by
  unfold HL.sOk at e
  unfold PyData.strOk
  obtain ⟨_, e⟩ := (Bool.and_eq_true _ _).mp e
  rw [← Array.all_toList]
  exact e
theorem dat_of (S : SimH K γ ρ h H) : ∀ (n : Nat) (x : W) (d : HL.D), HL.dat n h x = some d → DatP K H n (renW γ ρ x) (toPy d) ∧ (toPy d).canLay0 = true ∧ (toPy d).depth ≤ n := by
  have fl : ∀ (n : Nat) (x : V) (d : PyData), flatD x d → DatP K H n x d := fun n x d f => by cases n <;> first | exact f | exact .inl f
  intro n
  induction n with
  | zero =>
    intro x d e
    cases x with
    | non => cases e; exact ⟨rfl, by simp [toPy, PyData.canLay0], by simp [toPy, PyData.depth]⟩
    | bl b => cases e; exact ⟨rfl, by simp [toPy, PyData.canLay0], by simp [toPy, PyData.depth]⟩
    | int i => cases e; exact ⟨rfl, by simp [toPy, PyData.canLay0], by simp [toPy, PyData.depth]⟩
    | str y =>
      unfold HL.dat at e
      split at e
      · rename_i ok; cases e; exact ⟨rfl, by simp [toPy, PyData.canLay0, sOk_of ok], by simp [toPy, PyData.depth]⟩
      · cases e
    | _ => cases e
  | succ n ih =>
    intro x d e
    cases x with
    | non => cases e; exact ⟨.inl rfl, by simp [toPy, PyData.canLay0], by simp [toPy, PyData.depth]⟩
    | bl b => cases e; exact ⟨.inl rfl, by simp [toPy, PyData.canLay0], by simp [toPy, PyData.depth]⟩
    | int i => cases e; exact ⟨.inl rfl, by simp [toPy, PyData.canLay0], by simp [toPy, PyData.depth]⟩
    | str y =>
      unfold HL.dat at e
      split at e
      · rename_i ok; cases e; exact ⟨.inl rfl, by simp [toPy, PyData.canLay0, sOk_of ok], by simp [toPy, PyData.depth]⟩
      · cases e
    | ref i =>
      unfold HL.dat at e
      cases q : h[i]? with
      | none => rw [q] at e; cases e
      | some o =>
        rw [q] at e
        have ob := S.ob i o q
        have go : ∀ xs ds, HL.dats (HL.dat n h) xs = some ds → (SqL K H (ρ i) (xs.map (renW γ ρ)) ∧ d = .lst ds ∨ SqT K H (ρ i) (xs.map (renW γ ρ)) ∧ d = .tup ds) → DatP K H (n + 1) (.ref (ρ i)) (toPy d) ∧ (toPy d).canLay0 = true ∧ (toPy d).depth ≤ n + 1 := fun xs ds e2 sq => by
          obtain ⟨a, b, c⟩ := dats_of ih xs ds e2
          rcases sq with ⟨sq, rfl⟩ | ⟨sq, rfl⟩
          · exact ⟨.inr ⟨_, _, _, rfl, a, .inl ⟨sq, by simp only [toPy]⟩⟩, by simp only [toPy, PyData.canLay0, b], by simp only [toPy, PyData.depth]; omega⟩
          · exact ⟨.inr ⟨_, _, _, rfl, a, .inr ⟨sq, by simp only [toPy]⟩⟩, by simp only [toPy, PyData.canLay0, b], by simp only [toPy, PyData.depth]; omega⟩
        cases o with
        | lst xs =>
          simp only at e
          cases q2 : HL.dats (HL.dat n h) xs with
          | none => rw [q2] at e; cases e
          | some ds => rw [q2] at e; cases e; exact go xs ds q2 (.inl ⟨SqL.of ob, rfl⟩)
        | rol xs =>
          simp only at e
          cases q2 : HL.dats (HL.dat n h) xs with
          | none => rw [q2] at e; cases e
          | some ds => rw [q2] at e; cases e; exact go xs ds q2 (.inl ⟨(show RoL _ _ _ _ from ob).sq, rfl⟩)
        | tup xs =>
          simp only at e
          cases q2 : HL.dats (HL.dat n h) xs with
          | none => rw [q2] at e; cases e
          | some ds => rw [q2] at e; cases e; exact go xs ds q2 (.inr ⟨ob, rfl⟩)
        | _ => cases e
    | _ => cases e
theorem eqH_of {x y : W} {b : Bool} (S : SimH K γ ρ h H) (e : HL.eqH x y h = some b) : (scal (renW γ ρ x) (renW γ ρ y) = true ∧ b = decide (renW γ ρ x = renW γ ρ y)) ∨
    ∃ da db, DatP K H 8 (renW γ ρ x) da ∧ DatP K H 8 (renW γ ρ y) db ∧ SeqAt.shaped da = true ∧ SeqAt.shaped db = true ∧ b = PyData.eqv da db := by
  have deep : (match HL.dat HL.DEEP h x, HL.dat HL.DEEP h y with | some a, some b => some (HL.D.eq a b) | _, _ => none) = some b → ∃ da db, DatP K H 8 (renW γ ρ x) da ∧ DatP K H 8 (renW γ ρ y) db ∧ SeqAt.shaped da = true ∧ SeqAt.shaped db = true ∧ b = PyData.eqv da db := fun e => by
    split at e
    · rename_i a c e1 e2
      cases e
      obtain ⟨d1, l1, p1⟩ := dat_of S 8 x a e1
      obtain ⟨d2, l2, p2⟩ := dat_of S 8 y c e2
      refine ⟨_, _, d1, d2, ?_, ?_, (toPy_eq a c).symm⟩
      · unfold SeqAt.shaped; rw [l1, Bool.true_and]; exact decide_eq_true (by omega)
      · unfold SeqAt.shaped; rw [l2, Bool.true_and]; exact decide_eq_true (by omega)
    · cases e
  unfold HL.eqH at e
  split at e
  · cases e; exact .inl ⟨rfl, by simp [renW]⟩
  · cases e; exact .inl ⟨rfl, by simp [renW]⟩
  · exact .inr (deep e)
theorem os_eq : OpS K γ (rEqP K false) HL.oEq := by
  intro ρ h H x y Q S wx wy q
  unfold HL.oEq at q
  split at q
  · rename_i b e
    rcases eqH_of S e with ⟨sc, e2⟩ | ⟨da, db, h1, h2, s1, s2, e2⟩
    · exact .inl ⟨sc, by have := q trivial; rw [e2] at this; exact this⟩
    · exact .inr ⟨da, db, h1, h2, s1, s2, by have := q trivial; rw [e2] at this; exact this⟩
  · exact q.elim
theorem os_ne : OpS K γ (rEqP K true) HL.oNe := by
  intro ρ h H x y Q S wx wy q
  unfold HL.oNe at q
  split at q
  · rename_i b e
    rcases eqH_of S e with ⟨sc, e2⟩ | ⟨da, db, h1, h2, s1, s2, e2⟩
    · exact .inl ⟨sc, by have := q trivial; rw [e2] at this; exact this⟩
    · exact .inr ⟨da, db, h1, h2, s1, s2, by have := q trivial; rw [e2] at this; exact this⟩
  · exact q.elim
theorem bo_eq : Bo HL.oEq := by
  intro x y h; unfold HL.oEq; split
  · exact .inr ⟨_, rfl⟩
  · exact .inl rfl
theorem bo_ne : Bo HL.oNe := by
  intro x y h; unfold HL.oNe; split
  · exact .inr ⟨_, rfl⟩
  · exact .inl rfl
end
end L2


set_option Elab.async false
set_option linter.all false
set_option maxRecDepth 100000
set_option maxHeartbeats 4000000
namespace L2
open PySem PySem.Spec PyProof.Rows
section
variable {X : Cx} {scope : Scope} {cs : List Str} {pins : List (Addr × Obj)} {σ : St} {H : Hp} {s : Shared} {fp : List Addr}
def capG (n : Nat) (js : List Nat) (σ : St) : St := List.replicate n none ++ js.map fun j => (σ[j]?).getD none
theorem comp_startG {ts : List Str} {js : List Nat} {h₁ : Heap} {tk : Nat} {ob : Obj} (c : Cap X scope cs) (I : Inv X pins σ H s) (hf : ∀ b ∈ fp, FpOk X pins H b) (ho : ∀ b ∈ fp, ∃ o, s.heap.get? b = some o) (hj : js.map (fun j => X.N[j]?) = cs.map some)
    (hns : h₁.Ns s.heap.objs.size fun _ => none) (hsb : Heap.SameBut s.heap.objs.size (s.heap.push ob) h₁) : Inv (cxComp X scope cs (ts ++ cs) s H fp) [] (capG ts.length js σ) H { s with heap := h₁, toks := tk } := by
  have k : ∀ b o, s.heap.get? b = some o → h₁.get? b = some o := fun b o e => (hsb.2 b (Nat.ne_of_lt (Heap.lt_size e))).trans (Heap.get?_push_of_some _ e)
  refine ⟨comp_ok c I hf ho _, rfl, I.bare, Un.kept k, ⟨_, hns, fun i y v e1 e2 vis => ?_⟩, fun y a h => ?_, I.hok.fresh (Nat.le_refl _), fun y a h => I.freeC y a (c.sub h).1, (fun p hp => by cases hp), I.hok.kept k, ?_⟩
  · by_cases hit : i < ts.length
    · have e2' : (List.replicate ts.length (none : Option V) ++ js.map fun j => (σ[j]?).getD none)[i]? = some (some v) := e2
      rw [List.getElem?_append_left (by rw [List.length_replicate]; exact hit), List.getElem?_replicate, if_pos hit] at e2'
      cases e2'
    · have e1' : (ts ++ cs)[i]? = some y := e1
      have e2' : (List.replicate ts.length (none : Option V) ++ js.map fun j => (σ[j]?).getD none)[i]? = some (some v) := e2
      rw [List.getElem?_append_right (by omega)] at e1'
      rw [List.getElem?_append_right (by rw [List.length_replicate]; omega), List.length_replicate] at e2'
      generalize i - ts.length = i at e1' e2'
      rw [List.getElem?_map] at e2'
      have hji := congrArg (fun l => l[i]?) hj
      simp only [List.getElem?_map] at hji
      rw [e1'] at hji
      cases q : js[i]? with
      | none => rw [q] at e2'; cases e2'
      | some j =>
        rw [q] at e2' hji
        have hN : X.N[j]? = some y := Option.some.inj hji
        have hv : (σ[j]?).getD none = some v := Option.some.inj e2'
        have hσ : σ[j]? = some (some v) := by
          cases q2 : σ[j]? with
          | none => rw [q2] at hv; cases hv
          | some z => rw [q2] at hv; rw [← hv]; rfl
        have hm : y ∈ cs := List.mem_of_getElem? e1'
        obtain ⟨m, hn, hl⟩ := I.loc
        obtain ⟨u, r, l⟩ := hl j y v hN hσ (.inr (.inl (c.kc y hm).1))
        refine ⟨u, r, .inr ⟨.inl (c.kc y hm).2, ?_⟩⟩
        rcases l with ⟨lk, _⟩ | ⟨_, a, ha, o, ho', hd⟩
        · have := (c.kc y hm).1
          have lk' : X.env.scope.names.lookup y = some .local := lk
          rw [this] at lk'
          cases lk'
        · refine ⟨a, ?_, o, k _ _ ho', hd⟩
          show (capL X cs).lookup y = some a
          rw [cap_look hm, ha]
          rfl
  · obtain ⟨v, o, ho', hd⟩ := I.cell y a (c.sub h).1
    exact ⟨v, o, k _ _ ho', hd⟩
  · have := congrArg List.length hj
    rw [List.length_map, List.length_map] at this
    show (capG ts.length js σ).length = (ts ++ cs).length
    unfold capG
    rw [List.length_append, List.length_append, List.length_replicate, List.length_map, this]
def compGoG (J : It) (g : TG) (tc : TT) (te : TE) (acc : Addr) (σ : St) (H : Hp) (Q : VK) : Prop := ∃ W : Nat → Nat → St → Hp → Prop, (∃ m, W 0 m σ (upd H acc (.lst []))) ∧ ∀ i m σ H, W i m σ H →
  (J.stop i H ∧ Q (.ref acc) H) ∨ (J.go i H ∧ ∃ Nx : St → Hp → Prop, (∀ σ' H', Nx σ' H' → ∃ m', m' < m ∧ W (i + 1) m' σ' H') ∧ ∀ x H', J.yld i H x H' → g x σ H' fun σ2 H2 => tc σ2 H2 fun k H3 => if k = true then te σ2 H3 fun v H4 => ∃ ys, H4 acc = some (.lst ys) ∧ ys.length < sizeLine ∧ Nx σ2 (upd H4 acc (.lst (ys ++ [v]))) else Nx σ2 H3)
def tCompG (wi : TI) (n : Nat) (js : List Nat) (g : TG) (tc : TT) (te : TE) : TE := fun σ H Q => wi σ H fun J H1 => ∀ acc, H1 acc = none → compGoG J g tc te acc (capG n js σ) H1 Q
def PTs (X : Cx) (ifs : List Expr) (tc : TT) : Prop := ∀ (pins : List (Addr × Obj)) (s : Shared) (σ : St) (H : Hp) (Q : Bool → Hp → Prop), Inv X pins σ H s → tc σ H Q →
  wpAny (model X.prog X.w) X.A (forIn ifs true fun c r => if r = true then do let ok ← isTrue c X.env (eval c X.env); pure (ForInStep.yield ok) else pure (ForInStep.yield r)) (TP X pins σ Q) X.xe s
theorem pts_one {c : Expr} {tc : TT} (h : PT X c tc) : PTs X [c] tc := fun pins s σ H Q I hw => wpAny_tests_one (h pins s σ H Q I hw)
theorem comp_core {elt iter tg : Expr} {ifs : List Expr} {ts : List Str} {pos : Pos} {wi : TI} {js : List Nat} {g : TG} {tc : TT} {te : TE} (c : Cap X scope cs) (hc : X.calm = true) (hj : js.map (fun j => X.N[j]?) = cs.map some) (hi : PI X tg iter wi)
    (hg : ∀ s₀ H₀ ex, PG (cxComp X scope cs (ts ++ cs) s₀ H₀ ex) tg g) (he : ∀ s₀ H₀ ex, PE (cxComp X scope cs (ts ++ cs) s₀ H₀ ex) elt te)
    (ht : ∀ s₀ H₀ ex, PTs (cxComp X scope cs (ts ++ cs) s₀ H₀ ex) ifs tc)
    (hs : ∀ x, foldedSetIterable iter X.env x = pure x := by intro _; rfl) {use : Option (Value → Sem Unit)} {Qf : Value → Shared → Prop} {pos' : Pos} {Q : VK} (I : Inv X pins σ H s)
    (fin : ∀ (fp' : List Addr) (s3 : Shared) (H3 : Hp) (acc : Addr) (σ' : St) (H' : Hp) (s4 : Shared), Inv X pins σ H3 s3 → (∀ b ∈ fp', FpOk X pins H3 b) → Inv (cxComp X scope cs (ts ++ cs) s3 H3 fp') [] σ' H' s4 → Q (.ref acc) H' →
      compPost (model X.prog X.w) X.A X.xe use Qf (.ref acc) s3.heap.objs.size (.ok .next) s4) (h : tCompG wi ts.length js g tc te σ H Q) :
    wpAny (model X.prog X.w) X.A (comprehension (.ListComp elt [⟨tg, iter, ifs, 0⟩] scope pos) scope X.env pos' (newList []) false (eval iter X.env) use) Qf X.xe s := by
  refine wpAny_comprehension_free (use := use) rfl hs c.clos c.kind c.names (thn (hi pins s σ H _ I h) fun xv s1 h1 => thn h1 fun itv s2 h2 => ?_)
  obtain ⟨it, fp, tn, J, H2, e, I2, T, st2, f2, q⟩ := h2
  subst e
  have hn2 : H2 s2.heap.objs.size = none := I2.hok.fresh (Nat.le_refl _)
  obtain ⟨W, ⟨m0, w0⟩, turn⟩ := q _ hn2
  refine wpAny_newObj_type ?_ (by show 0 ≤ sizeLine; exact Nat.zero_le _)
  have I3 : Inv X pins σ (upd H2 s2.heap.objs.size (.lst [])) { s2 with heap := s2.heap.push { cls := .type "list", data := .seq ([] : List Value).toArray } } := Inv.lnew (t' := s2.toks) I2 .nil (Nat.zero_le _)
  have f3 : ∀ b ∈ fp, FpOk X pins (upd H2 s2.heap.objs.size (.lst [])) b := fun b hb => by
    obtain ⟨o, ho, _⟩ := T.obj _ _ st2 b hb
    exact ⟨by rw [upd_ne (Nat.ne_of_lt (Heap.lt_size ho))]; exact (f2 b hb).1, (f2 b hb).2⟩
  have o3 : ∀ b ∈ fp, ∃ o, (s2.heap.push { cls := .type "list", data := .seq ([] : List Value).toArray }).get? b = some o := fun b hb => by
    obtain ⟨o, ho, _⟩ := T.obj _ _ st2 b hb
    exact ⟨o, Heap.get?_push_of_some _ ho⟩
  have st3 : tn 0 (s2.heap.push { cls := .type "list", data := .seq ([] : List Value).toArray }) := T.keep _ _ _ st2 fun b _ o ho => Heap.get?_push_of_some _ ho
  generalize hs3 : ({ s2 with heap := s2.heap.push { cls := .type "list", data := .seq ([] : List Value).toArray } } : Shared) = s3 at I3
  have hs3h : s3.heap = s2.heap.push { cls := .type "list", data := .seq ([] : List Value).toArray } := by rw [← hs3]
  rw [← hs3h] at o3 st3
  show wpAny _ _ (newFunctionEnv scope X.env.globals (capL X cs) [] X.env.qual none .none (some X.env)) _ _ _
  refine wpAny_newFunctionEnv c.nocell (by intro y hy; cases hy) (fun h₁ hns hsb => ?_) c.kind
  have hns' : h₁.Ns s3.heap.objs.size fun _ => none := hns
  have ok := comp_ok c I3 f3 o3 (ts ++ cs)
  have I4 := comp_startG (ts := ts) (tk := s3.toks) c I3 f3 o3 hj hns' hsb
  have st4 : tn 0 h₁ := T.keep _ _ _ st3 fun b hb o ho => (hsb.2 b (Nat.ne_of_lt (Heap.lt_size ho))).trans (Heap.get?_push_of_some _ ho)
  have stat : ∀ {H' : Hp}, (∀ b ∈ fp, H' b = none) → ∀ b ∈ fp, FpOk (cxComp X scope cs (ts ++ cs) s3 (upd H2 s2.heap.objs.size (.lst [])) fp) [] H' b := fun hn b hb => ⟨hn b hb, (ok.exf b hb).1, ok.exfs b hb, .inl hb, (ok.exf b hb).2, fun p hp => by cases hp⟩
  show codeAny _ _ (.compStart (.ListComp elt [⟨tg, iter, ifs, 0⟩] scope pos) 0 (.ref it) (.ref s2.heap.objs.size) (cxComp X scope cs (ts ++ cs) s3 (upd H2 s2.heap.objs.size (.lst [])) fp).env) (compPost (model X.prog X.w) X.A X.xe use Qf (.ref s2.heap.objs.size) s3.heap.objs.size) { s3 with heap := h₁, toks := s3.toks }
  have loop : codeAny (model X.prog X.w) X.A (.compLoop (.ListComp elt [⟨tg, iter, ifs, 0⟩] scope pos) 0 (.ref it) (.ref s2.heap.objs.size) (cxComp X scope cs (ts ++ cs) s3 (upd H2 s2.heap.objs.size (.lst [])) fp).env) (compPost (model X.prog X.w) X.A X.xe use Qf (.ref s2.heap.objs.size) s3.heap.objs.size) { s3 with heap := h₁, toks := s3.toks } := by
    refine codeAny_loop rfl (fun n s' => ∃ i σ' H', Inv (cxComp X scope cs (ts ++ cs) s3 (upd H2 s2.heap.objs.size (.lst [])) fp) [] σ' H' s' ∧ tn i s'.heap ∧ (∀ b ∈ fp, H' b = none) ∧ W i n σ' H') (fun n s' hI => ?_) m0 ⟨0, _, _, I4, st4, fun b hb => (f3 b hb).1, w0⟩
    obtain ⟨i, σ', H', J', st', fr', w'⟩ := hI
    show wpAny _ _ ((compTurn (.ListComp elt [⟨tg, iter, ifs, 0⟩] scope pos) 0 (.ref it) (.ref s2.heap.objs.size) (cxComp X scope cs (ts ++ cs) s3 (upd H2 s2.heap.objs.size (.lst [])) fp).env).onRaise (fun xx => do noteFrame xx (cxComp X scope cs (ts ++ cs) s3 (upd H2 s2.heap.objs.size (.lst [])) fp).env; theTreesLotGoes xx)) _ _ s'
    refine wpAny_noted ?_
    rw [compTurn_list]
    refine wpAny_bind (wpAny_standAt (wpAny_bind ?_))
    rcases turn i n σ' H' w' with ⟨stop, qn⟩ | ⟨go, Nx, hN, step⟩
    · refine thn (T.done (cxComp X scope cs (ts ++ cs) s3 (upd H2 s2.heap.objs.size (.lst [])) fp) rfl rfl rfl hc i [] s' σ' H' _ J' (stat fr') st' stop) fun r s4 ⟨hr, J4⟩ => ?_
      subst hr
      exact wpAny_pure (fin _ _ _ _ _ _ _ I3 f3 J4 qn)
    · refine thn (T.item (cxComp X scope cs (ts ++ cs) s3 (upd H2 s2.heap.objs.size (.lst [])) fp) rfl rfl rfl hc i [] s' σ' H' _ J' (stat fr') st' go) fun r s4 ⟨u, hr, h4⟩ => ?_
      subst hr
      refine wpAny_bind (thn h4 fun _ s5 ⟨xv, H5, J5, r5, y5, st5, fr5⟩ => ?_)
      have J5' := J5.pinned (stat fr5) (T.obj _ _ st5)
      refine wpAny_bind (wpAny_mono (hg _ _ _ _ s5 σ' H5 xv u _ J5' r5 (step xv H5 y5)) (fun _ s6 ⟨σ6, H6, J6, q6⟩ => ?_) fun _ _ z => z.elim)
      have fin2 : ∀ {σ8 : St} {H8 : Hp} {s8 : Shared}, Inv (cxComp X scope cs (ts ++ cs) s3 (upd H2 s2.heap.objs.size (.lst [])) fp) ([] ++ pinsAt fp s5.heap) σ8 H8 s8 → Nx σ8 H8 → ∃ m', m' < n ∧ ∃ i σ' H', Inv (cxComp X scope cs (ts ++ cs) s3 (upd H2 s2.heap.objs.size (.lst [])) fp) [] σ' H' s8 ∧ tn i s8.heap ∧ (∀ b ∈ fp, H' b = none) ∧ W i m' σ' H' := fun {σ8 H8 s8} J8 n8 => by
        obtain ⟨m', hm, w8⟩ := hN σ8 H8 n8
        refine ⟨m', hm, i + 1, σ8, H8, J8.unpinned, T.keep _ _ _ st5 fun b hb o e => (J8.pin (b, o) (List.mem_append_right _ (List.mem_append_right _ (mem_pinsAt hb e)))).1, fun b hb => ?_, w8⟩
        obtain ⟨o, e, d⟩ := T.obj _ _ st5 b hb
        exact (J8.pin (b, o) (List.mem_append_right _ (List.mem_append_right _ (mem_pinsAt hb e)))).2.1
      refine wpAny_bind (wpAny_mono (ht _ _ _ _ s6 σ6 H6 _ J6 q6) (fun kb s6' ⟨H6', J6', q6'⟩ => ?_) fun _ _ z => z.elim)
      cases kb with
      | false =>
        have n6 : Nx σ6 H6' := q6'
        exact wpAny_pure ⟨rfl, fin2 J6' n6⟩
      | true =>
        have q7 : te σ6 H6' _ := q6'
        refine wpAny_bind (wpAny_bind (wpAny_mono (he _ _ _ _ s6' σ6 H6' _ J6' q7) (fun v s7 ⟨vv, H7, J7, r7, ys, e7, l7, n7⟩ => ?_) fun _ _ z => z.elim))
        refine wpAny_bind (wpAny_mono (mt_append (X := (cxComp X scope cs (ts ++ cs) s3 (upd H2 s2.heap.objs.size (.lst [])) fp)) _ s7 σ6 H7 (.ref s2.heap.objs.size) [vv] (.ref s2.heap.objs.size) [v] (fun _ H8 => Nx σ6 H8) J7 rfl (.cons r7 .nil) ⟨_, ys, vv, rfl, rfl, e7, l7, n7⟩) (fun _ s8 ⟨_, H8, J8, _, n8⟩ => ?_) fun _ _ z => z.elim)
        exact wpAny_pure (wpAny_pure ⟨rfl, fin2 J8 n8⟩)
  exact codeAny_compStart_list loop (T.self _ 0 _ _ _ st4 loop)
theorem pe_compG {elt iter tg : Expr} {ifs : List Expr} {ts : List Str} {pos : Pos} {wi : TI} {js : List Nat} {g : TG} {tc : TT} {te : TE} (c : Cap X scope cs) (hc : X.calm = true) (hj : js.map (fun j => X.N[j]?) = cs.map some) (hi : PI X tg iter wi)
    (hg : ∀ s₀ H₀ ex, PG (cxComp X scope cs (ts ++ cs) s₀ H₀ ex) tg g) (he : ∀ s₀ H₀ ex, PE (cxComp X scope cs (ts ++ cs) s₀ H₀ ex) elt te)
    (ht : ∀ s₀ H₀ ex, PTs (cxComp X scope cs (ts ++ cs) s₀ H₀ ex) ifs tc)
    (hs : ∀ x, foldedSetIterable iter X.env x = pure x := by intro _; rfl) : PE X (.ListComp elt [⟨tg, iter, ifs, 0⟩] scope pos) (tCompG wi ts.length js g tc te) := by
  intro pins s σ H Q I h
  rw [eval_ListComp]
  refine comp_core c hc hj hi hg he ht hs I (fun fp' s3 H3 acc σ' H' s4 I3 f3 J4 qn => ?_) h
  obtain ⟨m, hn, _⟩ := J4.loc
  exact ⟨m, hn, fun h' hs' => ⟨.ref acc, H', comp_end c I3 f3 J4 hs', rfl, qn⟩⟩
end
end L2


set_option Elab.async false
set_option linter.all false
set_option maxRecDepth 100000
set_option maxHeartbeats 4000000
namespace L2
open PySem PySem.Spec PyProof.Rows
open HL (W SO Sh Sg OR DE DT DA DS Fn)
section
variable {X : Cx} {γ : Str → Addr} {a b c e : Expr} {da db dc de : DE} {pos : Pos}
theorem lim_lt {n : Nat} (h : n < HL.LIM) : n < sizeLine := by
  have : HL.LIM = 100000 := rfl
  rw [sizeLine_eq]; omega
theorem stays_app {t : HL.It} {h : Sh} {o : SO} (st : t.stays h) : t.stays (h ++ [o]) := by
  have key : ∀ (i : Nat) (u : SO), h[i]? = some u → (h ++ [o])[i]? = some u := fun i u e => by
    rw [List.getElem?_append_left (List.getElem?_eq_some_iff.mp e).1]; exact e
  cases t with
  | fix xs => trivial
  | lst i xs =>
    have st' : HL.lstW h (.ref i) = some xs := st
    show HL.lstW _ (.ref i) = some xs
    unfold HL.lstW at st' ⊢
    simp only at st' ⊢
    cases q : h[i]? with
    | none => rw [q] at st'; cases st'
    | some u => rw [key i u q]; rw [q] at st'; exact st'
  | tup i xs =>
    have st' : HL.tupW h (.ref i) = some xs := st
    show HL.tupW _ (.ref i) = some xs
    unfold HL.tupW at st' ⊢
    simp only at st' ⊢
    cases q : h[i]? with
    | none => rw [q] at st'; cases st'
    | some u => rw [key i u q]; rw [q] at st'; exact st'
theorem stays_set {t : HL.It} {h : Sh} {k : Nat} {ys zs : List W} (st : t.stays h) (e : h[k]? = some (.lst ys)) (ne : ∀ i xs, t = .lst i xs → i ≠ k) : t.stays (h.set k (.lst zs)) := by
  cases t with
  | fix xs => trivial
  | lst i xs =>
    have st' : HL.lstW h (.ref i) = some xs := st
    show HL.lstW _ (.ref i) = some xs
    unfold HL.lstW at st' ⊢
    simp only at st' ⊢
    rw [List.getElem?_set_ne (fun z => ne i xs rfl z.symm)]
    exact st'
  | tup i xs =>
    have st' : HL.tupW h (.ref i) = some xs := st
    show HL.tupW _ (.ref i) = some xs
    unfold HL.tupW at st' ⊢
    have hne : k ≠ i := fun z => by
      subst z
      simp only [e] at st'
      cases st'
    simp only at st' ⊢
    rw [List.getElem?_set_ne hne]
    exact st'
theorem capG_eq {ρ : Nat → Addr} (n : Nat) (js : List Nat) (s : Sg) : capG n js (renS γ ρ s) = renS γ ρ (HL.capS n js s) := by
  unfold capG renS HL.capS
  rw [List.map_append, List.map_replicate, List.map_map]
  congr 1
  refine List.map_congr_left fun j _ => ?_
  simp only [Function.comp, List.getElem?_map]
  cases s[j]? with
  | none => rfl
  | some z => rfl
theorem wf_cap {m n : Nat} {js : List Nat} {s : Sg} (w : wfS m s) : wfS m (HL.capS n js s) := fun x hx => by
  unfold HL.capS at hx
  rcases List.mem_append.mp hx with z | z
  · cases (List.mem_replicate.mp z).2
  · obtain ⟨j, _, e⟩ := List.mem_map.mp z
    cases q : s[j]? with
    | none => rw [q] at e; cases e
    | some y =>
      rw [q] at e
      have e' : y = some x := e
      subst e'
      exact w x (List.mem_of_getElem? q)
theorem comp_of {di : HL.DI} {g : HL.DG} {dt : DT} {n : Nat} {js : List Nat} (σ : St) (H : Hp) (Q : VK) (x : eE X.K γ (HL.dComp di n js g dt de) σ H Q) : tCompG (eI X.K γ di) n js (eG X.K γ g) (eT X.K γ dt) (eE X.K γ de) σ H Q := by
  obtain ⟨ρ, s, h, S, x⟩ := x
  unfold HL.dComp at x
  refine ⟨ρ, s, h, S, ?_⟩
  cases q : di s h with
  | ex => rw [q] at x; exact x.elim
  | er => rw [q] at x; exact x.elim
  | ok t h1 =>
    rw [q] at x
    simp only [HL.R.bind] at x
    intro ρ1 H1 J n1 S1 st ⟨wi, wl⟩ acc hacc
    have T1 := S.next n1 S1
    have S2 : SimH X.K γ (put ρ1 h1.length acc) (h1 ++ [.lst []]) (upd H1 acc (.lst [])) := S1.push (o := .lst []) (fun y hy => by cases hy) (Ext.upd _ hacc) hacc upd_same
    have n2 := Nxt.push h1 ρ1 (.lst []) acc
    generalize hρ : put ρ1 h1.length acc = ρ2 at S2 n2
    have at2 : ρ2 h1.length = acc := by rw [← hρ]; exact put_at _ _ _
    generalize hh : h1 ++ [.lst []] = h2 at S2 n2 x
    have lt2 : h1.length < h2.length := by rw [← hh]; simp
    have st2 : t.stays h2 := by rw [← hh]; exact stays_app st
    have x2 := GoodR.later x (n1.trans n2)
    have T2 : Sim X.K γ ρ2 (HL.capS n js s) h2 (capG n js σ) (upd H1 acc (.lst [])) := ⟨S2, wf_cap ((S.ws.mono n1.le).mono n2.le), by rw [S.eq, capG_eq]; exact renS_ag (wf_cap S.ws) (n1.trans n2).ag⟩
    let St' : Nat → St → Hp → Prop := fun i σ' H' => i ≤ t.items.length ∧ ∃ ρ3 s3 h3, Sim X.K γ ρ3 s3 h3 σ' H' ∧ Nxt h2 ρ2 h3 ρ3 ∧ t.stays h3 ∧ GoodV X.K γ ρ3 h3 (HL.compW t g dt de h1.length (t.items.drop i) s3 h3) Q
    refine ⟨fun i m σ' H' => m = t.items.length - i ∧ St' i σ' H', ⟨_, rfl, Nat.zero_le _, ρ2, _, h2, T2, Nxt.refl _ _, st2, x2⟩, ?_⟩
    rintro i m σ' H' ⟨rfl, hi, ρ3, s3, h3, T3, n3, st3, g3⟩
    obtain ⟨w1, w2⟩ := wl ρ3 h3 H' (n2.trans n3) T3.hp st3 i
    cases e : t.items[i]? with
    | none =>
      have hl : t.items.length ≤ i := List.getElem?_eq_none_iff.mp e
      rw [List.drop_eq_nil_of_le hl] at g3
      refine .inl ⟨w1 hl, ?_⟩
      have z := g3 ρ3 H' (Nxt.refl _ _) T3.hp (Nat.lt_of_lt_of_le lt2 n3.le)
      rw [show renW γ ρ3 (.ref h1.length) = V.ref acc from congrArg V.ref ((n3.ag _ lt2).symm.trans at2)] at z
      exact z
    | some y =>
      obtain ⟨hlt, ey⟩ := List.getElem?_eq_some_iff.mp e
      obtain ⟨go, yl⟩ := w2 y e
      refine .inr ⟨go, St' (i + 1), fun σ3 H3 z => ⟨_, by omega, rfl, z⟩, fun v H3 hv => ?_⟩
      obtain ⟨rfl, rfl⟩ := yl v H3 hv
      rw [List.drop_eq_getElem_cons hlt, ey] at g3
      unfold HL.compW at g3
      have wy : wf h3.length y := ((wi y (List.mem_of_getElem? e)).mono n2.le).mono n3.le
      cases q3 : g y s3 h3 with
      | none => rw [q3] at g3; exact g3.elim
      | some s4 =>
        rw [q3] at g3
        simp only at g3
        refine ⟨ρ3, s3, h3, y, T3, rfl, wy, s4, q3, fun w4 => ?_⟩
        have T4 : Sim X.K γ ρ3 s4 h3 (renS γ ρ3 s4) H3 := ⟨T3.hp, w4, rfl⟩
        refine ⟨ρ3, s4, h3, T4, GoodR.bind g3 fun kb h5 ρ5 H5 _ n5 S5 _ g5 => ?_⟩
        have T5 := T4.next n5 S5
        cases kb with
        | false =>
          simp only [Bool.false_eq_true, if_false] at g5 ⊢
          split at g5
          · rename_i st5
            exact ⟨hlt, ρ5, s4, h5, T5, n3.trans n5, st5, g5⟩
          · exact g5.elim
        | true =>
          simp only [if_true] at g5 ⊢
          refine ⟨ρ5, s4, h5, T5, GoodR.bind g5 fun v h6 ρ6 H6 _ n6 S6 w6 g6 => ?_⟩
          have T6 := T5.next n6 S6
          have at6 : ρ6 h1.length = acc := ((((n3.trans n5).trans n6).ag _ lt2).symm).trans at2
          cases q6 : h6[h1.length]? with
          | none => rw [q6] at g6; exact g6.elim
          | some ob =>
            rw [q6] at g6
            cases ob with
            | lst ys =>
              simp only at g6
              split at g6
              · rename_i cond
                have ob6 : H6 (ρ6 h1.length) = some (.lst (ys.map (renW γ ρ6))) := S6.ob _ _ q6
                rw [at6] at ob6
                refine ⟨_, ob6, by rw [List.length_map]; exact lim_lt cond.1, ?_⟩
                have S7 := S6.chg (u := .lst (ys ++ [v])) (v := .lst ((ys ++ [v]).map (renW γ ρ6))) q6 rfl rfl (by
                  intro z hz
                  rcases List.mem_append.mp hz with z1 | z1
                  · exact S6.wf _ _ q6 z z1
                  · rw [List.mem_singleton.mp z1]; exact w6) upd_same
                rw [at6, List.map_append] at S7
                refine ⟨hlt, ρ6, s4, _, ⟨S7, by rw [List.length_set]; exact T6.ws, T6.eq⟩, ((n3.trans n5).trans n6).trans (Nxt.chg _ _ _ _), ?_, GoodR.later g6 (Nxt.chg _ _ _ _)⟩
                refine stays_set cond.2.1 q6 fun j xs ej z => ?_
                subst ej
                have st0 : HL.lstW h1 (.ref j) = some xs := st
                rw [z] at st0
                unfold HL.lstW at st0
                simp only [List.getElem?_eq_none_iff.mpr (Nat.le_refl h1.length)] at st0
                cases st0
              · exact g6.elim
            | _ => exact g6.elim
theorem qts_one {X : Cx} {γ : Str → Addr} {c : Expr} {dt : DT} (h : QT γ X c dt) : PTs X [c] (eT X.K γ dt) := pts_one h
theorem q_comp {elt iter tg : Expr} {ifs : List Expr} {scope : Scope} {cs ts : List Str} {js : List Nat} {di : HL.DI} {g : HL.DG} {dt : DT} (c : Cap X scope cs) (hc : X.calm = true) (hj : js.map (fun j => X.N[j]?) = cs.map some) (hi : QI γ X tg iter di)
    (hg : ∀ s₀ H₀ ex, QG γ (cxComp X scope cs (ts ++ cs) s₀ H₀ ex) tg g) (ht : ∀ s₀ H₀ ex, PTs (cxComp X scope cs (ts ++ cs) s₀ H₀ ex) ifs (eT X.K γ dt)) (he : ∀ s₀ H₀ ex, QE γ (cxComp X scope cs (ts ++ cs) s₀ H₀ ex) elt de)
    (hs : ∀ x, foldedSetIterable iter X.env x = pure x := by intro _; rfl) : QE γ X (.ListComp elt [⟨tg, iter, ifs, 0⟩] scope pos) (HL.dComp di ts.length js g dt de) :=
  (pe_compG (ts := ts) c hc hj hi hg he ht hs).imp comp_of
end
end L2


set_option Elab.async false
set_option linter.all false
set_option maxRecDepth 100000
set_option maxHeartbeats 4000000
namespace L2
open PySem PySem.Spec PyProof.Rows
open HL (W SO Sh Sg OR DE DT DA DS Fn)
/-! ### all -/
section
variable {X : Cx} {K : PySem.W.Frag} {γ : Str → Addr}
/-! ### methods of built-in values -/
def MtS (K : PySem.W.Frag) (γ : Str → Addr) (r : V → List V → Hp → VK → Prop) (f : W → List W → Sh → HL.R W) : Prop := ∀ ρ h H x xs Q, SimH K γ ρ h H → wf h.length x → wfs h.length xs → GoodV K γ ρ h (f x xs h) Q → r (renW γ ρ x) (xs.map (renW γ ρ)) H Q
def TyS (K : PySem.W.Frag) (γ : Str → Addr) (T : String) (t : W → Sh → Bool) : Prop := ∀ ρ h H x, SimH K γ ρ h H → t x h = true → tyV K T (renW γ ρ x) H
variable {e o : Expr} {es : List Expr} {d : DA} {de : DE} {name : Str} {apos cpos : Pos} {T id : String} {r : V → List V → Hp → VK → Prop} {f : W → List W → Sh → HL.R W} {t : W → Sh → Bool}
theorem q_bm (pa : PlainAttrs T) (slot : Slot T name id) (hty : typeOf (.builtin id) = pure (.type "method_descriptor")) (hm : MtR X id r) (ms : MtS X.K γ r f) (ts : TyS X.K γ T t) (ho : QE γ X o de) (ha : QA γ X (e :: es) d)
    (hbase : attributeBase o name X.env (eval o X.env) = eval o X.env := by rfl)
    (hfew : ((backTo cpos (starEach (e :: es) X.env)).all (fun x => !x.1) && (backToKw cpos (keywordEach [] X.env)).all (fun x => x.1.isSome)
      && decide ((e :: es).length + ([] : List Keyword).length + (if ([] : List Keyword).isEmpty then 0 else 1) < 30)) = true := by rfl)
    (hline : (apos.endLine == cpos.line) = true := by rfl) (hs : starEach (e :: es) X.env = (false, eval e X.env) :: starEach es X.env := by rfl) (hplain : (backTo cpos (starEach es X.env)).any (·.1) = false := by rfl) :
    QE γ X (.Call (.Attribute o name apos) (e :: es) [] cpos) (HL.dMt t f de d) := (pe_bm pa slot hty hm ho ha hbase hfew hline hs hplain).imp fun σ H Q x => by
  obtain ⟨ρ, s, h, S, x⟩ := x
  refine ⟨ρ, s, h, S, GoodR.bind x fun v h1 ρ1 H1 _ n1 S1 w1 x1 => ?_⟩
  split at x1
  · rename_i ht
    refine ⟨ts ρ1 h1 H1 v S1 ht, ρ1, s, h1, S.next n1 S1, GoodR.bind x1 fun us h2 ρ2 H2 _ n2 S2 w2 x2 => ?_⟩
    rw [ren_ag w1 n2.ag]
    exact ms ρ2 h2 H2 v us Q S2 (w1.mono n2.le) w2 x2
  · exact x1.elim
theorem ts_lst : TyS K γ "list" HL.isLst := by
  intro ρ h H x S ht
  unfold HL.isLst at ht
  cases q : HL.lstW h x with
  | none => rw [q] at ht; cases ht
  | some xs =>
    obtain ⟨i, rfl, sq, _⟩ := lstW_sq S q
    exact .inl ⟨rfl, _, sq⟩
end
/-! ### isinstance -/
section
variable {X : Cx} {pins : List (Addr × Obj)} {σ : St} {H : Hp} {s : Shared}
theorem exc_kit {K : PySem.W.Frag} {a C : Addr} {ox : Obj} {od : Option Obj} (k : ExcIs K C) : PySem.W.KitX K (.ref a) (.ref C) (fun h => PySem.W.InstAt h a ox C od) := {
    ty := fun _ _ _ I => I.type
    it := fun _ h KX _ => by
      obtain ⟨bm, N, nm, qn, bs, sn, sub, ab, col, dd, k0, k1, k2, k3, k5, hC, T', hcl⟩ := exc_obj KX k.cl
      intro A' Q' E' s' kk q
      unfold isType loadHead
      exact wpAny_bind (wpAny_loadPart (kk _ _ hC) (wpAny_pure q))
    ne := fun h tp dd its n sl KX htp => by
      obtain ⟨bm, N, nm, qn, bs, sn, sub, ab, col, dd, k0, k1, k2, k3, k5, hC, T', hcl⟩ := exc_obj KX k.cl
      refine Bool.eq_false_iff.mpr fun q => ?_
      have e : C = tp := Value.ref.inj (beq_iff_eq.mp q)
      subst e
      have z := Option.some.inj (hC.symm.trans htp)
      have z2 := congrArg Obj.cls z
      injection z2 with z3
      exact absurd z3 (by decide)
    ca := fun KX I' kk => exc_class k KX I' kk }
inductive TyH (K : PySem.W.Frag) (H : Hp) : V → Value → Prop where
  | of {x t} : TyOf K H x t → TyH K H x t
  | lst {a xs} : SqL K H a xs → TyH K H (.ref a) (.type "list")
  | tup {a xs} : SqT K H a xs → TyH K H (.ref a) (.type "tuple")
  | exc {a C dx fs} : H a = some (.exc C dx fs) → ExcIs K C → TyH K H (.ref a) (.ref C)
theorem kit_of {x : V} {u t : Value} (I : Inv X pins σ H s) (r : RelV x u) (ty : TyH X.K H x t) : ∃ P, PySem.W.KitX X.K u t P ∧ P s.heap ∧ u ≠ .builtin "__main__.__loader__#opaque" := by
  cases ty with
  | of ty =>
    cases ty with
    | non => cases r; exact ⟨_, PySem.W.kitx_none, True.intro, fun z => nomatch z⟩
    | bl y => cases r; exact ⟨_, PySem.W.kitx_bool, True.intro, fun z => nomatch z⟩
    | int i => obtain ⟨t, rfl⟩ := r; exact ⟨_, PySem.W.kitx_int, True.intro, fun z => nomatch z⟩
    | str y => obtain ⟨t, rfl⟩ := r; exact ⟨_, PySem.W.kitx_str, True.intro, fun z => nomatch z⟩
    | flt y => obtain ⟨t, rfl⟩ := r; exact ⟨_, PySem.W.kitx_float, True.intro, fun z => nomatch z⟩
    | @lst a xs ea =>
      cases r
      obtain ⟨_, _, n, _, h1⟩ := (show ObjOk X.prog X.w H s.heap a (.lst xs) from I.hok a _ ea)
      exact ⟨_, PySem.W.kitx_list, ⟨_, h1, rfl⟩, fun z => nomatch z⟩
    | @frz a ob xs ea =>
      cases r
      obtain ⟨_, _, _, n, _, h1⟩ := (show ObjOk X.prog X.w H s.heap a (.frz ob (.lst xs)) from I.hok a _ ea)
      exact ⟨_, PySem.W.kitx_list, ⟨_, h1, rfl⟩, fun z => nomatch z⟩
    | @tup a xs ea =>
      cases r
      obtain ⟨_, _, _, p⟩ := (show ObjOk X.prog X.w H s.heap a (.tup xs) from I.hok a _ ea)
      obtain ⟨o, h1, h2, _⟩ := p
      exact ⟨_, PySem.W.kitx_tuple, ⟨o, h1, h2⟩, fun z => nomatch z⟩
    | @dK a kvs ea =>
      cases r
      obtain ⟨_, _, vs, _, p⟩ := (show ObjOk X.prog X.w H s.heap a (.dK kvs) from I.hok a _ ea)
      obtain ⟨o, es, ep, h1, h2, _⟩ := p
      exact ⟨_, PySem.W.kitx_dict, ⟨o, h1, h2.1⟩, fun z => nomatch z⟩
    | @dT a kvs ea =>
      cases r
      obtain ⟨_, _, xs, _, o, es, ep, h1, h2, _⟩ := (show ObjOk X.prog X.w H s.heap a (.dT kvs) from I.hok a _ ea)
      exact ⟨_, PySem.W.kitx_dict, ⟨o, h1, h2.1⟩, fun z => nomatch z⟩
    | @ins a C dx fs ea cl ha hn htk hm =>
      cases r
      obtain ⟨mA, O, _⟩ := ins_get I.hok ea
      obtain ⟨od, J, _⟩ := O.look
      exact ⟨_, PySem.W.kitx_own (cl.get _) cl.hd ha hn htk hm, J, fun z => nomatch z⟩
  | lst hq =>
    cases r
    obtain ⟨its, _, p, _⟩ := I.list hq
    obtain ⟨o, n, e, c, _⟩ := p
    exact ⟨_, PySem.W.kitx_list, ⟨o, e, c⟩, fun z => nomatch z⟩
  | tup hq =>
    cases r
    obtain ⟨its, _, p, _⟩ := I.tuple hq
    obtain ⟨o, h1, h2, _⟩ := p
    exact ⟨_, PySem.W.kitx_tuple, ⟨o, h1, h2⟩, fun z => nomatch z⟩
  | exc e k =>
    cases r
    obtain ⟨ox, od, J, _⟩ := exc_look I e
    exact ⟨_, exc_kit k, J, fun z => nomatch z⟩
theorem vals_cls : ∀ {cs : List V} {us : List Value}, Vals cs us → cs.all isC = true → us = cs.map clsOf
  | _, _, .nil, _ => rfl
  | c :: cs, u :: us, .cons r t, h => by
    rw [List.all_cons, Bool.and_eq_true] at h
    rw [List.map_cons, ← vals_cls t h.2, r.cls h.1]
def rIsiT (K : PySem.W.Frag) : List V → Hp → VK → Prop := fun xs H Q => ∃ x c t b, xs = [x, c] ∧ TyH K H x t ∧ Q (.bl b) H ∧
  ((isC c = true ∧ PySem.W.kitOne K t (clsOf c) = some b) ∨ ∃ a cs, c = .ref a ∧ SqT K H a cs ∧ cs.all isC = true ∧ PySem.W.kitAny K t (cs.map clsOf) = some b)
theorem call_isiT : CallR X (.builtin "isinstance") (rIsiT X.K) := by
  intro pins s σ H xs us Q I r h
  obtain ⟨x, c, t, b, rfl, ty, q, h⟩ := h
  obtain ⟨u, w', rfl, rx, rc'⟩ := vals2 r
  obtain ⟨P, Z, p, ne⟩ := kit_of I rx ty
  rcases h with ⟨hc, e⟩ | ⟨a, cs, rfl, ha, hcs, e⟩
  · rw [rc'.cls hc]
    exact PySem.W.kia_one Z I.kIn p e ne fun tk => ⟨.bl b, H, I.tok _, rfl, q⟩
  · cases rc'
    obtain ⟨its, rv, ⟨o, ho, hc, n, hd⟩, _⟩ := I.tuple ha
    obtain ⟨oc, od, odt, osl⟩ := o
    cases hc
    cases hd
    rw [← vals_cls rv hcs] at e
    exact PySem.W.kia_tup Z I.kIn p ho e ne fun tk => ⟨.bl b, H, I.tok _, rfl, q⟩
end
structure IsiOk (K : PySem.W.Frag) (γ : Str → Addr) (T : HL.CT) : Prop where
  cls : ∀ c l, T.lookup c = some l → (l.contains (.ty "ValueError") = false → InsOk K (γ c)) ∧ (l.contains (.ty "ValueError") = true → ExcIs K (γ c))
  ins : ∀ c l, T.lookup c = some l → ∀ x m, T.lookup x = some m → PySem.W.kitOne K (.ref (γ c)) (.ref (γ x)) = some (l.contains (.gl x))
  bi : ∀ c l, T.lookup c = some l → ∀ b ∈ HL.biN, PySem.W.kitOne K (.ref (γ c)) (.type b) = some (l.contains (.ty b))
  no : ∀ x m, T.lookup x = some m → ∀ a ∈ "NoneType" :: HL.biN, PySem.W.kitOne K (.type a) (.ref (γ x)) = some false
theorem kit_bi (K : PySem.W.Frag) : ∀ a ∈ "NoneType" :: HL.biN, ∀ b ∈ HL.biN, PySem.W.kitOne K (.type a) (.type b) = some (HL.subB a b) := by
  intro a ha b hb
  simp only [HL.biN, List.mem_cons, List.not_mem_nil, or_false] at ha hb
  rcases ha with rfl | rfl | rfl | rfl | rfl | rfl | rfl <;> rcases hb with rfl | rfl | rfl | rfl | rfl | rfl <;> rfl
section
variable {K : PySem.W.Frag} {γ : Str → Addr} {ρ : Nat → Addr} {h : Sh} {H : Hp} {T : HL.CT}
def tyK (γ : Str → Addr) : HL.Ty → Value
  | .bi n => .type n
  | .own _ c => .ref (γ c)
def tyIn (T : HL.CT) : HL.Ty → Prop
  | .bi n => n ∈ "NoneType" :: HL.biN
  | .own k c => ∃ l, T.lookup c = some l ∧ l.contains (.ty "ValueError") = k
theorem tyW_bi {x : W} {n : String} (e : HL.tyW h x = some (.bi n)) : n ∈ "NoneType" :: HL.biN := by
  unfold HL.tyW at e
  cases x with
  | ref j =>
    simp only at e
    cases q : h[j]? with
    | none => rw [q] at e; cases e
    | some o => rw [q] at e; cases o <;> cases e <;> decide
  | ty _ => cases e
  | gl _ => cases e
  | _ => cases e; decide
theorem tyW_of {x : W} {t : HL.Ty} (O : IsiOk K γ T) (S : SimH K γ ρ h H) (e : HL.tyW h x = some t) (i : tyIn T t) : TyH K H (renW γ ρ x) (tyK γ t) := by
  cases x with
  | non => cases e; exact .of .non
  | bl b => cases e; exact .of (.bl b)
  | int j => cases e; exact .of (.int j)
  | str y => cases e; exact .of (.str y)
  | ref j =>
    unfold HL.tyW at e
    simp only at e
    cases q : h[j]? with
    | none => rw [q] at e; cases e
    | some o =>
      rw [q] at e
      have ob := S.ob j o q
      cases o with
      | lst xs => cases e; exact .lst (SqL.of ob)
      | rol xs => cases e; exact .lst (show RoL _ _ _ _ from ob).sq
      | tup xs => cases e; exact .tup ob
      | ins c fs =>
        cases e
        obtain ⟨dx, hd⟩ := ob
        obtain ⟨l, hl, hk⟩ := i
        have k := (O.cls c l hl).1 hk
        exact .of (.ins hd k.cl k.ha k.hn k.htk k.hm)
      | exc c fs =>
        cases e
        obtain ⟨dx, hd⟩ := ob
        obtain ⟨l, hl, hk⟩ := i
        exact .exc hd ((O.cls c l hl).2 hk)
  | _ => cases e
theorem isi1_of {t : HL.Ty} {c : W} {b : Bool} (O : IsiOk K γ T) (e : HL.isi1 T t c = some b) (bi : ∀ n, t = .bi n → n ∈ "NoneType" :: HL.biN) : tyIn T t ∧ isC (renW γ ρ c) = true ∧ PySem.W.kitOne K (tyK γ t) (clsOf (renW γ ρ c)) = some b := by
  unfold HL.isi1 at e
  split at e
  · rename_i a b' 
    split at e
    · rename_i hb
      cases e
      have ha := bi a rfl
      exact ⟨ha, rfl, kit_bi K a ha b' (List.contains_iff_mem.mp hb)⟩
    · cases e
  · rename_i a x
    split at e
    · rename_i hx
      cases e
      have ha := bi a rfl
      cases q : T.lookup x with
      | none => rw [q] at hx; cases hx
      | some m => exact ⟨ha, rfl, O.no x m q a ha⟩
    · cases e
  · rename_i k a
    split at e
    · rename_i l hl
      split at e
      · rename_i hk
        split at e
        · rename_i b'
          split at e
          · rename_i hb; cases e; exact ⟨⟨l, hl, hk⟩, rfl, O.bi a l hl b' (List.contains_iff_mem.mp hb)⟩
          · cases e
        · rename_i x
          split at e
          · rename_i hx
            cases e
            cases q : T.lookup x with
            | none => rw [q] at hx; cases hx
            | some m => exact ⟨⟨l, hl, hk⟩, rfl, O.ins a l hl x m q⟩
          · cases e
        · cases e
      · cases e
    · cases e
  · cases e
theorem isiN_of {t : HL.Ty} (O : IsiOk K γ T) (bi : ∀ n, t = .bi n → n ∈ "NoneType" :: HL.biN) : ∀ (cs : List W) (b : Bool), HL.isiN T t cs = some b → cs ≠ [] → tyIn T t ∧ (∀ c ∈ (cs.map (renW γ ρ)).take 1, isC c = true) ∧ PySem.W.kitAny K (tyK γ t) ((cs.map (renW γ ρ)).map clsOf) = some b
  | [], _, _, ne => absurd rfl ne
  | c :: cs, b, e, _ => by
    unfold HL.isiN at e
    cases q : HL.isi1 T t c with
    | none => rw [q] at e; cases e
    | some k =>
      rw [q] at e
      obtain ⟨ti, ic, kk⟩ := isi1_of (ρ := ρ) O q bi
      refine ⟨ti, ?_, ?_⟩
      · intro c' hc'
        rw [List.map_cons, List.take_succ_cons, List.take_zero] at hc'
        rw [List.mem_singleton.mp hc']; exact ic
      · rw [List.map_cons, List.map_cons]
        unfold PySem.W.kitAny
        rw [kk]
        cases k with
        | true => cases e; rfl
        | false =>
          simp only at e ⊢
          cases cs with
          | nil => cases e; rfl
          | cons c2 r => exact (isiN_of O bi (c2 :: r) b e (fun z => nomatch z)).2.2
theorem cs_isi (O : IsiOk K γ T) : CbS K γ (rIsiT K) (HL.bIsi T) := by
  intro ρ h H xs Q S w q
  unfold HL.bIsi at q
  split at q
  · rename_i x c
    split at q
    · rename_i b e
      have qq := q trivial
      unfold HL.isi at e
      cases q1 : HL.tyW h x with
      | none => rw [q1] at e; cases e
      | some t =>
        rw [q1] at e
        have bi : ∀ n, t = .bi n → n ∈ "NoneType" :: HL.biN := fun n z => by subst z; exact tyW_bi q1
        simp only at e
        split at e
        · rename_i i
          split at e
          · rename_i cs q2
            split at e
            · rename_i hcs
              obtain ⟨h1, h2⟩ := (Bool.and_eq_true _ _).mp hcs
              have ne : cs ≠ [] := fun z => by rw [z] at h2; cases h2
              obtain ⟨ti, _, kk⟩ := isiN_of (ρ := ρ) O bi cs b e ne
              refine ⟨_, _, _, b, rfl, tyW_of O S q1 ti, qq, .inr ⟨_, _, rfl, S.ob i _ q2, ?_, kk⟩⟩
              rw [List.all_map]
              refine List.all_eq_true.mpr fun c hc => ?_
              have := List.all_eq_true.mp h1 c hc
              cases c <;> first | rfl | cases this
            · cases e
          · cases e
        · obtain ⟨ti, ic, kk⟩ := isi1_of (ρ := ρ) O e bi
          exact ⟨_, _, _, b, rfl, tyW_of O S q1 ti, qq, .inl ⟨ic, kk⟩⟩
    · exact q.elim
  · exact q.elim
theorem nw_isi (x : List W) (h : Sh) : newOk (HL.bIsi T x h) = true := by
  unfold HL.bIsi; split
  · split <;> rfl
  · rfl
end
end L2


set_option Elab.async false
set_option linter.all false
set_option maxRecDepth 100000
set_option maxHeartbeats 4000000
namespace L2
open PySem PySem.Spec PyProof.Rows
open HL (W SO Sh Sg OR DE DT DA DS Fn)
/-! ### the law -/
def sp_lawR (K : PySem.W.Frag) : Sp := fun vs H Q _ => match vs with
  | [x] => ∃ (a : Addr) (ns : List Int), x = .ref a ∧ RoL K H a (ns.map V.int) ∧ ns.length ≤ 63 ∧ ∀ H', Q (.bl true) H'
  | _ => False
def LawR (P : Program) (w : World) (K : PySem.W.Frag) (mg : Str → Option Value) (k : Nat) : Prop := ∃ f fd, mg "law" = some (.ref f) ∧ (∀ (s : Shared) (u : Value), BindsTo s fd ⟨[u], []⟩ [("_law_script", u)]) ∧ ∀ base : Heap, FnOk P w K mg base CX0 k f fd ["_law_script"] (sp_lawR K)
theorem walk_lawR {l : PySem.W.OpenLaw} {k : Nat} {q : Program} {loose : List Str} {XP : (Str → Option Value) → Heap → Prop} {YP : World → Heap → Prop} {d : DefRec} {K : Params → PySem.W.Frag} (hn : l.most = some 63) (hdf : d.params.defaults = []) (hr : Room k callerA)
    (hY : ∀ (w : World) (h : Heap), YP w h → (K w.params).In h) (hd : d.name = "law")
    (hF : ∀ (w : World) (mg : Str → Option Value) (h : Heap), (K w.params).In h → h.Ns mainGlobals mg → LawR l.prog w (K w.params) mg k) :
    PySem.W.WalkO q loose XP YP l.row.toRowW d [] (fun f vs => PySem.call f vs) :=
  L2.walk_of (n := 63) (k := k) (x := "_law_script") (CX := fun _ => CX0) (sp := fun w => sp_lawR (K w.params)) hn (by decide) hdf hr hY (fun w mg fa h KX G hm => by
    rw [hd] at hm
    obtain ⟨f, fd, m, b, ok⟩ := hF w mg h KX G
    rw [m] at hm
    cases hm
    exact ⟨fd, b, fun base _ _ => ok base⟩) (fun w H a ns hl hO hS => ⟨a, ns, rfl, by
      rcases hS with (h | h) | h
      · rcases hO a with z | ⟨o, xs, z⟩
        · rw [h] at z; cases z
        · rw [h] at z; cases z
      · exact .inl h
      · exact .inr h, hl, fun _ => rfl⟩) fun _ _ _ _ _ z => z
structure ConsOk (K : PySem.W.Frag) (γ : Str → Addr) (ρ : Nat → Addr) (cs : List SO) : Prop where
  ob : ∀ (i : Nat) (o : SO), cs[i]? = some o → ∀ H, ObS γ ρ K H (ρ i) o
  mu : ∀ o ∈ cs, mutO o = false
  wf : ∀ o ∈ cs, wfO cs.length o
theorem ConsOk.nil {K : PySem.W.Frag} {γ : Str → Addr} {ρ : Nat → Addr} : ConsOk K γ ρ [] := ⟨(fun i o e => by simp at e), (fun o h => by cases h), (fun o h => by cases h)⟩
theorem law_start {K : PySem.W.Frag} {γ : Str → Addr} {ρ : Nat → Addr} {cs : List SO} {H : Hp} {a : Addr} {ns : List Int} (c : ConsOk K γ ρ cs) (r : RoL K H a (ns.map V.int)) : SimH K γ (put ρ cs.length a) (cs ++ [.rol (ns.map W.int)]) H where
  ob := fun i o e => by
    rw [getElem?_snoc] at e
    by_cases h1 : i < cs.length
    · rw [if_pos h1] at e
      rw [← put_ag ρ cs.length a i h1]
      exact (c.ob i o e H).ren (c.wf o (List.mem_of_getElem? e)) (put_ag _ _ _)
    · rw [if_neg h1] at e
      by_cases h2 : i = cs.length
      · rw [if_pos h2] at e
        cases e
        rw [h2, put_at]
        show RoL K H a _
        rw [List.map_map]
        exact r
      · rw [if_neg h2] at e; cases e
  inj := fun i j o u e1 e2 m1 m2 q => by
    have mu : ∀ i o, (cs ++ [SO.rol (ns.map W.int)])[i]? = some o → mutO o = false := fun i o e => by
      rcases List.mem_append.mp (List.mem_of_getElem? e) with z | z
      · exact c.mu o z
      · rw [List.mem_singleton.mp z]; rfl
    rw [mu i o e1] at m1; cases m1
  wf := fun i o e => by
    rcases List.mem_append.mp (List.mem_of_getElem? e) with z | z
    · exact (c.wf o z).mono (by simp)
    · rw [List.mem_singleton.mp z]
      intro x hx
      obtain ⟨n, _, rfl⟩ := List.mem_map.mp hx
      trivial
theorem TopFn.qlaw {P : Program} {w : World} {K : PySem.W.Frag} {mg : Str → Option Value} {γ : Str → Addr} {ρ : Nat → Addr} {cs : List SO} {st : Stmt} {N : List Str} {k n : Nat} {bd : DS} (F : TopFn K mg "law" st) (S : FnScope N ["_law_script"] (defScope st)) (hn : N.length = n) (c : ConsOk K γ ρ cs)
    (hb : ∀ (kV doc pm : Value) (an : Option Addr) (cdv ct : Value) (us : List Value), us.length = 1 → bindArgs (PySem.W.fnOf "law" "law" (defArgs st) (defBody st) (defScope st) .none kV doc pm an cdv ct) ⟨us, []⟩ = pure ((["_law_script"] : List Str).zip us))
    (hbody : ∀ (base : Heap) (f : Addr) (cdv : Value) (A : Around) (outer : List Env) (s : Shared) (H : Hp) (E : XK), Room k (A.deeper (envOfC "law" (defScope st) s.heap.objs.size f cdv)) →
      QSs γ (cxOf CX0 P w K mg base N "law" (defScope st) f cdv A outer s H E).nox (defBody st) bd)
    (good : ∀ ns : List Int, ns.length ≤ 63 → ∃ h', HL.fnOf 1 n bd [.ref cs.length] (cs ++ [.rol (ns.map W.int)]) = .ok (.bl true) h') : LawR P w K mg (k + 1) := by
  subst hn
  obtain ⟨f, fd, F, m⟩ := F.ex
  refine ⟨f, fd, m, fun s u => ?_, fun base => F.ok S (fun vs H Q E h => ?_) fun cdv A outer s H vs Q E hr h => ?_⟩
  · obtain ⟨oc, od, kV, doc, pm, an, cdv, ct, osl, rfl, lk, hcd⟩ := F.ex
    exact .of_eq (hb kV doc pm an cdv ct [u] rfl)
  · match vs, h with
    | [x], _ => rfl
  · match vs, h with
    | [x], ⟨a, ns, e, r, hl, q⟩ =>
      refine ⟨_, hbody base f cdv A outer s H E hr, ?_⟩
      subst e
      have S0 := law_start c r
      obtain ⟨h', e⟩ := good ns hl
      have := fn_good (N := N) (us := [.ref cs.length]) (bd := bd) (Q := Q) (p := 1) S0 (fun x hx => by rw [List.mem_singleton.mp hx]; show cs.length < (cs ++ [_]).length; simp) (by
        rw [e]
        exact fun _ H1 _ _ _ => q H1)
      rw [show ([W.ref cs.length].map (renW γ (put ρ cs.length a))) = [V.ref a] by simp [renW, put_at]] at this
      exact this
/-! ### xs[::-1] -/
section
variable {X : Cx} {γ : Str → Addr} {a : Expr} {da : DE} {pos p2 : Pos}
end
end L2


set_option Elab.async false
set_option linter.all false
set_option maxRecDepth 100000
set_option maxHeartbeats 4000000
namespace L2
open PySem PySem.Spec PyProof.Rows
open HL (W SO Sh Sg OR DE DT DA DS Fn)
section
variable {X : Cx} {γ : Str → Addr} {a b c e o : Expr} {da db dc de d1 : DE} {pos pos' apos : Pos}
theorem lookup_ren {ρ : Nat → Addr} (f : Str) : ∀ fs : List (Str × W), (renF γ ρ fs).lookup f = (fs.lookup f).map (renW γ ρ)
  | [] => rfl
  | (g, x) :: r => by
    unfold renF
    rw [List.map_cons]
    by_cases e : f = g
    · subst e; simp only [List.lookup, beq_self_eq_true, Option.map_some]
    · have : (f == g) = false := by simpa using e
      simp only [List.lookup, this]
      exact lookup_ren f r
theorem mem_lookup {f : Str} {v : W} : ∀ {fs : List (Str × W)}, fs.lookup f = some v → ∃ p ∈ fs, p.2 = v
  | (g, x) :: r, e => by
    by_cases q : f = g
    · subst q
      simp only [List.lookup, beq_self_eq_true, Option.some.injEq] at e
      exact ⟨(f, x), List.mem_cons_self, e⟩
    · have z : (f == g) = false := by simpa using q
      simp only [List.lookup, z] at e
      obtain ⟨p, hp, hv⟩ := mem_lookup e
      exact ⟨p, List.mem_cons_of_mem _ hp, hv⟩
theorem put_ren {ρ : Nat → Addr} (f : Str) (v : W) : ∀ fs : List (Str × W), renF γ ρ (HL.putW f v fs) = putF f (renW γ ρ v) (renF γ ρ fs)
  | [] => rfl
  | (g, x) :: r => by
    unfold HL.putW
    by_cases e : g = f
    · rw [if_pos e]; simp only [renF, List.map_cons, putF, if_pos e]
    · rw [if_neg e]
      have ih := put_ren (ρ := ρ) f v r
      simp only [renF, List.map_cons, putF, if_neg e] at ih ⊢
      rw [ih]
theorem wf_putW {n : Nat} {f : Str} {v : W} (wv : wf n v) : ∀ {fs : List (Str × W)}, (∀ p ∈ fs, wf n p.2) → ∀ p ∈ HL.putW f v fs, wf n p.2
  | [], _, p, hp => by
    unfold HL.putW at hp
    rw [List.mem_singleton.mp hp]; exact wv
  | (g, x) :: r, w, p, hp => by
    unfold HL.putW at hp
    by_cases e : g = f
    · rw [if_pos e] at hp
      rcases List.mem_cons.mp hp with z | z
      · rw [z]; exact wv
      · exact w p (List.mem_cons_of_mem _ z)
    · rw [if_neg e] at hp
      rcases List.mem_cons.mp hp with z | z
      · rw [z]; exact w (g, x) List.mem_cons_self
      · exact wf_putW wv (fun q hq => w q (List.mem_cons_of_mem _ hq)) p z
def FldOk (K : PySem.W.Frag) (γ : Str → Addr) (cs : List Str) (f : Str) : Prop := ∀ c ∈ cs, Cls K (γ c) ∧ NoAttr K (γ c) f
theorem q_fld {cs : List Str} {f : Str} (k : FldOk X.K γ cs f) (he : QE γ X e de) (hb : attributeBase e f X.env (eval e X.env) = eval e X.env := by rfl) : QE γ X (.Attribute e f pos) (HL.dFld cs f de) :=
  (pe_fld he hb).imp fun σ H Q ⟨ρ, s, h, S, x⟩ => by
    unfold HL.dFld at x
    refine ⟨ρ, s, h, S, GoodR.bind x fun v h1 ρ1 H1 _ n1 S1 w1 x1 => ?_⟩
    cases v with
    | ref i =>
      simp only [HL.getF] at x1
      cases q : h1[i]? with
      | none => rw [q] at x1; exact x1.elim
      | some ob =>
        rw [q] at x1
        cases ob with
        | ins c fs =>
          simp only at x1
          split at x1
          · rename_i v e1
            split at e1
            · rename_i hc
              obtain ⟨dx, ea⟩ := S1.ob i _ q
              have k1 := k c (by simpa using hc)
              refine ⟨ρ1 i, γ c, dx, renF γ ρ1 fs, renW γ ρ1 v, rfl, ea, k1.1, k1.2, by rw [lookup_ren, e1]; rfl, ?_⟩
              obtain ⟨p, hp, rfl⟩ := mem_lookup e1
              exact x1 ρ1 H1 (Nxt.refl _ _) S1 (S1.wf i _ q p hp)
            · cases e1
          · exact x1.elim
        | _ => exact x1.elim
    | _ => exact x1.elim
theorem qs_fld {cs : List Str} {f : Str} (k : FldOk X.K γ cs f) (ho : QE γ X o d1) (he : QE γ X e de) (hs : swapsWith e (some (.Attribute o f pos')) pos.line X.env = pure false := by rfl) : QS γ X (.Assign [.Attribute o f pos'] e pos) (HL.sFld cs f d1 de) :=
  (ps_fld ho he hs).imp fun D σ H ⟨ρ, s, h, S, x⟩ => by
    unfold HL.sFld at x
    refine ⟨ρ, s, h, S, ?_⟩
    cases q1 : de s h with
    | ok v h1 =>
      rw [q1] at x
      intro ρ1 H1 n1 S1 w1
      have T1 := S.next n1 S1
      refine ⟨ρ1, s, h1, T1, ?_⟩
      simp only [HL.R.bind] at x
      cases q2 : d1 s h1 with
      | ok xo h2 =>
        rw [q2] at x
        intro ρ2 H2 n2 S2 w2
        have T2 := T1.next n2 S2
        simp only at x
        cases xo with
        | ref i =>
          simp only [HL.setF] at x
          cases q : h2[i]? with
          | none => rw [q] at x; exact x.elim
          | some ob =>
            rw [q] at x
            cases ob with
            | ins c fs =>
              simp only at x
              by_cases hc : cs.contains c = true ∧ fs.length < 1000
              · rw [if_pos hc] at x
                obtain ⟨dx, ea⟩ := S2.ob i _ q
                have k1 := k c (by simpa using hc.1)
                have wv := w1.mono n2.le
                refine ⟨ρ2 i, γ c, dx, renF γ ρ2 fs, rfl, ea, k1.1, k1.2, by simp only [renF, List.length_map]; exact hc.2, ?_⟩
                have S3 : SimH X.K γ ρ2 (h2.set i (.ins c (HL.putW f v fs))) (upd H2 (ρ2 i) (.ins (γ c) dx (putF f (renW γ ρ2 v) (renF γ ρ2 fs)))) :=
                  S2.chg q rfl rfl (wf_putW wv (S2.wf i _ q)) ⟨dx, by rw [upd_same, put_ren]⟩
                have z := x ρ2 _ ((n1.trans n2).trans (Nxt.chg _ _ i _)) S3 (by rw [List.length_set]; exact T2.ws)
                rw [ren_ag w1 n2.ag, T2.eq]
                exact z
              · rw [if_neg hc] at x; exact x.elim
            | _ => exact x.elim
        | _ => exact x.elim
      | ex => rw [q2] at x; exact x.elim
      | er => rw [q2] at x; exact x.elim
    | ex => rw [q1] at x; exact x.elim
    | er => rw [q1] at x; exact x.elim
/-! ### methods -/
def tMethG (G : Addr → Sp → Prop) (m : Str) (ta : TE) (t : TA) : TE := fun σ H Q => ta σ H fun x H1 => ∃ a C dx fs sp, x = .ref a ∧ H1 a = some (.ins C dx fs) ∧ fs.lookup m = none ∧ G C sp ∧
  t σ H1 fun vs H2 => sp (x :: vs) H2 Q E0
variable {G : Addr → Sp → Prop} {m : Str} {es : List Expr} {ta : TE} {t : TA}
theorem pe_methG0 {pl : Sem Bool} (hG : ∀ C sp, G C sp → Cls X.K C ∧ ∃ k ps, MDef X.prog X.w X.K X.mg X.base k C m ps sp ∧ Room k X.A) (he : PE X o ta)
    (ht : eval (.Call (.Attribute o m apos) [] [] pos) X.env = (do
      let ov ← eval o X.env
      standAt apos.atName
      let (f, first) ← holding [ov] (getMethod ov m pl)
      callWith pos f first (backTo pos (starEach [] X.env)) (backToKw pos (keywordEach [] X.env))) := by rfl) :
    PE X (.Call (.Attribute o m apos) [] [] pos) (tMethG G m ta tNil) := by
  intro pins s σ H Q I h
  refine PySem.W.methodCall_KW (pl := pl) (thn (he pins s σ H _ I h) fun u s1 ⟨x, H1, I1, rx, a, C, dx, fs, sp, ex, ea, l, g, q⟩ => ?_) ht
  subst ex
  obtain rfl : u = Value.ref a := rx
  obtain ⟨c, k, ps, D, hr⟩ := hG C sp g
  obtain ⟨f, fd, F, fa, n, kp, b⟩ := D.ex
  refine getmeth_ok I1 ea c ⟨fa, n, kp⟩ l ?_
  exact PySem.W.callWith_K0 (first := [.ref a]) I1.kIn kp (run_fn (us := [.ref a]) (vs := [.ref a]) (dvs := []) (ds := []) F hr b .nil pass0 I1 (.cons rfl .nil) q)
def MtOk (X : Cx) (γ : Str → Addr) (m : Str) (tb : List (Str × Fn)) : Prop := ∀ c f, tb.lookup c = some f → Cls X.K (γ c) ∧ ∃ k p n bd ps, f = HL.fnOf p n bd ∧ MDef X.prog X.w X.K X.mg X.base k (γ c) m ps (spF X.K γ p f) ∧ Room k X.A
theorem MtOk.nil : MtOk X γ m [] := fun c f e => by cases e
theorem MtOk.cons {tb : List (Str × Fn)} {c : Str} {k p n : Nat} {bd : DS} {ps : List Str} (h : Cls X.K (γ c)) (D : MDef X.prog X.w X.K X.mg X.base k (γ c) m ps (spF X.K γ p (HL.fnOf p n bd))) (hr : Room k X.A) (r : MtOk X γ m tb) : MtOk X γ m ((c, HL.fnOf p n bd) :: tb) := fun c' f e => by
  by_cases q : c' = c
  · subst q
    simp only [List.lookup, beq_self_eq_true, Option.some.injEq] at e
    subst e
    exact ⟨h, k, p, n, bd, ps, rfl, D, hr⟩
  · have z : (c' == c) = false := by simpa using q
    simp only [List.lookup, z] at e
    exact r c' f e
def MtG (X : Cx) (γ : Str → Addr) (m : Str) (tb : List (Str × Fn)) (C : Addr) (sp : Sp) : Prop := ∃ c f p n bd k ps, C = γ c ∧ tb.lookup c = some f ∧ f = HL.fnOf p n bd ∧ sp = spF X.K γ p f ∧ Cls X.K (γ c) ∧ MDef X.prog X.w X.K X.mg X.base k (γ c) m ps (spF X.K γ p f) ∧ Room k X.A
theorem MtG.ok {tb : List (Str × Fn)} : ∀ C sp, MtG X γ m tb C sp → Cls X.K C ∧ ∃ k ps, MDef X.prog X.w X.K X.mg X.base k C m ps sp ∧ Room k X.A := by
  rintro C sp ⟨c, f, p, n, bd, k, ps, rfl, e, rfl, rfl, h, D, hr⟩
  exact ⟨h, k, ps, D, hr⟩
theorem spF_of {K : PySem.W.Frag} {f : Fn} {p n : Nat} {bd : DS} {ρ : Nat → Addr} {h : Sh} {H : Hp} {us : List W} {Q : VK} {E : XK} (e : f = HL.fnOf p n bd) (S : SimH K γ ρ h H) (w : wfs h.length us) (x : GoodV K γ ρ h (f us h) Q) : spF K γ p f (us.map (renW γ ρ)) H Q E := by
  refine ⟨?_, ρ, h, us, S, w, rfl, x⟩
  rw [List.length_map]
  cases q : f us h with
  | ok v h' => rw [e] at q; exact fnOf_len q
  | ex => rw [q] at x; exact x.elim
  | er => rw [q] at x; exact x.elim
theorem meth_of {tb : List (Str × Fn)} {d : DA} (k : MtOk X γ m tb) (σ : St) (H : Hp) (Q : VK) (x : eE X.K γ (HL.dMeth tb m d1 d) σ H Q) : tMethG (MtG X γ m tb) m (eE X.K γ d1) (eA X.K γ d) σ H Q := by
  obtain ⟨ρ, s, h, S, x⟩ := x
  unfold HL.dMeth at x
  refine ⟨ρ, s, h, S, GoodR.bind x fun v h1 ρ1 H1 _ n1 S1 w1 x1 => ?_⟩
  split at x1
  · rename_i f e1
    cases v with
    | ref i =>
      simp only [HL.findM] at e1
      split at e1
      · rename_i c fs q
        split at e1
        · rename_i hl
          obtain ⟨dx, ea⟩ := S1.ob i _ q
          obtain ⟨hc, kk, p, n, bd, ps, ef, D, hr⟩ := k c f e1
          refine ⟨ρ1 i, γ c, dx, renF γ ρ1 fs, _, rfl, ea, by rw [lookup_ren, hl]; rfl, ⟨c, f, p, n, bd, kk, ps, rfl, e1, ef, rfl, hc, D, hr⟩, ?_⟩
          refine ⟨ρ1, s, h1, S.next n1 S1, GoodR.bind x1 fun us h2 ρ2 H2 _ n2 S2 w2 x2 => ?_⟩
          have wi : wf h2.length (.ref i) := w1.mono n2.le
          have z := spF_of (E := E0) (us := .ref i :: us) ef S2 (fun y hy => by
            rcases List.mem_cons.mp hy with r | r
            · rw [r]; exact wi
            · exact w2 y r) x2
          rw [List.map_cons] at z
          have e3 : renW γ ρ2 (.ref i) = renW γ ρ1 (.ref i) := (ren_ag w1 n2.ag).symm
          rw [e3] at z
          exact z
        · cases e1
      · cases e1
    | _ => cases e1
  · exact x1.elim
theorem q_meth0 {tb : List (Str × Fn)} {pl : Sem Bool} (k : MtOk X γ m tb) (he : QE γ X o d1)
    (ht : eval (.Call (.Attribute o m apos) [] [] pos) X.env = (do
      let ov ← eval o X.env
      standAt apos.atName
      let (f, first) ← holding [ov] (getMethod ov m pl)
      callWith pos f first (backTo pos (starEach [] X.env)) (backToKw pos (keywordEach [] X.env))) := by rfl) :
    QE γ X (.Call (.Attribute o m apos) [] [] pos) (HL.dMeth tb m d1 HL.dNil) := (pe_methG0 (pl := pl) MtG.ok he ht).imp fun σ H Q x => by
  obtain ⟨ρ, s, h, S, x⟩ := meth_of k σ H Q x
  refine ⟨ρ, s, h, S, ?_⟩
  cases q : d1 s h with
  | ok v h1 =>
    rw [q] at x
    intro ρ1 H1 n1 S1 w1
    obtain ⟨a, C, dx, fs, sp, e1, e2, e3, e4, x⟩ := x ρ1 H1 n1 S1 w1
    obtain ⟨ρ2, s2, h2, S2, x⟩ := x
    exact ⟨a, C, dx, fs, sp, e1, e2, e3, e4, x ρ2 H1 (Nxt.refl _ _) S2.hp fun _ z => by cases z⟩
  | ex => rw [q] at x; exact x.elim
  | er => rw [q] at x; exact x.elim
/-! ### new objects -/
structure NewOk (X : Cx) (γ : Str → Addr) (x : Str) (p : Nat) (f : Fn) (vs : List W) : Prop where
  at_ : X.mg x = some (.ref (γ x))
  ex : ∃ k g fd ps ds n bd, f = HL.fnOf p n bd ∧ Mk X.K (γ x) g ∧ FnOk X.prog X.w X.K X.mg X.base CX0 k g fd ps (spF X.K γ p f) ∧ Room (k + 1) X.A ∧ Binds X.K fd ps ds ∧ (∀ ρ, Vals (vs.map (renW γ ρ)) ds) ∧ ∀ n, wfs n vs
theorem renWs_const {vs : List W} (h : ∀ n, wfs n vs) (ρ ρ' : Nat → Addr) : vs.map (renW γ ρ) = vs.map (renW γ ρ') := rens_ag (h 0) fun i hi => absurd hi (Nat.not_lt_zero _)
theorem new_of {C : Str} {f : Fn} {p n : Nat} {bd : DS} {vs : List W} {d : DA} {ρ0 : Nat → Addr} (ef : f = HL.fnOf p n bd) (wv : ∀ n, wfs n vs) (σ : St) (H : Hp) (Q : VK) (x : eE X.K γ (HL.dNew C f vs d) σ H Q) : tMake (γ C) (spF X.K γ p f) (vs.map (renW γ ρ0)) E0 (eA X.K γ d) σ H Q := by
  obtain ⟨ρ, s, h, S, x⟩ := x
  unfold HL.dNew at x
  refine ⟨ρ, s, h, S, GoodR.bind x fun us h1 ρ1 H1 _ n1 S1 w1 x1 => ?_⟩
  intro y dx hy hdx ne
  have hdx' : upd H1 dx (.own y) y = none := by rw [upd_ne ne.symm]; exact hy
  have E1 : Ext H1 (upd (upd H1 dx (.own y)) y (.ins (γ C) dx [])) := (Ext.upd _ hdx).trans (Ext.upd _ hdx')
  have S2 := S1.push (p := y) (o := .ins C []) (fun q hq => by cases hq) E1 hy ⟨dx, upd_same⟩
  have w2 : wfs (h1 ++ [SO.ins C []]).length (.ref h1.length :: (us ++ vs)) := fun q hq => by
    rcases List.mem_cons.mp hq with r | r
    · rw [r]; show h1.length < (h1 ++ [_]).length; simp
    · rcases List.mem_append.mp r with r | r
      · exact (w1 q r).mono (by simp)
      · exact wv _ q r
  have n2 := Nxt.push h1 ρ1 (.ins C []) y
  have z := spF_of (E := E0) ef S2 w2 (Q := fun v H2 => v = .non ∧ Q (.ref y) H2) (GoodR.bind (x1.later n2) fun v h3 ρ3 H3 _ n3 S3 w3 x3 => by
    by_cases hv : v = .non
    · rw [if_pos hv] at x3
      subst hv
      refine ⟨rfl, ?_⟩
      have q := x3 ρ3 H3 (Nxt.refl _ _) S3 (Nat.lt_of_lt_of_le (by simp) n3.le)
      rw [show renW γ ρ3 (.ref h1.length) = V.ref y from congrArg V.ref (by rw [← n3.ag h1.length (by simp), put_at])] at q
      exact q
    · rw [if_neg hv] at x3; exact x3.elim)
  rw [List.map_cons, List.map_append] at z
  rw [show renW γ (put ρ1 h1.length y) (.ref h1.length) = V.ref y from congrArg V.ref (put_at _ _ _), ← rens_ag w1 (put_ag _ _ _), renWs_const wv _ ρ0] at z
  exact z
theorem q_new {x : Str} {p : Nat} {f : Fn} {vs : List W} {pp : Pos} {d : DA} (k : NewOk X γ x p f vs) (hg : Gl X x) (ha : QA γ X (e :: es) d) (hdb : (x == ("__debug__" : Str)) = false := by decide)
    (he : starEach (e :: es) X.env = (false, eval e X.env) :: starEach es X.env := by rfl) (hpl : (backTo pos (starEach es X.env)).any (·.1) = false := by rfl) : QE γ X (.Call (.Name x pp) (e :: es) [] pos) (HL.dNew x f vs d) := by
  obtain ⟨kk, g, fd, ps, ds, n, bd, ef, M, F, hr, hb, hv, wv⟩ := k.ex
  exact (pe_make M F hr hg k.at_ hb (hv fun _ => 0) pass0 ha hdb he hpl).imp (new_of ef wv)
end
end L2


set_option Elab.async false
set_option linter.all false
set_option maxRecDepth 100000
set_option maxHeartbeats 4000000
namespace L2
open PySem PySem.Spec PyProof.Rows
open HL (W SO Sh Sg OR DE DT DA DS Fn)
section
variable {K : PySem.W.Frag} {γ : Str → Addr}
theorem os_sub : OpS K γ (rI0 fun i j => .int (i - j)) HL.oSub := fun ρ h H x y Q S wx wy q => by
  obtain ⟨i, j, e1, e2, _, q⟩ := os_int (K := K) (γ := γ) (c := fun _ _ => true) (C := fun _ _ => True) (f := fun i j => i - j) (fun _ _ _ => trivial) ρ h H x y Q S wx wy q
  exact ⟨i, j, e1, e2, q⟩
theorem os_mod : OpS K γ (rI (fun _ j => 0 < j) fun i j => .int (i % j)) HL.oMod := os_int fun _ _ h => of_decide_eq_true h
theorem os_div : OpS K γ (rI CDiv fun i j => .int (i / j)) HL.oDiv := os_int fun _ _ h => by
  obtain ⟨a, b⟩ := (Bool.and_eq_true _ _).mp h
  exact ⟨of_decide_eq_true a, of_decide_eq_true b⟩
end
section
variable {X : Cx} {γ : Str → Addr} {a b c e : Expr} {da db dc de : DE} {pos : Pos}
theorem v (i : Nat) {x : Str} (hN : X.N[i]? = some x := by rfl) (hv : Vis X.env.scope x := by first | exact Or.inl rfl | exact Or.inr (Or.inl rfl) | exact Or.inr (Or.inr rfl)) (hd : (x == ("__debug__" : Str)) = false := by decide)
    (hcd : (x == ("__classdict__" : Str)) = false := by decide) : QE γ X (.Name x pos) (HL.dVar i) := q_var hN hv hd hcd
theorem sset (i : Nat) {x : Str} {pos' : Pos} (hN : X.N.Nodup) (he : QE γ X e de) (hi : X.N[i]? = some x := by rfl) (hx : Loc X.env.scope x := by first | exact Or.inl rfl | exact Or.inr rfl) (hs : swapsWith e (some (.Name x pos')) pos.line X.env = pure false := by rfl) (hf : X.fn x = true ∨ X.env.scope.names.lookup x = some .local := by first | exact .inl rfl | exact .inr rfl | assumption) :
    QS γ X (.Assign [.Name x pos'] e pos) (HL.sSet i de) := qs_set hN hi hx he hs hf
theorem gn (i : Nat) {x : Str} (hN : X.N.Nodup) (hi : X.N[i]? = some x := by rfl) (hx : Loc X.env.scope x := by first | exact Or.inl rfl | exact Or.inr rfl) (hf : X.fn x = true ∨ X.env.scope.names.lookup x = some .local := by first | exact .inl rfl | exact .inr rfl | assumption) : QG γ X (.Name x pos) (HL.gName i) := qg_name hN hi hx hf
theorem pn (i : Nat) {x : Str} (hN : X.N.Nodup) (hi : X.N[i]? = some x := by rfl) (hx : Loc X.env.scope x := by first | exact Or.inl rfl | exact Or.inr rfl) (hf : X.fn x = true ∨ X.env.scope.names.lookup x = some .local := by first | exact .inl rfl | exact .inr rfl | assumption) : PG X (.Name x pos) (gName i) := pg_name hN hi hx hf

theorem b_Add (ha : QE γ X a da) (hb : QE γ X b db) : QE γ X (.BinOp a .Add b pos) (HL.dOp HL.oAdd da db) := q_op op_addA os_add nw_add ha hb
theorem b_Sub (ha : QE γ X a da) (hb : QE γ X b db) : QE γ X (.BinOp a .Sub b pos) (HL.dOp HL.oSub da db) := q_op op_sub os_sub nw_int ha hb
theorem b_Mult (ha : QE γ X a da) (hb : QE γ X b db) : QE γ X (.BinOp a .Mult b pos) (HL.dOp HL.oMul da db) := q_op op_mulA os_mul nw_mul ha hb
theorem b_Mod (ha : QE γ X a da) (hb : QE γ X b db) : QE γ X (.BinOp a .Mod b pos) (HL.dOp HL.oMod da db) := q_op op_mod os_mod nw_int ha hb
theorem b_FloorDiv (ha : QE γ X a da) (hb : QE γ X b db) : QE γ X (.BinOp a .FloorDiv b pos) (HL.dOp HL.oDiv da db) := q_op op_fdiv os_div nw_int ha hb
theorem t_Lt (ha : QE γ X a da) (hb : QE γ X b db) (hm : behindInMarks .Lt b = false := by rfl) : QT γ X (.Compare a [.Lt] [b] pos) (HL.dT (HL.dOp HL.oLt da db)) := qt_cmp op_lt os_cmp bo_cmp.nw bo_cmp ha hb hm
theorem t_Gt (ha : QE γ X a da) (hb : QE γ X b db) (hm : behindInMarks .Gt b = false := by rfl) : QT γ X (.Compare a [.Gt] [b] pos) (HL.dT (HL.dOp HL.oGt da db)) := qt_cmp op_gt os_cmp bo_cmp.nw bo_cmp ha hb hm
theorem c_Eq (hu : X.A.units + 64 < cLine) (ha : QE γ X a da) (hb : QE γ X b db) (hm : behindInMarks .Eq b = false := by rfl) : QE γ X (.Compare a [.Eq] [b] pos) (HL.dOp HL.oEq da db) := q_cmp (op_eqP hu) os_eq bo_eq.nw ha hb hm
theorem t_Eq (hu : X.A.units + 64 < cLine) (ha : QE γ X a da) (hb : QE γ X b db) (hm : behindInMarks .Eq b = false := by rfl) : QT γ X (.Compare a [.Eq] [b] pos) (HL.dT (HL.dOp HL.oEq da db)) := qt_cmp (op_eqP hu) os_eq bo_eq.nw bo_eq ha hb hm
theorem t_NotEq (hu : X.A.units + 64 < cLine) (ha : QE γ X a da) (hb : QE γ X b db) (hm : behindInMarks .NotEq b = false := by rfl) : QT γ X (.Compare a [.NotEq] [b] pos) (HL.dT (HL.dOp HL.oNe da db)) := qt_cmp (op_neP hu) os_ne bo_ne.nw bo_ne ha hb hm
theorem c_Is (ha : QE γ X a da) (hb : QE γ X b db) (hm : behindInMarks .Is b = false := by rfl) : QE γ X (.Compare a [.Is] [b] pos) (HL.dOp HL.oIs da db) := q_cmp op_isN os_isN bo_is.nw ha hb hm
theorem t_Is (ha : QE γ X a da) (hb : QE γ X b db) (hm : behindInMarks .Is b = false := by rfl) : QT γ X (.Compare a [.Is] [b] pos) (HL.dT (HL.dOp HL.oIs da db)) := qt_cmp op_isN os_isN bo_is.nw bo_is ha hb hm
theorem c_In (ha : QE γ X a da) (hb : QE γ X b db) (hm : behindInMarks .In b = false := by rfl) : QE γ X (.Compare a [.In] [b] pos) (HL.dOp HL.oIn da db) := q_cmp op_in_seq os_in bo_in.nw ha hb hm
theorem t_In (ha : QE γ X a da) (hb : QE γ X b db) (hm : behindInMarks .In b = false := by rfl) : QT γ X (.Compare a [.In] [b] pos) (HL.dT (HL.dOp HL.oIn da db)) := qt_cmp op_in_seq os_in bo_in.nw bo_in ha hb hm
theorem ix (ha : QE γ X a da) (hb : QE γ X b db) (hp : PlainIx b := by exact fun _ _ => rfl) : QE γ X (.Subscript a b pos) (HL.dOp HL.oIx da db) := q_ix ix_seq os_ix nw_ix ha hb hp
theorem f_len {p : Pos} {es : List Expr} {d : DA} (hg : Gl X "len") (hm : X.mg "len" = none) (ha : QA γ X (e :: es) d) (he : starEach (e :: es) X.env = (false, eval e X.env) :: starEach es X.env := by rfl) (hpl : (backTo pos (starEach es X.env)).any (·.1) = false := by rfl) : QE γ X (.Call (.Name "len" p) (e :: es) [] pos) (HL.dB HL.bLen d) := q_callB call_len cs_len nw_len hg hm PySem.boot_len ha (by decide) (by decide) he hpl
theorem f_max (hc : X.calm = true) {p : Pos} {es : List Expr} {d : DA} (hg : Gl X "max") (hm : X.mg "max" = none) (ha : QA γ X (e :: es) d) (he : starEach (e :: es) X.env = (false, eval e X.env) :: starEach es X.env := by rfl) (hpl : (backTo pos (starEach es X.env)).any (·.1) = false := by rfl) : QE γ X (.Call (.Name "max" p) (e :: es) [] pos) (HL.dB HL.bMax2 d) := q_callB (call_max2F hc) cs_max2 nw_max2 hg hm PyProof.Rows.boot_max ha (by decide) (by decide) he hpl
theorem f_min (hc : X.calm = true) {p : Pos} {es : List Expr} {d : DA} (hg : Gl X "min") (hm : X.mg "min" = none) (ha : QA γ X (e :: es) d) (he : starEach (e :: es) X.env = (false, eval e X.env) :: starEach es X.env := by rfl) (hpl : (backTo pos (starEach es X.env)).any (·.1) = false := by rfl) : QE γ X (.Call (.Name "min" p) (e :: es) [] pos) (HL.dB HL.bMin2 d) := q_callB (call_min2F hc) cs_min2 nw_min2 hg hm PyProof.Rows.boot_min ha (by decide) (by decide) he hpl
theorem f_int {p : Pos} {es : List Expr} {d : DA} (hg : Gl X "int") (hm : X.mg "int" = none) (ha : QA γ X (e :: es) d) (he : starEach (e :: es) X.env = (false, eval e X.env) :: starEach es X.env := by rfl) (hpl : (backTo pos (starEach es X.env)).any (·.1) = false := by rfl) : QE γ X (.Call (.Name "int" p) (e :: es) [] pos) (HL.dB HL.bInt d) := q_callTy call_int1F cs_int nw_bint hg hm PyProof.Rows.boot_int ha (by decide) (by decide) he hpl
theorem f_isi {T : HL.CT} (O : IsiOk X.K γ T) {p : Pos} {es : List Expr} {d : DA} (hg : Gl X "isinstance") (hm : X.mg "isinstance" = none) (ha : QA γ X (e :: es) d) (he : starEach (e :: es) X.env = (false, eval e X.env) :: starEach es X.env := by rfl) (hpl : (backTo pos (starEach es X.env)).any (·.1) = false := by rfl) : QE γ X (.Call (.Name "isinstance" p) (e :: es) [] pos) (HL.dB (HL.bIsi T) d) := q_callB call_isiT (cs_isi O) nw_isi hg hm PyProof.Rows.boot_isinstance ha (by decide) (by decide) he hpl
end
end L2


set_option Elab.async false
set_option linter.all false
set_option maxRecDepth 100000
set_option maxHeartbeats 4000000
namespace L2
open PySem PySem.Spec PyProof.Rows
open HL (W SO Sh Sg OR DE DT DA DS Fn)
/-! ### methods of the text, with or without defaults -/
structure MethB (K : PySem.W.Frag) (C : Addr) (m qual : Str) (st : Stmt) (ps : List Str) : Prop where
  ex : ∃ (f : Addr) (oc : Value) (od : Option Addr) (dV kV doc pm : Value) (an : Option Addr) (cdv ct : Value) (osl : Array (Option Value)),
    K.lookup f = some ⟨oc, od, .func (PySem.W.fnOf m qual (defArgs st) (defBody st) (defScope st) dV kV doc pm an cdv ct), osl⟩ ∧ PySem.W.codeIn K cdv qual = true ∧ PySem.W.keepIn K (.ref f) = true ∧ PySem.W.findIn K (.ref C) m = some (some (.ref f)) ∧ PySem.W.isFn K (.ref f) = true ∧
    Binds K (PySem.W.fnOf m qual (defArgs st) (defBody st) (defScope st) dV kV doc pm an cdv ct) ps []
theorem methB_mk {K : PySem.W.Frag} {C : Addr} {m qual : Str} {st : Stmt} {ps : List Str} {f : Addr} {oc : Value} {od an : Option Addr} {osl : Array (Option Value)} {dV kV doc pm cdv ct : Value}
    (a : PySem.W.findIn K (.ref C) m = some (some (.ref f))) (l : K.lookup f = some ⟨oc, od, .func (PySem.W.fnOf m qual (defArgs st) (defBody st) (defScope st) dV kV doc pm an cdv ct), osl⟩)
    (c : PySem.W.codeIn K cdv qual = true) (k : PySem.W.keepIn K (.ref f) = true) (n : PySem.W.isFn K (.ref f) = true) (b : Binds K (PySem.W.fnOf m qual (defArgs st) (defBody st) (defScope st) dV kV doc pm an cdv ct) ps []) : MethB K C m qual st ps := ⟨f, oc, od, dV, kV, doc, pm, an, cdv, ct, osl, l, c, k, a, n, b⟩
section
variable {P : Program} {w : World} {K : PySem.W.Frag} {mg : Str → Option Value} {base : Heap} {γ : Str → Addr}
theorem MethB.qdef {C : Addr} {m qual : Str} {st : Stmt} {N ps : List Str} {k p n : Nat} {bd : DS} (F : MethB K C m qual st ps) (S : FnScope N ps (defScope st)) (hp : ps.length = p) (hn : N.length = n)
    (hbody : ∀ (f : Addr) (cdv : Value) (A : Around) (outer : List Env) (s : Shared) (H : Hp) (E : XK), Room k (A.deeper (envOfC qual (defScope st) s.heap.objs.size f cdv)) →
      QSs γ (cxOf CX0 P w K mg base N qual (defScope st) f cdv A outer s H E).nox (defBody st) bd) : MDef P w K mg base (k + 1) C m ps (spF K γ p (HL.fnOf p n bd)) := by
  obtain ⟨f, oc, od, dV, kV, doc, pm, an, cdv, ct, osl, lk, hcd, kp, fi, isf, hb⟩ := F.ex
  refine ⟨f, _, fn_of lk hcd S (fun vs H Q E h => h.1.trans hp.symm) fun A outer s H vs Q E hr hsp => ⟨_, (hbody f cdv A outer s H E hr).nox, ?_⟩, fi, isf, kp, hb⟩
  obtain ⟨_, ρ, hh, us, S, wu, e, x⟩ := hsp
  rw [e]
  subst hn
  exact fn_good S wu x
structure MkC (K : PySem.W.Frag) (mg : Str → Option Value) (x : Str) (C : Addr) : Prop where
  at_ : mg x = some (.ref C)
  makes : PySem.W.makesIn K C = true
  kp : PySem.W.keepIn K (.ref C) = true
end
theorem newOk_of {X : Cx} {γ : Str → Addr} {x : Str} {k p n : Nat} {bd : DS} {ps : List Str} (M : MkC X.K X.mg x (γ x)) (D : MDef X.prog X.w X.K X.mg X.base k (γ x) "__init__" ps (spF X.K γ p (HL.fnOf p n bd))) (hr : Room (k + 1) X.A) : NewOk X γ x p (HL.fnOf p n bd) [] where
  at_ := M.at_
  ex := by
    obtain ⟨f, fd, F, a, nf, kp, b⟩ := D.ex
    exact ⟨k, f, fd, ps, [], n, bd, rfl, ⟨M.makes, a, nf, M.kp⟩, F, hr, b, fun _ => .nil, fun _ y hy => by cases hy⟩
end L2


set_option Elab.async false
set_option linter.all false
set_option maxRecDepth 100000
set_option maxHeartbeats 4000000
namespace L2
open PySem PySem.Spec PyProof.Rows
open HL (W SO Sh Sg OR DE DT DA DS Fn)
/-! ### an __init__ whose last arguments are left out -/
structure MethD (K : PySem.W.Frag) (C : Addr) (m qual : Str) (st : Stmt) (ps : List Str) (vs : List W) : Prop where
  ex : ∃ (f : Addr) (oc : Value) (od : Option Addr) (dV kV doc pm : Value) (an : Option Addr) (cdv ct : Value) (osl : Array (Option Value)),
    K.lookup f = some ⟨oc, od, .func (PySem.W.fnOf m qual (defArgs st) (defBody st) (defScope st) dV kV doc pm an cdv ct), osl⟩ ∧ PySem.W.codeIn K cdv qual = true ∧ PySem.W.keepIn K (.ref f) = true ∧ PySem.W.findIn K (.ref C) m = some (some (.ref f)) ∧ PySem.W.isFn K (.ref f) = true ∧
    ∃ ds, Binds K (PySem.W.fnOf m qual (defArgs st) (defBody st) (defScope st) dV kV doc pm an cdv ct) ps ds ∧ ∀ (γ : Str → Addr) (ρ : Nat → Addr), Vals (vs.map (renW γ ρ)) ds
structure NDef (P : Program) (w : World) (K : PySem.W.Frag) (mg : Str → Option Value) (base : Heap) (k : Nat) (C : Addr) (m : Str) (ps : List Str) (vs : List W) (sp : Sp) : Prop where
  ex : ∃ f fd ds, FnOk P w K mg base CX0 k f fd ps sp ∧ PySem.W.findIn K (.ref C) m = some (some (.ref f)) ∧ PySem.W.isFn K (.ref f) = true ∧ PySem.W.keepIn K (.ref f) = true ∧ Binds K fd ps ds ∧ ∀ (γ : Str → Addr) (ρ : Nat → Addr), Vals (vs.map (renW γ ρ)) ds
section
variable {P : Program} {w : World} {K : PySem.W.Frag} {mg : Str → Option Value} {base : Heap} {γ : Str → Addr}
theorem MethD.qdef {C : Addr} {m qual : Str} {st : Stmt} {N ps : List Str} {k p n : Nat} {bd : DS} {vs : List W} (F : MethD K C m qual st ps vs) (S : FnScope N ps (defScope st)) (hp : ps.length = p) (hn : N.length = n)
    (hbody : ∀ (f : Addr) (cdv : Value) (A : Around) (outer : List Env) (s : Shared) (H : Hp) (E : XK), Room k (A.deeper (envOfC qual (defScope st) s.heap.objs.size f cdv)) →
      QSs γ (cxOf CX0 P w K mg base N qual (defScope st) f cdv A outer s H E).nox (defBody st) bd) : NDef P w K mg base (k + 1) C m ps vs (spF K γ p (HL.fnOf p n bd)) := by
  obtain ⟨f, oc, od, dV, kV, doc, pm, an, cdv, ct, osl, lk, hcd, kp, fi, isf, ds, hb, hv⟩ := F.ex
  refine ⟨f, _, ds, fn_of lk hcd S (fun vs H Q E h => h.1.trans hp.symm) fun A outer s H vs Q E hr hsp => ⟨_, (hbody f cdv A outer s H E hr).nox, ?_⟩, fi, isf, kp, hb, hv⟩
  obtain ⟨_, ρ, hh, us, S, wu, e, x⟩ := hsp
  rw [e]
  subst hn
  exact fn_good S wu x
end
end L2
namespace L2
open PySem
end L2


set_option Elab.async false
set_option linter.all false
set_option maxRecDepth 100000
set_option maxHeartbeats 4000000
namespace HL
open PySem (Str)
/-! Deep values: what a value is, all the way down; lists that a name owns alone may be changed. -/
inductive P where
  | non | bl (b : Bool) | int (i : Int) | str (s : Str) | ty (n : String) | gl (x : Str)
  | lst (xs : List P) | rol (xs : List P) | tup (xs : List P) | ins (c : Str) (fs : List (Str × P))
  deriving Inhabited
mutual
def Dn (T : Nat → Prop) (h : Sh) : P → W → Prop
  | .non, w => w = .non
  | .bl b, w => w = .bl b
  | .int i, w => w = .int i
  | .str s, w => w = .str s
  | .ty n, w => w = .ty n
  | .gl x, w => w = .gl x
  | .lst ps, w => ∃ i us, w = .ref i ∧ ¬ T i ∧ h[i]? = some (.lst us) ∧ Dns T h ps us
  | .rol ps, w => ∃ i us, w = .ref i ∧ ¬ T i ∧ h[i]? = some (.rol us) ∧ Dns T h ps us
  | .tup ps, w => ∃ i us, w = .ref i ∧ ¬ T i ∧ h[i]? = some (.tup us) ∧ Dns T h ps us
  | .ins c fs, w => ∃ i gs, w = .ref i ∧ ¬ T i ∧ h[i]? = some (.ins c gs) ∧ Dnf T h fs gs
def Dns (T : Nat → Prop) (h : Sh) : List P → List W → Prop
  | [], us => us = []
  | p :: ps, us => ∃ u r, us = u :: r ∧ Dn T h p u ∧ Dns T h ps r
def Dnf (T : Nat → Prop) (h : Sh) : List (Str × P) → List (Str × W) → Prop
  | [], us => us = []
  | p :: ps, us => ∃ u r, us = (p.1, u) :: r ∧ Dn T h p.2 u ∧ Dnf T h ps r
end
mutual
theorem Dn.mono {T T' : Nat → Prop} {h h' : Sh} (k : ∀ (i : Nat) (o : SO), ¬ T i → h[i]? = some o → h'[i]? = some o ∧ ¬ T' i) : ∀ (p : P) (w : W), Dn T h p w → Dn T' h' p w
  | .non, w, x => by simpa only [Dn] using x
  | .bl _, w, x => by simpa only [Dn] using x
  | .int _, w, x => by simpa only [Dn] using x
  | .str _, w, x => by simpa only [Dn] using x
  | .ty _, w, x => by simpa only [Dn] using x
  | .gl _, w, x => by simpa only [Dn] using x
  | .lst ps, w, x => by
    simp only [Dn] at x ⊢
    obtain ⟨i, us, e, t, g, d⟩ := x
    exact ⟨i, us, e, (k i _ t g).2, (k i _ t g).1, Dns.mono k ps us d⟩
  | .rol ps, w, x => by
    simp only [Dn] at x ⊢
    obtain ⟨i, us, e, t, g, d⟩ := x
    exact ⟨i, us, e, (k i _ t g).2, (k i _ t g).1, Dns.mono k ps us d⟩
  | .tup ps, w, x => by
    simp only [Dn] at x ⊢
    obtain ⟨i, us, e, t, g, d⟩ := x
    exact ⟨i, us, e, (k i _ t g).2, (k i _ t g).1, Dns.mono k ps us d⟩
  | .ins c fs, w, x => by
    simp only [Dn] at x ⊢
    obtain ⟨i, us, e, t, g, d⟩ := x
    exact ⟨i, us, e, (k i _ t g).2, (k i _ t g).1, Dnf.mono k fs us d⟩
theorem Dns.mono {T T' : Nat → Prop} {h h' : Sh} (k : ∀ (i : Nat) (o : SO), ¬ T i → h[i]? = some o → h'[i]? = some o ∧ ¬ T' i) : ∀ (ps : List P) (us : List W), Dns T h ps us → Dns T' h' ps us
  | [], us, x => by simpa only [Dns] using x
  | p :: ps, us, x => by
    simp only [Dns] at x ⊢
    obtain ⟨u, r, e, d, ds⟩ := x
    exact ⟨u, r, e, Dn.mono k p u d, Dns.mono k ps r ds⟩
theorem Dnf.mono {T T' : Nat → Prop} {h h' : Sh} (k : ∀ (i : Nat) (o : SO), ¬ T i → h[i]? = some o → h'[i]? = some o ∧ ¬ T' i) : ∀ (ps : List (Str × P)) (us : List (Str × W)), Dnf T h ps us → Dnf T' h' ps us
  | [], us, x => by simpa only [Dnf] using x
  | p :: ps, us, x => by
    simp only [Dnf] at x ⊢
    obtain ⟨u, r, e, d, ds⟩ := x
    exact ⟨u, r, e, Dn.mono k p.2 u d, Dnf.mono k ps r ds⟩
end
section
variable {T : Nat → Prop} {h l : Sh}
theorem app_at {i : Nat} {o : SO} (e : h[i]? = some o) : (h ++ l)[i]? = some o := by
  rw [List.getElem?_append_left (List.getElem?_eq_some_iff.mp e).1]; exact e
theorem Dn.app {p : P} {w : W} (x : Dn T h p w) : Dn T (h ++ l) p w := Dn.mono (fun _ _ t e => ⟨app_at e, t⟩) p w x
theorem Dns.app {p : List P} {w : List W} (x : Dns T h p w) : Dns T (h ++ l) p w := Dns.mono (fun _ _ t e => ⟨app_at e, t⟩) p w x
theorem Dns.length : ∀ {ps : List P} {us : List W}, Dns T h ps us → us.length = ps.length
  | [], us, x => by simp only [Dns] at x; rw [x]; rfl
  | p :: ps, us, x => by
    simp only [Dns] at x
    obtain ⟨u, r, e, d, ds⟩ := x
    rw [e, List.length_cons, List.length_cons, Dns.length ds]
theorem Dns.get : ∀ {ps : List P} {us : List W} {i : Nat} {p : P}, Dns T h ps us → ps[i]? = some p → ∃ u, us[i]? = some u ∧ Dn T h p u
  | [], us, i, p, x, e => by simp at e
  | q :: ps, us, 0, p, x, e => by
    simp only [Dns] at x
    obtain ⟨u, r, e1, d, ds⟩ := x
    simp at e; subst e
    exact ⟨u, by rw [e1]; rfl, d⟩
  | q :: ps, us, i + 1, p, x, e => by
    simp only [Dns] at x
    obtain ⟨u, r, e1, d, ds⟩ := x
    obtain ⟨v, a, b⟩ := Dns.get (i := i) ds (by simpa using e)
    exact ⟨v, by rw [e1]; simpa using a, b⟩
theorem Dns.append : ∀ {ps qs : List P} {us vs : List W}, Dns T h ps us → Dns T h qs vs → Dns T h (ps ++ qs) (us ++ vs)
  | [], qs, us, vs, x, y => by simp only [Dns] at x; rw [x]; exact y
  | p :: ps, qs, us, vs, x, y => by
    simp only [Dns] at x
    obtain ⟨u, r, e, d, ds⟩ := x
    rw [e]
    simp only [List.cons_append, Dns]
    exact ⟨u, _, rfl, d, Dns.append ds y⟩
theorem Dns.take : ∀ {ps : List P} {us : List W} (n : Nat), Dns T h ps us → Dns T h (ps.take n) (us.take n)
  | ps, us, 0, x => by simp only [List.take_zero, Dns]
  | [], us, n + 1, x => by simp only [Dns] at x; rw [x]; simp only [List.take_nil, Dns]
  | p :: ps, us, n + 1, x => by
    simp only [Dns] at x
    obtain ⟨u, r, e, d, ds⟩ := x
    rw [e]
    simp only [List.take_succ_cons, Dns]
    exact ⟨u, _, rfl, d, Dns.take n ds⟩
theorem Dns.drop : ∀ {ps : List P} {us : List W} (n : Nat), Dns T h ps us → Dns T h (ps.drop n) (us.drop n)
  | ps, us, 0, x => by simpa only [List.drop_zero] using x
  | [], us, n + 1, x => by simp only [Dns] at x; rw [x]; simp only [List.drop_nil, Dns]
  | p :: ps, us, n + 1, x => by
    simp only [Dns] at x
    obtain ⟨u, r, e, d, ds⟩ := x
    rw [e]
    simp only [List.drop_succ_cons]
    exact Dns.drop n ds
theorem Dns.one {p : P} {u : W} (d : Dn T h p u) : Dns T h [p] [u] := by
  simp only [Dns]; exact ⟨u, [], rfl, d, rfl⟩
theorem Dns.set {q : P} {v : W} (dq : Dn T h q v) : ∀ {ps : List P} {us : List W} (i : Nat), Dns T h ps us → Dns T h (ps.set i q) (us.set i v)
  | [], us, i, x => by simp only [Dns] at x; rw [x]; simp only [List.set_nil, Dns]
  | p :: ps, us, 0, x => by
    simp only [Dns] at x
    obtain ⟨u, r, e, d, ds⟩ := x
    rw [e]
    simp only [List.set_cons_zero, Dns]
    exact ⟨v, r, rfl, dq, ds⟩
  | p :: ps, us, i + 1, x => by
    simp only [Dns] at x
    obtain ⟨u, r, e, d, ds⟩ := x
    rw [e]
    simp only [List.set_cons_succ, Dns]
    exact ⟨u, _, rfl, d, Dns.set dq i ds⟩
theorem Dns.rep {ps : List P} {us : List W} (x : Dns T h ps us) : ∀ n : Nat, Dns T h (List.replicate n ps).flatten (List.replicate n us).flatten
  | 0 => by simp only [List.replicate_zero, List.flatten_nil, Dns]
  | n + 1 => by
    rw [List.replicate_succ, List.replicate_succ, List.flatten_cons, List.flatten_cons]
    exact x.append (Dns.rep x n)
theorem Dns.nil_iff {ps : List P} {us : List W} (x : Dns T h ps us) : us.isEmpty = ps.isEmpty := by
  cases ps with
  | nil => simp only [Dns] at x; rw [x]; rfl
  | cons p ps => simp only [Dns] at x; obtain ⟨u, r, e, _⟩ := x; rw [e]; rfl
end
/-! ### names -/
inductive Fv where
  | val (p : P) | own (xs : List P)
  deriving Inhabited
inductive Sl where
  | no | val (p : P) | own (xs : List P) | obj (c : Str) (fs : List (Str × Fv))
  deriving Inhabited
abbrev Dl := List Sl
inductive RS where
  | nx (d : Dl) | rt (p : P) | rx (p : P) (d : Dl) | ro (xs : List P) | bk (d : Dl) | ct (d : Dl) | er
inductive RF where
  | v (p : P) | o (xs : List P)
def RF.val : RF → P
  | .v p => p
  | .o xs => .lst xs
abbrev PE := Dl → Option P
abbrev PT := Dl → Option Bool
abbrev PA := Dl → Option (List P)
abbrev PS := Dl → RS
abbrev PF := List P → Option RF
def FsD (T : Nat → Prop) (h : Sh) : List (Str × Fv) → List (Str × W) → List Nat → Prop
  | [], gs, o => gs = [] ∧ o = []
  | (f, .val p) :: fs, gs, o => ∃ u r, gs = (f, u) :: r ∧ Dn T h p u ∧ FsD T h fs r o
  | (f, .own xs) :: fs, gs, o => ∃ a us r o', gs = (f, .ref a) :: r ∧ o = a :: o' ∧ h[a]? = some (.lst us) ∧ Dns T h xs us ∧ FsD T h fs r o'
def SlD (T : Nat → Prop) (h : Sh) (w : Option W) (o : List Nat) : Sl → Prop
  | .no => o = []
  | .val p => o = [] ∧ ∃ u, w = some u ∧ Dn T h p u
  | .own xs => ∃ a us, o = [a] ∧ w = some (.ref a) ∧ h[a]? = some (.lst us) ∧ Dns T h xs us
  | .obj c fs => ∃ a gs o', o = a :: o' ∧ o.Nodup ∧ w = some (.ref a) ∧ h[a]? = some (.ins c gs) ∧ FsD T h fs gs o'
def Ow (O : List (List Nat)) (a : Nat) : Prop := ∃ l ∈ O, a ∈ l
theorem Ow.of {O : List (List Nat)} {i a : Nat} {l : List Nat} (e : O[i]? = some l) (m : a ∈ l) : Ow O a := ⟨l, List.mem_of_getElem? e, m⟩
theorem Ow.one {O : List (List Nat)} {i a : Nat} (e : O[i]? = some [a]) : Ow O a := Ow.of e List.mem_cons_self
theorem Ow.at_ {O : List (List Nat)} {a : Nat} (x : Ow O a) : ∃ (i : Nat) (l : List Nat), O[i]? = some l ∧ a ∈ l := by
  obtain ⟨l, m, h⟩ := x
  obtain ⟨i, e⟩ := List.mem_iff_getElem?.mp m
  exact ⟨i, l, e, h⟩
theorem Ow.set {O : List (List Nat)} {i a : Nat} {l : List Nat} (x : Ow (O.set i l) a) : Ow O a ∨ a ∈ l := by
  obtain ⟨k, m, z⟩ := x
  rcases List.mem_or_eq_of_mem_set m with q | q
  · exact .inl ⟨k, q, z⟩
  · subst q; exact .inr z
theorem Ow.none {m a : Nat} (x : Ow (List.replicate m []) a) : False := by
  obtain ⟨l, q, z⟩ := x
  rw [(List.mem_replicate.mp q).2] at z; cases z
theorem getD_one {O : List (List Nat)} {i : Nat} {a : Nat} {l : List Nat} (o : (O[i]?).getD [] = a :: l) : O[i]? = some (a :: l) := by
  cases q : O[i]? with
  | none => rw [q] at o; cases o
  | some z => rw [q] at o; exact congrArg some o
def Tb (B : Nat → Prop) (O : List (List Nat)) : Nat → Prop := fun i => B i ∨ Ow O i
structure Lo where
  at_ : Nat
  lent : Nat → Prop
  me : Option W
structure Env (n : Lo) (B : Nat → Prop) (O : List (List Nat)) (s : Sg) (h : Sh) (δ : Dl) : Prop where
  le : n.at_ ≤ h.length
  old : ∀ i, B i → i < n.at_ ∧ ¬ n.lent i
  ls : s.length = δ.length
  lo : O.length = δ.length
  one : ∀ (i j a : Nat) (l m : List Nat), O[i]? = some l → O[j]? = some m → a ∈ l → a ∈ m → i = j
  new : ∀ a, Ow O a → (n.at_ ≤ a ∨ n.lent a) ∧ a < h.length
  at_ : ∀ (i : Nat) (sl : Sl), δ[i]? = some sl → SlD (Tb B O) h ((s[i]?).getD none) ((O[i]?).getD []) sl
  self : ∀ c fs w, δ[0]? = some (.obj c fs) → n.me = some w → s[0]? = some (some w)
section
variable {n : Lo} {B : Nat → Prop} {O : List (List Nat)} {s : Sg} {h l : Sh} {δ : Dl}
theorem FsD.mv {T T' : Nat → Prop} {h h' : Sh} (k : ∀ (i : Nat) (u : SO), ¬ T i → h[i]? = some u → h'[i]? = some u ∧ ¬ T' i) : ∀ (fs : List (Str × Fv)) (gs : List (Str × W)) (o : List Nat), (∀ a ∈ o, ∀ u, h[a]? = some u → h'[a]? = some u) → FsD T h fs gs o → FsD T' h' fs gs o
  | [], gs, o, ko, x => by simpa only [FsD] using x
  | (f, .val p) :: fs, gs, o, ko, x => by
    simp only [FsD] at x ⊢
    obtain ⟨u, r, e, d, y⟩ := x
    exact ⟨u, r, e, Dn.mono k p u d, FsD.mv k fs r o ko y⟩
  | (f, .own xs) :: fs, gs, o, ko, x => by
    simp only [FsD] at x ⊢
    obtain ⟨a, us, r, o', e1, e2, g, d, y⟩ := x
    subst e2
    exact ⟨a, us, r, o', e1, rfl, ko a List.mem_cons_self _ g, Dns.mono k xs us d, FsD.mv k fs r o' (fun b hb => ko b (List.mem_cons_of_mem _ hb)) y⟩
theorem SlD.mv {T T' : Nat → Prop} {h h' : Sh} {w : Option W} {o : List Nat} {sl : Sl} (x : SlD T h w o sl) (k : ∀ (i : Nat) (u : SO), ¬ T i → h[i]? = some u → h'[i]? = some u ∧ ¬ T' i) (ko : ∀ a ∈ o, ∀ u, h[a]? = some u → h'[a]? = some u) : SlD T' h' w o sl := by
  cases sl with
  | no => exact x
  | val p => obtain ⟨a, u, b, d⟩ := x; exact ⟨a, u, b, Dn.mono k p u d⟩
  | own xs => obtain ⟨a, us, b, c, d, e⟩ := x; exact ⟨a, us, b, c, ko a (by rw [b]; exact List.mem_cons_self) _ d, Dns.mono k xs us e⟩
  | obj c fs =>
    obtain ⟨a, gs, o', e1, nd, e2, g, y⟩ := x
    exact ⟨a, gs, o', e1, nd, e2, ko a (by rw [e1]; exact List.mem_cons_self) _ g, FsD.mv k fs gs o' (fun b hb => ko b (by rw [e1]; exact List.mem_cons_of_mem _ hb)) y⟩
theorem SlD.app {T : Nat → Prop} {w : Option W} {o : List Nat} {sl : Sl} (x : SlD T h w o sl) : SlD T (h ++ l) w o sl := x.mv (fun _ _ t e => ⟨app_at e, t⟩) fun _ _ _ e => app_at e
theorem Env.app (E : Env n B O s h δ) : Env n B O s (h ++ l) δ :=
  ⟨by rw [List.length_append]; have := E.le; omega, E.old, E.ls, E.lo, E.one, fun a ha => ⟨(E.new a ha).1, by rw [List.length_append]; have := (E.new a ha).2; omega⟩, fun i sl e => (E.at_ i sl e).app, E.self⟩
theorem self_set (E : Env n B O s h δ) (i : Nat) {x : Sl} {v : Option W} (hx : ∀ c fs, x ≠ .obj c fs) : ∀ c fs w, (δ.set i x)[0]? = some (.obj c fs) → n.me = some w → (s.set i v)[0]? = some (some w) := fun c fs w e m => by
  by_cases hi : i = 0
  · subst hi
    rw [List.getElem?_set] at e
    simp only [if_true] at e
    split at e
    · cases e; exact absurd rfl (hx c fs)
    · cases e
  · rw [List.getElem?_set_ne hi] at e ⊢; exact E.self c fs w e m
theorem self_chg (E : Env n B O s h δ) (i : Nat) {x : Sl} (hx : ∀ c fs, x ≠ .obj c fs) : ∀ c fs w, (δ.set i x)[0]? = some (.obj c fs) → n.me = some w → s[0]? = some (some w) := fun c fs w e m => by
  by_cases hi : i = 0
  · subst hi
    rw [List.getElem?_set] at e
    simp only [if_true] at e
    split at e
    · cases e; exact absurd rfl (hx c fs)
    · cases e
  · rw [List.getElem?_set_ne hi] at e; exact E.self c fs w e m
def Pe (d : DE) (p : PE) : Prop := ∀ n B O s h δ r, Env n B O s h δ → p δ = some r → ∃ w l, d s h = .ok w (h ++ l) ∧ Dn (Tb B O) (h ++ l) r w
def DnB (T : Nat → Prop) (h : Sh) (p : P) (w : W) : Prop := Dn T h p w ∨ ∃ xs a us, p = .lst xs ∧ w = .ref a ∧ h[a]? = some (.lst us) ∧ Dns T h xs us
theorem DnB.app {T : Nat → Prop} {p : P} {w : W} (x : DnB T h p w) : DnB T (h ++ l) p w := by
  rcases x with x | ⟨xs, a, us, e1, e2, g, d⟩
  · exact .inl x.app
  · exact .inr ⟨xs, a, us, e1, e2, app_at g, d.app⟩
def Pb (d : DE) (p : PE) : Prop := ∀ n B O s h δ r, Env n B O s h δ → p δ = some r → ∃ w l, d s h = .ok w (h ++ l) ∧ DnB (Tb B O) (h ++ l) r w
theorem Pe.b {d : DE} {p : PE} (x : Pe d p) : Pb d p := fun n B O s h δ r E e => by
  obtain ⟨w, l, a, b⟩ := x n B O s h δ r E e
  exact ⟨w, l, a, .inl b⟩
def Po (d : DE) (p : Dl → Option (List P)) : Prop := ∀ n B O s h δ r, Env n B O s h δ → p δ = some r → ∃ a l us, d s h = .ok (.ref a) (h ++ l) ∧ h.length ≤ a ∧ (h ++ l)[a]? = some (.lst us) ∧ Dns (fun i => Tb B O i ∨ i = a) (h ++ l) r us
theorem Dns.weak {T T' : Nat → Prop} {ps : List P} {us : List W} (x : Dns T h ps us) (k : ∀ i, T' i → T i) : Dns T' h ps us := Dns.mono (fun i o t e => ⟨e, fun z => t (k i z)⟩) ps us x
theorem Dn.weak {T T' : Nat → Prop} {p : P} {u : W} (x : Dn T h p u) (k : ∀ i, T' i → T i) : Dn T' h p u := Dn.mono (fun i o t e => ⟨e, fun z => t (k i z)⟩) p u x
theorem Tb.lt (E : Env n B O s h δ) {i : Nat} (t : Tb B O i) : i < h.length := by
  rcases t with t | t
  · exact Nat.lt_of_lt_of_le (E.old i t).1 E.le
  · exact (E.new i t).2
theorem Po.e {d : DE} {p : Dl → Option (List P)} (x : Po d p) : Pe d (fun δ => (p δ).map .lst) := fun n B O s h δ r E e => by
  have e : (p δ).map P.lst = some r := e
  cases q : p δ with
  | none => rw [q] at e; cases e
  | some xs =>
    rw [q] at e; cases e
    obtain ⟨a, l, us, e1, ge, g, ds⟩ := x n B O s h δ xs E q
    refine ⟨_, l, e1, ?_⟩
    simp only [Dn]
    exact ⟨a, us, rfl, fun t => absurd (Tb.lt E t) (by omega), g, ds.weak fun i t => .inl t⟩
def Pa (d : DA) (p : PA) : Prop := ∀ n B O s h δ r, Env n B O s h δ → p δ = some r → ∃ w l, d s h = .ok w (h ++ l) ∧ Dns (Tb B O) (h ++ l) r w
def Pt (d : DT) (p : PT) : Prop := ∀ n B O s h δ r, Env n B O s h δ → p δ = some r → ∃ l, d s h = .ok r (h ++ l)
/-! expressions -/
def pVar (i : Nat) : PE := fun δ => match δ[i]? with
  | some (.val p) => some p
  | _ => none
def pBor (i : Nat) : PE := fun δ => match δ[i]? with
  | some (.val p) => some p
  | some (.own xs) => some (.lst xs)
  | _ => none
theorem e_var (i : Nat) : Pe (dVar i) (pVar i) := fun n B O s h δ r E e => by
  unfold pVar at e
  split at e
  · rename_i p q
    cases e
    obtain ⟨_, u, a, b⟩ := E.at_ i _ q
    refine ⟨u, [], ?_, by rw [List.append_nil]; exact b⟩
    unfold dVar
    cases q2 : s[i]? with
    | none => rw [q2] at a; cases a
    | some z => rw [q2] at a; simp only [Option.getD_some] at a; subst a; rw [List.append_nil]
  · cases e
def pC (p : P) : PE := fun _ => some p
theorem e_c {w : W} {p : P} (k : ∀ T h, Dn T h p w) : Pe (dC w) (pC p) := fun n B O s h δ r E e => by
  cases e
  exact ⟨w, [], by rw [List.append_nil]; rfl, k _ _⟩
theorem e_int (i : Int) : Pe (dC (.int i)) (pC (.int i)) := e_c fun _ _ => by simp only [Dn]
theorem e_bl (b : Bool) : Pe (dC (.bl b)) (pC (.bl b)) := e_c fun _ _ => by simp only [Dn]
theorem e_non : Pe (dC .non) (pC .non) := e_c fun _ _ => by simp only [Dn]
theorem e_str (x : Str) : Pe (dC (.str x)) (pC (.str x)) := e_c fun _ _ => by simp only [Dn]
theorem e_ty (x : String) : Pe (dC (.ty x)) (pC (.ty x)) := e_c fun _ _ => by simp only [Dn]
theorem e_gl (x : Str) : Pe (dC (.gl x)) (pC (.gl x)) := e_c fun _ _ => by simp only [Dn]
def OrD (T : Nat → Prop) (h : Sh) (r : P) : OR → Prop
  | .er => False
  | .val u => Dn T h r u
  | .new (.lst us) => ∃ rs, r = .lst rs ∧ Dns T h rs us
  | .new (.tup us) => ∃ rs, r = .tup rs ∧ Dns T h rs us
  | .new _ => False
theorem fin_d {T : Nat → Prop} {o : OR} {r : P} (lt : ∀ i, T i → i < h.length) (x : OrD T h r o) : ∃ w l, o.fin h = .ok w (h ++ l) ∧ Dn T (h ++ l) r w := by
  cases o with
  | er => exact x.elim
  | val u => exact ⟨u, [], by rw [List.append_nil]; rfl, by rw [List.append_nil]; exact x⟩
  | new o =>
    cases o with
    | lst us =>
      obtain ⟨rs, rfl, d⟩ := x
      refine ⟨_, [.lst us], rfl, ?_⟩
      simp only [Dn]
      exact ⟨h.length, us, rfl, fun t => absurd (lt _ t) (by omega), by simp, d.app⟩
    | tup us =>
      obtain ⟨rs, rfl, d⟩ := x
      refine ⟨_, [.tup us], rfl, ?_⟩
      simp only [Dn]
      exact ⟨h.length, us, rfl, fun t => absurd (lt _ t) (by omega), by simp, d.app⟩
    | _ => exact x.elim
def O2D (f : O2) (g : P → P → Option P) : Prop := ∀ T h p q w v r, DnB T h p w → DnB T h q v → g p q = some r → OrD T h r (f w v h)
def pOp (g : P → P → Option P) (a b : PE) : PE := fun δ => (a δ).bind fun x => (b δ).bind fun y => g x y
theorem e_op {f : O2} {g : P → P → Option P} {a b : DE} {p q : PE} (k : O2D f g) (ha : Pb a p) (hb : Pb b q) : Pe (dOp f a b) (pOp g p q) := fun n B O s h δ r E e => by
  unfold pOp at e
  cases e1 : p δ with
  | none => rw [e1] at e; cases e
  | some x =>
    rw [e1] at e
    simp only [Option.bind_some] at e
    cases e2 : q δ with
    | none => rw [e2] at e; cases e
    | some y =>
      rw [e2] at e
      simp only [Option.bind_some] at e
      obtain ⟨w, l, c1, d1⟩ := ha n B O s h δ x E e1
      obtain ⟨v, l2, c2, d2⟩ := hb n B O s (h ++ l) δ y E.app e2
      have d1' : DnB (Tb B O) (h ++ l ++ l2) x w := d1.app
      obtain ⟨u, l3, c3, d3⟩ := fin_d (h := h ++ l ++ l2) (fun i t => Tb.lt (E.app (l := l) |>.app (l := l2)) t) (k _ _ _ _ _ _ _ d1' d2 e)
      refine ⟨u, l ++ l2 ++ l3, ?_, ?_⟩
      · unfold dOp
        rw [c1]
        simp only [R.bind]
        rw [c2]
        simp only
        rw [c3]
        simp only [List.append_assoc]
      · simp only [List.append_assoc] at d3 ⊢
        exact d3
/-! the operations, deep -/
theorem DnB.int {T : Nat → Prop} {i : Int} {w : W} (x : DnB T h (.int i) w) : w = .int i := by
  rcases x with x | ⟨xs, a, us, e, _⟩
  · simpa only [Dn] using x
  · cases e
theorem DnB.str {T : Nat → Prop} {i : Str} {w : W} (x : DnB T h (.str i) w) : w = .str i := by
  rcases x with x | ⟨xs, a, us, e, _⟩
  · simpa only [Dn] using x
  · cases e
theorem DnB.bl {T : Nat → Prop} {i : Bool} {w : W} (x : DnB T h (.bl i) w) : w = .bl i := by
  rcases x with x | ⟨xs, a, us, e, _⟩
  · simpa only [Dn] using x
  · cases e
theorem DnB.non {T : Nat → Prop} {w : W} (x : DnB T h .non w) : w = .non := by
  rcases x with x | ⟨xs, a, us, e, _⟩
  · simpa only [Dn] using x
  · cases e
theorem DnB.lst {T : Nat → Prop} {xs : List P} {w : W} (x : DnB T h (.lst xs) w) : ∃ a us, w = .ref a ∧ h[a]? = some (.lst us) ∧ Dns T h xs us := by
  rcases x with x | ⟨ys, a, us, e, e2, g, d⟩
  · simp only [Dn] at x
    obtain ⟨i, us, e, _, g, d⟩ := x
    exact ⟨i, us, e, g, d⟩
  · cases e; exact ⟨a, us, e2, g, d⟩
theorem DnB.rol {T : Nat → Prop} {xs : List P} {w : W} (x : DnB T h (.rol xs) w) : ∃ a us, w = .ref a ∧ h[a]? = some (.rol us) ∧ Dns T h xs us := by
  rcases x with x | ⟨ys, a, us, e, e2, g, d⟩
  · simp only [Dn] at x
    obtain ⟨i, us, e, _, g, d⟩ := x
    exact ⟨i, us, e, g, d⟩
  · cases e
theorem DnB.tup {T : Nat → Prop} {xs : List P} {w : W} (x : DnB T h (.tup xs) w) : ∃ a us, w = .ref a ∧ ¬ T a ∧ h[a]? = some (.tup us) ∧ Dns T h xs us := by
  rcases x with x | ⟨ys, a, us, e, e2, g, d⟩
  · simp only [Dn] at x
    obtain ⟨i, us, e, t, g, d⟩ := x
    exact ⟨i, us, e, t, g, d⟩
  · cases e
def qInt (c : Int → Int → Bool) (f : Int → Int → Int) : P → P → Option P
  | .int i, .int j => if c i j then some (.int (f i j)) else none
  | _, _ => none
theorem d_int {c : Int → Int → Bool} {f : Int → Int → Int} : O2D (oInt c f) (qInt c f) := fun T h p q w v r x y e => by
  unfold qInt at e
  split at e
  · split at e
    · rename_i hc
      cases e
      rw [x.int, y.int]
      unfold oInt
      simp only [hc, if_true, OrD, Dn]
    · cases e
  · cases e
def qCmp (c : Int → Int → Bool) : P → P → Option P
  | .int i, .int j => some (.bl (c i j))
  | _, _ => none
theorem d_cmp {c : Int → Int → Bool} : O2D (oCmp c) (qCmp c) := fun T h p q w v r x y e => by
  unfold qCmp at e
  split at e
  · cases e
    rw [x.int, y.int]
    unfold oCmp
    simp only [OrD, Dn]
  · cases e
def qAdd : P → P → Option P
  | .int i, .int j => some (.int (i + j))
  | .str s, .str t => if s.length + t.length ≤ LIM then some (.str (s ++ t)) else none
  | .lst xs, .lst ys => if xs.length + ys.length ≤ LIM then some (.lst (xs ++ ys)) else none
  | .tup xs, .tup ys => if xs.length + ys.length ≤ LIM ∧ !xs.isEmpty then some (.tup (xs ++ ys)) else none
  | _, _ => none
theorem d_add : O2D oAdd qAdd := fun T h p q w v r x y e => by
  unfold qAdd at e
  split at e
  · cases e; rw [x.int, y.int]; unfold oAdd; simp only [OrD, Dn]
  · split at e
    · rename_i hl; cases e; rw [x.str, y.str]; unfold oAdd; simp only [hl, if_true, OrD, Dn]
    · cases e
  · split at e
    · rename_i hl
      cases e
      obtain ⟨a, us, rfl, g1, d1⟩ := x.lst
      obtain ⟨b, vs, rfl, g2, d2⟩ := y.lst
      unfold oAdd
      simp only [g1, g2, d1.length, d2.length, hl, if_true, OrD]
      exact ⟨_, rfl, d1.append d2⟩
    · cases e
  · split at e
    · rename_i hl
      cases e
      obtain ⟨a, us, rfl, t1, g1, d1⟩ := x.tup
      obtain ⟨b, vs, rfl, t2, g2, d2⟩ := y.tup
      have e1 := d1.nil_iff
      have e2 := d2.nil_iff
      unfold oAdd
      simp only [g1, g2, d1.length, d2.length]
      have hu : us ≠ [] := fun z => by
        rw [z] at e1
        have := hl.2
        rw [← e1] at this
        simp at this
      rw [if_pos ⟨hl.1, hu⟩]
      by_cases hv : vs = []
      · rw [if_pos hv]
        subst hv
        have hy : ∀ ys : List P, Dns T h ys [] → ys = [] := fun ys d => by
          cases ys with
          | nil => rfl
          | cons a b => simp only [Dns] at d; obtain ⟨_, _, z, _⟩ := d; cases z
        rw [hy _ d2, List.append_nil]
        simp only [OrD, Dn]
        exact ⟨a, us, rfl, t1, g1, d1⟩
      · rw [if_neg hv]
        exact ⟨_, rfl, d1.append d2⟩
    · cases e
  · cases e
def qMul : P → P → Option P
  | .int i, .int j => if mulOk i j then some (.int (i * j)) else none
  | .lst xs, .int k => if k < 2 ^ 20 ∧ -(2 ^ 20) < k ∧ xs.length * k.toNat ≤ LIM then some (.lst (List.replicate k.toNat xs).flatten) else none
  | _, _ => none
theorem d_mul : O2D oMul qMul := fun T h p q w v r x y e => by
  unfold qMul at e
  split at e
  · split at e
    · rename_i hc; cases e; rw [x.int, y.int]; unfold oMul; simp only [hc, if_true, OrD, Dn]
    · cases e
  · split at e
    · rename_i hc
      cases e
      obtain ⟨a, us, rfl, g1, d1⟩ := x.lst
      rw [y.int]
      unfold oMul
      simp only [g1, d1.length]
      rw [if_pos hc]
      exact ⟨_, rfl, d1.rep _⟩
    · cases e
  · cases e
def seqP : P → Option (List P)
  | .lst xs => some xs
  | .rol xs => some xs
  | .tup xs => some xs
  | _ => none
theorem DnB.seq {T : Nat → Prop} {p : P} {xs : List P} {w : W} (x : DnB T h p w) (e : seqP p = some xs) : ∃ us, seqW h w = some us ∧ Dns T h xs us := by
  cases p with
  | lst ys => cases e; obtain ⟨a, us, rfl, g, d⟩ := x.lst; exact ⟨us, by simp [seqW, lstW, tupW, g], d⟩
  | rol ys => cases e; obtain ⟨a, us, rfl, g, d⟩ := x.rol; exact ⟨us, by simp [seqW, lstW, tupW, g], d⟩
  | tup ys => cases e; obtain ⟨a, us, rfl, _, g, d⟩ := x.tup; exact ⟨us, by simp [seqW, lstW, tupW, g], d⟩
  | _ => cases e
def atP (xs : List P) (i : Int) : Option P := (ixW xs.length i).bind fun j => xs[j]?
def qIx (p q : P) : Option P := match seqP p, q with
  | some xs, .int i => atP xs i
  | _, _ => none
theorem d_ix : O2D oIx qIx := fun T h p q w v r x y e => by
  unfold qIx at e
  split at e
  · rename_i xs i e1
    obtain ⟨us, g, d⟩ := x.seq e1
    rw [y.int]
    unfold oIx
    rw [g]
    simp only
    unfold atP at e
    unfold atW
    rw [d.length]
    cases e2 : ixW xs.length i with
    | none => rw [e2] at e; cases e
    | some j =>
      rw [e2] at e
      obtain ⟨u, hu, du⟩ := d.get (show xs[j]? = some r from e)
      simp only [Option.bind_some, hu, OrD]
      exact du
  · cases e
def qIs (n : Bool) (p q : P) : Option P := match q with
  | .non => some (.bl (match p with | .non => !n | _ => n))
  | _ => none
theorem is_non {T : Nat → Prop} {p : P} {w : W} (x : DnB T h p w) : decide (w = .non) = (match p with | .non => true | _ => false) := by
  rcases x with x | ⟨xs, a, us, rfl, rfl, _⟩
  · cases p <;> simp only [Dn] at x
    case non => subst x; rfl
    case lst => obtain ⟨_, _, rfl, _⟩ := x; rfl
    case rol => obtain ⟨_, _, rfl, _⟩ := x; rfl
    case tup => obtain ⟨_, _, rfl, _⟩ := x; rfl
    case ins => obtain ⟨_, _, rfl, _⟩ := x; rfl
    all_goals (subst x; rfl)
  · rfl
theorem d_is : O2D oIs (qIs false) := fun T h p q w v r x y e => by
  unfold qIs at e
  split at e
  · cases e
    rw [y.non]
    unfold oIs
    simp only [OrD, Dn, is_non x]
    cases p <;> rfl
  · cases e
end
end HL


set_option Elab.async false
set_option linter.all false
set_option maxRecDepth 100000
set_option maxHeartbeats 4000000
namespace HL
open PySem (Str)
section
variable {n : Lo} {B : Nat → Prop} {O : List (List Nat)} {s : Sg} {h l : Sh} {δ : Dl}
/-! equality -/
def datsP (f : P → Option D) : List P → Option (List D)
  | [] => some []
  | x :: r => (f x).bind fun d => (datsP f r).map (d :: ·)
def datP : Nat → P → Option D
  | _, .non => some .non
  | _, .bl b => some (.bl b)
  | _, .int i => some (.int i)
  | _, .str x => if sOk x then some (.str x) else none
  | n + 1, .lst xs => (datsP (datP n) xs).map .lst
  | n + 1, .rol xs => (datsP (datP n) xs).map .lst
  | n + 1, .tup xs => (datsP (datP n) xs).map .tup
  | _, _ => none
theorem dats_p {T : Nat → Prop} {f : P → Option D} {g : W → Option D} (k : ∀ p w d, Dn T h p w → f p = some d → g w = some d) : ∀ (ps : List P) (us : List W) (ds : List D), Dns T h ps us → datsP f ps = some ds → dats g us = some ds
  | [], us, ds, x, e => by simp only [Dns] at x; rw [x]; exact e
  | p :: ps, us, ds, x, e => by
    simp only [Dns] at x
    obtain ⟨u, r, rfl, d, dr⟩ := x
    unfold datsP at e
    unfold dats
    cases e1 : f p with
    | none => rw [e1] at e; cases e
    | some a =>
      rw [e1] at e
      cases e2 : datsP f ps with
      | none => rw [e2] at e; cases e
      | some b => rw [e2] at e; rw [k p u a d e1, dats_p k ps r b dr e2]; exact e
theorem dat_p {T : Nat → Prop} : ∀ (n : Nat) (p : P) (w : W) (d : D), Dn T h p w → datP n p = some d → dat n h w = some d := by
  intro n
  induction n with
  | zero =>
    intro p w d x e
    cases p <;> simp only [Dn] at x <;> first
      | (subst x; exact e)
      | cases e
  | succ n ih =>
    intro p w d x e
    cases p <;> simp only [Dn] at x
    case lst ps =>
      obtain ⟨i, us, rfl, _, g, ds⟩ := x
      unfold datP at e
      unfold dat
      rw [g]
      simp only
      cases q : datsP (datP n) ps with
      | none => rw [q] at e; cases e
      | some b => rw [q] at e; rw [dats_p ih ps us b ds q]; exact e
    case rol ps =>
      obtain ⟨i, us, rfl, _, g, ds⟩ := x
      unfold datP at e
      unfold dat
      rw [g]
      simp only
      cases q : datsP (datP n) ps with
      | none => rw [q] at e; cases e
      | some b => rw [q] at e; rw [dats_p ih ps us b ds q]; exact e
    case tup ps =>
      obtain ⟨i, us, rfl, _, g, ds⟩ := x
      unfold datP at e
      unfold dat
      rw [g]
      simp only
      cases q : datsP (datP n) ps with
      | none => rw [q] at e; cases e
      | some b => rw [q] at e; rw [dats_p ih ps us b ds q]; exact e
    case ins => cases e
    all_goals first
      | (subst x; exact e)
theorem dat_b {T : Nat → Prop} {n : Nat} {p : P} {w : W} {d : D} (x : DnB T h p w) (e : datP (n + 1) p = some d) : dat (n + 1) h w = some d := by
  rcases x with x | ⟨xs, a, us, rfl, rfl, g, ds⟩
  · exact dat_p _ p w d x e
  · unfold datP at e
    unfold dat
    rw [g]
    simp only
    cases q : datsP (datP n) xs with
    | none => rw [q] at e; cases e
    | some b => rw [q] at e; rw [dats_p (dat_p n) xs us b ds q]; exact e
def eqP (p q : P) : Option Bool := match p, q with
  | .str a, .str b => some (decide (a = b))
  | .int a, .int b => some (decide (a = b))
  | p, q => (match datP DEEP p, datP DEEP q with
    | some a, some b => some (D.eq a b)
    | _, _ => none)
theorem d_eqH {T : Nat → Prop} {p q : P} {w v : W} {b : Bool} (x : DnB T h p w) (y : DnB T h q v) (e : eqP p q = some b) : eqH w v h = some b := by
  have deep : (match datP DEEP p, datP DEEP q with | some a, some b => some (D.eq a b) | _, _ => none) = some b → (match dat DEEP h w, dat DEEP h v with | some a, some b => some (D.eq a b) | _, _ => none) = some b := fun e => by
    split at e
    · rename_i a c e1 e2
      rw [show dat DEEP h w = some a from dat_b (n := 7) x e1, show dat DEEP h v = some c from dat_b (n := 7) y e2]
      exact e
    · cases e
  unfold eqP at e
  split at e
  · rw [x.str, y.str]; exact e
  · rw [x.int, y.int]; exact e
  · have z := deep e
    unfold eqH
    split
    · rename_i a c
      rw [← z]
      unfold dat
      split
      · rename_i d1 d2 h1 h2
        split at h1
        · split at h2
          · cases h1; cases h2; simp only [D.eq]; refine congrArg some ?_; rw [Bool.eq_iff_iff]; simp
          · cases h2
        · cases h1
      · rename_i hne
        split at z
        · rename_i d1 d2 h1 h2
          exact absurd (h1) (fun h1 => hne d1 d2 (by unfold dat at h1; exact h1) (by unfold dat at h2; exact h2))
        · cases z
    · rename_i a c
      rw [← z]
      simp only [dat, D.eq]
      refine congrArg some ?_
      rw [Bool.eq_iff_iff]; simp
    · exact z
def qEq (m : Bool) (p q : P) : Option P := (eqP p q).map fun b => .bl (m != b)
theorem d_eq : O2D oEq (qEq false) := fun T h p q w v r x y e => by
  unfold qEq at e
  cases e1 : eqP p q with
  | none => rw [e1] at e; cases e
  | some b =>
    rw [e1] at e; cases e
    unfold oEq
    rw [d_eqH x y e1]
    simp only [OrD, Dn]
    cases b <;> rfl
theorem d_ne : O2D oNe (qEq true) := fun T h p q w v r x y e => by
  unfold qEq at e
  cases e1 : eqP p q with
  | none => rw [e1] at e; cases e
  | some b =>
    rw [e1] at e; cases e
    unfold oNe
    rw [d_eqH x y e1]
    simp only [OrD, Dn]
    cases b <;> rfl
/-! in -/
def flatP : P → Option W
  | .non => some .non
  | .bl b => some (.bl b)
  | .int i => some (.int i)
  | .str s => some (.str s)
  | _ => none
theorem flat_p {T : Nat → Prop} {p : P} {w u : W} (x : DnB T h p w) (e : flatP p = some u) : w = u ∧ flatW u = true := by
  cases p <;> simp only [flatP] at e <;> first
    | (cases e; first | exact ⟨x.non, rfl⟩ | exact ⟨x.bl, rfl⟩ | exact ⟨x.int, rfl⟩ | exact ⟨x.str, rfl⟩)
    | cases e
def flatsP : List P → Option (List W)
  | [] => some []
  | p :: ps => (flatP p).bind fun u => (flatsP ps).map (u :: ·)
theorem flats_p {T : Nat → Prop} : ∀ (ps : List P) (us vs : List W), Dns T h ps us → flatsP ps = some vs → us = vs ∧ vs.all flatW = true
  | [], us, vs, x, e => by simp only [Dns] at x; rw [x]; cases e; exact ⟨rfl, rfl⟩
  | p :: ps, us, vs, x, e => by
    simp only [Dns] at x
    obtain ⟨u, r, rfl, d, dr⟩ := x
    unfold flatsP at e
    cases e1 : flatP p with
    | none => rw [e1] at e; cases e
    | some a =>
      rw [e1] at e
      cases e2 : flatsP ps with
      | none => rw [e2] at e; cases e
      | some b =>
        rw [e2] at e
        cases e
        obtain ⟨z1, z2⟩ := flat_p (.inl d) e1
        obtain ⟨z3, z4⟩ := flats_p ps r b dr e2
        subst z1 z3
        exact ⟨rfl, by rw [List.all_cons, z2, z4]; rfl⟩
def qIn (m : Bool) (p q : P) : Option P := match flatP p, (seqP q).bind flatsP with
  | some u, some vs => some (.bl (m != inW u vs))
  | _, _ => none
theorem in_p {T : Nat → Prop} {p q : P} {w v u : W} {vs : List W} (x : DnB T h p w) (y : DnB T h q v) (e1 : flatP p = some u) (e2 : (seqP q).bind flatsP = some vs) : w = u ∧ seqW h v = some vs ∧ (flatW u && vs.all flatW) = true := by
  cases q1 : seqP q with
  | none => rw [q1] at e2; cases e2
  | some xs =>
    rw [q1] at e2
    obtain ⟨us, g, d⟩ := y.seq q1
    obtain ⟨z1, z2⟩ := flat_p x e1
    obtain ⟨z3, z4⟩ := flats_p xs us vs d e2
    subst z3
    exact ⟨z1, g, by rw [z2, z4]; rfl⟩
theorem d_in : O2D oIn (qIn false) := fun T h p q w v r x y e => by
  unfold qIn at e
  split at e
  · rename_i u vs e1 e2
    cases e
    obtain ⟨rfl, g, f⟩ := in_p x y e1 e2
    unfold oIn
    rw [g]
    simp only [f, if_true, OrD, Dn]
    cases inW w vs <;> rfl
  · cases e
/-! one place -/
def pUn (g : P → Option P) (a : PE) : PE := fun δ => (a δ).bind g
def lstP : P → Option (List P)
  | .lst xs => some xs
  | .rol xs => some xs
  | _ => none
theorem DnB.lstW {T : Nat → Prop} {p : P} {xs : List P} {w : W} (x : DnB T h p w) (e : lstP p = some xs) : ∃ us, HL.lstW h w = some us ∧ Dns T h xs us := by
  cases p with
  | lst ys => cases e; obtain ⟨a, us, rfl, g, d⟩ := x.lst; exact ⟨us, by simp [HL.lstW, g], d⟩
  | rol ys => cases e; obtain ⟨a, us, rfl, g, d⟩ := x.rol; exact ⟨us, by simp [HL.lstW, g], d⟩
  | _ => cases e
/-! arguments -/
def pNil : PA := fun _ => some []
def pCons (a : PE) (r : PA) : PA := fun δ => (a δ).bind fun x => (r δ).bind fun xs => some (x :: xs)
theorem a_nil : Pa dNil pNil := fun n B O s h δ r E e => by
  cases e
  exact ⟨[], [], by rw [List.append_nil]; rfl, by simp only [Dns]⟩
theorem a_cons {a : DE} {r : DA} {p : PE} {q : PA} (ha : Pe a p) (hr : Pa r q) : Pa (dCons a r) (pCons p q) := fun n B O s h δ rs E e => by
  unfold pCons at e
  cases e1 : p δ with
  | none => rw [e1] at e; cases e
  | some x =>
    rw [e1] at e
    simp only [Option.bind_some] at e
    cases e2 : q δ with
    | none => rw [e2] at e; cases e
    | some xs =>
      rw [e2] at e
      cases e
      obtain ⟨w, l, c1, d1⟩ := ha n B O s h δ x E e1
      obtain ⟨ws, l2, c2, d2⟩ := hr n B O s (h ++ l) δ xs E.app e2
      refine ⟨w :: ws, l ++ l2, ?_, ?_⟩
      · unfold dCons
        rw [c1]
        simp only [R.bind]
        rw [c2, List.append_assoc]
      · rw [← List.append_assoc]
        simp only [Dns]
        exact ⟨w, ws, rfl, d1.app, d2⟩
def DnsB (T : Nat → Prop) (h : Sh) : List P → List W → Prop
  | [], us => us = []
  | p :: ps, us => ∃ u r, us = u :: r ∧ DnB T h p u ∧ DnsB T h ps r
theorem DnsB.app {T : Nat → Prop} : ∀ {ps : List P} {us : List W}, DnsB T h ps us → DnsB T (h ++ l) ps us
  | [], us, x => x
  | p :: ps, us, ⟨u, r, e, d, dr⟩ => ⟨u, r, e, d.app, dr.app⟩
def Pab (d : DA) (p : PA) : Prop := ∀ n B O s h δ r, Env n B O s h δ → p δ = some r → ∃ w l, d s h = .ok w (h ++ l) ∧ DnsB (Tb B O) (h ++ l) r w
theorem ab_nil : Pab dNil pNil := fun n B O s h δ r E e => by
  cases e
  exact ⟨[], [], by rw [List.append_nil]; rfl, rfl⟩
theorem ab_cons {a : DE} {r : DA} {p : PE} {q : PA} (ha : Pb a p) (hr : Pab r q) : Pab (dCons a r) (pCons p q) := fun n B O s h δ rs E e => by
  unfold pCons at e
  cases e1 : p δ with
  | none => rw [e1] at e; cases e
  | some x =>
    rw [e1] at e
    simp only [Option.bind_some] at e
    cases e2 : q δ with
    | none => rw [e2] at e; cases e
    | some xs =>
      rw [e2] at e
      cases e
      obtain ⟨w, l, c1, d1⟩ := ha n B O s h δ x E e1
      obtain ⟨ws, l2, c2, d2⟩ := hr n B O s (h ++ l) δ xs E.app e2
      refine ⟨w :: ws, l ++ l2, ?_, ?_⟩
      · unfold dCons
        rw [c1]
        simp only [R.bind]
        rw [c2, List.append_assoc]
      · rw [← List.append_assoc]
        exact ⟨w, ws, rfl, d1.app, d2⟩
def BD (f : List W → Sh → OR) (g : List P → Option P) : Prop := ∀ T h ps ws r, DnsB T h ps ws → g ps = some r → OrD T h r (f ws h)
def pB (g : List P → Option P) (a : PA) : PE := fun δ => (a δ).bind g
theorem e_b {f : List W → Sh → OR} {g : List P → Option P} {a : DA} {p : PA} (k : BD f g) (ha : Pab a p) : Pe (dB f a) (pB g p) := fun n B O s h δ r E e => by
  unfold pB at e
  cases e1 : p δ with
  | none => rw [e1] at e; cases e
  | some x =>
    rw [e1] at e
    obtain ⟨w, l, c1, d1⟩ := ha n B O s h δ x E e1
    obtain ⟨u, l3, c3, d3⟩ := fin_d (h := h ++ l) (fun i t => Tb.lt (E.app (l := l)) t) (k _ _ _ _ _ d1 e)
    refine ⟨u, l ++ l3, ?_, by rw [← List.append_assoc]; exact d3⟩
    unfold dB
    rw [c1]
    simp only [R.bind]
    rw [c3, List.append_assoc]
theorem DnsB.one {T : Nat → Prop} {p : P} {us : List W} (x : DnsB T h [p] us) : ∃ u, us = [u] ∧ DnB T h p u := by
  obtain ⟨u, r, e, d, dr⟩ := x
  have : r = [] := dr
  subst this
  exact ⟨u, e, d⟩
theorem DnsB.two {T : Nat → Prop} {p q : P} {us : List W} (x : DnsB T h [p, q] us) : ∃ u v, us = [u, v] ∧ DnB T h p u ∧ DnB T h q v := by
  obtain ⟨u, r, e, d, dr⟩ := x
  obtain ⟨v, rfl, dv⟩ := dr.one
  exact ⟨u, v, e, d, dv⟩
def qLst (xs : List P) : Option (List P) := if xs.length ≤ LIM then some xs else none
def pO (g : List P → Option (List P)) (a : PA) : Dl → Option (List P) := fun δ => (a δ).bind g
theorem o_lst {a : DA} {p : PA} (ha : Pa a p) : Po (dB bLst a) (pO qLst p) := fun n B O s h δ r E e => by
  unfold pO at e
  cases e1 : p δ with
  | none => rw [e1] at e; cases e
  | some x =>
    rw [e1] at e
    have e : qLst x = some r := e
    unfold qLst at e
    by_cases hl : x.length ≤ LIM
    · rw [if_pos hl] at e
      have hr : x = r := Option.some.inj e
      subst hr
      obtain ⟨w, l, c1, d1⟩ := ha n B O s h δ x E e1
      refine ⟨(h ++ l).length, l ++ [.lst w], w, ?_, by simp, by rw [← List.append_assoc]; simp, ?_⟩
      · unfold dB
        rw [c1]
        simp only [R.bind, bLst, d1.length, hl, if_true, OR.fin, List.append_assoc]
      · rw [← List.append_assoc]
        refine Dns.mono (fun i o t e => ⟨app_at e, fun z => ?_⟩) x w d1
        rcases z with z | z
        · exact t z
        · have := (List.getElem?_eq_some_iff.mp e).1; omega
    · rw [if_neg hl] at e; cases e
def qTup (xs : List P) : Option P := if xs.length ≤ LIM then some (.tup xs) else none
theorem e_tup {a : DA} {p : PA} (ha : Pa a p) : Pe (dB bTup a) (pB qTup p) := fun n B O s h δ r E e => by
  unfold pB at e
  cases e1 : p δ with
  | none => rw [e1] at e; cases e
  | some x =>
    rw [e1] at e
    have e : qTup x = some r := e
    unfold qTup at e
    split at e
    · rename_i hl
      cases e
      obtain ⟨w, l, c1, d1⟩ := ha n B O s h δ x E e1
      obtain ⟨u, l3, c3, d3⟩ := fin_d (h := h ++ l) (o := .new (.tup w)) (r := .tup x) (fun i t => Tb.lt (E.app (l := l)) t) ⟨x, rfl, d1⟩
      refine ⟨u, l ++ l3, ?_, by rw [← List.append_assoc]; exact d3⟩
      unfold dB
      rw [c1]
      simp only [R.bind, bTup, d1.length, hl, if_true]
      rw [c3, List.append_assoc]
    · cases e
def qLen : List P → Option P
  | [.str s] => if s.length ≤ LIM then some (.int s.length) else none
  | [p] => (seqP p).map fun xs => .int xs.length
  | _ => none
theorem d_len : BD bLen qLen := fun T h ps ws r x e => by
  unfold qLen at e
  split at e
  · split at e
    · rename_i hl; cases e; obtain ⟨u, rfl, d⟩ := x.one; rw [d.str]; simp only [bLen, hl, if_true, OrD, Dn]
    · cases e
  · rename_i p hp
    cases e1 : seqP p with
    | none => rw [e1] at e; cases e
    | some xs =>
      rw [e1] at e; cases e
      obtain ⟨u, rfl, d⟩ := x.one
      obtain ⟨us, g, ds⟩ := d.seq e1
      unfold bLen
      split
      · rename_i s hs
        injection hs with hs _
        subst hs
        simp [seqW, lstW, tupW] at g
      · rename_i y hy hs
        injection hs with hs _
        subst hs
        rw [g]
        simp only [OrD, Dn, ds.length]
      · rename_i hne
        exact absurd rfl (hne u)
  · cases e
def qMax2 : List P → Option P
  | [.int i, .int j] => some (.int (if j > i then j else i))
  | _ => none
theorem d_max2 : BD bMax2 qMax2 := fun T h ps ws r x e => by
  unfold qMax2 at e
  split at e
  · cases e; obtain ⟨u, v, rfl, d1, d2⟩ := x.two; rw [d1.int, d2.int]; simp only [bMax2, OrD, Dn]
  · cases e
def qMin2 : List P → Option P
  | [.int i, .int j] => some (.int (if j < i then j else i))
  | _ => none
theorem d_min2 : BD bMin2 qMin2 := fun T h ps ws r x e => by
  unfold qMin2 at e
  split at e
  · cases e; obtain ⟨u, v, rfl, d1, d2⟩ := x.two; rw [d1.int, d2.int]; simp only [bMin2, OrD, Dn]
  · cases e
def qInt1 : List P → Option P
  | [.int i] => some (.int i)
  | [.bl k] => some (.int (if k then 1 else 0))
  | _ => none
theorem d_int1 : BD bInt qInt1 := fun T h ps ws r x e => by
  unfold qInt1 at e
  split at e
  · cases e; obtain ⟨u, rfl, d⟩ := x.one; rw [d.int]; simp only [bInt, OrD, Dn]
  · cases e; obtain ⟨u, rfl, d⟩ := x.one; rw [d.bl]; simp only [bInt, OrD, Dn]
  · cases e
end
end HL


set_option Elab.async false
set_option linter.all false
set_option maxRecDepth 100000
set_option maxHeartbeats 4000000
namespace HL
open PySem (Str)
section
variable {n : Lo} {B : Nat → Prop} {O : List (List Nat)} {s : Sg} {h l : Sh} {δ : Dl}
/-! tests -/
def truP : P → Option Bool
  | .non => some false
  | .bl b => some b
  | .int i => some (i != 0)
  | .str s => if s.length ≤ LIM then some ((s.length : Int) != 0) else none
  | .lst xs => some (!xs.isEmpty)
  | .rol xs => some (!xs.isEmpty)
  | .tup xs => some (!xs.isEmpty)
  | _ => none
theorem tru_p {T : Nat → Prop} {p : P} {w : W} {b : Bool} (x : DnB T h p w) (e : truP p = some b) : truW w h = some b := by
  cases p with
  | non => rw [x.non]; exact e
  | bl b => rw [x.bl]; exact e
  | int i => rw [x.int]; exact e
  | str y => rw [x.str]; exact e
  | lst xs => obtain ⟨a, us, rfl, g, d⟩ := x.lst; cases e; simp only [truW, g, d.nil_iff]
  | rol xs => obtain ⟨a, us, rfl, g, d⟩ := x.rol; cases e; simp only [truW, g, d.nil_iff]
  | tup xs => obtain ⟨a, us, rfl, _, g, d⟩ := x.tup; cases e; simp only [truW, g, d.nil_iff]
  | _ => cases e
def pT (a : PE) : PT := fun δ => (a δ).bind truP
theorem t_e {a : DE} {p : PE} (ha : Pb a p) : Pt (dT a) (pT p) := fun n B O s h δ r E e => by
  unfold pT at e
  cases e1 : p δ with
  | none => rw [e1] at e; cases e
  | some x =>
    rw [e1] at e
    obtain ⟨w, l, c1, d1⟩ := ha n B O s h δ x E e1
    refine ⟨l, ?_⟩
    unfold dT
    rw [c1]
    simp only [R.bind, tru_p d1 (show truP x = some r from e)]
def ptNot (a : PT) : PT := fun δ => (a δ).map (!·)
theorem t_not {a : DT} {p : PT} (ha : Pt a p) : Pt (tNot a) (ptNot p) := fun n B O s h δ r E e => by
  unfold ptNot at e
  cases e1 : p δ with
  | none => rw [e1] at e; cases e
  | some x =>
    rw [e1] at e; cases e
    obtain ⟨l, c1⟩ := ha n B O s h δ x E e1
    exact ⟨l, by unfold tNot; rw [c1]; rfl⟩
def ptAnd (a b : PT) : PT := fun δ => (a δ).bind fun c => if c = true then b δ else some false
def ptOr (a b : PT) : PT := fun δ => (a δ).bind fun c => if c = true then some true else b δ
theorem t_and {a b : DT} {p q : PT} (ha : Pt a p) (hb : Pt b q) : Pt (tAnd a b) (ptAnd p q) := fun n B O s h δ r E e => by
  unfold ptAnd at e
  cases e1 : p δ with
  | none => rw [e1] at e; cases e
  | some x =>
    rw [e1] at e
    simp only [Option.bind_some] at e
    obtain ⟨l, c1⟩ := ha n B O s h δ x E e1
    cases x with
    | false => cases e; exact ⟨l, by unfold tAnd; rw [c1]; rfl⟩
    | true =>
      obtain ⟨l2, c2⟩ := hb n B O s (h ++ l) δ r E.app (by simpa using e)
      exact ⟨l ++ l2, by unfold tAnd; rw [c1]; simp only [R.bind, if_true]; rw [c2, List.append_assoc]⟩
theorem t_or {a b : DT} {p q : PT} (ha : Pt a p) (hb : Pt b q) : Pt (tOr a b) (ptOr p q) := fun n B O s h δ r E e => by
  unfold ptOr at e
  cases e1 : p δ with
  | none => rw [e1] at e; cases e
  | some x =>
    rw [e1] at e
    simp only [Option.bind_some] at e
    obtain ⟨l, c1⟩ := ha n B O s h δ x E e1
    cases x with
    | true => cases e; exact ⟨l, by unfold tOr; rw [c1]; rfl⟩
    | false =>
      obtain ⟨l2, c2⟩ := hb n B O s (h ++ l) δ r E.app (by simpa using e)
      exact ⟨l ++ l2, by unfold tOr; rw [c1]; simp only [R.bind, Bool.false_eq_true, if_false]; rw [c2, List.append_assoc]⟩
def ptTrue : PT := fun _ => some true
/-! and, or, not, if as values -/
def blP : P → Option Bool
  | .bl b => some b
  | _ => none
theorem bl_p {T : Nat → Prop} {p : P} {w : W} {b : Bool} (x : Dn T h p w) (e : blP p = some b) : w = .bl b := by
  cases p <;> first
    | (cases e; simpa only [Dn] using x)
    | cases e
def pAnd (a b : PE) : PE := fun δ => (a δ).bind fun x => (blP x).bind fun c => if c = true then b δ else some (.bl false)
def pOr (a b : PE) : PE := fun δ => (a δ).bind fun x => (blP x).bind fun c => if c = true then some (.bl true) else b δ
def pNot (a : PE) : PE := fun δ => (a δ).bind fun x => (blP x).map fun c => .bl (!c)
theorem e_and {a b : DE} {p q : PE} (ha : Pe a p) (hb : Pe b q) : Pe (dAnd a b) (pAnd p q) := fun n B O s h δ r E e => by
  unfold pAnd at e
  cases e1 : p δ with
  | none => rw [e1] at e; cases e
  | some x =>
    rw [e1] at e
    simp only [Option.bind_some] at e
    cases e2 : blP x with
    | none => rw [e2] at e; cases e
    | some c =>
      rw [e2] at e
      simp only [Option.bind_some] at e
      obtain ⟨w, l, c1, d1⟩ := ha n B O s h δ x E e1
      have hw := bl_p d1 e2
      subst hw
      cases c with
      | false => cases e; exact ⟨.bl false, l, by unfold dAnd; rw [c1]; rfl, by simp only [Dn]⟩
      | true =>
        obtain ⟨u, l2, c2, d2⟩ := hb n B O s (h ++ l) δ r E.app (by simpa using e)
        exact ⟨u, l ++ l2, by unfold dAnd; rw [c1]; simp only [R.bind, if_true]; rw [c2, List.append_assoc], by rw [← List.append_assoc]; exact d2⟩
theorem e_or {a b : DE} {p q : PE} (ha : Pe a p) (hb : Pe b q) : Pe (dOr a b) (pOr p q) := fun n B O s h δ r E e => by
  unfold pOr at e
  cases e1 : p δ with
  | none => rw [e1] at e; cases e
  | some x =>
    rw [e1] at e
    simp only [Option.bind_some] at e
    cases e2 : blP x with
    | none => rw [e2] at e; cases e
    | some c =>
      rw [e2] at e
      simp only [Option.bind_some] at e
      obtain ⟨w, l, c1, d1⟩ := ha n B O s h δ x E e1
      have hw := bl_p d1 e2
      subst hw
      cases c with
      | true => cases e; exact ⟨.bl true, l, by unfold dOr; rw [c1]; rfl, by simp only [Dn]⟩
      | false =>
        obtain ⟨u, l2, c2, d2⟩ := hb n B O s (h ++ l) δ r E.app (by simpa using e)
        exact ⟨u, l ++ l2, by unfold dOr; rw [c1]; simp only [R.bind, Bool.false_eq_true, if_false]; rw [c2, List.append_assoc], by rw [← List.append_assoc]; exact d2⟩
theorem e_not {a : DE} {p : PE} (ha : Pe a p) : Pe (dNot a) (pNot p) := fun n B O s h δ r E e => by
  unfold pNot at e
  cases e1 : p δ with
  | none => rw [e1] at e; cases e
  | some x =>
    rw [e1] at e
    simp only [Option.bind_some] at e
    cases e2 : blP x with
    | none => rw [e2] at e; cases e
    | some c =>
      rw [e2] at e; cases e
      obtain ⟨w, l, c1, d1⟩ := ha n B O s h δ x E e1
      have hw := bl_p d1 e2
      subst hw
      exact ⟨.bl (!c), l, by unfold dNot; rw [c1]; rfl, by simp only [Dn]⟩
def pIf (c : PT) (a b : PE) : PE := fun δ => (c δ).bind fun k => if k = true then a δ else b δ
def pChain (f g : Int → Int → Bool) (a b c : PE) : PE := fun δ => match a δ, b δ with
  | some (.int i), some (.int j) => if f i j then (match c δ with
      | some (.int k) => some (.bl (g j k))
      | _ => none) else some (.bl false)
  | _, _ => none
/-! slices -/
abbrev PO := Dl → Option (Option Int)
def Pq (d : DO) (p : PO) : Prop := ∀ n B O s h δ r, Env n B O s h δ → p δ = some r → ∃ l, d s h = .ok r (h ++ l)
def pNoPart : PO := fun _ => some none
def pPart (a : PE) : PO := fun δ => match a δ with
  | some (.int i) => some (some i)
  | _ => none
theorem q_no : Pq dNoPart pNoPart := fun n B O s h δ r E e => by cases e; exact ⟨[], by rw [List.append_nil]; rfl⟩
theorem q_part {a : DE} {p : PE} (ha : Pe a p) : Pq (dPart a) (pPart p) := fun n B O s h δ r E e => by
  unfold pPart at e
  split at e
  · rename_i i e1
    cases e
    obtain ⟨w, l, c1, d1⟩ := ha n B O s h δ _ E e1
    simp only [Dn] at d1
    subst d1
    exact ⟨l, by unfold dPart; rw [c1]; rfl⟩
  · cases e
def cutP (xs : List P) (lo hi : Option Int) : List P := (xs.drop (sIx xs.length 0 lo)).take (sIx xs.length xs.length hi - sIx xs.length 0 lo)
theorem Dns.cut {T : Nat → Prop} {xs : List P} {us : List W} (d : Dns T h xs us) (lo hi : Option Int) : Dns T h (cutP xs lo hi) (cutW us lo hi) := by
  unfold cutP cutW
  rw [d.length]
  exact (d.drop _).take _
def qSl (p : P) (lo hi : Option Int) : Option P := match p with
  | .lst xs => some (.lst (cutP xs lo hi))
  | .rol xs => some (.lst (cutP xs lo hi))
  | .tup xs => if sIx xs.length 0 lo = 0 ∧ sIx xs.length xs.length hi = xs.length then none else some (.tup (cutP xs lo hi))
  | _ => none
theorem d_sl {T : Nat → Prop} {p : P} {w : W} {lo hi : Option Int} {r : P} (x : DnB T h p w) (e : qSl p lo hi = some r) : OrD T h r (oSl w lo hi h) := by
  unfold qSl at e
  split at e
  · cases e; obtain ⟨a, us, rfl, g, d⟩ := x.lst; simp only [oSl, lstW, g, OrD]; exact ⟨_, rfl, d.cut _ _⟩
  · cases e; obtain ⟨a, us, rfl, g, d⟩ := x.rol; simp only [oSl, lstW, g, OrD]; exact ⟨_, rfl, d.cut _ _⟩
  · split at e
    · cases e
    · rename_i ne
      cases e
      obtain ⟨a, us, rfl, _, g, d⟩ := x.tup
      simp only [oSl, lstW, tupW, g, d.length]
      rw [if_neg ne]
      exact ⟨_, rfl, d.cut _ _⟩
  · cases e
def pSl (a : PE) (lo hi : PO) : PE := fun δ => (a δ).bind fun x => (lo δ).bind fun l => (hi δ).bind fun u => qSl x l u
theorem e_sl {a : DE} {lo hi : DO} {p : PE} {pl ph : PO} (ha : Pb a p) (hl : Pq lo pl) (hh : Pq hi ph) : Pe (dSl a lo hi) (pSl p pl ph) := fun n B O s h δ r E e => by
  unfold pSl at e
  cases e1 : p δ with
  | none => rw [e1] at e; cases e
  | some x =>
    rw [e1] at e
    simp only [Option.bind_some] at e
    cases e2 : pl δ with
    | none => rw [e2] at e; cases e
    | some lo' =>
      rw [e2] at e
      simp only [Option.bind_some] at e
      cases e3 : ph δ with
      | none => rw [e3] at e; cases e
      | some hi' =>
        rw [e3] at e
        simp only [Option.bind_some] at e
        obtain ⟨w, l, c1, d1⟩ := ha n B O s h δ x E e1
        obtain ⟨l2, c2⟩ := hl n B O s (h ++ l) δ _ E.app e2
        obtain ⟨l3, c3⟩ := hh n B O s (h ++ l ++ l2) δ _ E.app.app e3
        have d1' : DnB (Tb B O) (h ++ l ++ l2 ++ l3) x w := (d1.app (l := l2)).app
        obtain ⟨u, l4, c4, d4⟩ := fin_d (h := h ++ l ++ l2 ++ l3) (fun i t => Tb.lt ((E.app (l := l)).app (l := l2) |>.app (l := l3)) t) (d_sl d1' e)
        refine ⟨u, l ++ l2 ++ l3 ++ l4, ?_, ?_⟩
        · unfold dSl
          rw [c1]
          simp only [R.bind]
          rw [c2]
          simp only
          rw [c3]
          simp only
          rw [c4]
          simp only [List.append_assoc]
        · simp only [List.append_assoc] at d4 ⊢; exact d4
/-! defs -/
def ResD (T : Nat → Prop) (m : Nat) (h : Sh) (w : W) : RF → Prop
  | .v p => Dn T h p w
  | .o xs => ∃ a us, w = .ref a ∧ m ≤ a ∧ h[a]? = some (.lst us) ∧ Dns (fun i => T i ∨ i = a) h xs us
def Pf (f : Fn) (g : PF) : Prop := ∀ T h ws ps r, (∀ i, T i → i < h.length) → Dns T h ps ws → g ps = some r → ∃ w l, f ws h = .ok w (h ++ l) ∧ ResD T h.length (h ++ l) w r
def pCall (g : PF) (a : PA) : PE := fun δ => ((a δ).bind g).map RF.val
theorem e_call {f : Fn} {g : PF} {a : DA} {p : PA} (hf : Pf f g) (ha : Pa a p) : Pe (dCall f a) (pCall g p) := fun n B O s h δ r E e => by
  unfold pCall at e
  cases e1 : p δ with
  | none => rw [e1] at e; cases e
  | some x =>
    rw [e1] at e
    simp only [Option.bind_some] at e
    cases e2 : g x with
    | none => rw [e2] at e; cases e
    | some rf =>
      rw [e2] at e; cases e
      obtain ⟨ws, l, c1, d1⟩ := ha n B O s h δ x E e1
      obtain ⟨w, l2, c2, d2⟩ := hf (Tb B O) (h ++ l) ws x rf (fun i t => Tb.lt (E.app (l := l)) t) d1 e2
      refine ⟨w, l ++ l2, by unfold dCall; rw [c1]; simp only [R.bind]; rw [c2, List.append_assoc], ?_⟩
      rw [← List.append_assoc]
      cases rf with
      | v p => exact d2
      | o xs =>
        obtain ⟨a, us, rfl, ge, g, ds⟩ := d2
        simp only [RF.val, Dn]
        exact ⟨a, us, rfl, fun t => absurd (Tb.lt (E.app (l := l)) t) (by omega), g, ds.weak fun i t => .inl t⟩
def pCallO (g : PF) (a : PA) : Dl → Option (List P) := fun δ => ((a δ).bind g).bind fun r => match r with
  | .o xs => some xs
  | .v _ => none
end
end HL


set_option Elab.async false
set_option linter.all false
set_option maxRecDepth 100000
set_option maxHeartbeats 4000000
namespace HL
open PySem (Str)
section
variable {n : Lo} {B : Nat → Prop} {O O' O2 : List (List Nat)} {s : Sg} {h h' h2 l : Sh} {δ : Dl}
structure Keep (O : List (List Nat)) (h : Sh) (O' : List (List Nat)) (h' : Sh) : Prop where
  le : h.length ≤ h'.length
  at_ : ∀ (i : Nat) (o : SO), h[i]? = some o → ¬ Ow O i → h'[i]? = some o ∧ ¬ Ow O' i
theorem Keep.refl : Keep O h O h := ⟨Nat.le_refl _, fun _ _ e m => ⟨e, m⟩⟩
theorem Keep.trans (a : Keep O h O' h') (b : Keep O' h' O2 h2) : Keep O h O2 h2 := ⟨Nat.le_trans a.le b.le, fun i o e m => b.at_ i o (a.at_ i o e m).1 (a.at_ i o e m).2⟩
theorem Keep.app : Keep O h O (h ++ l) := ⟨by simp, fun i o e m => ⟨app_at e, m⟩⟩
def Kp (n : Lo) (h h' : Sh) : Prop := n.at_ ≤ h'.length ∧ ∀ (i : Nat) (o : SO), i < n.at_ → ¬ n.lent i → h[i]? = some o → h'[i]? = some o
theorem Keep.kp (k : Keep O h O' h') (E : Env n B O s h δ) : Kp n h h' := ⟨Nat.le_trans E.le k.le, fun i o hi hl e => (k.at_ i o e fun m => (E.new i m).1.elim (fun z => absurd z (by omega)) hl).1⟩
theorem Kp.trans {n : Lo} {h h' h2 : Sh} (a : Kp n h h') (b : Kp n h' h2) : Kp n h h2 := ⟨b.1, fun i o hi hl e => b.2 i o hi hl (a.2 i o hi hl e)⟩
theorem Keep.dns (k : Keep O h O' h') {p : List P} {w : List W} (x : Dns (Tb B O) h p w) : Dns (Tb B O') h' p w := Dns.mono (fun i o t e => by
  have := k.at_ i o e fun m => t (.inr m)
  exact ⟨this.1, fun z => z.elim (fun z => t (.inl z)) this.2⟩) p w x
def EndD (n : Lo) (B : Nat → Prop) (O : List (List Nat)) (h : Sh) (c : C) : RS → Prop
  | .er => True
  | .nx δ' => ∃ O' s' h', c = .nx s' h' ∧ Env n B O' s' h' δ' ∧ Keep O h O' h'
  | .bk δ' => ∃ O' s' h', c = .bk s' h' ∧ Env n B O' s' h' δ' ∧ Keep O h O' h'
  | .ct δ' => ∃ O' s' h', c = .ct s' h' ∧ Env n B O' s' h' δ' ∧ Keep O h O' h'
  | .rt r => ∃ w h', c = .rt w h' ∧ Kp n h h' ∧ Dn B h' r w
  | .rx r δ' => ∃ w O' s' h', c = .rt w h' ∧ Env n B O' s' h' δ' ∧ Keep O h O' h' ∧ Dn (Tb B O') h' r w
  | .ro xs => ∃ a us h', c = .rt (.ref a) h' ∧ Kp n h h' ∧ (n.at_ ≤ a ∨ n.lent a) ∧ h'[a]? = some (.lst us) ∧ Dns (fun i => B i ∨ i = a) h' xs us
def Ps (d : DS) (p : PS) : Prop := ∀ n B O s h δ, Env n B O s h δ → EndD n B O h (d s h) (p δ)
theorem EndD.before {c : C} {r : RS} (k : Keep O h O' h') (E : Env n B O s h δ) (x : EndD n B O' h' c r) : EndD n B O h c r := by
  cases r with
  | er => trivial
  | nx δ' => obtain ⟨O2, s2, h2, e, E2, k2⟩ := x; exact ⟨O2, s2, h2, e, E2, k.trans k2⟩
  | bk δ' => obtain ⟨O2, s2, h2, e, E2, k2⟩ := x; exact ⟨O2, s2, h2, e, E2, k.trans k2⟩
  | ct δ' => obtain ⟨O2, s2, h2, e, E2, k2⟩ := x; exact ⟨O2, s2, h2, e, E2, k.trans k2⟩
  | rt p => obtain ⟨w, h2, e, k2, d⟩ := x; exact ⟨w, h2, e, (k.kp E).trans k2, d⟩
  | rx p δ' => obtain ⟨w, O2, s2, h2, e, E2, k2, d⟩ := x; exact ⟨w, O2, s2, h2, e, E2, k.trans k2, d⟩
  | ro xs => obtain ⟨a, us, h2, e, k2, d⟩ := x; exact ⟨a, us, h2, e, (k.kp E).trans k2, d⟩
/-! names are set -/
theorem mem_set_none {O : List (List Nat)} {i a : Nat} (m : Ow (O.set i []) a) : Ow O a := m.set.elim id fun z => by cases z
theorem getD_set_ne {α : Type} {l : List (Option α)} {i j : Nat} {x : Option α} (ne : i ≠ j) : ((l.set i x)[j]?).getD none = (l[j]?).getD none := by rw [List.getElem?_set_ne ne]
theorem getL_set_ne {O : List (List Nat)} {i j : Nat} {x : List Nat} (ne : i ≠ j) : ((O.set i x)[j]?).getD [] = (O[j]?).getD [] := by rw [List.getElem?_set_ne ne]
theorem SlD.weak {T T' : Nat → Prop} {w : Option W} {o : List Nat} {sl : Sl} (x : SlD T h w o sl) (k : ∀ (i : Nat) (u : SO), h[i]? = some u → T' i → T i) : SlD T' h w o sl := x.mv (fun i o t e => ⟨e, fun z => t (k i o e z)⟩) fun _ _ _ e => e
theorem one_set (E : Env n B O s h δ) (i : Nat) {m : List Nat} (hm : ∀ a ∈ m, ¬ Ow O a) : ∀ (j k a : Nat) (l l' : List Nat), (O.set i m)[j]? = some l → (O.set i m)[k]? = some l' → a ∈ l → a ∈ l' → j = k := fun j k a l l' e1 e2 m1 m2 => by
  rw [List.getElem?_set] at e1 e2
  split at e1
  · rename_i hj
    split at e1
    · cases e1
      split at e2
      · rename_i hk; rw [← hj, ← hk]
      · exact absurd (Ow.of e2 m2) (hm a m1)
    · cases e1
  · split at e2
    · split at e2
      · cases e2; exact absurd (Ow.of e1 m1) (hm a m2)
      · cases e2
    · exact E.one j k a l l' e1 e2 m1 m2
theorem Env.set (E : Env n B O s h δ) (i : Nat) {p : P} {w : W} (d : Dn (Tb B O) h p w) : Env n B (O.set i []) (s.set i (some w)) h (δ.set i (.val p)) where
  le := E.le
  old := E.old
  ls := by rw [List.length_set, List.length_set]; exact E.ls
  lo := by rw [List.length_set, List.length_set]; exact E.lo
  one := one_set E i fun _ z => by cases z
  new := fun a m => E.new a (mem_set_none m)
  self := self_set E i fun _ _ z => by cases z
  at_ := fun j sl e => by
    have wk : ∀ (k : Nat) (u : SO), h[k]? = some u → Tb B (O.set i []) k → Tb B O k := fun k _ _ t => t.elim .inl fun m => .inr (mem_set_none m)
    by_cases hj : i = j
    · subst hj
      have hi : i < δ.length := by
        rcases Nat.lt_or_ge i δ.length with z | z
        · exact z
        · rw [List.getElem?_eq_none_iff.mpr (by rw [List.length_set]; exact z)] at e; cases e
      rw [List.getElem?_set_self hi] at e
      cases e
      refine ⟨?_, w, ?_, d.weak fun k t => t.elim .inl fun m => .inr (mem_set_none m)⟩
      · rw [List.getElem?_set_self (by rw [E.lo]; exact hi)]; rfl
      · rw [List.getElem?_set_self (by rw [E.ls]; exact hi)]; rfl
    · rw [List.getElem?_set_ne hj] at e
      rw [getD_set_ne hj, getL_set_ne hj]
      exact (E.at_ j sl e).weak wk
theorem Keep.drop {i : Nat} : Keep O h (O.set i []) h := ⟨Nat.le_refl _, fun j o e m => ⟨e, fun z => m (mem_set_none z)⟩⟩
theorem Env.own (E : Env n B O s h δ) (i : Nat) {a : Nat} {us : List W} {xs : List P} (ge : h.length ≤ a) (g : (h ++ l)[a]? = some (.lst us)) (d : Dns (fun j => Tb B O j ∨ j = a) (h ++ l) xs us) (hi : i < δ.length) :
    Env n B (O.set i [a]) (s.set i (some (.ref a))) (h ++ l) (δ.set i (.own xs)) where
  le := by rw [List.length_append]; have := E.le; omega
  old := E.old
  ls := by rw [List.length_set, List.length_set]; exact E.ls
  lo := by rw [List.length_set, List.length_set]; exact E.lo
  one := one_set E i fun b z t => by rw [List.mem_singleton.mp z] at t; exact absurd (E.new a t).2 (by omega)
  new := fun b m => by
    rcases m.set with z | z
    · exact ⟨(E.new b z).1, by rw [List.length_append]; have := (E.new b z).2; omega⟩
    · rw [List.mem_singleton.mp z]; exact ⟨.inl (Nat.le_trans E.le ge), (List.getElem?_eq_some_iff.mp g).1⟩
  self := self_set E i fun _ _ z => by cases z
  at_ := fun j sl e => by
    have tt : ∀ k, Tb B (O.set i [a]) k → Tb B O k ∨ k = a := fun k t => t.elim (fun z => .inl (.inl z)) fun m => by
      rcases m.set with z | z
      · exact .inl (.inr z)
      · exact .inr (List.mem_singleton.mp z)
    by_cases hj : i = j
    · subst hj
      rw [List.getElem?_set_self hi] at e
      cases e
      refine ⟨a, us, ?_, ?_, g, d.weak fun k t => tt k t⟩
      · rw [List.getElem?_set_self (by rw [E.lo]; exact hi)]; rfl
      · rw [List.getElem?_set_self (by rw [E.ls]; exact hi)]; rfl
    · rw [List.getElem?_set_ne hj] at e
      rw [getD_set_ne hj, getL_set_ne hj]
      exact ((E.at_ j sl e).weak (T' := Tb B (O.set i [a])) (fun k u ek t => by
        rcases tt k t with z | z
        · exact z
        · have := (List.getElem?_eq_some_iff.mp ek).1; omega)).app
theorem Keep.owned {i a : Nat} (ge : h.length ≤ a) : Keep O h (O.set i [a]) (h ++ l) := ⟨by simp, fun j o e m => ⟨app_at e, fun z => by
  rcases z.set with q | q
  · exact m q
  · rw [List.mem_singleton.mp q] at e; have := (List.getElem?_eq_some_iff.mp e).1; omega⟩⟩
def frz (i : Nat) (δ : Dl) : Dl := match δ[i]? with
  | some (.own xs) => δ.set i (.val (.lst xs))
  | _ => δ
theorem name_at {i a : Nat} (w : (s[i]?).getD none = some (.ref a)) : s[i]? = some (some (.ref a)) := by
  cases q2 : s[i]? with
  | none => rw [q2] at w; cases w
  | some z => rw [q2] at w; exact congrArg some w
theorem Env.frz (E : Env n B O s h δ) (i : Nat) : ∃ O', Env n B O' s h (frz i δ) ∧ Keep O h O' h := by
  unfold HL.frz
  split
  · rename_i xs q
    refine ⟨O.set i [], ?_, Keep.drop⟩
    obtain ⟨a, us, o, w, g, d⟩ := E.at_ i _ q
    have hi : i < δ.length := (List.getElem?_eq_some_iff.mp q).1
    have hoa := getD_one o
    have hsw := name_at w
    have nt : ∀ k, Tb B (O.set i []) k → Tb B O k := fun k t => t.elim .inl fun m => .inr (mem_set_none m)
    have na : ¬ Tb B (O.set i []) a := fun t => by
      rcases t with t | t
      · have z1 := E.old a t
        rcases (E.new a (Ow.one hoa)).1 with z | z
        · omega
        · exact z1.2 z
      · obtain ⟨j, l, hj, ml⟩ := t.at_
        rw [List.getElem?_set] at hj
        split at hj
        · split at hj
          · cases hj; cases ml
          · cases hj
        · rename_i ne; exact ne (E.one i j a _ _ hoa hj List.mem_cons_self ml)
    exact {
      le := E.le
      old := E.old
      ls := by rw [List.length_set]; exact E.ls
      lo := by rw [List.length_set, List.length_set]; exact E.lo
      one := one_set E i fun _ z => by cases z
      new := fun b m => E.new b (mem_set_none m)
      self := self_chg E i fun _ _ z => by cases z
      at_ := fun j sl e => by
        by_cases hj : i = j
        · subst hj
          rw [List.getElem?_set_self hi] at e
          cases e
          refine ⟨by rw [List.getElem?_set_self (by rw [E.lo]; exact hi)]; rfl, .ref a, by rw [hsw]; rfl, ?_⟩
          simp only [Dn]
          exact ⟨a, us, rfl, na, g, d.weak nt⟩
        · rw [List.getElem?_set_ne hj] at e
          rw [getL_set_ne hj]
          exact (E.at_ j sl e).weak fun k _ _ t => nt k t }
  · exact ⟨O, E, Keep.refl⟩
def psFrz (i : Nat) (q : PS) : PS := fun δ => q (frz i δ)
/-! statements -/
def psNx : PS := fun δ => .nx δ
theorem s_nx : Ps sNx psNx := fun n B O s h δ E => ⟨O, s, h, rfl, E, Keep.refl⟩
def psBk : PS := fun δ => .bk δ
def psCt : PS := fun δ => .ct δ
def psEr : PS := fun _ => .er
def psSeq (a b : PS) : PS := fun δ => match a δ with
  | .nx δ => b δ
  | r => r
theorem s_seq {a b : DS} {p q : PS} (ha : Ps a p) (hb : Ps b q) : Ps (sSeq a b) (psSeq p q) := fun n B O s h δ E => by
  have x := ha n B O s h δ E
  unfold psSeq sSeq
  cases e : p δ with
  | nx δ' =>
    rw [e] at x
    obtain ⟨O', s', h', e', E', k⟩ := x
    rw [e']
    exact (hb n B O' s' h' δ' E').before k E
  | er => trivial
  | bk δ' => rw [e] at x; obtain ⟨O', s', h', e', E', k⟩ := x; rw [e']; exact ⟨O', s', h', rfl, E', k⟩
  | ct δ' => rw [e] at x; obtain ⟨O', s', h', e', E', k⟩ := x; rw [e']; exact ⟨O', s', h', rfl, E', k⟩
  | rt r => rw [e] at x; obtain ⟨w, h', e', k⟩ := x; rw [e']; exact ⟨w, h', rfl, k⟩
  | rx r δ' => rw [e] at x; obtain ⟨w, O', s', h', e', k⟩ := x; rw [e']; exact ⟨w, O', s', h', rfl, k⟩
  | ro r => rw [e] at x; obtain ⟨a, us, h', e', k⟩ := x; rw [e']; exact ⟨a, us, h', rfl, k⟩
def psSet (i : Nat) (e : PE) : PS := fun δ => match e δ with
  | some p => .nx (δ.set i (.val p))
  | none => .er
theorem s_set {a : DE} {p : PE} (i : Nat) (ha : Pe a p) : Ps (sSet i a) (psSet i p) := fun n B O s h δ E => by
  unfold psSet sSet
  cases e : p δ with
  | none => trivial
  | some r =>
    obtain ⟨w, l, c1, d1⟩ := ha n B O s h δ r E e
    rw [c1]
    exact ⟨_, _, _, rfl, (E.app (l := l)).set i d1, Keep.trans Keep.app Keep.drop⟩
def psOwn (i : Nat) (e : Dl → Option (List P)) : PS := fun δ => match e δ with
  | some xs => if i < δ.length then .nx (δ.set i (.own xs)) else .er
  | none => .er
def psRet (e : PE) : PS := fun δ => match e δ with
  | some p => .rt p
  | none => .er
theorem s_ret {a : DE} {p : PE} (ha : Pe a p) : Ps (sRet a) (psRet p) := fun n B O s h δ E => by
  unfold psRet sRet
  cases e : p δ with
  | none => trivial
  | some r =>
    obtain ⟨w, l, c1, d1⟩ := ha n B O s h δ r E e
    rw [c1]
    exact ⟨w, h ++ l, rfl, Keep.app.kp E, d1.weak fun i t => .inl t⟩
def psRetO (e : Dl → Option (List P)) : PS := fun δ => match e δ with
  | some p => .ro p
  | none => .er
theorem s_retO {a : DE} {p : Dl → Option (List P)} (ha : Po a p) : Ps (sRet a) (psRetO p) := fun n B O s h δ E => by
  unfold psRetO sRet
  cases e : p δ with
  | none => trivial
  | some r =>
    obtain ⟨b, l, us, c1, ge, g, d1⟩ := ha n B O s h δ r E e
    rw [c1]
    exact ⟨b, us, h ++ l, rfl, Keep.app.kp E, .inl (Nat.le_trans E.le ge), g, d1.weak fun i t => t.elim (fun z => .inl (.inl z)) .inr⟩
def psRetV (i : Nat) : PS := fun δ => match δ[i]? with
  | some (.own xs) => .ro xs
  | some (.val p) => .rt p
  | _ => .er
def psRetN : PS := fun _ => .rt .non
def psDrop (e : PE) : PS := fun δ => match e δ with
  | some _ => .nx δ
  | none => .er
def psIf (c : PT) (a b : PS) : PS := fun δ => match c δ with
  | some k => if k = true then a δ else b δ
  | none => .er
theorem s_if {c : DT} {a b : DS} {pc : PT} {p q : PS} (hc : Pt c pc) (ha : Ps a p) (hb : Ps b q) : Ps (sIf c a b) (psIf pc p q) := fun n B O s h δ E => by
  unfold psIf sIf
  cases e : pc δ with
  | none => trivial
  | some k =>
    obtain ⟨l, c1⟩ := hc n B O s h δ k E e
    rw [c1]
    cases k with
    | true => exact (ha n B O s (h ++ l) δ E.app).before Keep.app E
    | false => exact (hb n B O s (h ++ l) δ E.app).before Keep.app E
end
end HL


set_option Elab.async false
set_option linter.all false
set_option maxRecDepth 100000
set_option maxHeartbeats 4000000
namespace HL
open PySem (Str)
section
variable {n : Lo} {B : Nat → Prop} {O O' O2 : List (List Nat)} {s : Sg} {h h' h2 l : Sh} {δ : Dl}
/-! a name's own list is changed -/
theorem set_other {a : Nat} {o u : SO} {k : Nat} (e : h[k]? = some u) (ne : a ≠ k) : (h.set a o)[k]? = some u := by rw [List.getElem?_set_ne ne]; exact e
theorem Env.chg (E : Env n B O s h δ) {i a : Nat} {xs ys : List P} {us : List W} (q : δ[i]? = some (.own xs)) (hoa : O[i]? = some [a]) (hsw : s[i]? = some (some (.ref a))) (d : Dns (Tb B O) h ys us) : Env n B O s (h.set a (.lst us)) (δ.set i (.own ys)) := by
  have m := Ow.one hoa
  have hi : i < δ.length := (List.getElem?_eq_some_iff.mp q).1
  have mv : ∀ (k : Nat) (o : SO), ¬ Tb B O k → h[k]? = some o → (h.set a (.lst us))[k]? = some o ∧ ¬ Tb B O k := fun k o t e => ⟨set_other e (fun z => t (.inr (z ▸ m))), t⟩
  exact {
    le := by rw [List.length_set]; exact E.le
    old := E.old
    ls := by rw [List.length_set]; exact E.ls
    lo := by rw [List.length_set]; exact E.lo
    one := E.one
    new := fun b mb => by rw [List.length_set]; exact E.new b mb
    self := self_chg E i fun _ _ z => by cases z
    at_ := fun j sl e => by
      by_cases hj : i = j
      · subst hj
        rw [List.getElem?_set_self hi] at e
        cases e
        exact ⟨a, us, by rw [hoa]; rfl, by rw [hsw]; rfl, List.getElem?_set_self (E.new a m).2, Dns.mono mv ys us d⟩
      · rw [List.getElem?_set_ne hj] at e
        refine (E.at_ j sl e).mv mv fun b mb u eb => set_other eb fun z => hj ?_
        subst z
        cases q2 : O[j]? with
        | none => rw [q2] at mb; cases mb
        | some y => rw [q2] at mb; exact E.one i j a _ _ hoa q2 List.mem_cons_self mb }
theorem Keep.chg {a : Nat} {o : SO} (m : Ow O a) : Keep O h O (h.set a o) := ⟨by simp, fun k u e nm => ⟨set_other e (fun z => nm (z ▸ m)), nm⟩⟩
def psSub (i : Nat) (k e : PE) : PS := fun δ => match δ[i]?, e δ, k δ with
  | some (.own xs), some v, some (.int j) => (match ixW xs.length j with
    | some m => .nx (δ.set i (.own (xs.set m v)))
    | none => .er)
  | _, _, _ => .er
def psApp (i : Nat) (e : PE) : PS := fun δ => match δ[i]?, e δ with
  | some (.own xs), some v => if xs.length < LIM then .nx (δ.set i (.own (xs ++ [v]))) else .er
  | _, _ => .er
/-! targets -/
abbrev PG := P → Dl → Option Dl
def Pg (g : DG) (p : PG) : Prop := ∀ n B O s h δ x w δ', Env n B O s h δ → Dn (Tb B O) h x w → p x δ = some δ' → ∃ O' s', g w s h = some s' ∧ Env n B O' s' h δ' ∧ Keep O h O' h
def pgName (i : Nat) : PG := fun x δ => some (δ.set i (.val x))
theorem g_name (i : Nat) : Pg (gName i) (pgName i) := fun n B O s h δ x w δ' E d e => by
  cases e
  exact ⟨_, _, rfl, E.set i d, Keep.drop⟩
def setAllP : List Nat → List P → Dl → Dl
  | i :: is, v :: vs, δ => setAllP is vs (δ.set i (.val v))
  | _, _, δ => δ
def pgTup (is : List Nat) : PG := fun x δ => match x with
  | .tup xs => if xs.length = is.length then some (setAllP is xs δ) else none
  | _ => none
def psSetG (g : PG) (e : PE) : PS := fun δ => match (e δ).bind fun v => g v δ with
  | some δ => .nx δ
  | none => .er
/-! loops -/
abbrev PI := Dl → Option (List P)
def ItD (B : Nat → Prop) (O : List (List Nat)) (h : Sh) (t : It) (xs : List P) : Prop := Dns (Tb B O) h xs t.items ∧ t.stays h ∧ ∀ O' h', Keep O h O' h' → t.stays h'
def Pi (d : DI) (p : PI) : Prop := ∀ n B O s h δ r, Env n B O s h δ → p δ = some r → ∃ t l, d s h = .ok t (h ++ l) ∧ ItD B O (h ++ l) t r
def piSeq (a : PE) : PI := fun δ => (a δ).bind seqP
def rangeP (lo : Int) (m : Nat) : List P := (List.range m).map fun (k : Nat) => .int (lo + (k : Int))
theorem dns_ints {T : Nat → Prop} : ∀ (l : List Nat) (lo : Int), Dns T h (l.map fun (k : Nat) => .int (lo + (k : Int))) (l.map fun (k : Nat) => .int (lo + (k : Int)))
  | [], lo => by simp only [List.map_nil, Dns]
  | k :: l, lo => by simp only [List.map_cons, Dns]; exact ⟨_, _, rfl, by simp only [Dn], dns_ints l lo⟩
def piRange1 (a : PE) : PI := fun δ => match a δ with
  | some (.int j) => if -(2 ^ 62) ≤ j ∧ j < 2 ^ 62 then some (rangeP 0 j.toNat) else none
  | _ => none
theorem i_range1 {a : DE} {p : PE} (ha : Pe a p) : Pi (iRange1 a) (piRange1 p) := fun n B O s h δ r E e => by
  unfold piRange1 at e
  split at e
  · rename_i j e1
    split at e
    · rename_i hj
      cases e
      obtain ⟨w, l, c1, d1⟩ := ha n B O s h δ _ E e1
      simp only [Dn] at d1
      subst d1
      exact ⟨.fix (rangeW 0 j.toNat), l, by unfold iRange1; rw [c1]; simp only [R.bind]; rw [if_pos hj], dns_ints _ _, trivial, fun _ _ _ => trivial⟩
    · cases e
  · cases e
def piRange2 (a b : PE) : PI := fun δ => match a δ, b δ with
  | some (.int i), some (.int j) => if -(2 ^ 62) ≤ i ∧ i < 2 ^ 62 ∧ -(2 ^ 62) ≤ j ∧ j < 2 ^ 62 then some (rangeP i (j - i).toNat) else none
  | _, _ => none
def forP (g : PG) (b : PS) : List P → PS
  | [], δ => .nx δ
  | x :: xs, δ => match g x δ with
    | none => .er
    | some δ1 => match b δ1 with
      | .nx δ2 => forP g b xs δ2
      | .ct δ2 => forP g b xs δ2
      | .bk δ2 => .nx δ2
      | r => r
def psFor (i : PI) (g : PG) (b : PS) : PS := fun δ => match i δ with
  | some xs => forP g b xs δ
  | none => .er
theorem for_p {g : DG} {b : DS} {pg : PG} {pb : PS} {t : It} (hg : Pg g pg) (hb : Ps b pb) : ∀ (xs : List P) (us : List W) (O : List (List Nat)) (s : Sg) (h : Sh) (δ : Dl), Env n B O s h δ → Dns (Tb B O) h xs us → (∀ O' h', Keep O h O' h' → t.stays h') → EndD n B O h (forW t g b us s h) (forP pg pb xs δ)
  | [], us, O, s, h, δ, E, d, st => by
    simp only [Dns] at d
    rw [d]
    exact ⟨O, s, h, rfl, E, Keep.refl⟩
  | x :: xs, us, O, s, h, δ, E, d, st => by
    simp only [Dns] at d
    obtain ⟨u, r, rfl, d1, d2⟩ := d
    unfold forP forW
    cases e1 : pg x δ with
    | none => trivial
    | some δ1 =>
      obtain ⟨O1, s1, c1, E1, k1⟩ := hg n B O s h δ x u δ1 E d1 e1
      rw [c1]
      simp only
      have y := hb n B O1 s1 h δ1 E1
      cases e2 : pb δ1 with
      | er => trivial
      | nx δ2 =>
        rw [e2] at y
        obtain ⟨O2, s2, h2, c2, E2, k2⟩ := y
        rw [c2]
        have kk := k1.trans k2
        simp only [st O2 h2 kk, if_true]
        exact (for_p hg hb xs r O2 s2 h2 δ2 E2 (kk.dns d2) fun O' h' k => st O' h' (kk.trans k)).before kk E
      | ct δ2 =>
        rw [e2] at y
        obtain ⟨O2, s2, h2, c2, E2, k2⟩ := y
        rw [c2]
        have kk := k1.trans k2
        simp only [st O2 h2 kk, if_true]
        exact (for_p hg hb xs r O2 s2 h2 δ2 E2 (kk.dns d2) fun O' h' k => st O' h' (kk.trans k)).before kk E
      | bk δ2 =>
        rw [e2] at y
        obtain ⟨O2, s2, h2, c2, E2, k2⟩ := y
        rw [c2]
        exact ⟨O2, s2, h2, rfl, E2, k1.trans k2⟩
      | rt p =>
        rw [e2] at y
        obtain ⟨w, h2, c2, k2, dd⟩ := y
        rw [c2]
        exact ⟨w, h2, rfl, (k1.kp E).trans k2, dd⟩
      | rx p δ2 =>
        rw [e2] at y
        obtain ⟨w, O2, s2, h2, c2, E2, k2, dd⟩ := y
        rw [c2]
        exact ⟨w, O2, s2, h2, rfl, E2, k1.trans k2, dd⟩
      | ro p =>
        rw [e2] at y
        obtain ⟨a, vs, h2, c2, k2, dd⟩ := y
        rw [c2]
        exact ⟨a, vs, h2, rfl, (k1.kp E).trans k2, dd⟩
theorem s_for {i : DI} {g : DG} {b : DS} {pi : PI} {pg : PG} {pb : PS} (hi : Pi i pi) (hg : Pg g pg) (hb : Ps b pb) : Ps (sFor i g b) (psFor pi pg pb) := fun n B O s h δ E => by
  unfold psFor sFor
  cases e : pi δ with
  | none => trivial
  | some xs =>
    obtain ⟨t, l, c1, d, _, st⟩ := hi n B O s h δ xs E e
    rw [c1]
    exact (for_p hg hb xs t.items O s (h ++ l) δ E.app d st).before Keep.app E
/-! defs -/
def startP (m : Nat) (ps : List P) : Dl := ps.map .val ++ List.replicate (m - ps.length) .no
def pfOf (p m : Nat) (b : PS) : PF := fun ps => if ps.length = p then (match b (startP m ps) with
  | .nx _ => some (.v .non)
  | .rt r => some (.v r)
  | .ro xs => some (.o xs)
  | _ => none) else none
theorem env_start {T : Nat → Prop} {m : Nat} {ps : List P} {ws : List W} (lt : ∀ i, T i → i < h.length) (d : Dns T h ps ws) : Env ⟨h.length, fun _ => False, none⟩ T (List.replicate (startP m ps).length []) (start m ws) h (startP m ps) where
  le := Nat.le_refl _
  old := fun i t => ⟨lt i t, fun z => z⟩
  ls := by unfold start startP; simp [d.length]
  lo := by simp
  one := fun i j a l m e _ z _ => (Ow.none (Ow.of e z)).elim
  new := fun a m => m.none.elim
  self := fun _ _ _ _ z => by cases z
  at_ := fun i sl e => by
    have tb : ∀ k, Tb T (List.replicate (startP m ps).length []) k → T k := fun k t => t.elim id fun z => z.none.elim
    have on : ((List.replicate (startP m ps).length ([] : List Nat))[i]?).getD [] = [] := by
      rw [List.getElem?_replicate]; split <;> rfl
    rw [on]
    unfold startP at e
    by_cases hi : i < ps.length
    · rw [List.getElem?_append_left (by simpa using hi), List.getElem?_map, List.getElem?_eq_getElem hi] at e
      cases e
      obtain ⟨u, hu, du⟩ := d.get (List.getElem?_eq_getElem hi)
      refine ⟨rfl, u, ?_, du.weak tb⟩
      unfold start
      rw [List.getElem?_append_left (by rw [List.length_map, d.length]; exact hi), List.getElem?_map, hu]
      rfl
    · rw [List.getElem?_append_right (by simpa using hi), List.getElem?_replicate] at e
      split at e
      · cases e; rfl
      · cases e
theorem kp_app {h h' : Sh} (k : Kp ⟨h.length, fun _ => False, none⟩ h h') : ∃ l, h' = h ++ l := by
  refine ⟨h'.drop h.length, List.ext_getElem? fun i => ?_⟩
  by_cases hi : i < h.length
  · rw [List.getElem?_append_left hi]
    exact (k.2 i _ hi (fun z => z) (List.getElem?_eq_getElem hi)).trans (List.getElem?_eq_getElem hi).symm
  · rw [List.getElem?_append_right (by omega), List.getElem?_drop]
    congr 1; omega
theorem f_of {b : DS} {pb : PS} {p m : Nat} (hb : Ps b pb) : Pf (fnOf p m b) (pfOf p m pb) := fun T h ws ps r lt d e => by
  unfold pfOf at e
  split at e
  · rename_i hp
    have y := hb ⟨h.length, fun _ => False, none⟩ T _ (start m ws) h (startP m ps) (env_start (m := m) lt d)
    unfold fnOf
    rw [if_pos (d.length.trans hp)]
    cases e1 : pb (startP m ps) with
    | nx δ' =>
      rw [e1] at e y
      cases e
      obtain ⟨O', s', h', c, E', k⟩ := y
      rw [c]
      obtain ⟨l, rfl⟩ := kp_app (k.kp (env_start (m := m) lt d))
      exact ⟨.non, l, rfl, by simp only [ResD, Dn]⟩
    | rt q =>
      rw [e1] at e y
      cases e
      obtain ⟨w, h', c, k, dd⟩ := y
      rw [c]
      obtain ⟨l, rfl⟩ := kp_app k
      exact ⟨w, l, rfl, dd⟩
    | ro xs =>
      rw [e1] at e y
      cases e
      obtain ⟨a, us, h', c, k, ge, g, dd⟩ := y
      rw [c]
      obtain ⟨l, rfl⟩ := kp_app k
      exact ⟨.ref a, l, rfl, a, us, rfl, ge.elim id fun z => z.elim, g, dd⟩
    | er => rw [e1] at e; cases e
    | bk => rw [e1] at e; cases e
    | ct => rw [e1] at e; cases e
    | rx => rw [e1] at e; cases e
  · cases e
end
end HL


set_option Elab.async false
set_option linter.all false
set_option maxRecDepth 100000
set_option maxHeartbeats 4000000
namespace HL
open PySem (Str)
section
variable {n : Lo} {B : Nat → Prop} {O O' : List (List Nat)} {s : Sg} {h h' h2 l : Sh} {δ : Dl}
/-! comprehensions -/
def capP (m : Nat) (js : List Nat) (δ : Dl) : Dl := List.replicate m .no ++ js.map fun j => match δ[j]? with
  | some (.val p) => .val p
  | _ => .no
def compP (g : PG) (c : PT) (e : PE) : List P → Dl → List P → Option (List P)
  | [], _, acc => some acc
  | x :: xs, δ, acc => match g x δ with
    | none => none
    | some δ1 => (c δ1).bind fun k => if k = true then (e δ1).bind fun v => if acc.length < LIM then compP g c e xs δ1 (acc ++ [v]) else none else compP g c e xs δ1 acc
def pComp (i : PI) (m : Nat) (js : List Nat) (g : PG) (c : PT) (e : PE) : Dl → Option (List P) := fun δ => (i δ).bind fun xs => compP g c e xs (capP m js δ) []
theorem Env.setB (E : Env n B O s h δ) {a : Nat} {o : SO} (b : B a) : Env n B O s (h.set a o) δ := by
  have mv : ∀ (k : Nat) (u : SO), ¬ Tb B O k → h[k]? = some u → (h.set a o)[k]? = some u ∧ ¬ Tb B O k := fun k u t e => ⟨set_other e (fun z => t (.inl (z ▸ b))), t⟩
  exact {
    le := by rw [List.length_set]; exact E.le
    old := E.old
    ls := E.ls
    lo := E.lo
    one := E.one
    new := fun b mb => by rw [List.length_set]; exact E.new b mb
    self := E.self
    at_ := fun j sl e => by
      refine (E.at_ j sl e).mv mv fun c mc u ec => set_other ec fun z => ?_
      subst z
      cases q2 : O[j]? with
      | none => rw [q2] at mc; cases mc
      | some y =>
        rw [q2] at mc
        have z1 := E.old a b
        rcases (E.new a (Ow.of q2 mc)).1 with z | z
        · omega
        · exact z1.2 z }
theorem Dns.setB {T : Nat → Prop} {a : Nat} {o : SO} {ps : List P} {us : List W} (t : T a) (x : Dns T h ps us) : Dns T (h.set a o) ps us := Dns.mono (fun k u tk e => ⟨set_other e (fun z => tk (z ▸ t)), tk⟩) ps us x
theorem comp_p {g : DG} {c : DT} {e : DE} {pg : PG} {pc : PT} {pe : PE} {t : It} {A : Nat} (hg : Pg g pg) (hc : Pt c pc) (he : Pe e pe) (bA : B A) :
    ∀ (xs : List P) (us : List W) (O : List (List Nat)) (s : Sg) (h : Sh) (δ : Dl) (acc : List P) (vs : List W) (r : List P), Env n B O s h δ → Dns (Tb B O) h xs us → h[A]? = some (.lst vs) → Dns (Tb B O) h acc vs →
      (∀ h', (∀ (i : Nat) (o : SO), i ≠ A → i < n.at_ → h[i]? = some o → h'[i]? = some o) → t.stays h') → compP pg pc pe xs δ acc = some r →
      ∃ vs' h', compW t g c e A us s h = .ok (.ref A) h' ∧ h'[A]? = some (.lst vs') ∧ Dns B h' r vs' ∧ (∀ (i : Nat) (o : SO), i ≠ A → i < n.at_ → h[i]? = some o → h'[i]? = some o) ∧ h.length ≤ h'.length
  | [], us, O, s, h, δ, acc, vs, r, E, d, gA, da, st, eq => by
    simp only [Dns] at d
    cases eq
    rw [d]
    exact ⟨vs, h, rfl, gA, da.weak fun i t => .inl t, fun _ _ _ _ e => e, Nat.le_refl _⟩
  | x :: xs, us, O, s, h, δ, acc, vs, r, E, d, gA, da, st, eq => by
    simp only [Dns] at d
    obtain ⟨u, us, rfl, d1, d2⟩ := d
    unfold compP at eq
    unfold compW
    cases e1 : pg x δ with
    | none => rw [e1] at eq; cases eq
    | some δ1 =>
      rw [e1] at eq
      simp only at eq
      obtain ⟨O1, s1, c1, E1, k1⟩ := hg n B O s h δ x u δ1 E d1 e1
      rw [c1]
      simp only
      cases e2 : pc δ1 with
      | none => rw [e2] at eq; cases eq
      | some k =>
        rw [e2] at eq
        simp only [Option.bind_some] at eq
        obtain ⟨l1, c2⟩ := hc n B O1 s1 h δ1 k E1 e2
        rw [c2]
        simp only [R.bind]
        have E2 : Env n B O1 s1 (h ++ l1) δ1 := E1.app
        have d2' : Dns (Tb B O1) (h ++ l1) xs us := (k1.dns d2).app
        have da' : Dns (Tb B O1) (h ++ l1) acc vs := (k1.dns da).app
        have gA' : (h ++ l1)[A]? = some (.lst vs) := app_at gA
        have pr : ∀ (i : Nat) (o : SO), i ≠ A → i < n.at_ → h[i]? = some o → (h ++ l1)[i]? = some o := fun i o _ _ e => app_at e
        cases k with
        | false =>
          simp only [Bool.false_eq_true, if_false] at eq ⊢
          rw [if_pos (st _ pr)]
          obtain ⟨vs', h', z1, z2, z3, z4, z5⟩ := comp_p hg hc he bA xs us O1 s1 (h ++ l1) δ1 acc vs r E2 d2' gA' da' (fun h' q => st h' fun i o a b e => q i o a b (pr i o a b e)) eq
          exact ⟨vs', h', z1, z2, z3, fun i o a b e => z4 i o a b (pr i o a b e), by rw [List.length_append] at z5; omega⟩
        | true =>
          simp only [if_true] at eq ⊢
          cases e3 : pe δ1 with
          | none => rw [e3] at eq; cases eq
          | some v =>
            rw [e3] at eq
            simp only [Option.bind_some] at eq
            split at eq
            · rename_i hl
              obtain ⟨w, l2, c3, d3⟩ := he n B O1 s1 (h ++ l1) δ1 v E2 e3
              rw [c3]
              have gA2 : (h ++ l1 ++ l2)[A]? = some (.lst vs) := app_at gA'
              have pr2 : ∀ (i : Nat) (o : SO), i ≠ A → i < n.at_ → h[i]? = some o → (h ++ l1 ++ l2)[i]? = some o := fun i o a b e => app_at (app_at e)
              have pr3 : ∀ (i : Nat) (o : SO), i ≠ A → i < n.at_ → h[i]? = some o → ((h ++ l1 ++ l2).set A (.lst (vs ++ [w])))[i]? = some o := fun i o a b e => set_other (pr2 i o a b e) (fun z => a z.symm)
              simp only [gA2]
              rw [if_pos ⟨by rw [da.length]; exact hl, st _ pr2, (List.getElem?_eq_some_iff.mp gA2).1⟩]
              have tA : Tb B O1 A := .inl bA
              obtain ⟨vs', h', z1, z2, z3, z4, z5⟩ := comp_p hg hc he bA xs us O1 s1 _ δ1 (acc ++ [v]) (vs ++ [w]) r (E2.app (l := l2) |>.setB (a := A) (o := .lst (vs ++ [w])) bA) (d2'.app.setB tA)
                (List.getElem?_set_self (List.getElem?_eq_some_iff.mp gA2).1) ((da'.app.append (Dns.one d3)).setB tA) (fun h' q => st h' fun i o a b e => q i o a b (pr3 i o a b e)) eq
              exact ⟨vs', h', z1, z2, z3, fun i o a b e => z4 i o a b (pr3 i o a b e), by rw [List.length_set, List.length_append, List.length_append] at z5; omega⟩
            · cases eq
theorem env_cap (E : Env n B O s h δ) {B' : Nat → Prop} {m : Nat} {js : List Nat} (hB : ∀ i, B' i → i < h'.length) (mv : ∀ (i : Nat) (o : SO), ¬ Tb B O i → h[i]? = some o → h'[i]? = some o ∧ ¬ B' i) :
    Env ⟨h'.length, fun _ => False, none⟩ B' (List.replicate (capP m js δ).length []) (capS m js s) h' (capP m js δ) where
  le := Nat.le_refl _
  old := fun i t => ⟨hB i t, fun z => z⟩
  ls := by unfold capS capP; simp
  lo := by simp
  one := fun i j a l m e _ z _ => (Ow.none (Ow.of e z)).elim
  new := fun a m => m.none.elim
  self := fun _ _ _ _ z => by cases z
  at_ := fun i sl e => by
    have tb : ∀ k, Tb B' (List.replicate (capP m js δ).length []) k → B' k := fun k t => t.elim id fun z => z.none.elim
    have on : ((List.replicate (capP m js δ).length ([] : List Nat))[i]?).getD [] = [] := by
      rw [List.getElem?_replicate]; split <;> rfl
    rw [on]
    unfold capP at e
    by_cases hi : i < m
    · rw [List.getElem?_append_left (by simpa using hi), List.getElem?_replicate, if_pos hi] at e
      cases e; rfl
    · rw [List.getElem?_append_right (by simpa using hi), List.length_replicate, List.getElem?_map] at e
      unfold capS
      rw [List.getElem?_append_right (by simpa using hi), List.length_replicate, List.getElem?_map]
      cases q : js[i - m]? with
      | none => rw [q] at e; cases e
      | some j =>
        rw [q] at e
        simp only [Option.map_some] at e ⊢
        cases q2 : δ[j]? with
        | none => rw [q2] at e; cases e; rfl
        | some z =>
          rw [q2] at e
          cases z with
          | val p =>
            cases e
            obtain ⟨_, u, a, b⟩ := E.at_ j _ q2
            exact ⟨rfl, u, a, Dn.mono (fun k o t e => ⟨(mv k o t e).1, fun z => (mv k o t e).2 (tb k z)⟩) p u b⟩
          | no => cases e; rfl
          | own xs => cases e; rfl
          | obj c fs => cases e; rfl
theorem o_comp {i : DI} {g : DG} {c : DT} {e : DE} {pi : PI} {pg : PG} {pc : PT} {pe : PE} {m : Nat} {js : List Nat} (hi : Pi i pi) (hg : Pg g pg) (hc : Pt c pc) (he : Pe e pe) : Po (dComp i m js g c e) (pComp pi m js pg pc pe) := fun n B O s h δ r E eq => by
  unfold pComp at eq
  cases e1 : pi δ with
  | none => rw [e1] at eq; cases eq
  | some xs =>
    rw [e1] at eq
    simp only [Option.bind_some] at eq
    obtain ⟨t, l, c1, d, st0, st⟩ := hi n B O s h δ xs E e1
    have E1 : Env n B O s (h ++ l) δ := E.app
    have tl : ∀ i, Tb B O i → i < (h ++ l).length := fun i t => Tb.lt E1 t
    have hlen : ((h ++ l) ++ [SO.lst []]).length = (h ++ l).length + 1 := by rw [List.length_append]; rfl
    have mv : ∀ (k : Nat) (o : SO), ¬ Tb B O k → (h ++ l)[k]? = some o → ((h ++ l) ++ [SO.lst []])[k]? = some o ∧ ¬ (Tb B O k ∨ k = (h ++ l).length) := fun k o t e => ⟨app_at e, fun z => by
      rcases z with z | z
      · exact t z
      · have := (List.getElem?_eq_some_iff.mp e).1; omega⟩
    have E2 := env_cap E1 (B' := fun i => Tb B O i ∨ i = (h ++ l).length) (m := m) (js := js) (h' := (h ++ l) ++ [SO.lst []]) (fun i z => by
      rw [hlen]
      rcases z with z | z
      · have := tl i z; omega
      · omega) mv
    have dd : Dns (Tb (fun i => Tb B O i ∨ i = (h ++ l).length) (List.replicate (capP m js δ).length [])) ((h ++ l) ++ [SO.lst []]) xs t.items := Dns.mono (fun k o t e => ⟨(mv k o t e).1, fun z => (mv k o t e).2 (z.elim id fun y => y.none.elim)⟩) xs _ d
    obtain ⟨vs', h', z1, z2, z3, z4, z5⟩ := comp_p (t := t) (A := (h ++ l).length) hg hc he (.inr rfl) xs t.items _ _ _ _ [] [] r E2 dd (by simp) (by simp only [Dns]) (fun h' q => st O h' ⟨by
        have : ∀ i < (h ++ l).length, i < h'.length := fun i hi => by
          have := q i _ (by omega) (by show i < ((h ++ l) ++ [SO.lst []]).length; rw [hlen]; omega) (app_at (List.getElem?_eq_getElem hi))
          exact (List.getElem?_eq_some_iff.mp this).1
        rcases Nat.eq_zero_or_pos (h ++ l).length with z | z
        · omega
        · have := this ((h ++ l).length - 1) (by omega); omega, fun i o e nm => ⟨q i o (by have := (List.getElem?_eq_some_iff.mp e).1; omega) (by show i < ((h ++ l) ++ [SO.lst []]).length; rw [hlen]; have := (List.getElem?_eq_some_iff.mp e).1; omega) (app_at e), nm⟩⟩) eq
    have kp : Kp ⟨h.length, fun _ => False, none⟩ h h' := ⟨by show h.length ≤ _; rw [hlen, List.length_append] at z5; omega, fun i o hi _ e => z4 i o (by rw [List.length_append]; have hi : i < h.length := hi; omega) (by show i < ((h ++ l) ++ [SO.lst []]).length; rw [hlen, List.length_append]; have hi : i < h.length := hi; omega) (app_at (app_at e))⟩
    obtain ⟨l', rfl⟩ := kp_app kp
    refine ⟨(h ++ l).length, l', vs', ?_, by rw [List.length_append]; omega, z2, z3⟩
    unfold dComp
    rw [c1]
    exact z1
/-! other new lists -/
def pOpO (g : P → P → Option (List P)) (p q : PE) : Dl → Option (List P) := fun δ => (p δ).bind fun x => (q δ).bind fun y => g x y
/-! a call that only looks at its arguments and gives something flat -/
def flatB (p : P) : Bool := (flatP p).isSome
def pCallB (g : PF) (a : PA) : PE := fun δ => ((a δ).bind g).bind fun r => if flatB r.val then some r.val else none
def lent : List P → List W → Nat → Prop
  | _ :: ps, w :: ws, i => w = .ref i ∨ lent ps ws i
  | _, _, _ => False
end
end HL


set_option Elab.async false
set_option linter.all false
set_option maxRecDepth 100000
set_option maxHeartbeats 4000000
namespace HL
open PySem (Str)
abbrev cLt (i j : Int) : Bool := decide (i < j)
abbrev cLe (i j : Int) : Bool := decide (i ≤ j)
abbrev cGt (i j : Int) : Bool := decide (j < i)
abbrev cGe (i j : Int) : Bool := decide (j ≤ i)
def qSub := qInt (fun _ _ => true) fun i j => i - j
def qDiv := qInt (fun _ j => decide (0 < j) && decide (j < 1073741824)) fun i j => i / j
def qMod := qInt (fun _ j => decide (0 < j)) fun i j => i % j
def qLt := qCmp cLt
def qLe := qCmp cLe
def qGt := qCmp cGt
def qGe := qCmp cGe
theorem d_sub : O2D oSub qSub := d_int
theorem d_div : O2D oDiv qDiv := d_int
theorem d_mod : O2D oMod qMod := d_int
theorem d_lt : O2D oLt qLt := d_cmp
theorem d_gt : O2D oGt qGt := d_cmp
section
variable {h l : Sh}
def tyP : P → Option Ty
  | .non => some (.bi "NoneType")
  | .bl _ => some (.bi "bool")
  | .int _ => some (.bi "int")
  | .str _ => some (.bi "str")
  | .lst _ => some (.bi "list")
  | .rol _ => some (.bi "list")
  | .tup _ => some (.bi "tuple")
  | .ins c _ => some (.own false c)
  | _ => none
theorem ty_p {T : Nat → Prop} {p : P} {w : W} {t : Ty} (x : DnB T h p w) (e : tyP p = some t) : tyW h w = some t := by
  rcases x with x | ⟨xs, a, us, rfl, rfl, g, d⟩
  · cases p <;> simp only [Dn] at x <;> first
      | (subst x; exact e)
      | (obtain ⟨i, us, rfl, _, g, _⟩ := x; simp only [tyW, g]; exact e)
  · simp only [tyW, g]; exact e
def clP : P → Option W
  | .ty n => some (.ty n)
  | .gl x => some (.gl x)
  | _ => none
def clsP : List P → Option (List W)
  | [] => some []
  | p :: ps => (clP p).bind fun u => (clsP ps).map (u :: ·)
theorem cl_p {T : Nat → Prop} {p : P} {w u : W} (x : Dn T h p w) (e : clP p = some u) : w = u ∧ isCl u = true := by
  cases p <;> first
    | (cases e; simp only [Dn] at x; exact ⟨x, rfl⟩)
    | cases e
theorem cls_p {T : Nat → Prop} : ∀ (ps : List P) (us vs : List W), Dns T h ps us → clsP ps = some vs → us = vs ∧ vs.all isCl = true
  | [], us, vs, x, e => by simp only [Dns] at x; rw [x]; cases e; exact ⟨rfl, rfl⟩
  | p :: ps, us, vs, x, e => by
    simp only [Dns] at x
    obtain ⟨u, r, rfl, d, dr⟩ := x
    unfold clsP at e
    cases e1 : clP p with
    | none => rw [e1] at e; cases e
    | some a =>
      rw [e1] at e
      cases e2 : clsP ps with
      | none => rw [e2] at e; cases e
      | some b =>
        rw [e2] at e
        cases e
        obtain ⟨z1, z2⟩ := cl_p d e1
        obtain ⟨z3, z4⟩ := cls_p ps r b dr e2
        subst z1 z3
        exact ⟨rfl, by rw [List.all_cons, z2, z4]; rfl⟩
def qIsi (T : CT) : List P → Option P
  | [p, .tup cs] => (tyP p).bind fun t => (clsP cs).bind fun us => if us.isEmpty then none else (isiN T t us).map .bl
  | [p, c] => (tyP p).bind fun t => (clP c).bind fun u => (isi1 T t u).map .bl
  | _ => none
theorem d_isi {T : CT} : BD (bIsi T) (qIsi T) := fun S h ps ws r x e => by
  unfold qIsi at e
  split at e
  · rename_i p cs
    obtain ⟨u, v, rfl, d1, d2⟩ := x.two
    cases e1 : tyP p with
    | none => rw [e1] at e; cases e
    | some t =>
      rw [e1] at e
      simp only [Option.bind_some] at e
      cases e2 : clsP cs with
      | none => rw [e2] at e; cases e
      | some us =>
        rw [e2] at e
        simp only [Option.bind_some] at e
        split at e
        · cases e
        · rename_i ne
          obtain ⟨a, vs, rfl, _, g, ds⟩ := d2.tup
          obtain ⟨rfl, ac⟩ := cls_p cs vs us ds e2
          cases e3 : isiN T t vs with
          | none => rw [e3] at e; cases e
          | some b =>
            rw [e3] at e; cases e
            simp only [bIsi, isi, ty_p d1 e1, g, ac, Bool.eq_false_iff.mpr ne, Bool.not_false, Bool.and_self, if_true, e3, OrD, Dn]
  · rename_i p c hc
    obtain ⟨u, v, rfl, d1, d2⟩ := x.two
    cases e1 : tyP p with
    | none => rw [e1] at e; cases e
    | some t =>
      rw [e1] at e
      simp only [Option.bind_some] at e
      cases e2 : clP c with
      | none => rw [e2] at e; cases e
      | some w =>
        rw [e2] at e
        simp only [Option.bind_some] at e
        cases e3 : isi1 T t w with
        | none => rw [e3] at e; cases e
        | some b =>
          rw [e3] at e; cases e
          have hv : v = w ∧ isCl w = true := by
            rcases d2 with d2 | ⟨xs, a, us, rfl, _⟩
            · exact cl_p d2 e2
            · cases e2
          obtain ⟨rfl, ic⟩ := hv
          have : isi T h u v = some b := by
            unfold isi
            rw [ty_p d1 e1]
            cases v with
            | ty n => exact e3
            | gl n => exact e3
            | _ => cases ic
          simp only [bIsi, this, OrD, Dn]
  · cases e
end
def pL (o : Dl → Option (List P)) : PE := fun δ => (o δ).map .lst
theorem e_l {d : DE} {o : Dl → Option (List P)} (x : Po d o) : Pe d (pL o) := x.e
/-! from a deep reading of the law to the interpreter -/
theorem law_of {f : Fn} {g : PF} {cs : List SO} (k : Pf f g) (ns : List Int) (e : g [.rol (ns.map P.int)] = some (.v (.bl true))) : ∃ h', f [.ref cs.length] (cs ++ [.rol (ns.map W.int)]) = .ok (.bl true) h' := by
  have di : ∀ (T : Nat → Prop) (h : Sh) (ns : List Int), Dns T h (ns.map P.int) (ns.map W.int) := fun T h ns => by
    induction ns with
    | nil => simp only [List.map_nil, Dns]
    | cons a r ih => simp only [List.map_cons, Dns]; exact ⟨_, _, rfl, by simp only [Dn], ih⟩
  have d : Dns (fun _ => False) (cs ++ [.rol (ns.map W.int)]) [.rol (ns.map P.int)] [.ref cs.length] := Dns.one (by
    simp only [Dn]
    exact ⟨cs.length, ns.map W.int, rfl, id, by simp, di _ _ ns⟩)
  obtain ⟨w, l, c, r⟩ := k _ _ _ _ _ (fun _ z => z.elim) d e
  have : w = .bl true := by simpa only [ResD, Dn] using r
  subst this
  exact ⟨_, c⟩
end HL


set_option Elab.async false
set_option linter.all false
set_option maxRecDepth 100000
set_option maxHeartbeats 4000000
namespace HL
open PySem (Str)
/-! reckoning with the deep code -/
def mixV (c k : Int) : Int :=
  ((c % 2147483647 * (c % 2147483647) % 2147483629) * (c % 2147483647 * (c % 2147483647) % 2147483629) + 69621 * (c % 2147483647 * (c % 2147483647) % 2147483629) + k) % 2147483587
def cellV (ns : List Int) (k : Int) : Int :=
  mixV (if ns = [] then 7919 * k + 11 else ns.getD (k % ns.length).toNat 0 * 48271 + 104729 * k + k / ns.length * 7919) k
theorem mulOk_l {i j : Int} (h : i.natAbs < 18446744073709551616) : mulOk i j = true := by unfold mulOk; simp [show i.natAbs < 2 ^ 64 from h]
theorem mulOk_r {i j : Int} (h : j.natAbs < 18446744073709551616) : mulOk i j = true := by unfold mulOk; simp [show j.natAbs < 2 ^ 64 from h]
theorem qMul_int (i j : Int) : qMul (.int i) (.int j) = if mulOk i j = true then some (.int (i * j)) else none := rfl
theorem qAdd_int (i j : Int) : qAdd (.int i) (.int j) = some (.int (i + j)) := rfl
theorem qSub_int (i j : Int) : qSub (.int i) (.int j) = some (.int (i - j)) := rfl
theorem qMod_int (i j : Int) (h : 0 < j) : qMod (.int i) (.int j) = some (.int (i % j)) := by unfold qMod qInt; simp [h]
theorem qDiv_int (i j : Int) (h : 0 < j) (h2 : j < 1073741824) : qDiv (.int i) (.int j) = some (.int (i / j)) := by unfold qDiv qInt; simp [h, h2]
theorem qLt_int (i j : Int) : qLt (.int i) (.int j) = some (.bl (decide (i < j))) := rfl
theorem qLe_int (i j : Int) : qLe (.int i) (.int j) = some (.bl (decide (i ≤ j))) := rfl
theorem qGt_int (i j : Int) : qGt (.int i) (.int j) = some (.bl (decide (j < i))) := rfl
theorem qGe_int (i j : Int) : qGe (.int i) (.int j) = some (.bl (decide (j ≤ i))) := rfl
theorem qEq_int (m : Bool) (i j : Int) : qEq m (.int i) (.int j) = some (.bl (m != decide (i = j))) := rfl
theorem qEq_str (m : Bool) (i j : Str) : qEq m (.str i) (.str j) = some (.bl (m != decide (i = j))) := rfl
theorem datsP_ints (n : Nat) (ns : List Int) : datsP (datP n) (ns.map P.int) = some (ns.map D.int) := by
  induction ns with
  | nil => rfl
  | cons a r ih => rw [List.map_cons]; unfold datsP; rw [ih]; cases n <;> rfl
theorem D_eqs_ints (xs ys : List Int) : D.eqs (xs.map D.int) (ys.map D.int) = decide (xs = ys) := by
  induction xs generalizing ys with
  | nil => cases ys <;> simp [D.eqs]
  | cons x xs ih =>
    cases ys with
    | nil => simp [D.eqs]
    | cons y ys =>
      simp only [List.map_cons, D.eqs, D.eq, ih]
      rw [Bool.eq_iff_iff]; simp
theorem qEq_scr (m : Bool) (ns : List Int) : qEq m (.rol (ns.map .int)) (.lst []) = some (.bl (m != decide (ns = []))) := by
  unfold qEq eqP
  simp only [DEEP, datP, datsP_ints, Option.map_some, datsP]
  have := D_eqs_ints ns []
  simp only [D.eq, List.map_nil] at this ⊢
  rw [this]
theorem atP_ints (ns : List Int) (i : Int) (h0 : 0 ≤ i) (h : i < ns.length) : atP (ns.map P.int) i = some (.int (ns.getD i.toNat 0)) := by
  have h1 : i.toNat < ns.length := by omega
  unfold atP ixW
  rw [List.length_map, if_pos h0, if_pos h]
  simp only [Option.bind_some, List.getElem?_map]
  rw [List.getElem?_eq_getElem h1, List.getD_eq_getElem?_getD, List.getElem?_eq_getElem h1]
  rfl
theorem qIx_lst (xs : List P) (i : Int) : qIx (.lst xs) (.int i) = atP xs i := rfl
theorem qIx_rol (xs : List P) (i : Int) : qIx (.rol xs) (.int i) = atP xs i := rfl
theorem qIx_tup (xs : List P) (i : Int) : qIx (.tup xs) (.int i) = atP xs i := rfl
theorem qLen_rol (xs : List P) : qLen [.rol xs] = some (.int xs.length) := rfl
theorem qLen_lst (xs : List P) : qLen [.lst xs] = some (.int xs.length) := rfl
theorem qLen_tup (xs : List P) : qLen [.tup xs] = some (.int xs.length) := rfl
theorem atP_0 (x0 : P) (r : List P) : atP (x0 :: r) 0 = some x0 := by
  unfold atP ixW
  rw [if_pos (by decide), if_pos (by simp only [List.length_cons]; omega)]
  rfl
theorem atP_1 (x0 x1 : P) (r : List P) : atP (x0 :: x1 :: r) 1 = some x1 := by
  unfold atP ixW
  rw [if_pos (by decide), if_pos (by simp only [List.length_cons]; omega)]
  rfl
theorem atP_2 (x0 x1 x2 : P) (r : List P) : atP (x0 :: x1 :: x2 :: r) 2 = some x2 := by
  unfold atP ixW
  rw [if_pos (by decide), if_pos (by simp only [List.length_cons]; omega)]
  rfl
theorem atP_3 (x0 x1 x2 x3 : P) (r : List P) : atP (x0 :: x1 :: x2 :: x3 :: r) 3 = some x3 := by
  unfold atP ixW
  rw [if_pos (by decide), if_pos (by simp only [List.length_cons]; omega)]
  rfl
theorem atP_4 (x0 x1 x2 x3 x4 : P) (r : List P) : atP (x0 :: x1 :: x2 :: x3 :: x4 :: r) 4 = some x4 := by
  unfold atP ixW
  rw [if_pos (by decide), if_pos (by simp only [List.length_cons]; omega)]
  rfl
theorem atP_5 (x0 x1 x2 x3 x4 x5 : P) (r : List P) : atP (x0 :: x1 :: x2 :: x3 :: x4 :: x5 :: r) 5 = some x5 := by
  unfold atP ixW
  rw [if_pos (by decide), if_pos (by simp only [List.length_cons]; omega)]
  rfl
theorem atP_6 (x0 x1 x2 x3 x4 x5 x6 : P) (r : List P) : atP (x0 :: x1 :: x2 :: x3 :: x4 :: x5 :: x6 :: r) 6 = some x6 := by
  unfold atP ixW
  rw [if_pos (by decide), if_pos (by simp only [List.length_cons]; omega)]
  rfl
theorem atP_7 (x0 x1 x2 x3 x4 x5 x6 x7 : P) (r : List P) : atP (x0 :: x1 :: x2 :: x3 :: x4 :: x5 :: x6 :: x7 :: r) 7 = some x7 := by
  unfold atP ixW
  rw [if_pos (by decide), if_pos (by simp only [List.length_cons]; omega)]
  rfl
theorem atP_8 (x0 x1 x2 x3 x4 x5 x6 x7 x8 : P) (r : List P) : atP (x0 :: x1 :: x2 :: x3 :: x4 :: x5 :: x6 :: x7 :: x8 :: r) 8 = some x8 := by
  unfold atP ixW
  rw [if_pos (by decide), if_pos (by simp only [List.length_cons]; omega)]
  rfl
theorem atP_9 (x0 x1 x2 x3 x4 x5 x6 x7 x8 x9 : P) (r : List P) : atP (x0 :: x1 :: x2 :: x3 :: x4 :: x5 :: x6 :: x7 :: x8 :: x9 :: r) 9 = some x9 := by
  unfold atP ixW
  rw [if_pos (by decide), if_pos (by simp only [List.length_cons]; omega)]
  rfl
theorem atP_10 (x0 x1 x2 x3 x4 x5 x6 x7 x8 x9 x10 : P) (r : List P) : atP (x0 :: x1 :: x2 :: x3 :: x4 :: x5 :: x6 :: x7 :: x8 :: x9 :: x10 :: r) 10 = some x10 := by
  unfold atP ixW
  rw [if_pos (by decide), if_pos (by simp only [List.length_cons]; omega)]
  rfl
theorem atP_11 (x0 x1 x2 x3 x4 x5 x6 x7 x8 x9 x10 x11 : P) (r : List P) : atP (x0 :: x1 :: x2 :: x3 :: x4 :: x5 :: x6 :: x7 :: x8 :: x9 :: x10 :: x11 :: r) 11 = some x11 := by
  unfold atP ixW
  rw [if_pos (by decide), if_pos (by simp only [List.length_cons]; omega)]
  rfl
theorem seqP_lst (xs : List P) : seqP (.lst xs) = some xs := rfl
theorem seqP_rol (xs : List P) : seqP (.rol xs) = some xs := rfl
theorem seqP_tup (xs : List P) : seqP (.tup xs) = some xs := rfl
theorem lstP_lst (xs : List P) : lstP (.lst xs) = some xs := rfl
theorem lstP_rol (xs : List P) : lstP (.rol xs) = some xs := rfl
theorem truP_non : truP .non = some false := rfl
theorem truP_bl (b : Bool) : truP (.bl b) = some b := rfl
theorem truP_int (i : Int) : truP (.int i) = some (i != 0) := rfl
theorem truP_lst (xs : List P) : truP (.lst xs) = some (!xs.isEmpty) := rfl
theorem truP_rol (xs : List P) : truP (.rol xs) = some (!xs.isEmpty) := rfl
theorem truP_tup (xs : List P) : truP (.tup xs) = some (!xs.isEmpty) := rfl
theorem blP_bl (b : Bool) : blP (.bl b) = some b := rfl
theorem forP_range {g : PG} {b : PS} (lo : Int) (N : Nat) (I : Nat → Dl → Prop) (δ : Dl) (h0 : I 0 δ)
    (step : ∀ j δ, j < N → I j δ → ∃ δ1, g (.int (lo + (j : Int))) δ = some δ1 ∧ ∃ δ2, b δ1 = .nx δ2 ∧ I (j + 1) δ2) : ∃ δ', forP g b (rangeP lo N) δ = .nx δ' ∧ I N δ' := by
  have key : ∀ (m j : Nat) (δ : Dl), j + m = N → I j δ → ∃ δ', forP g b ((List.range' j m).map fun (k : Nat) => P.int (lo + (k : Int))) δ = .nx δ' ∧ I N δ' := by
    intro m
    induction m with
    | zero =>
      intro j δ e i
      have : j = N := by omega
      subst this
      exact ⟨δ, rfl, i⟩
    | succ m ih =>
      intro j δ e i
      obtain ⟨δ1, e1, δ2, e2, i2⟩ := step j δ (by omega) i
      obtain ⟨δ', e3, i3⟩ := ih (j + 1) δ2 (by omega) i2
      refine ⟨δ', ?_, i3⟩
      rw [List.range'_succ, List.map_cons]
      unfold forP
      simp only [e1, e2]
      exact e3
  obtain ⟨δ', e, i⟩ := key N 0 δ (by omega) h0
  refine ⟨δ', ?_, i⟩
  unfold rangeP
  rw [List.range_eq_range']
  exact e
/-! one statement at a time -/
theorem seq_nx {a b : PS} {δ δ' : Dl} {r : RS} (h : a δ = .nx δ') (k : b δ' = r) : psSeq a b δ = r := by unfold psSeq; rw [h]; exact k
theorem for_nx {i : PI} {g : PG} {b : PS} {δ : Dl} {xs : List P} {r : RS} (h : i δ = some xs) (k : forP g b xs δ = r) : psFor i g b δ = r := by unfold psFor; rw [h]; exact k
theorem pf_rt {p m : Nat} {b : PS} {ps : List P} {δ : Dl} {r : P} (hp : ps.length = p) (hs : startP m ps = δ) (h : b δ = .rt r) : pfOf p m b ps = some (.v r) := by unfold pfOf; rw [if_pos hp, hs, h]
end HL


set_option Elab.async false
set_option linter.all false
set_option maxRecDepth 100000
namespace HL
mutual
theorem D.eq_rfl : ∀ d : D, D.eq d d = true
  | .non => by simp only [D.eq]
  | .bl b => by simp only [D.eq, beq_self_eq_true]
  | .int i => by simp only [D.eq, beq_self_eq_true]
  | .str s => by simp only [D.eq, beq_self_eq_true]
  | .lst xs => by simp only [D.eq]; exact D.eqs_rfl xs
  | .tup xs => by simp only [D.eq]; exact D.eqs_rfl xs
theorem D.eqs_rfl : ∀ xs : List D, D.eqs xs xs = true
  | [] => by simp only [D.eqs, List.isEmpty_nil]
  | x :: xs => by simp only [D.eqs, D.eq_rfl x, D.eqs_rfl xs, Bool.and_self]
end
theorem qEq_self (m : Bool) {p : P} {d : D} (h : datP DEEP p = some d) : qEq m p p = some (.bl (!m)) := by
  unfold qEq eqP
  split
  · simp
  · simp
  · simp only [h, D.eq_rfl, Option.map_some]; simp
theorem qEq_nil {xs : List P} {ds : List D} (m : Bool) (h : datsP (datP 7) xs = some ds) : qEq m (.lst xs) (.lst []) = some (.bl (m != xs.isEmpty)) := by
  have e1 : datP DEEP (.lst xs) = some (.lst ds) := by simp only [DEEP, datP, h, Option.map_some]
  have e2 : datP DEEP (.lst []) = some (.lst []) := rfl
  unfold qEq eqP
  simp only [e1, e2, Option.map_some, D.eq]
  cases xs with
  | nil => simp only [datsP, Option.some.injEq] at h; subst h; simp only [D.eqs]; rfl
  | cons x xs =>
    cases ds with
    | nil =>
      simp only [datsP] at h
      cases hx : datP 7 x <;> rw [hx] at h <;> simp only [Option.bind_none, Option.bind_some, reduceCtorEq] at h
      cases hy : datsP (datP 7) xs <;> rw [hy] at h <;> simp at h
    | cons d ds => simp only [D.eqs, List.isEmpty_cons]
theorem comp_fm {β : Type} {t : PT} {e : PE} {τ : Dl} (emb f : β → P) (q : β → Bool) : ∀ (xs : List β) (acc : List P) (x0 : Sl), (∀ b ∈ xs, t (.val (emb b) :: τ) = some (q b)) → (∀ b ∈ xs, q b = true → e (.val (emb b) :: τ) = some (f b)) → acc.length + xs.length ≤ 1000 →
    compP (pgName 0) t e (xs.map emb) (x0 :: τ) acc = some (acc ++ (xs.filter q).map f)
  | [], acc, x0, _, _, _ => by simp [compP]
  | x :: xs, acc, x0, ht, he, hl => by
    rw [List.map_cons]
    unfold compP
    rw [List.length_cons] at hl
    have hlen : acc.length < LIM := by unfold LIM; omega
    have r0 := ht x List.mem_cons_self
    have r1 := fun (a : List P) (ha : a.length + xs.length ≤ 1000) => comp_fm emb f q xs a (.val (emb x)) (fun b hb => ht b (List.mem_cons_of_mem _ hb)) (fun b hb => he b (List.mem_cons_of_mem _ hb)) ha
    simp only [pgName, List.set_cons_zero, r0, Option.bind_some]
    cases hq : q x with
    | true =>
      simp only [if_true, he x List.mem_cons_self hq, Option.bind_some, if_pos hlen]
      rw [r1 _ (by rw [List.length_append, List.length_cons, List.length_nil]; omega), List.filter_cons_of_pos hq]
      simp
    | false =>
      simp only [Bool.false_eq_true, if_false]
      rw [r1 _ (by omega), List.filter_cons_of_neg (by rw [hq]; decide)]
theorem comp_ft {β : Type} {t : PT} {e : PE} {τ : Dl} (emb f : β → P) (q : β → Bool) (xs : List β) (x0 : Sl) (ht : ∀ b ∈ xs, t (.val (emb b) :: τ) = some (q b)) (he : ∀ b ∈ xs, q b = true → e (.val (emb b) :: τ) = some (f b)) (hl : xs.length ≤ 1000) :
    compP (pgName 0) t e (xs.map emb) (x0 :: τ) [] = some ((xs.filter q).map f) := by
  rw [comp_fm emb f q xs [] x0 ht he (by simp; omega)]
  simp
end HL


set_option Elab.async false
set_option linter.all false
set_option maxRecDepth 100000
set_option maxHeartbeats 4000000
namespace HL
open PySem (Str)
section
variable {n : Lo} {B : Nat → Prop} {O O' O2 : List (List Nat)} {s : Sg} {h h' h2 l : Sh} {δ : Dl}
/-! objects that nobody changes -/
theorem Dnf.app {T : Nat → Prop} {fs : List (Str × P)} {gs : List (Str × W)} (x : Dnf T h fs gs) : Dnf T (h ++ l) fs gs := Dnf.mono (fun _ _ t e => ⟨app_at e, t⟩) fs gs x
theorem Dnf.get {T : Nat → Prop} {f : Str} {p : P} : ∀ {fs : List (Str × P)} {gs : List (Str × W)}, Dnf T h fs gs → fs.lookup f = some p → ∃ w, gs.lookup f = some w ∧ Dn T h p w
  | [], gs, x, e => by cases e
  | (g, q) :: fs, gs, x, e => by
    simp only [Dnf] at x
    obtain ⟨u, r, rfl, d, ds⟩ := x
    by_cases z : f = g
    · subst z
      simp only [List.lookup, beq_self_eq_true, Option.some.injEq] at e
      subst e
      exact ⟨u, by simp only [List.lookup, beq_self_eq_true], d⟩
    · have zb : (f == g) = false := by simpa using z
      simp only [List.lookup, zb] at e
      obtain ⟨w, a, b⟩ := Dnf.get ds e
      exact ⟨w, by simp only [List.lookup, zb]; exact a, b⟩
theorem Dnf.no {T : Nat → Prop} {f : Str} : ∀ {fs : List (Str × P)} {gs : List (Str × W)}, Dnf T h fs gs → fs.lookup f = none → gs.lookup f = none
  | [], gs, x, e => by simp only [Dnf] at x; rw [x]; rfl
  | (g, q) :: fs, gs, x, e => by
    simp only [Dnf] at x
    obtain ⟨u, r, rfl, d, ds⟩ := x
    by_cases z : f = g
    · subst z
      simp only [List.lookup, beq_self_eq_true, reduceCtorEq] at e
    · have zb : (f == g) = false := by simpa using z
      simp only [List.lookup, zb] at e ⊢
      exact Dnf.no ds e
def qFld (cs : List Str) (f : Str) : P → Option P
  | .ins c fs => if cs.contains c = true then fs.lookup f else none
  | _ => none
def pFld (cs : List Str) (f : Str) (a : PE) : PE := fun δ => (a δ).bind (qFld cs f)
theorem e_fld {cs : List Str} {f : Str} {a : DE} {p : PE} (ha : Pe a p) : Pe (dFld cs f a) (pFld cs f p) := fun n B O s h δ r E e => by
  unfold pFld at e
  cases e1 : p δ with
  | none => rw [e1] at e; cases e
  | some x =>
    rw [e1] at e
    simp only [Option.bind_some] at e
    obtain ⟨w, l, c1, d1⟩ := ha n B O s h δ x E e1
    cases x with
    | ins c fs =>
      simp only [qFld] at e
      split at e
      · rename_i hc
        simp only [Dn] at d1
        obtain ⟨i, gs, rfl, _, g, ds⟩ := d1
        obtain ⟨u, lu, du⟩ := ds.get e
        refine ⟨u, l, ?_, du⟩
        unfold dFld
        rw [c1]
        simp only [R.bind, getF, g, hc, if_true, lu]
      · cases e
    | _ => cases e
def TbD (tb : List (Str × Fn)) (pt : List (Str × PF)) : Prop := ∀ c g, pt.lookup c = some g → ∃ f, tb.lookup c = some f ∧ Pf f g
theorem TbD.nil : TbD [] [] := fun c g e => by cases e
theorem TbD.cons {c : Str} {f : Fn} {g : PF} {tb : List (Str × Fn)} {pt : List (Str × PF)} (k : Pf f g) (r : TbD tb pt) : TbD ((c, f) :: tb) ((c, g) :: pt) := fun c' g' e => by
  by_cases z : c' = c
  · subst z
    simp only [List.lookup, beq_self_eq_true, Option.some.injEq] at e ⊢
    subst e
    exact ⟨f, rfl, k⟩
  · have zb : (c' == c) = false := by simpa using z
    simp only [List.lookup, zb] at e ⊢
    exact r c' g' e
def qMt (pt : List (Str × PF)) (m : Str) : P → Option PF
  | .ins c fs => if fs.lookup m = none then pt.lookup c else none
  | _ => none
def pMeth (pt : List (Str × PF)) (m : Str) (a : PE) (as : PA) : PE := fun δ => (a δ).bind fun x => (qMt pt m x).bind fun g => (as δ).bind fun xs => (g (x :: xs)).map RF.val
theorem e_meth {tb : List (Str × Fn)} {pt : List (Str × PF)} {m : Str} {a : DE} {p : PE} {as : DA} {ps : PA} (k : TbD tb pt) (ha : Pe a p) (hs : Pa as ps) : Pe (dMeth tb m a as) (pMeth pt m p ps) := fun n B O s h δ r E e => by
  unfold pMeth at e
  cases e1 : p δ with
  | none => rw [e1] at e; cases e
  | some x =>
    rw [e1] at e
    simp only [Option.bind_some] at e
    obtain ⟨w, l, c1, d1⟩ := ha n B O s h δ x E e1
    cases x with
    | ins c fs =>
      simp only [qMt] at e
      split at e
      · rename_i hn
        cases e2 : pt.lookup c with
        | none => rw [e2] at e; cases e
        | some g =>
          rw [e2] at e
          simp only [Option.bind_some] at e
          cases e3 : ps δ with
          | none => rw [e3] at e; cases e
          | some xs =>
            rw [e3] at e
            simp only [Option.bind_some] at e
            cases e4 : g (.ins c fs :: xs) with
            | none => rw [e4] at e; cases e
            | some rf =>
              rw [e4] at e; cases e
              obtain ⟨f, lf, pf⟩ := k c g e2
              obtain ⟨ws, l2, c2, d2⟩ := hs n B O s (h ++ l) δ xs E.app e3
              have d1' : Dn (Tb B O) (h ++ l ++ l2) (.ins c fs) w := d1.app
              have dd : Dns (Tb B O) (h ++ l ++ l2) (.ins c fs :: xs) (w :: ws) := by simp only [Dns]; exact ⟨w, ws, rfl, d1', d2⟩
              obtain ⟨v, l3, c3, d3⟩ := pf (Tb B O) (h ++ l ++ l2) (w :: ws) _ rf (fun i t => Tb.lt (E.app (l := l) |>.app (l := l2)) t) dd e4
              refine ⟨v, l ++ l2 ++ l3, ?_, ?_⟩
              · simp only [Dn] at d1
                obtain ⟨i, gs, rfl, _, g1, ds⟩ := d1
                unfold dMeth
                rw [c1]
                simp only [R.bind, findM, g1, ds.no hn, if_true, lf]
                rw [c2]
                simp only
                rw [c3]
                simp only [List.append_assoc]
              · rw [← List.append_assoc, ← List.append_assoc]
                cases rf with
                | v p => exact d3
                | o xs =>
                  obtain ⟨a, us, rfl, ge, g, ds⟩ := d3
                  simp only [RF.val, Dn]
                  exact ⟨a, us, rfl, fun t => absurd (Tb.lt (E.app (l := l) |>.app (l := l2)) t) (by omega), g, ds.weak fun i t => .inl t⟩
      · cases e
    | _ => cases e
/-! new objects, their names set one after the other of what is handed in -/
def bInit (cs : List Str) : List Str → Nat → DS
  | [], _ => sNx
  | [f], k => sFld cs f (dVar 0) (dVar k)
  | f :: r, k => sSeq (sFld cs f (dVar 0) (dVar k)) (bInit cs r (k + 1))
theorem put_new {f : Str} {v : W} : ∀ {fs : List (Str × W)}, (∀ p ∈ fs, p.1 ≠ f) → putW f v fs = fs ++ [(f, v)]
  | [], _ => rfl
  | (g, x) :: r, h => by
    unfold putW
    rw [if_neg (h (g, x) List.mem_cons_self), put_new fun p hp => h p (List.mem_cons_of_mem _ hp)]
    rfl
theorem sFld_new {cs : List Str} {c f : Str} {fs : List (Str × W)} {v : W} {s : Sg} {h l : Sh} {k : Nat} (h0 : s[0]? = some (some (.ref h.length))) (hk : s[k]? = some (some v)) (hc : cs.contains c = true) (hl : fs.length < 1000) (hn : ∀ p ∈ fs, p.1 ≠ f) :
    sFld cs f (dVar 0) (dVar k) s (h ++ [.ins c fs]) = .nx s (h ++ [.ins c (fs ++ [(f, v)])]) := by
  unfold sFld dVar
  simp only [hk, h0, R.bind, setF]
  rw [List.getElem?_append_right (Nat.le_refl _), Nat.sub_self]
  simp only [List.getElem?_cons_zero, hc, hl, and_self, if_true]
  rw [List.set_append_right _ _ (Nat.le_refl _), Nat.sub_self, put_new hn]
  rfl
theorem bInit_new {cs : List Str} {c : Str} {s : Sg} {h : Sh} (h0 : s[0]? = some (some (.ref h.length))) (hc : cs.contains c = true) : ∀ (ns : List Str) (vs : List W) (k : Nat) (fs : List (Str × W)), ns.length = vs.length → (∀ i v, vs[i]? = some v → s[k + i]? = some (some v)) → fs.length + ns.length < 1000 → (∀ p ∈ fs, p.1 ∉ ns) → ns.Nodup →
    bInit cs ns k s (h ++ [.ins c fs]) = .nx s (h ++ [.ins c (fs ++ ns.zip vs)])
  | [], vs, k, fs, hl, hv, hs, hn, nd => by simp [bInit, sNx]
  | [f], vs, k, fs, hl, hv, hs, hn, nd => by
    match vs, hl with
    | [v], _ =>
      unfold bInit
      exact sFld_new (l := []) h0 (hv 0 v rfl) hc (by simp at hs; omega) fun p hp z => hn p hp (by rw [z]; exact List.mem_cons_self)
  | f :: g :: r, vs, k, fs, hl, hv, hs, hn, nd => by
    match vs, hl with
    | v :: vs, hl =>
      have nd' := List.nodup_cons.mp nd
      unfold bInit sSeq
      have hk : s[k]? = some (some v) := hv 0 v rfl
      rw [sFld_new (f := f) (l := []) h0 hk hc (by simp at hs; omega) fun p hp z => hn p hp (by rw [z]; exact List.mem_cons_self)]
      simp only
      rw [bInit_new h0 hc (g :: r) vs (k + 1) (fs ++ [(f, v)]) (by simpa using hl) (fun i w hi => by
          have := hv (i + 1) w (by simpa using hi)
          rw [show k + 1 + i = k + (i + 1) by omega]; exact this) (by simp at hs ⊢; omega) (fun p hp => by
          rcases List.mem_append.mp hp with z | z
          · exact fun m => hn p z (List.mem_cons_of_mem _ m)
          · rw [List.mem_singleton.mp z]; exact nd'.1) nd'.2]
      simp
theorem init_new {cs : List Str} {c : Str} {ns : List Str} {vs : List W} {h : Sh} (hc : cs.contains c = true) (hl : ns.length = vs.length) (hs : ns.length < 1000) (nd : ns.Nodup) :
    fnOf (ns.length + 1) (ns.length + 1) (bInit cs ns 1) (.ref h.length :: vs) (h ++ [.ins c []]) = .ok .non (h ++ [.ins c (ns.zip vs)]) := by
  unfold fnOf
  rw [if_pos (by rw [List.length_cons, hl])]
  have e : start (ns.length + 1) (W.ref h.length :: vs) = (W.ref h.length :: vs).map some := by
    unfold start
    rw [List.length_cons, hl, Nat.sub_self, List.replicate_zero, List.append_nil]
  rw [e, bInit_new (by rfl) hc ns vs 1 [] hl (fun i v hi => by
    rw [show 1 + i = i + 1 by omega]
    simp only [List.map_cons, List.getElem?_cons_succ, List.getElem?_map, hi, Option.map_some]) (by simpa using hs) (fun p hp => by cases hp) nd]
  rfl
def qNew (c : Str) (ns : List Str) (xs : List P) : Option P := if xs.length = ns.length then some (.ins c (ns.zip xs)) else none
def pNew (c : Str) (ns : List Str) (as : PA) : PE := fun δ => (as δ).bind (qNew c ns)
theorem Dnf.zip {T : Nat → Prop} : ∀ (ns : List Str) (xs : List P) (us : List W), Dns T h xs us → Dnf T h (ns.zip xs) (ns.zip us)
  | [], xs, us, d => by simp only [List.zip_nil_left, Dnf]
  | f :: ns, [], us, d => by simp only [Dns] at d; rw [d]; simp only [List.zip_nil_right, Dnf]
  | f :: ns, x :: xs, us, d => by
    simp only [Dns] at d
    obtain ⟨u, r, rfl, d1, d2⟩ := d
    simp only [List.zip_cons_cons, Dnf]
    exact ⟨u, _, rfl, d1, Dnf.zip ns xs r d2⟩
theorem e_new {cs : List Str} {c : Str} {ns : List Str} {as : DA} {ps : PA} {f : Fn} (hf : f = fnOf (ns.length + 1) (ns.length + 1) (bInit cs ns 1)) (hc : cs.contains c = true) (hs : ns.length < 1000) (nd : ns.Nodup) (ha : Pa as ps) : Pe (dNew c f [] as) (pNew c ns ps) := fun n B O s h δ r E e => by
  unfold pNew at e
  cases e1 : ps δ with
  | none => rw [e1] at e; cases e
  | some xs =>
    rw [e1] at e
    simp only [Option.bind_some, qNew] at e
    split at e
    · rename_i hl
      cases e
      obtain ⟨ws, l, c1, d1⟩ := ha n B O s h δ xs E e1
      refine ⟨.ref (h ++ l).length, l ++ [.ins c (ns.zip ws)], ?_, ?_⟩
      · unfold dNew
        rw [c1]
        simp only [R.bind, List.append_nil]
        rw [hf, init_new hc (by rw [d1.length, hl]) hs nd]
        simp only [if_true, List.append_assoc]
      · rw [← List.append_assoc]
        simp only [Dn]
        refine ⟨_, _, rfl, fun t => absurd (Tb.lt (E.app (l := l)) t) (Nat.lt_irrefl _), by rw [List.getElem?_append_right (Nat.le_refl _), Nat.sub_self]; rfl, (Dnf.zip ns xs ws d1).app⟩
    · cases e
end
end HL


set_option Elab.async false
set_option linter.all false
set_option maxRecDepth 100000
set_option maxHeartbeats 4000000
namespace HL
open PySem (Str)
section
variable {n : Lo} {B : Nat → Prop} {O O' : List (List Nat)} {s : Sg} {h h' h2 l : Sh} {δ : Dl}
/-! ### what changes things -/
abbrev PX := Dl → Option (P × Dl)
def Px (d : DE) (p : PX) : Prop := ∀ n B O s h δ r δ', Env n B O s h δ → p δ = some (r, δ') → ∃ w O' h', d s h = .ok w h' ∧ Env n B O' s h' δ' ∧ Keep O h O' h' ∧ Dn (Tb B O') h' r w
def pxE (p : PE) : PX := fun δ => (p δ).map fun r => (r, δ)
theorem Pe.x {d : DE} {p : PE} (x : Pe d p) : Px d (pxE p) := fun n B O s h δ r δ' E e => by
  unfold pxE at e
  cases e1 : p δ with
  | none => rw [e1] at e; cases e
  | some q =>
    rw [e1] at e; cases e
    obtain ⟨w, l, c, d⟩ := x n B O s h δ _ E e1
    exact ⟨w, O, h ++ l, c, E.app, Keep.app, d⟩
/-! tests -/
abbrev PXT := Dl → Option (Bool × Dl)
def Pxt (d : DT) (p : PXT) : Prop := ∀ n B O s h δ r δ', Env n B O s h δ → p δ = some (r, δ') → ∃ O' h', d s h = .ok r h' ∧ Env n B O' s h' δ' ∧ Keep O h O' h'
def pxT (p : PT) : PXT := fun δ => (p δ).map fun r => (r, δ)
theorem Pt.x {d : DT} {p : PT} (x : Pt d p) : Pxt d (pxT p) := fun n B O s h δ r δ' E e => by
  unfold pxT at e
  cases e1 : p δ with
  | none => rw [e1] at e; cases e
  | some q =>
    rw [e1] at e; cases e
    obtain ⟨l, c⟩ := x n B O s h δ _ E e1
    exact ⟨O, h ++ l, c, E.app, Keep.app⟩
end
end HL


set_option Elab.async false
set_option linter.all false
set_option maxRecDepth 100000
set_option maxHeartbeats 4000000
namespace HL
open PySem (Str)
section
variable {n : Lo} {B : Nat → Prop} {O O' : List (List Nat)} {s : Sg} {h h' h2 l : Sh} {δ : Dl}
/-! ### an object is lent to a def -/
abbrev PM := List (Str × Fv) → List P → Option (P × List (Str × Fv))
def Ad (T : Nat → Prop) (o : List Nat) : Nat → Prop := fun i => T i ∨ i ∈ o
theorem FsD.lt {T : Nat → Prop} : ∀ {fs : List (Str × Fv)} {gs : List (Str × W)} {o : List Nat}, FsD T h fs gs o → ∀ i ∈ o, i < h.length
  | [], gs, o, x, i, hi => by simp only [FsD] at x; rw [x.2] at hi; cases hi
  | (f, .val p) :: fs, gs, o, x, i, hi => by
    simp only [FsD] at x
    obtain ⟨u, r, e, d, y⟩ := x
    exact FsD.lt y i hi
  | (f, .own xs) :: fs, gs, o, x, i, hi => by
    simp only [FsD] at x
    obtain ⟨a, us, r, o', e1, e2, g, d, y⟩ := x
    subst e2
    rcases List.mem_cons.mp hi with z | z
    · rw [z]; exact (List.getElem?_eq_some_iff.mp g).1
    · exact FsD.lt y i z
theorem FsD.weak {T T' : Nat → Prop} {fs : List (Str × Fv)} {gs : List (Str × W)} {o : List Nat} (x : FsD T h fs gs o) (k : ∀ i, T' i → T i) : FsD T' h fs gs o := FsD.mv (fun i u t e => ⟨e, fun z => t (k i z)⟩) fs gs o (fun _ _ _ e => e) x
theorem FsD.app {T : Nat → Prop} {fs : List (Str × Fv)} {gs : List (Str × W)} {o : List Nat} (x : FsD T h fs gs o) : FsD T (h ++ l) fs gs o := FsD.mv (fun i u t e => ⟨app_at e, t⟩) fs gs o (fun _ _ _ e => app_at e) x
theorem FsD.no {T : Nat → Prop} {f : Str} : ∀ {fs : List (Str × Fv)} {gs : List (Str × W)} {o : List Nat}, FsD T h fs gs o → fs.lookup f = none → gs.lookup f = none
  | [], gs, o, x, e => by simp only [FsD] at x; rw [x.1]; rfl
  | (g, .val q) :: fs, gs, o, x, e => by
    simp only [FsD] at x
    obtain ⟨u, r, rfl, d, ds⟩ := x
    by_cases z : f = g
    · subst z; simp only [List.lookup, beq_self_eq_true, reduceCtorEq] at e
    · have zb : (f == g) = false := by simpa using z
      simp only [List.lookup, zb] at e ⊢
      exact FsD.no ds e
  | (g, .own q) :: fs, gs, o, x, e => by
    simp only [FsD] at x
    obtain ⟨a, us, r, o', rfl, _, _, d, ds⟩ := x
    by_cases z : f = g
    · subst z; simp only [List.lookup, beq_self_eq_true, reduceCtorEq] at e
    · have zb : (f == g) = false := by simpa using z
      simp only [List.lookup, zb] at e ⊢
      exact FsD.no ds e
theorem Env.at_obj (E : Env n B O s h δ) {i : Nat} {c : Str} {fs : List (Str × Fv)} (q : δ[i]? = some (.obj c fs)) : ∃ a gs o, O[i]? = some (a :: o) ∧ (a :: o).Nodup ∧ s[i]? = some (some (.ref a)) ∧ h[a]? = some (.ins c gs) ∧ FsD (Tb B O) h fs gs o := by
  obtain ⟨a, gs, o, e, nd, w, g, d⟩ := E.at_ i _ q
  rw [e] at nd
  exact ⟨a, gs, o, getD_one e, nd, name_at w, g, d⟩
theorem Env.obj (E : Env n B O s h δ) {i a : Nat} {c : Str} {fs fs' : List (Str × Fv)} {o o' : List Nat} {gs' : List (Str × W)} (q : δ[i]? = some (.obj c fs)) (hoa : O[i]? = some (a :: o)) (hsw : s[i]? = some (some (.ref a)))
    (le : h.length ≤ h'.length) (fr : ∀ (k : Nat) (u : SO), k ∉ a :: o → h[k]? = some u → h'[k]? = some u) (g : h'[a]? = some (.ins c gs')) (nd : (a :: o').Nodup) (nw : ∀ k ∈ o', k ∈ o ∨ h.length ≤ k)
    (d : FsD (Ad (fun k => B k ∨ Ow (O.set i []) k) (a :: o')) h' fs' gs' o') : Env n B (O.set i (a :: o')) s h' (δ.set i (.obj c fs')) ∧ Keep O h (O.set i (a :: o')) h' ∧ ∀ k, Tb B (O.set i (a :: o')) k → Ad (fun k => B k ∨ Ow (O.set i []) k) (a :: o') k := by
  have hi : i < δ.length := (List.getElem?_eq_some_iff.mp q).1
  have es : O.set i (a :: o') = (O.set i []).set i (a :: o') := by rw [List.set_set]
  have tb : ∀ k, Tb B (O.set i (a :: o')) k → Ad (fun k => B k ∨ Ow (O.set i []) k) (a :: o') k := fun k t => by
    rcases t with t | t
    · exact .inl (.inl t)
    · rw [es] at t
      rcases t.set with z | z
      · exact .inl (.inr z)
      · exact .inr z
  have oa : Ow O a := Ow.of hoa List.mem_cons_self
  have nk : ∀ (k : Nat) (u : SO), ¬ Ow O k → h[k]? = some u → ¬ Ow (O.set i (a :: o')) k := fun k u t e z => by
    rw [es] at z
    rcases z.set with z | z
    · exact t (mem_set_none z)
    · rcases List.mem_cons.mp z with z | z
      · rw [z] at t; exact t oa
      · rcases nw k z with z | z
        · exact t (Ow.of hoa (List.mem_cons_of_mem _ z))
        · have := (List.getElem?_eq_some_iff.mp e).1; omega
  have nm : ∀ k, ¬ Ow O k → k ∉ a :: o := fun k t z => t (Ow.of hoa z)
  refine ⟨?_, ⟨le, fun k u e t => ⟨fr k u (nm k t) e, nk k u t e⟩⟩, tb⟩
  exact {
    le := Nat.le_trans E.le le
    old := E.old
    ls := by rw [List.length_set]; exact E.ls
    lo := by rw [List.length_set, List.length_set]; exact E.lo
    one := fun j k b l m e1 e2 m1 m2 => by
      have key : ∀ (k : Nat) (l : List Nat), i ≠ k → (O.set i (a :: o'))[k]? = some l → ∀ b ∈ l, b ∉ a :: o' := fun k l ne e b hb z => by
        rw [List.getElem?_set_ne ne] at e
        rcases List.mem_cons.mp z with z | z
        · exact ne (E.one i k a _ _ hoa e List.mem_cons_self (z ▸ hb))
        · rcases nw b z with z | z
          · exact ne (E.one i k b _ _ hoa e (List.mem_cons_of_mem _ z) hb)
          · have := (E.new b (Ow.of e hb)).2; omega
      have self : ∀ (l : List Nat), (O.set i (a :: o'))[i]? = some l → l = a :: o' := fun l e => by
        rw [List.getElem?_set_self (by rw [E.lo]; exact hi)] at e; cases e; rfl
      by_cases hj : i = j
      · by_cases hk : i = k
        · rw [← hj, ← hk]
        · subst hj
          rw [self l e1] at m1
          exact absurd m1 (key k m hk e2 b m2)
      · by_cases hk : i = k
        · subst hk
          rw [self m e2] at m2
          exact absurd m2 (key j l hj e1 b m1)
        · rw [List.getElem?_set_ne hj] at e1
          rw [List.getElem?_set_ne hk] at e2
          exact E.one j k b l m e1 e2 m1 m2
    new := fun b m => by
      rw [es] at m
      rcases m.set with z | z
      · have := E.new b (mem_set_none z); exact ⟨this.1, by omega⟩
      · rcases List.mem_cons.mp z with z | z
        · rw [z]; have := E.new a oa; exact ⟨this.1, by omega⟩
        · refine ⟨?_, d.lt b z⟩
          rcases nw b z with z | z
          · exact (E.new b (Ow.of hoa (List.mem_cons_of_mem _ z))).1
          · exact .inl (Nat.le_trans E.le z)
    self := fun c2 f2 w e m => by
      by_cases hi0 : i = 0
      · subst hi0; exact E.self c fs w q m
      · rw [List.getElem?_set_ne hi0] at e; exact E.self c2 f2 w e m
    at_ := fun j sl e => by
      by_cases hj : i = j
      · subst hj
        rw [List.getElem?_set_self hi] at e
        cases e
        refine ⟨a, gs', o', ?_, ?_, by rw [hsw]; rfl, g, d.weak tb⟩
        · rw [List.getElem?_set_self (by rw [E.lo]; exact hi)]; rfl
        · rw [List.getElem?_set_self (by rw [E.lo]; exact hi)]; exact nd
      · rw [List.getElem?_set_ne hj] at e
        rw [getL_set_ne hj]
        refine (E.at_ j sl e).mv (fun k u t ek => ⟨fr k u (nm k fun z => t (.inr z)) ek, fun z => z.elim (fun z => t (.inl z)) fun z => nk k u (fun z => t (.inr z)) ek z⟩) fun b hb u eb => fr b u (fun z => ?_) eb
        cases q2 : O[j]? with
        | none => rw [q2] at hb; cases hb
        | some y => rw [q2] at hb; exact hj (E.one i j b _ _ hoa q2 z hb) }
end
end HL


set_option Elab.async false
set_option linter.all false
set_option maxRecDepth 100000
set_option maxHeartbeats 4000000
namespace HL
open PySem (Str)
section
variable {n : Lo} {B : Nat → Prop} {O O' : List (List Nat)} {s : Sg} {h h' h2 l : Sh} {δ : Dl}
/-! ### a def to which an object is lent -/
end
end HL


set_option Elab.async false
set_option linter.all false
set_option maxRecDepth 100000
set_option maxHeartbeats 4000000
namespace HL
open PySem (Str)
section
variable {n : Lo} {B : Nat → Prop} {O O' : List (List Nat)} {s : Sg} {h h' h2 l : Sh} {δ : Dl} {T : Nat → Prop}
/-! ### fields of an object that a name owns -/
theorem FsD.val {f : Str} {p : P} : ∀ {fs : List (Str × Fv)} {gs : List (Str × W)} {o : List Nat}, FsD T h fs gs o → fs.lookup f = some (.val p) → ∃ w, gs.lookup f = some w ∧ Dn T h p w
  | [], gs, o, x, e => by cases e
  | (g, .val q) :: fs, gs, o, x, e => by
    simp only [FsD] at x
    obtain ⟨u, r, rfl, d, ds⟩ := x
    by_cases z : f = g
    · subst z
      simp only [List.lookup, beq_self_eq_true, Option.some.injEq, Fv.val.injEq] at e ⊢
      subst e; exact ⟨u, rfl, d⟩
    · have zb : (f == g) = false := by simpa using z
      simp only [List.lookup, zb] at e ⊢
      exact FsD.val ds e
  | (g, .own q) :: fs, gs, o, x, e => by
    simp only [FsD] at x
    obtain ⟨a, us, r, o', rfl, _, _, d, ds⟩ := x
    by_cases z : f = g
    · subst z
      simp only [List.lookup, beq_self_eq_true, Option.some.injEq, reduceCtorEq] at e
    · have zb : (f == g) = false := by simpa using z
      simp only [List.lookup, zb] at e ⊢
      exact FsD.val ds e
def putFv (f : Str) (v : Fv) : List (Str × Fv) → List (Str × Fv)
  | [] => [(f, v)]
  | (g, x) :: r => if g = f then (g, v) :: r else (g, x) :: putFv f v r
theorem FsD.own {f : Str} {xs : List P} : ∀ {fs : List (Str × Fv)} {gs : List (Str × W)} {o : List Nat}, FsD T h fs gs o → fs.lookup f = some (.own xs) → ∃ b us, gs.lookup f = some (.ref b) ∧ b ∈ o ∧ h[b]? = some (.lst us) ∧ Dns T h xs us ∧
      ∀ ys vs, Dns T h ys vs → T b → o.Nodup → FsD T (h.set b (.lst vs)) (putFv f (.own ys) fs) gs o
  | [], gs, o, x, e => by cases e
  | (g, .val q) :: fs, gs, o, x, e => by
    simp only [FsD] at x
    obtain ⟨u, r, rfl, d, ds⟩ := x
    by_cases z : f = g
    · subst z
      simp only [List.lookup, beq_self_eq_true, Option.some.injEq, reduceCtorEq] at e
    · have zb : (f == g) = false := by simpa using z
      simp only [List.lookup, zb] at e ⊢
      obtain ⟨b, us, e1, mb, gb, db, k⟩ := FsD.own ds e
      refine ⟨b, us, e1, mb, gb, db, fun ys vs dy tb nd => ?_⟩
      unfold putFv
      rw [if_neg (fun q => z q.symm)]
      simp only [FsD]
      exact ⟨u, r, rfl, Dn.mono (fun i o t e => ⟨set_other e (fun q => t (q ▸ tb)), t⟩) q u d, k ys vs dy tb nd⟩
  | (g, .own q) :: fs, gs, o, x, e => by
    simp only [FsD] at x
    obtain ⟨a, us, r, o', rfl, rfl, ga, d, ds⟩ := x
    by_cases z : f = g
    · subst z
      simp only [List.lookup, beq_self_eq_true, Option.some.injEq, Fv.own.injEq] at e ⊢
      subst e
      refine ⟨a, us, rfl, List.mem_cons_self, ga, d, fun ys vs dy tb nd => ?_⟩
      unfold putFv
      rw [if_pos rfl]
      simp only [FsD]
      have mv : ∀ (i : Nat) (o : SO), ¬ T i → h[i]? = some o → (h.set a (.lst vs))[i]? = some o ∧ ¬ T i := fun i o t e => ⟨set_other e (fun q => t (q ▸ tb)), t⟩
      exact ⟨a, vs, r, o', rfl, rfl, List.getElem?_set_self (List.getElem?_eq_some_iff.mp ga).1, Dns.mono mv ys vs dy, FsD.mv mv fs r o' (fun i hi u e => set_other e (fun q => (List.nodup_cons.mp nd).1 (q ▸ hi))) ds⟩
    · have zb : (f == g) = false := by simpa using z
      simp only [List.lookup, zb] at e ⊢
      obtain ⟨b, us2, e1, mb, gb, db, k⟩ := FsD.own ds e
      refine ⟨b, us2, e1, List.mem_cons_of_mem _ mb, gb, db, fun ys vs dy tb nd => ?_⟩
      unfold putFv
      rw [if_neg (fun q => z q.symm)]
      simp only [FsD]
      have nd' := List.nodup_cons.mp nd
      exact ⟨a, us, r, o', rfl, rfl, set_other ga (fun q => nd'.1 (q ▸ mb)), Dns.mono (fun i o t e => ⟨set_other e (fun q => t (q ▸ tb)), t⟩) q us d, k ys vs dy tb nd'.2⟩
theorem FsD.len : ∀ {fs : List (Str × Fv)} {gs : List (Str × W)} {o : List Nat}, FsD T h fs gs o → gs.length = fs.length
  | [], gs, o, x => by simp only [FsD] at x; rw [x.1]; rfl
  | (g, .val q) :: fs, gs, o, x => by
    simp only [FsD] at x
    obtain ⟨u, r, rfl, d, ds⟩ := x
    rw [List.length_cons, List.length_cons, FsD.len ds]
  | (g, .own q) :: fs, gs, o, x => by
    simp only [FsD] at x
    obtain ⟨a, us, r, o', rfl, rfl, ga, d, ds⟩ := x
    rw [List.length_cons, List.length_cons, FsD.len ds]
/-! o.f read -/
end
end HL


set_option Elab.async false
set_option linter.all false
set_option maxRecDepth 100000
set_option maxHeartbeats 4000000
namespace HL
open PySem (Str)
section
variable {n : Lo} {B : Nat → Prop} {O O' : List (List Nat)} {s : Sg} {h h' h2 l : Sh} {δ : Dl} {T : Nat → Prop}
/-! o.f[k] = e -/
/-! o.f = e -/
/-! a new object for a name -/
end
end HL


set_option Elab.async false
set_option linter.all false
set_option maxRecDepth 100000
set_option maxHeartbeats 4000000
namespace HL
open PySem (Str)
section
variable {n : Lo} {B : Nat → Prop} {O O' : List (List Nat)} {s : Sg} {h h' h2 l : Sh} {δ : Dl} {T : Nat → Prop}
/-! ### an owned object, looked at -/
def imm : Fv → P
  | .val p => p
  | .own xs => .lst xs
def immF (fs : List (Str × Fv)) : List (Str × P) := fs.map fun x => (x.1, imm x.2)
theorem FsD.look {T' : Nat → Prop} (sub : ∀ k, T' k → T k) : ∀ {fs : List (Str × Fv)} {gs : List (Str × W)} {o : List Nat}, FsD T h fs gs o → (∀ k ∈ o, ¬ T' k) → Dnf T' h (immF fs) gs
  | [], gs, o, x, no => by simp only [FsD] at x; rw [x.1]; simp only [immF, List.map_nil, Dnf]
  | (f, .val p) :: fs, gs, o, x, no => by
    simp only [FsD] at x
    obtain ⟨u, r, rfl, d, y⟩ := x
    simp only [immF, List.map_cons, Dnf]
    exact ⟨u, r, rfl, d.weak sub, FsD.look sub y no⟩
  | (f, .own xs) :: fs, gs, o, x, no => by
    simp only [FsD] at x
    obtain ⟨a, us, r, o', rfl, rfl, g, d, y⟩ := x
    simp only [immF, List.map_cons, Dnf]
    refine ⟨.ref a, r, rfl, ?_, FsD.look sub y fun k hk => no k (List.mem_cons_of_mem _ hk)⟩
    simp only [imm, Dn]
    exact ⟨a, us, rfl, no a List.mem_cons_self, g, d.weak sub⟩
theorem Env.apart (E : Env n B O s h δ) {i : Nat} {m : List Nat} (hoa : O[i]? = some m) : ∀ k ∈ m, ¬ (B k ∨ Ow (O.set i []) k) := fun k hk t => by
  rcases t with t | t
  · have z1 := E.old k t
    rcases (E.new k (Ow.of hoa hk)).1 with z | z
    · omega
    · exact z1.2 z
  · obtain ⟨j, l, hj, ml⟩ := t.at_
    rw [List.getElem?_set] at hj
    split at hj
    · split at hj
      · cases hj; cases ml
      · cases hj
    · rename_i ne; exact ne (E.one i j k _ _ hoa hj hk ml)
theorem Env.look (E : Env n B O s h δ) {i : Nat} {c : Str} {fs : List (Str × Fv)} (q : δ[i]? = some (.obj c fs)) : ∃ a, s[i]? = some (some (.ref a)) ∧ (∃ gs, h[a]? = some (.ins c gs) ∧ (∀ m, fs.lookup m = none → gs.lookup m = none)) ∧ Dn (fun k => B k ∨ Ow (O.set i []) k) h (.ins c (immF fs)) (.ref a) := by
  obtain ⟨a, gs, o, hoa, nd, hsw, g, d⟩ := E.at_obj q
  have ap := E.apart hoa
  refine ⟨a, hsw, ⟨gs, g, fun m e => d.no e⟩, ?_⟩
  simp only [Dn]
  exact ⟨a, gs, rfl, ap a List.mem_cons_self, g, d.look (fun k t => t.imp id mem_set_none) fun k hk => ap k (List.mem_cons_of_mem _ hk)⟩
def isOwn : Fv → Bool
  | .own _ => true
  | .val _ => false
def shape (fs : List (Str × Fv)) : List Bool := fs.map fun x => isOwn x.2
theorem FsD.same {T' : Nat → Prop} : ∀ {fs fs' : List (Str × Fv)} {gs : List (Str × W)} {o o' : List Nat}, FsD T h fs gs o → FsD T' h' fs' gs o' → shape fs' = shape fs → o' = o
  | [], [], gs, o, o', x, y, e => by simp only [FsD] at x y; rw [x.2, y.2]
  | [], _ :: _, gs, o, o', x, y, e => by simp [shape] at e
  | _ :: _, [], gs, o, o', x, y, e => by simp [shape] at e
  | (f, .val p) :: fs, (f', .val p') :: fs', gs, o, o', x, y, e => by
    simp only [FsD] at x y
    obtain ⟨u, r, rfl, d, x⟩ := x
    obtain ⟨u', r', e1, d', y⟩ := y
    cases e1
    exact FsD.same x y (by simpa [shape, isOwn] using e)
  | (f, .own p) :: fs, (f', .own p') :: fs', gs, o, o', x, y, e => by
    simp only [FsD] at x y
    obtain ⟨a, us, r, o1, rfl, rfl, g, d, x⟩ := x
    obtain ⟨a', us', r', o1', e1, rfl, g', d', y⟩ := y
    cases e1
    rw [FsD.same x y (by simpa [shape, isOwn] using e)]
  | (f, .val p) :: fs, (f', .own p') :: fs', gs, o, o', x, y, e => by simp [shape, isOwn] at e
  | (f, .own p) :: fs, (f', .val p') :: fs', gs, o, o', x, y, e => by simp [shape, isOwn] at e
end
end HL


set_option Elab.async false
set_option linter.all false
set_option maxRecDepth 100000
set_option maxHeartbeats 4000000
namespace HL
open PySem (Str)
/-! ### where a number or a text stands in a list of them -/
def sameK : W → W → Bool
  | .int _, .int _ => true
  | .str _, .str _ => true
  | _, _ => false
def mIndex : W → List W → Sh → R W := fun x xs h => match lstW h x, xs with
  | some ys, [y] => if ys.all (sameK y) = true then (match ys.findIdx? (fun z => eqW z y) with
    | some j => .ok (.int (j : Int)) h
    | none => .er) else .er
  | _, _ => .er
section
variable {n : Lo} {B : Nat → Prop} {O O' O2 : List (List Nat)} {s : Sg} {h h' h2 l : Sh} {δ : Dl}
def qIndex (p q : P) : Option P := match (lstP p).bind flatsP, flatP q with
  | some vs, some u => if vs.all (sameK u) = true then (vs.findIdx? (fun z => eqW z u)).map fun j => .int (j : Int) else none
  | _, _ => none
theorem e_index {a b : DE} {p q : PE} (ha : Pb a p) (hb : Pb b q) : Pe (dMt isLst mIndex a (dCons b dNil)) (pOp qIndex p q) := fun n B O s h δ r E e => by
  unfold pOp at e
  cases e1 : p δ with
  | none => rw [e1] at e; cases e
  | some x =>
    rw [e1] at e
    cases e2 : q δ with
    | none => rw [e2] at e; cases e
    | some y =>
      rw [e2] at e
      simp only [Option.bind_some] at e
      obtain ⟨w, l, c1, d1⟩ := ha n B O s h δ x E e1
      obtain ⟨v, l2, c2, d2⟩ := hb n B O s (h ++ l) δ y E.app e2
      unfold qIndex at e
      cases e3 : lstP x with
      | none => rw [e3] at e; cases e
      | some ps =>
        rw [e3] at e
        simp only [Option.bind_some] at e
        cases e4 : flatsP ps with
        | none => rw [e4] at e; cases e
        | some vs =>
          rw [e4] at e
          cases e5 : flatP y with
          | none => rw [e5] at e; cases e
          | some u =>
            rw [e5] at e
            simp only at e
            split at e
            · rename_i hk
              obtain ⟨rfl, _⟩ := flat_p d2 e5
              obtain ⟨us, g, ds⟩ := d1.lstW e3
              obtain ⟨us2, g2, ds2⟩ := (d1.app (l := l2)).lstW e3
              obtain ⟨rfl, _⟩ := flats_p ps us2 vs ds2 e4
              cases e6 : us2.findIdx? (fun z => eqW z v) with
              | none => rw [e6] at e; cases e
              | some j =>
                rw [e6] at e; cases e
                refine ⟨.int (j : Int), l ++ l2, ?_, by simp only [Dn]⟩
                unfold dMt
                rw [c1]
                simp only [R.bind, isLst, g, Option.isSome_some, if_true, dCons, dNil]
                rw [c2]
                simp only [R.bind, mIndex, g2, hk, if_true, e6]
                simp only [List.append_assoc]
            · cases e
/-! ### a module's dict of numbers, its keys texts -/
def dGetI (tb : List (Str × Int)) (a b : DE) : DE := fun s h => (a s h).bind fun x h => (b s h).bind fun y h => match x with
  | .str k => (match tb.lookup k with
    | some i => .ok (.int i) h
    | none => .ok y h)
  | _ => .er
def pGetI (tb : List (Str × Int)) (a b : PE) : PE := fun δ => (a δ).bind fun x => (b δ).bind fun y => match x with
  | .str k => (match tb.lookup k with
    | some i => some (.int i)
    | none => some y)
  | _ => none
theorem e_getI {tb : List (Str × Int)} {a b : DE} {p q : PE} (ha : Pe a p) (hb : Pe b q) : Pe (dGetI tb a b) (pGetI tb p q) := fun n B O s h δ r E e => by
  unfold pGetI at e
  cases e1 : p δ with
  | none => rw [e1] at e; cases e
  | some x =>
    rw [e1] at e
    cases e2 : q δ with
    | none => rw [e2] at e; cases e
    | some y =>
      rw [e2] at e
      simp only [Option.bind_some] at e
      obtain ⟨w, l, c1, d1⟩ := ha n B O s h δ x E e1
      obtain ⟨v, l2, c2, d2⟩ := hb n B O s (h ++ l) δ y E.app e2
      cases x with
      | str k =>
        have hw : w = .str k := DnB.str (.inl d1)
        subst hw
        unfold dGetI
        rw [c1]
        simp only [R.bind]
        rw [c2]
        simp only [R.bind]
        cases e3 : tb.lookup k with
        | some i =>
          simp only [e3] at e
          cases e
          exact ⟨.int i, l ++ l2, by simp only [List.append_assoc], by simp only [Dn]⟩
        | none =>
          simp only [e3] at e
          cases e
          refine ⟨v, l ++ l2, by simp only [List.append_assoc], ?_⟩
          rw [← List.append_assoc]; exact d2
      | _ => cases e
end
end HL


set_option Elab.async false
set_option linter.all false
set_option maxRecDepth 100000
set_option maxHeartbeats 4000000
namespace L2
open PySem PySem.Spec PyProof.Rows
open HL (W SO Sh Sg OR DE DT DA DS Fn)
/-! ### a class without __init__ -/
structure Mk0 (K : PySem.W.Frag) (mg : Str → Option Value) (x : Str) (C : Addr) : Prop where
  at_ : mg x = some (.ref C)
  makes : PySem.W.makesIn K C = true
  init : PySem.W.findIn K (.ref C) "__init__" = some (some (.builtin "object.__init__"))
  kp : PySem.W.keepIn K (.ref C) = true
theorem make_bare {prog : Program} {w : World} {A : Around} {K : PySem.W.Frag} {C : Addr} {s : Shared} {R : Result → Shared → Prop} (X : K.In s.heap) (hm : PySem.W.makesIn K C = true)
    (hi : PySem.W.findIn K (.ref C) "__init__" = some (some (.builtin "object.__init__")))
    (h : R (.ok (.ret (.ref (s.heap.objs.size + 1)))) { s with heap := (s.heap.push PySem.W.emptyDict).push (PySem.W.instObj C s.heap.objs.size) }) :
    codeAny (model prog w) A (.call (.ref C) ⟨[], []⟩) R s := by
  obtain ⟨hh, g, d, t, os⟩ := s
  have Y := PySem.W.makes_of (M := model prog w) X hm
  have e2 : ((hh.push PySem.W.emptyDict).push (PySem.W.instObj C hh.objs.size)).get? (hh.objs.size + 1) = some (PySem.W.instObj C hh.objs.size) := by
    have := Heap.get?_push_size (hh.push PySem.W.emptyDict) (o := PySem.W.instObj C hh.objs.size) rfl
    rwa [Heap.size_push] at this
  refine PySem.W.make_core Y (PySem.W.looks_findIn X hi) (fun self => PySem.W.Looks.of_pure (PySem.W.oi_bind self)) (.inr ⟨rfl, rfl⟩) ?_
  refine codeAny_call_builtin PySem.W.oi_plain PySem.W.entry_oi (PySem.W.check_slot PySem.W.oi_kind PySem.W.oi_split (PySem.W.Looks.andThen (PySem.W.Looks.andThen (PySem.W.Looks.ld e2) PySem.W.Looks.now) (PySem.W.Looks.keeps Y.top fun b o e => Heap.get?_push_of_some _ (Heap.get?_push_of_some _ e))) (PySem.W.oi_args _) ?_)
  rw [PySem.W.oi_run]
  exact wpAny_pure ⟨rfl, h⟩
section
variable {X : Cx} {γ : Str → Addr} {a b c e o f : Expr} {es : List Expr} {da db dc de d1 d2 : DE} {pos pos' apos cpos : Pos}
def tBare (C : Addr) : TE := fun σ H Q => ∀ x dx, H x = none → H dx = none → dx ≠ x → Q (.ref x) (upd (upd H dx (.own x)) x (.ins C dx []))
theorem pe_bare {x : Str} {p : Pos} {C : Addr} (M : Mk0 X.K X.mg x C) (hg : Gl X x) (hdb : (x == ("__debug__" : Str)) = false := by decide) : PE X (.Call (.Name x p) [] [] pos) (tBare C) := by
  intro pins s σ H Q I h
  refine wpAny_Call_Name_kw (ld_glob I hg M.at_ ?_ hdb)
  refine PySem.W.callWith_K0 I.kIn M.kp (wpAny_call (make_bare I.kIn M.makes M.init ?_))
  exact ⟨V.ref (s.heap.objs.size + 1), _, Inv.made (C := C) I, rfl, h _ _ (I.hok.fresh (Nat.le_succ _)) (I.hok.fresh (Nat.le_refl _)) (Nat.ne_of_lt (Nat.lt_succ_self _))⟩
theorem q_bare {x : Str} {pp : Pos} (M : Mk0 X.K X.mg x (γ x)) (hg : Gl X x) (hdb : (x == ("__debug__" : Str)) = false := by decide) : QE γ X (.Call (.Name x pp) [] [] pos) (HL.dNew x (HL.fnOf 1 1 HL.sNx) [] HL.dNil) :=
  (pe_bare M hg hdb).imp fun σ H Q z => by
    obtain ⟨ρ, s, h, S, z⟩ := z
    intro y dx hy hdx ne
    have hdx' : upd H dx (.own y) y = none := by rw [upd_ne ne.symm]; exact hy
    have E1 : Ext H (upd (upd H dx (.own y)) y (.ins (γ x) dx [])) := (Ext.upd _ hdx).trans (Ext.upd _ hdx')
    have S2 := S.hp.push (p := y) (o := .ins x []) (fun q hq => by cases hq) E1 hy ⟨dx, upd_same⟩
    have n2 := Nxt.push h ρ (.ins x []) y
    have q := z (put ρ h.length y) _ n2 S2 (show h.length < (h ++ [_]).length by simp)
    rw [show renW γ (put ρ h.length y) (.ref h.length) = V.ref y from congrArg V.ref (put_at _ _ _)] at q
    exact q
/-! ### a module's dict of numbers -/
def DEs : List (Str × Int) → List DictEntry → Prop
  | [], [] => True
  | (k, i) :: r, e :: es => (∃ t, e.key = .str k t) ∧ (∃ t, e.val = .int i t) ∧ DEs r es
  | _, _ => False
theorem des_find (k : Str) : ∀ {tb : List (Str × Int)} {es : List DictEntry}, DEs tb es → RelO ((tb.lookup k).map V.int) ((es.find? (fun e => Value.isStrOf k e.key)).map (·.val))
  | [], [], _ => trivial
  | [], _ :: _, x => x.elim
  | _ :: _, [], x => x.elim
  | (k', i) :: r, e :: es, x => by
    obtain ⟨⟨t, ek⟩, ⟨t2, ev⟩, x⟩ := x
    have ib : Value.isStrOf k e.key = (k' == k) := by rw [ek]; rfl
    by_cases hk : k = k'
    · subst hk
      have : (k == k) = true := beq_self_eq_true k
      simp only [List.lookup, this, List.find?_cons, ib, Option.map_some]
      exact ⟨t2, ev⟩
    · have h1 : (k == k') = false := by simpa using hk
      have h2 : (k' == k) = false := by simpa using fun z => hk z.symm
      simp only [List.lookup, h1, List.find?_cons, ib, h2]
      exact des_find k x
structure DctI (K : PySem.W.Frag) (mg : Str → Option Value) (w : World) (x : Str) (tb : List (Str × Int)) : Prop where
  ex : ∃ D es n, mg x = some (.ref D) ∧ K.lookup D = some { cls := .type "dict", data := .dict es n } ∧ PySem.W.KeysLit w.params es.toList ∧ (D == sysModules) = false ∧ DEs tb es.toList
def tGetI (tb : List (Str × Int)) (t : TA) : TE := fun σ H Q => t σ H fun xs H2 => ∃ k z, xs = [.str k, z] ∧ Q (((tb.lookup k).map V.int).getD z) H2
theorem relO_getD {o : Option V} {u : Option Value} {z : V} {r : Value} (x : RelO o u) (y : RelV z r) : RelV (o.getD z) (u.getD r) := by
  match o, u, x with
  | none, none, _ => exact y
  | some _, some _, x => exact x
theorem pe_getI {x : Str} {p : Pos} {tb : List (Str × Int)} {t : TA} (D : DctI X.K X.mg X.w x tb) (hg : Gl X x) (ha : PA X [e, f] t) (hdb : (x == ("__debug__" : Str)) = false := by decide)
    (hbase : attributeBase (.Name x p) "get" X.env (eval (.Name x p) X.env) = eval (.Name x p) X.env := by rfl)
    (hfew : ((backTo cpos (starEach [e, f] X.env)).all (fun x => !x.1) && (backToKw cpos (keywordEach [] X.env)).all (fun x => x.1.isSome)
      && decide ([e, f].length + ([] : List Keyword).length + (if ([] : List Keyword).isEmpty then 0 else 1) < 30)) = true := by rfl)
    (hline : (apos.endLine == cpos.line) = true := by rfl) (hs : starEach [e, f] X.env = (false, eval e X.env) :: starEach [f] X.env := by rfl) (hplain : (backTo cpos (starEach [f] X.env)).any (·.1) = false := by rfl) :
    PE X (.Call (.Attribute (.Name x p) "get" apos) [e, f] [] cpos) (tGetI tb t) := by
  intro pins s σ H Q I h
  obtain ⟨D, es, n, hm, hk, hkl, hd, des⟩ := D.ex
  refine wpAny_Call_method hbase hfew hline PySem.F.plainAttrs_dict PySem.F.slot_dict_get PySem.F.type_dict_get (ld_glob I hg hm ?_ hdb)
  have hD := I.kIn D _ hk
  refine ⟨⟨_, hD, rfl⟩, fun a q => by cases q; exact ⟨_, hD, rfl⟩, ?_⟩
  have hA := ha cpos pins s σ H _ I h
  rw [hs] at hA ⊢
  refine Calls.callWith_builtin (by show (false || (backTo cpos (starEach [f] X.env)).any (·.1)) = false; rw [hplain] <;> rfl) (Calls.evalArgs_plain ?_)
  refine thn hA fun us s2 ⟨vs, H2, I2, r2, k, z, ev, q2⟩ => ?_
  subst ev
  cases r2 with
  | cons rk r2 =>
    cases r2 with
    | cons rz r2 =>
      cases r2
      obtain ⟨tk, rfl⟩ := rk
      have hD2 := I2.kIn D _ hk
      have mp : Heap.MapOf (strKind X.prog X.w) s2.heap D _ := PySem.W.mapOf_K I2.kIn hk hkl
      refine call_meetsIn PySem.F.slot_dict_get ⟨_, hD2, rfl⟩ PySem.F.entry_dict_get (PySem.F.args_dict_get_3 _ _ _) (meets_dict_get_default (strKind X.prog X.w) D (strKind_is X.prog X.w k tk) hd _) ⟨_, mp, ?_⟩
      refine ⟨_, H2, I2.tok _, ?_, q2⟩
      refine relO_getD ?_ rz
      have := des_find k des
      unfold findBy
      rw [← Array.find?_toList]
      exact this
theorem q_getI {x : Str} {p : Pos} {tb : List (Str × Int)} (D : DctI X.K X.mg X.w x tb) (hg : Gl X x) (ha : QE γ X e d1) (hb : QE γ X f d2) (hdb : (x == ("__debug__" : Str)) = false := by decide)
    (hbase : attributeBase (.Name x p) "get" X.env (eval (.Name x p) X.env) = eval (.Name x p) X.env := by rfl)
    (hfew : ((backTo cpos (starEach [e, f] X.env)).all (fun x => !x.1) && (backToKw cpos (keywordEach [] X.env)).all (fun x => x.1.isSome)
      && decide ([e, f].length + ([] : List Keyword).length + (if ([] : List Keyword).isEmpty then 0 else 1) < 30)) = true := by rfl)
    (hline : (apos.endLine == cpos.line) = true := by rfl) (hs : starEach [e, f] X.env = (false, eval e X.env) :: starEach [f] X.env := by rfl) (hs2 : starEach [f] X.env = (false, eval f X.env) :: starEach [] X.env := by rfl) (hplain : (backTo cpos (starEach [f] X.env)).any (·.1) = false := by rfl) :
    QE γ X (.Call (.Attribute (.Name x p) "get" apos) [e, f] [] cpos) (HL.dGetI tb d1 d2) :=
  (pe_getI D hg (qa_cons ha (qa_cons hb qa_nil hs2) hs) hdb hbase hfew hline hs hplain).imp fun σ H Q z => by
    obtain ⟨ρ, s, h, S, z⟩ := z
    refine ⟨ρ, s, h, S, ?_⟩
    unfold HL.dGetI at z
    unfold HL.dCons HL.dNil
    cases q1 : d1 s h with
    | ok v h1 =>
      rw [q1] at z
      simp only [HL.R.bind] at z ⊢
      cases q2 : d2 s h1 with
      | ok y h2 =>
        rw [q2] at z
        simp only [HL.R.bind] at z ⊢
        intro ρ' H' n S' w
        cases v with
        | str k =>
          refine ⟨k, renW γ ρ' y, rfl, ?_⟩
          simp only at z
          cases q3 : tb.lookup k with
          | some i => rw [q3] at z; exact z ρ' H' n S' trivial
          | none => rw [q3] at z; exact z ρ' H' n S' (w y (List.mem_cons_of_mem _ List.mem_cons_self))
        | _ => exact z.elim
      | ex => rw [q2] at z; exact z.elim
      | er => rw [q2] at z; exact z.elim
    | ex => rw [q1] at z; exact z.elim
    | er => rw [q1] at z; exact z.elim
/-! ### where something stands in a list -/
def sameV : V → V → Prop
  | .int _, .int _ => True
  | .str _, .str _ => True
  | _, _ => False
def rIndex (K : PySem.W.Frag) : V → List V → Hp → VK → Prop := fun x vs H Q => ∃ (l : Addr) (ys : List V) (y : V) (j : Nat), x = .ref l ∧ vs = [y] ∧ SqL K H l ys ∧ (∀ v ∈ ys, sameV y v) ∧ ys[j]? = some y ∧ (∀ m, m < j → ys[m]? ≠ some y) ∧ Q (.int (j : Int)) H
def isVal : V → Value → Bool
  | .int k, .int i _ => i == k
  | .str k, .str z _ => z == k
  | _, _ => false
theorem isVal_eq {y v : V} {u uy : Value} (s : sameV y v) (r : RelV v u) (ry : RelV y uy) : MeetsSeq.EqGives u uy (isVal y u) ∧ (isVal y u = true ↔ v = y) := by
  match y, v, s with
  | .int k, .int i, _ =>
    obtain ⟨t, rfl⟩ := r
    obtain ⟨t2, rfl⟩ := ry
    exact ⟨MeetsSeq.EqGives.int i k t t2, by simp [isVal]⟩
  | .str k, .str i, _ =>
    obtain ⟨t, rfl⟩ := r
    obtain ⟨t2, rfl⟩ := ry
    exact ⟨PyProof.Rows.eqGives_str i k t t2, by simp [isVal]⟩
theorem vals_at {xs : List V} {us : List Value} (r : Vals xs us) {m : Nat} (h : m < us.length) : ∃ v, xs[m]? = some v ∧ RelV v us[m] := by
  induction r generalizing m with
  | nil => cases h
  | cons a b ih =>
    cases m with
    | zero => exact ⟨_, rfl, a⟩
    | succ m => exact ih (m := m) (by simpa using h)
theorem mt_index : MtR X "list.index" (rIndex X.K) := by
  intro pins s σ H x xs v us Q I rx rv h
  obtain ⟨l, ys, y, j, rfl, rfl, hq, hk, hj, hn, q⟩ := h
  cases rx
  cases rv with
  | cons ry rv =>
    cases rv
    rename_i uy
    obtain ⟨its, r, ⟨o, n, e, hc, hd, hdt⟩, hl⟩ := I.list hq
    obtain ⟨oc, od, odt, osl⟩ := o
    simp only at hc hd hdt
    subst hc hd hdt
    have len : ys.length = its.length := r.length
    have hjl : j < its.length := by
      rw [← len]; exact (List.getElem?_eq_some_iff.mp hj).1
    have at_ : ∀ (m : Nat) (hm : m < its.length), ∃ v, ys[m]? = some v ∧ RelV v its[m] := fun m hm => vals_at r hm
    have hm1 : ∀ u ∈ its.toArray, MeetsSeq.EqGives u uy (isVal y u) := fun u hu => by
      obtain ⟨m, hm, rfl⟩ := List.getElem_of_mem (by simpa using hu)
      obtain ⟨v, e1, e2⟩ := at_ m hm
      exact (isVal_eq (hk v (List.mem_of_getElem? e1)) e2 ry).1
    refine call_meets PySem.F.slot_list_index ⟨_, e, rfl⟩ PySem.F.entry_list_index (PySem.F.args_list_index_2 _ _) (SeqAt.list_indexAt l its.toArray n none osl uy (isVal y) j (by simpa using hjl) ?_ ?_ ?_) ⟨e, fun u hu => (hm1 u hu).at _ _, ?_⟩
    · rw [sizeLine_eq] at hl; omega
    · obtain ⟨v, e1, e2⟩ := at_ j hjl
      have : v = y := by rw [hj] at e1; exact (Option.some.inj e1).symm
      simpa using (isVal_eq (hk v (List.mem_of_getElem? e1)) e2 ry).2.mpr this
    · intro m hm hmj
      obtain ⟨v, e1, e2⟩ := at_ m (by simpa using hm)
      have ne : v ≠ y := fun z => hn m hmj (z ▸ e1)
      have := (isVal_eq (hk v (List.mem_of_getElem? e1)) e2 ry).2
      cases hb : isVal y its[m] with
      | false => simpa using hb
      | true => exact absurd (this.mp hb) ne
    · exact ⟨.int (j : Int), H, I.tok _, ⟨_, rfl⟩, q⟩
theorem same_ren {ρ : Nat → Addr} {y z : W} (h : HL.sameK y z = true) : sameV (renW γ ρ y) (renW γ ρ z) ∧ (HL.eqW z y = true ↔ renW γ ρ z = renW γ ρ y) := by
  cases y <;> cases z <;> first | (cases h; done) | skip
  · exact ⟨trivial, by simp [HL.eqW, renW]⟩
  · exact ⟨trivial, by simp [HL.eqW, renW]⟩
theorem ms_index {K : PySem.W.Frag} : MtS K γ (rIndex K) HL.mIndex := by
  intro ρ h H x xs Q S wx wxs q
  unfold HL.mIndex at q
  split at q
  · rename_i ys y e
    split at q
    · rename_i hk
      split at q
      · rename_i j ej
        obtain ⟨i, rfl, sq, _⟩ := lstW_sq S e
        obtain ⟨hj, h1, h2⟩ := List.findIdx?_eq_some_iff_getElem.mp ej
        have hk' : ∀ z ∈ ys, HL.sameK y z = true := List.all_eq_true.mp hk
        refine ⟨ρ i, ys.map (renW γ ρ), renW γ ρ y, j, rfl, rfl, sq, ?_, ?_, ?_, q ρ H (Nxt.refl _ _) S trivial⟩
        · intro v hv
          obtain ⟨z, hz, rfl⟩ := List.mem_map.mp hv
          exact (same_ren (hk' z hz)).1
        · rw [List.getElem?_map, List.getElem?_eq_getElem hj, Option.map_some, (same_ren (hk' _ (List.getElem_mem hj))).2.mp h1]
        · intro m hm
          rw [List.getElem?_map, List.getElem?_eq_getElem (Nat.lt_trans hm hj), Option.map_some]
          intro z
          exact h2 m hm ((same_ren (hk' _ (List.getElem_mem _))).2.mpr (Option.some.inj z))
      · exact q.elim
    · exact q.elim
  · exact q.elim
theorem q_index (ho : QE γ X o de) (ha : QE γ X e db)
    (hbase : attributeBase o "index" X.env (eval o X.env) = eval o X.env := by rfl)
    (hfew : ((backTo cpos (starEach [e] X.env)).all (fun x => !x.1) && (backToKw cpos (keywordEach [] X.env)).all (fun x => x.1.isSome)
      && decide ([e].length + ([] : List Keyword).length + (if ([] : List Keyword).isEmpty then 0 else 1) < 30)) = true := by rfl)
    (hline : (apos.endLine == cpos.line) = true := by rfl) (hs : starEach [e] X.env = (false, eval e X.env) :: starEach [] X.env := by rfl) (hplain : (backTo cpos (starEach [] X.env)).any (·.1) = false := by rfl) :
    QE γ X (.Call (.Attribute o "index" apos) [e] [] cpos) (HL.dMt HL.isLst HL.mIndex de (HL.dCons db HL.dNil)) :=
  q_bm PySem.F.plainAttrs_list PySem.F.slot_list_index PySem.F.type_list_index mt_index ms_index ts_lst ho (qa_cons ha qa_nil hs) hbase hfew hline hs hplain
end
/-! ### methods that stand in a class above -/
theorem MDef.inh {P : Program} {w : World} {K : PySem.W.Frag} {mg : Str → Option Value} {base : Heap} {k : Nat} {C C' : Addr} {m : Str} {ps : List Str} {sp : Sp} (D : MDef P w K mg base k C m ps sp) (h : PySem.W.findIn K (.ref C') m = PySem.W.findIn K (.ref C) m) : MDef P w K mg base k C' m ps sp := by
  obtain ⟨f, fd, F, a, n, kp, b⟩ := D.ex
  exact ⟨f, fd, F, h.trans a, n, kp, b⟩
/-! ### the classes by what the module has by their names -/
def gm (mg : Str → Option Value) (x : Str) : Addr := match mg x with
  | some (.ref a) => a
  | _ => 0
theorem gm_of {mg : Str → Option Value} {x : Str} {C : Addr} (h : mg x = some (.ref C)) : gm mg x = C := by unfold gm; rw [h]
theorem FldOk.sub {K : PySem.W.Frag} {γ : Str → Addr} {cs ds : List Str} {f : Str} (h : FldOk K γ cs f) (s : ∀ c ∈ ds, c ∈ cs) : FldOk K γ ds f := fun c hc => h c (s c hc)
/-! ### the table of classes -/
def isiB (K : PySem.W.Frag) (cs : List (Str × Addr × List W)) : Bool :=
  (cs.all fun p => cs.all fun q => PySem.W.kitOne K (.ref p.2.1) (.ref q.2.1) == some (p.2.2.contains (.gl q.1))) &&
  (cs.all fun p => HL.biN.all fun b => PySem.W.kitOne K (.ref p.2.1) (.type b) == some (p.2.2.contains (.ty b))) &&
  (cs.all fun q => ("NoneType" :: HL.biN).all fun a => PySem.W.kitOne K (.type a) (.ref q.2.1) == some false) &&
  cs.all fun p => !(p.2.2.contains (.ty "ValueError"))
theorem look_mem {α : Type} {c : Str} {l : α} : ∀ {T : List (Str × α)}, T.lookup c = some l → (c, l) ∈ T
  | [], e => by cases e
  | (d, m) :: T, e => by
    by_cases z : c = d
    · subst z
      simp only [List.lookup, beq_self_eq_true, Option.some.injEq] at e
      subst e; exact List.mem_cons_self
    · have zb : (c == d) = false := by simpa using z
      simp only [List.lookup, zb] at e
      exact List.mem_cons_of_mem _ (look_mem e)
theorem isiOk_of {K : PySem.W.Frag} {γ : Str → Addr} {cs : List (Str × Addr × List W)} (hγ : ∀ p ∈ cs, γ p.1 = p.2.1) (hi : ∀ p ∈ cs, InsOk K p.2.1) (hb : isiB K cs = true) : IsiOk K γ (cs.map fun p => (p.1, p.2.2)) := by
  unfold isiB at hb
  simp only [Bool.and_eq_true] at hb
  obtain ⟨⟨⟨h1, h2⟩, h3⟩, h4⟩ := hb
  have mem : ∀ c l, (cs.map fun p => (p.1, p.2.2)).lookup c = some l → ∃ a, (c, a, l) ∈ cs ∧ γ c = a := fun c l e => by
    obtain ⟨p, hp, q⟩ := List.mem_map.mp (look_mem e)
    obtain ⟨x, a, m⟩ := p
    cases q
    exact ⟨a, hp, hγ _ hp⟩
  refine ⟨?_, ?_, ?_, ?_⟩
  · intro c l e
    obtain ⟨a, hp, ga⟩ := mem c l e
    rw [ga]
    have hv := List.all_eq_true.mp h4 _ hp
    simp only [Bool.not_eq_true'] at hv
    exact ⟨fun _ => hi _ hp, fun z => by rw [hv] at z; cases z⟩
  · intro c l e x m e2
    obtain ⟨a, hp, ga⟩ := mem c l e
    obtain ⟨b, hq, gb⟩ := mem x m e2
    rw [ga, gb]
    exact beq_iff_eq.mp (List.all_eq_true.mp (List.all_eq_true.mp h1 _ hp) _ hq)
  · intro c l e b hb
    obtain ⟨a, hp, ga⟩ := mem c l e
    rw [ga]
    exact beq_iff_eq.mp (List.all_eq_true.mp (List.all_eq_true.mp h2 _ hp) b hb)
  · intro x m e a ha
    obtain ⟨b, hq, gb⟩ := mem x m e
    rw [gb]
    exact beq_iff_eq.mp (List.all_eq_true.mp (List.all_eq_true.mp h3 _ hq) a ha)
theorem keys_nil {P : Params} : PySem.W.KeysLit P [] := trivial
theorem keys_cons {P : Params} {e : DictEntry} {r : List DictEntry} (h : ∃ x t, e.key = Value.str x t ∧ e.hash = PyData.keyHash P x) (k : PySem.W.KeysLit P r) : PySem.W.KeysLit P (e :: r) := ⟨h, k⟩
theorem des_nil : DEs [] [] := trivial
theorem des_cons {k : Str} {i : Int} {r : List (Str × Int)} {e : DictEntry} {es : List DictEntry} (h1 : ∃ t, e.key = .str k t) (h2 : ∃ t, e.val = .int i t) (h : DEs r es) : DEs ((k, i) :: r) (e :: es) := ⟨h1, h2, h⟩
end L2
namespace L2
open PySem
theorem star_const (c : Const) (j : Nat) (p : Pos) (es : List Expr) (env : Env) : starEach (.Constant c j p :: es) env = (false, eval (.Constant c j p) env) :: starEach es env := rfl
end L2


set_option Elab.async false
set_option linter.all false
set_option maxRecDepth 100000
namespace K12
open HL
open PySem (Str)
def CTab : CT := [("Aim", [.gl "Aim", .gl "Row"]), ("Ask", [.gl "Ask", .gl "Row"]), ("Go", [.gl "Go", .gl "Row"]), ("Home", [.gl "Home", .gl "Row"]), ("Jump", [.gl "Jump", .gl "Row"]), ("Link", [.gl "Link", .gl "Row"]), ("Load", [.gl "Load", .gl "Row"]), ("Num", [.gl "Num", .gl "Row"]), ("Pair", [.gl "Pair", .gl "Row"]), ("Plus", [.gl "Plus", .gl "Row"]), ("Row", [.gl "Row"]), ("Stop", [.gl "Stop", .gl "Row"]), ("Store", [.gl "Store", .gl "Row"]), ("Tell", [.gl "Tell", .gl "Row"]), ("Where", [.gl "Where", .gl "Row"]), ("Why", [.gl "Why", .gl "Row"]), ("Zero", [.gl "Zero", .gl "Row"])]
def consts : List SO := []
def b__law_pairs : DS := (sRet (dB bLst (dCons (dC (.str "add")) (dCons (dC (.str "sub")) (dCons (dC (.str "mul")) (dCons (dC (.str "div")) (dCons (dC (.str "rest")) (dCons (dC (.str "and")) (dCons (dC (.str "or")) (dCons (dC (.str "xor")) (dCons (dC (.str "up")) (dCons (dC (.str "down")) (dCons (dC (.str "low")) (dCons (dC (.str "same")) dNil))))))))))))))
abbrev f__law_pairs : Fn := fnOf 0 0 b__law_pairs
def d__law_pairs : PS := (psRetO (pO qLst (pCons (pC (.str "add")) (pCons (pC (.str "sub")) (pCons (pC (.str "mul")) (pCons (pC (.str "div")) (pCons (pC (.str "rest")) (pCons (pC (.str "and")) (pCons (pC (.str "or")) (pCons (pC (.str "xor")) (pCons (pC (.str "up")) (pCons (pC (.str "down")) (pCons (pC (.str "low")) (pCons (pC (.str "same")) pNil))))))))))))))
def p__law_pairs : PF := pfOf 0 0 d__law_pairs
theorem a__law_pairs : Pf f__law_pairs p__law_pairs := f_of (show Ps b__law_pairs d__law_pairs from (s_retO (o_lst (a_cons (e_str _) (a_cons (e_str _) (a_cons (e_str _) (a_cons (e_str _) (a_cons (e_str _) (a_cons (e_str _) (a_cons (e_str _) (a_cons (e_str _) (a_cons (e_str _) (a_cons (e_str _) (a_cons (e_str _) (a_cons (e_str _) a_nil)))))))))))))))
def b__law_told_by : DS := (sSeq (sSet 1 (dOp oMod (dVar 0) (dC (.int 27))))
    (sSeq (sSet 2 (dOp oMod (dOp oDiv (dVar 0) (dC (.int 27))) (dC (.int 8))))
    (sSeq (sSet 3 (dOp oMod (dOp oDiv (dVar 0) (dC (.int 216))) (dC (.int 8))))
    (sSeq (sSet 4 (dOp oIx (dB bLst (dCons (dOp oMod (dOp oDiv (dVar 0) (dC (.int 13824))) (dC (.int 1024))) (dCons (dOp oIx (dB bLst (dCons (dC (.int 0)) (dCons (dC (.int 1023)) (dCons (dC (.int 511)) (dCons (dC (.int 512)) dNil))))) (dOp oMod (dOp oDiv (dVar 0) (dC (.int 13824))) (dC (.int 4)))) dNil))) (dOp oMod (dOp oDiv (dVar 0) (dC (.int 55296))) (dC (.int 2)))))
    (sSeq (sIf (dT (dOp oLt (dVar 1) (dC (.int 2)))) (sRet (dOp oIx (dB bLst (dCons (dB bTup (dCons (dC (.str "stop")) dNil)) (dCons (dB bTup (dCons (dC (.str "num")) (dCons (dVar 2) (dCons (dVar 4) dNil)))) dNil))) (dVar 1))) sNx)
    (sSeq (sIf (dT (dOp oIn (dVar 1) (dB bLst (dCons (dC (.int 2)) (dCons (dC (.int 15)) (dCons (dC (.int 16)) dNil)))))) (sRet (dB bTup (dCons (dOp oIx (dB bLst (dCons (dC (.str "plus")) (dCons (dC (.str "load")) (dCons (dC (.str "store")) dNil)))) (dMt isLst mIndex (dB bLst (dCons (dC (.int 2)) (dCons (dC (.int 15)) (dCons (dC (.int 16)) dNil)))) (dCons (dVar 1) dNil))) (dCons (dVar 2) (dCons (dVar 3) (dCons (dOp oSub (dVar 4) (dC (.int 512))) dNil)))))) sNx)
    (sSeq (sIf (dT (dOp oLt (dVar 1) (dC (.int 15)))) (sRet (dB bTup (dCons (dOp oIx (dCall f__law_pairs dNil) (dOp oSub (dVar 1) (dC (.int 3)))) (dCons (dVar 2) (dCons (dVar 3) (dCons (dOp oMod (dOp oDiv (dVar 0) (dC (.int 1728))) (dC (.int 8))) dNil)))))) sNx)
    (sSeq (sIf (dT (dOp oEq (dVar 1) (dC (.int 17)))) (sRet (dB bTup (dCons (dC (.str "jump")) (dCons (dVar 4) dNil)))) sNx)
    (sSeq (sIf (dT (dOp oLt (dVar 1) (dC (.int 20)))) (sRet (dB bTup (dCons (dOp oIx (dB bLst (dCons (dC (.str "zero")) (dCons (dC (.str "link")) dNil))) (dOp oSub (dVar 1) (dC (.int 18)))) (dCons (dVar 2) (dCons (dVar 4) dNil))))) sNx)
    (sSeq (sIf (dT (dOp oEq (dVar 1) (dC (.int 26)))) (sRet (dB bTup (dCons (dC (.str "home")) dNil))) sNx)
    (sRet (dB bTup (dCons (dOp oIx (dB bLst (dCons (dC (.str "go")) (dCons (dC (.str "ask")) (dCons (dC (.str "tell")) (dCons (dC (.str "why")) (dCons (dC (.str "where")) (dCons (dC (.str "aim")) dNil))))))) (dOp oSub (dVar 1) (dC (.int 20)))) (dCons (dVar 2) dNil))))))))))))))
abbrev f__law_told_by : Fn := fnOf 1 5 b__law_told_by
def d__law_told_by : PS := (psSeq (psSet 1 (pOp qMod (pVar 0) (pC (.int 27))))
    (psSeq (psSet 2 (pOp qMod (pOp qDiv (pVar 0) (pC (.int 27))) (pC (.int 8))))
    (psSeq (psSet 3 (pOp qMod (pOp qDiv (pVar 0) (pC (.int 216))) (pC (.int 8))))
    (psSeq (psSet 4 (pOp qIx (pL (pO qLst (pCons (pOp qMod (pOp qDiv (pVar 0) (pC (.int 13824))) (pC (.int 1024))) (pCons (pOp qIx (pL (pO qLst (pCons (pC (.int 0)) (pCons (pC (.int 1023)) (pCons (pC (.int 511)) (pCons (pC (.int 512)) pNil)))))) (pOp qMod (pOp qDiv (pVar 0) (pC (.int 13824))) (pC (.int 4)))) pNil)))) (pOp qMod (pOp qDiv (pVar 0) (pC (.int 55296))) (pC (.int 2)))))
    (psSeq (psIf (pT (pOp qLt (pVar 1) (pC (.int 2)))) (psRet (pOp qIx (pL (pO qLst (pCons (pB qTup (pCons (pC (.str "stop")) pNil)) (pCons (pB qTup (pCons (pC (.str "num")) (pCons (pVar 2) (pCons (pVar 4) pNil)))) pNil)))) (pVar 1))) psNx)
    (psSeq (psIf (pT (pOp (qIn false) (pVar 1) (pL (pO qLst (pCons (pC (.int 2)) (pCons (pC (.int 15)) (pCons (pC (.int 16)) pNil))))))) (psRet (pB qTup (pCons (pOp qIx (pL (pO qLst (pCons (pC (.str "plus")) (pCons (pC (.str "load")) (pCons (pC (.str "store")) pNil))))) (pOp qIndex (pL (pO qLst (pCons (pC (.int 2)) (pCons (pC (.int 15)) (pCons (pC (.int 16)) pNil))))) (pVar 1))) (pCons (pVar 2) (pCons (pVar 3) (pCons (pOp qSub (pVar 4) (pC (.int 512))) pNil)))))) psNx)
    (psSeq (psIf (pT (pOp qLt (pVar 1) (pC (.int 15)))) (psRet (pB qTup (pCons (pOp qIx (pCall p__law_pairs pNil) (pOp qSub (pVar 1) (pC (.int 3)))) (pCons (pVar 2) (pCons (pVar 3) (pCons (pOp qMod (pOp qDiv (pVar 0) (pC (.int 1728))) (pC (.int 8))) pNil)))))) psNx)
    (psSeq (psIf (pT (pOp (qEq false) (pVar 1) (pC (.int 17)))) (psRet (pB qTup (pCons (pC (.str "jump")) (pCons (pVar 4) pNil)))) psNx)
    (psSeq (psIf (pT (pOp qLt (pVar 1) (pC (.int 20)))) (psRet (pB qTup (pCons (pOp qIx (pL (pO qLst (pCons (pC (.str "zero")) (pCons (pC (.str "link")) pNil)))) (pOp qSub (pVar 1) (pC (.int 18)))) (pCons (pVar 2) (pCons (pVar 4) pNil))))) psNx)
    (psSeq (psIf (pT (pOp (qEq false) (pVar 1) (pC (.int 26)))) (psRet (pB qTup (pCons (pC (.str "home")) pNil))) psNx)
    (psRet (pB qTup (pCons (pOp qIx (pL (pO qLst (pCons (pC (.str "go")) (pCons (pC (.str "ask")) (pCons (pC (.str "tell")) (pCons (pC (.str "why")) (pCons (pC (.str "where")) (pCons (pC (.str "aim")) pNil)))))))) (pOp qSub (pVar 1) (pC (.int 20)))) (pCons (pVar 2) pNil))))))))))))))
def p__law_told_by : PF := pfOf 1 5 d__law_told_by
theorem a__law_told_by : Pf f__law_told_by p__law_told_by := f_of (show Ps b__law_told_by d__law_told_by from (s_seq (s_set 1 (e_op d_mod ((e_var 0)).b ((e_int _)).b))
    (s_seq (s_set 2 (e_op d_mod ((e_op d_div ((e_var 0)).b ((e_int _)).b)).b ((e_int _)).b))
    (s_seq (s_set 3 (e_op d_mod ((e_op d_div ((e_var 0)).b ((e_int _)).b)).b ((e_int _)).b))
    (s_seq (s_set 4 (e_op d_ix ((e_l (o_lst (a_cons (e_op d_mod ((e_op d_div ((e_var 0)).b ((e_int _)).b)).b ((e_int _)).b) (a_cons (e_op d_ix ((e_l (o_lst (a_cons (e_int _) (a_cons (e_int _) (a_cons (e_int _) (a_cons (e_int _) a_nil))))))).b ((e_op d_mod ((e_op d_div ((e_var 0)).b ((e_int _)).b)).b ((e_int _)).b)).b) a_nil))))).b ((e_op d_mod ((e_op d_div ((e_var 0)).b ((e_int _)).b)).b ((e_int _)).b)).b))
    (s_seq (s_if (t_e ((e_op d_lt ((e_var 1)).b ((e_int _)).b)).b) (s_ret (e_op d_ix ((e_l (o_lst (a_cons (e_tup (a_cons (e_str _) a_nil)) (a_cons (e_tup (a_cons (e_str _) (a_cons (e_var 2) (a_cons (e_var 4) a_nil)))) a_nil))))).b ((e_var 1)).b)) s_nx)
    (s_seq (s_if (t_e ((e_op d_in ((e_var 1)).b ((e_l (o_lst (a_cons (e_int _) (a_cons (e_int _) (a_cons (e_int _) a_nil)))))).b)).b) (s_ret (e_tup (a_cons (e_op d_ix ((e_l (o_lst (a_cons (e_str _) (a_cons (e_str _) (a_cons (e_str _) a_nil)))))).b ((e_index ((e_l (o_lst (a_cons (e_int _) (a_cons (e_int _) (a_cons (e_int _) a_nil)))))).b ((e_var 1)).b)).b) (a_cons (e_var 2) (a_cons (e_var 3) (a_cons (e_op d_sub ((e_var 4)).b ((e_int _)).b) a_nil)))))) s_nx)
    (s_seq (s_if (t_e ((e_op d_lt ((e_var 1)).b ((e_int _)).b)).b) (s_ret (e_tup (a_cons (e_op d_ix ((e_call a__law_pairs a_nil)).b ((e_op d_sub ((e_var 1)).b ((e_int _)).b)).b) (a_cons (e_var 2) (a_cons (e_var 3) (a_cons (e_op d_mod ((e_op d_div ((e_var 0)).b ((e_int _)).b)).b ((e_int _)).b) a_nil)))))) s_nx)
    (s_seq (s_if (t_e ((e_op d_eq ((e_var 1)).b ((e_int _)).b)).b) (s_ret (e_tup (a_cons (e_str _) (a_cons (e_var 4) a_nil)))) s_nx)
    (s_seq (s_if (t_e ((e_op d_lt ((e_var 1)).b ((e_int _)).b)).b) (s_ret (e_tup (a_cons (e_op d_ix ((e_l (o_lst (a_cons (e_str _) (a_cons (e_str _) a_nil))))).b ((e_op d_sub ((e_var 1)).b ((e_int _)).b)).b) (a_cons (e_var 2) (a_cons (e_var 4) a_nil))))) s_nx)
    (s_seq (s_if (t_e ((e_op d_eq ((e_var 1)).b ((e_int _)).b)).b) (s_ret (e_tup (a_cons (e_str _) a_nil))) s_nx)
    (s_ret (e_tup (a_cons (e_op d_ix ((e_l (o_lst (a_cons (e_str _) (a_cons (e_str _) (a_cons (e_str _) (a_cons (e_str _) (a_cons (e_str _) (a_cons (e_str _) a_nil))))))))).b ((e_op d_sub ((e_var 1)).b ((e_int _)).b)).b) (a_cons (e_var 2) a_nil)))))))))))))))
def b__law_cell : DS := (sSeq (sSet 2 (dOp oAdd (dOp oMul (dC (.int 7919)) (dVar 1)) (dC (.int 11))))
    (sSeq (sIf (dT (dOp oNe (dVar 0) (dB bLst dNil))) (sSeq (sSet 2 (dOp oMul (dOp oIx (dVar 0) (dOp oMod (dVar 1) (dB bLen (dCons (dVar 0) dNil)))) (dC (.int 48271))))
    (sSet 2 (dOp oAdd (dOp oAdd (dVar 2) (dOp oMul (dC (.int 104729)) (dVar 1))) (dOp oMul (dOp oDiv (dVar 1) (dB bLen (dCons (dVar 0) dNil))) (dC (.int 7919)))))) sNx)
    (sSeq (sSet 3 (dOp oMod (dVar 2) (dC (.int 2147483647))))
    (sSeq (sSet 3 (dOp oMod (dOp oMul (dVar 3) (dVar 3)) (dC (.int 2147483629))))
    (sRet (dOp oMod (dOp oAdd (dOp oAdd (dOp oMul (dVar 3) (dVar 3)) (dOp oMul (dC (.int 69621)) (dVar 3))) (dVar 1)) (dC (.int 2147483587))))))))
abbrev f__law_cell : Fn := fnOf 2 4 b__law_cell
def d__law_cell : PS := (psSeq (psSet 2 (pOp qAdd (pOp qMul (pC (.int 7919)) (pVar 1)) (pC (.int 11))))
    (psSeq (psIf (pT (pOp (qEq true) (pVar 0) (pL (pO qLst pNil)))) (psSeq (psSet 2 (pOp qMul (pOp qIx (pVar 0) (pOp qMod (pVar 1) (pB qLen (pCons (pVar 0) pNil)))) (pC (.int 48271))))
    (psSet 2 (pOp qAdd (pOp qAdd (pVar 2) (pOp qMul (pC (.int 104729)) (pVar 1))) (pOp qMul (pOp qDiv (pVar 1) (pB qLen (pCons (pVar 0) pNil))) (pC (.int 7919)))))) psNx)
    (psSeq (psSet 3 (pOp qMod (pVar 2) (pC (.int 2147483647))))
    (psSeq (psSet 3 (pOp qMod (pOp qMul (pVar 3) (pVar 3)) (pC (.int 2147483629))))
    (psRet (pOp qMod (pOp qAdd (pOp qAdd (pOp qMul (pVar 3) (pVar 3)) (pOp qMul (pC (.int 69621)) (pVar 3))) (pVar 1)) (pC (.int 2147483587))))))))
def p__law_cell : PF := pfOf 2 4 d__law_cell
theorem a__law_cell : Pf f__law_cell p__law_cell := f_of (show Ps b__law_cell d__law_cell from (s_seq (s_set 2 (e_op d_add ((e_op d_mul ((e_int _)).b ((e_var 1)).b)).b ((e_int _)).b))
    (s_seq (s_if (t_e ((e_op d_ne ((e_var 0)).b ((e_l (o_lst a_nil))).b)).b) (s_seq (s_set 2 (e_op d_mul ((e_op d_ix ((e_var 0)).b ((e_op d_mod ((e_var 1)).b ((e_b d_len (ab_cons ((e_var 0)).b ab_nil))).b)).b)).b ((e_int _)).b))
    (s_set 2 (e_op d_add ((e_op d_add ((e_var 2)).b ((e_op d_mul ((e_int _)).b ((e_var 1)).b)).b)).b ((e_op d_mul ((e_op d_div ((e_var 1)).b ((e_b d_len (ab_cons ((e_var 0)).b ab_nil))).b)).b ((e_int _)).b)).b))) s_nx)
    (s_seq (s_set 3 (e_op d_mod ((e_var 2)).b ((e_int _)).b))
    (s_seq (s_set 3 (e_op d_mod ((e_op d_mul ((e_var 3)).b ((e_var 3)).b)).b ((e_int _)).b))
    (s_ret (e_op d_mod ((e_op d_add ((e_op d_add ((e_op d_mul ((e_var 3)).b ((e_var 3)).b)).b ((e_op d_mul ((e_int _)).b ((e_var 3)).b)).b)).b ((e_var 1)).b)).b ((e_int _)).b)))))))
def b_Pair_init : DS := (sSeq (sFld ["Pair"] "word" (dVar 0) (dVar 1))
    (sSeq (sFld ["Pair"] "a" (dVar 0) (dVar 2))
    (sSeq (sFld ["Pair"] "b" (dVar 0) (dVar 3))
    (sFld ["Pair"] "c" (dVar 0) (dVar 4)))))
abbrev f_Pair_init : Fn := fnOf 5 5 b_Pair_init
def b_Num_init : DS := (sSeq (sFld ["Num"] "a" (dVar 0) (dVar 1))
    (sFld ["Num"] "n" (dVar 0) (dVar 2)))
abbrev f_Num_init : Fn := fnOf 3 3 b_Num_init
def b_Plus_init : DS := (sSeq (sFld ["Plus"] "a" (dVar 0) (dVar 1))
    (sSeq (sFld ["Plus"] "b" (dVar 0) (dVar 2))
    (sFld ["Plus"] "n" (dVar 0) (dVar 3))))
abbrev f_Plus_init : Fn := fnOf 4 4 b_Plus_init
def b_Load_init : DS := (sSeq (sFld ["Load"] "a" (dVar 0) (dVar 1))
    (sSeq (sFld ["Load"] "b" (dVar 0) (dVar 2))
    (sFld ["Load"] "n" (dVar 0) (dVar 3))))
abbrev f_Load_init : Fn := fnOf 4 4 b_Load_init
def b_Store_init : DS := (sSeq (sFld ["Store"] "a" (dVar 0) (dVar 1))
    (sSeq (sFld ["Store"] "b" (dVar 0) (dVar 2))
    (sFld ["Store"] "n" (dVar 0) (dVar 3))))
abbrev f_Store_init : Fn := fnOf 4 4 b_Store_init
def b_Jump_init : DS := (sFld ["Jump"] "n" (dVar 0) (dVar 1))
abbrev f_Jump_init : Fn := fnOf 2 2 b_Jump_init
def b_Zero_init : DS := (sSeq (sFld ["Zero"] "a" (dVar 0) (dVar 1))
    (sFld ["Zero"] "n" (dVar 0) (dVar 2)))
abbrev f_Zero_init : Fn := fnOf 3 3 b_Zero_init
def b_Link_init : DS := (sSeq (sFld ["Link"] "a" (dVar 0) (dVar 1))
    (sFld ["Link"] "n" (dVar 0) (dVar 2)))
abbrev f_Link_init : Fn := fnOf 3 3 b_Link_init
def b_Go_init : DS := (sFld ["Go"] "a" (dVar 0) (dVar 1))
abbrev f_Go_init : Fn := fnOf 2 2 b_Go_init
def b_Ask_init : DS := (sFld ["Ask"] "a" (dVar 0) (dVar 1))
abbrev f_Ask_init : Fn := fnOf 2 2 b_Ask_init
def b_Tell_init : DS := (sFld ["Tell"] "a" (dVar 0) (dVar 1))
abbrev f_Tell_init : Fn := fnOf 2 2 b_Tell_init
def b_Why_init : DS := (sFld ["Why"] "a" (dVar 0) (dVar 1))
abbrev f_Why_init : Fn := fnOf 2 2 b_Why_init
def b_Where_init : DS := (sFld ["Where"] "a" (dVar 0) (dVar 1))
abbrev f_Where_init : Fn := fnOf 2 2 b_Where_init
def b_Aim_init : DS := (sFld ["Aim"] "a" (dVar 0) (dVar 1))
abbrev f_Aim_init : Fn := fnOf 2 2 b_Aim_init
def b__law_box_row : DS := (sSeq (sIf (dT (dOp oEq (dVar 0) (dC (.str "go")))) (sRet (dNew "Go" f_Go_init [] (dCons (dVar 1) dNil))) sNx)
    (sSeq (sIf (dT (dOp oEq (dVar 0) (dC (.str "ask")))) (sRet (dNew "Ask" f_Ask_init [] (dCons (dVar 1) dNil))) sNx)
    (sSeq (sIf (dT (dOp oEq (dVar 0) (dC (.str "tell")))) (sRet (dNew "Tell" f_Tell_init [] (dCons (dVar 1) dNil))) sNx)
    (sSeq (sIf (dT (dOp oEq (dVar 0) (dC (.str "why")))) (sRet (dNew "Why" f_Why_init [] (dCons (dVar 1) dNil))) sNx)
    (sSeq (sIf (dT (dOp oEq (dVar 0) (dC (.str "where")))) (sRet (dNew "Where" f_Where_init [] (dCons (dVar 1) dNil))) sNx)
    (sRet (dNew "Aim" f_Aim_init [] (dCons (dVar 1) dNil))))))))
abbrev f__law_box_row : Fn := fnOf 2 2 b__law_box_row
def d__law_box_row : PS := (psSeq (psIf (pT (pOp (qEq false) (pVar 0) (pC (.str "go")))) (psRet (pNew "Go" ["a"] (pCons (pVar 1) pNil))) psNx)
    (psSeq (psIf (pT (pOp (qEq false) (pVar 0) (pC (.str "ask")))) (psRet (pNew "Ask" ["a"] (pCons (pVar 1) pNil))) psNx)
    (psSeq (psIf (pT (pOp (qEq false) (pVar 0) (pC (.str "tell")))) (psRet (pNew "Tell" ["a"] (pCons (pVar 1) pNil))) psNx)
    (psSeq (psIf (pT (pOp (qEq false) (pVar 0) (pC (.str "why")))) (psRet (pNew "Why" ["a"] (pCons (pVar 1) pNil))) psNx)
    (psSeq (psIf (pT (pOp (qEq false) (pVar 0) (pC (.str "where")))) (psRet (pNew "Where" ["a"] (pCons (pVar 1) pNil))) psNx)
    (psRet (pNew "Aim" ["a"] (pCons (pVar 1) pNil))))))))
def p__law_box_row : PF := pfOf 2 2 d__law_box_row
theorem a__law_box_row : Pf f__law_box_row p__law_box_row := f_of (show Ps b__law_box_row d__law_box_row from (s_seq (s_if (t_e ((e_op d_eq ((e_var 0)).b ((e_str _)).b)).b) (s_ret (e_new (cs := ["Go"]) (ns := ["a"]) rfl rfl (by decide) (by decide) (a_cons (e_var 1) a_nil))) s_nx)
    (s_seq (s_if (t_e ((e_op d_eq ((e_var 0)).b ((e_str _)).b)).b) (s_ret (e_new (cs := ["Ask"]) (ns := ["a"]) rfl rfl (by decide) (by decide) (a_cons (e_var 1) a_nil))) s_nx)
    (s_seq (s_if (t_e ((e_op d_eq ((e_var 0)).b ((e_str _)).b)).b) (s_ret (e_new (cs := ["Tell"]) (ns := ["a"]) rfl rfl (by decide) (by decide) (a_cons (e_var 1) a_nil))) s_nx)
    (s_seq (s_if (t_e ((e_op d_eq ((e_var 0)).b ((e_str _)).b)).b) (s_ret (e_new (cs := ["Why"]) (ns := ["a"]) rfl rfl (by decide) (by decide) (a_cons (e_var 1) a_nil))) s_nx)
    (s_seq (s_if (t_e ((e_op d_eq ((e_var 0)).b ((e_str _)).b)).b) (s_ret (e_new (cs := ["Where"]) (ns := ["a"]) rfl rfl (by decide) (by decide) (a_cons (e_var 1) a_nil))) s_nx)
    (s_ret (e_new (cs := ["Aim"]) (ns := ["a"]) rfl rfl (by decide) (by decide) (a_cons (e_var 1) a_nil)))))))))
def b__law_made : DS := (sSeq (sSet 1 (dOp oIx (dVar 0) (dC (.int 0))))
    (sSeq (sIf (dT (dOp oIn (dVar 1) (dCall f__law_pairs dNil))) (sRet (dNew "Pair" f_Pair_init [] (dCons (dVar 1) (dCons (dOp oIx (dVar 0) (dC (.int 1))) (dCons (dOp oIx (dVar 0) (dC (.int 2))) (dCons (dOp oIx (dVar 0) (dC (.int 3))) dNil)))))) sNx)
    (sSeq (sIf (dT (dOp oEq (dVar 1) (dC (.str "num")))) (sRet (dNew "Num" f_Num_init [] (dCons (dOp oIx (dVar 0) (dC (.int 1))) (dCons (dOp oIx (dVar 0) (dC (.int 2))) dNil)))) sNx)
    (sSeq (sIf (dT (dOp oEq (dVar 1) (dC (.str "plus")))) (sRet (dNew "Plus" f_Plus_init [] (dCons (dOp oIx (dVar 0) (dC (.int 1))) (dCons (dOp oIx (dVar 0) (dC (.int 2))) (dCons (dOp oIx (dVar 0) (dC (.int 3))) dNil))))) sNx)
    (sSeq (sIf (dT (dOp oEq (dVar 1) (dC (.str "load")))) (sRet (dNew "Load" f_Load_init [] (dCons (dOp oIx (dVar 0) (dC (.int 1))) (dCons (dOp oIx (dVar 0) (dC (.int 2))) (dCons (dOp oIx (dVar 0) (dC (.int 3))) dNil))))) sNx)
    (sSeq (sIf (dT (dOp oEq (dVar 1) (dC (.str "store")))) (sRet (dNew "Store" f_Store_init [] (dCons (dOp oIx (dVar 0) (dC (.int 1))) (dCons (dOp oIx (dVar 0) (dC (.int 2))) (dCons (dOp oIx (dVar 0) (dC (.int 3))) dNil))))) sNx)
    (sSeq (sIf (dT (dOp oEq (dVar 1) (dC (.str "jump")))) (sRet (dNew "Jump" f_Jump_init [] (dCons (dOp oIx (dVar 0) (dC (.int 1))) dNil))) sNx)
    (sSeq (sIf (dT (dOp oEq (dVar 1) (dC (.str "zero")))) (sRet (dNew "Zero" f_Zero_init [] (dCons (dOp oIx (dVar 0) (dC (.int 1))) (dCons (dOp oIx (dVar 0) (dC (.int 2))) dNil)))) sNx)
    (sSeq (sIf (dT (dOp oEq (dVar 1) (dC (.str "link")))) (sRet (dNew "Link" f_Link_init [] (dCons (dOp oIx (dVar 0) (dC (.int 1))) (dCons (dOp oIx (dVar 0) (dC (.int 2))) dNil)))) sNx)
    (sSeq (sIf (dT (dOp oEq (dVar 1) (dC (.str "stop")))) (sRet (dNew "Stop" (fnOf 1 1 sNx) [] dNil)) sNx)
    (sSeq (sIf (dT (dOp oEq (dVar 1) (dC (.str "home")))) (sRet (dNew "Home" (fnOf 1 1 sNx) [] dNil)) sNx)
    (sRet (dCall f__law_box_row (dCons (dVar 1) (dCons (dOp oIx (dVar 0) (dC (.int 1))) dNil)))))))))))))))
abbrev f__law_made : Fn := fnOf 1 2 b__law_made
def d__law_made : PS := (psSeq (psSet 1 (pOp qIx (pVar 0) (pC (.int 0))))
    (psSeq (psIf (pT (pOp (qIn false) (pVar 1) (pCall p__law_pairs pNil))) (psRet (pNew "Pair" ["word", "a", "b", "c"] (pCons (pVar 1) (pCons (pOp qIx (pVar 0) (pC (.int 1))) (pCons (pOp qIx (pVar 0) (pC (.int 2))) (pCons (pOp qIx (pVar 0) (pC (.int 3))) pNil)))))) psNx)
    (psSeq (psIf (pT (pOp (qEq false) (pVar 1) (pC (.str "num")))) (psRet (pNew "Num" ["a", "n"] (pCons (pOp qIx (pVar 0) (pC (.int 1))) (pCons (pOp qIx (pVar 0) (pC (.int 2))) pNil)))) psNx)
    (psSeq (psIf (pT (pOp (qEq false) (pVar 1) (pC (.str "plus")))) (psRet (pNew "Plus" ["a", "b", "n"] (pCons (pOp qIx (pVar 0) (pC (.int 1))) (pCons (pOp qIx (pVar 0) (pC (.int 2))) (pCons (pOp qIx (pVar 0) (pC (.int 3))) pNil))))) psNx)
    (psSeq (psIf (pT (pOp (qEq false) (pVar 1) (pC (.str "load")))) (psRet (pNew "Load" ["a", "b", "n"] (pCons (pOp qIx (pVar 0) (pC (.int 1))) (pCons (pOp qIx (pVar 0) (pC (.int 2))) (pCons (pOp qIx (pVar 0) (pC (.int 3))) pNil))))) psNx)
    (psSeq (psIf (pT (pOp (qEq false) (pVar 1) (pC (.str "store")))) (psRet (pNew "Store" ["a", "b", "n"] (pCons (pOp qIx (pVar 0) (pC (.int 1))) (pCons (pOp qIx (pVar 0) (pC (.int 2))) (pCons (pOp qIx (pVar 0) (pC (.int 3))) pNil))))) psNx)
    (psSeq (psIf (pT (pOp (qEq false) (pVar 1) (pC (.str "jump")))) (psRet (pNew "Jump" ["n"] (pCons (pOp qIx (pVar 0) (pC (.int 1))) pNil))) psNx)
    (psSeq (psIf (pT (pOp (qEq false) (pVar 1) (pC (.str "zero")))) (psRet (pNew "Zero" ["a", "n"] (pCons (pOp qIx (pVar 0) (pC (.int 1))) (pCons (pOp qIx (pVar 0) (pC (.int 2))) pNil)))) psNx)
    (psSeq (psIf (pT (pOp (qEq false) (pVar 1) (pC (.str "link")))) (psRet (pNew "Link" ["a", "n"] (pCons (pOp qIx (pVar 0) (pC (.int 1))) (pCons (pOp qIx (pVar 0) (pC (.int 2))) pNil)))) psNx)
    (psSeq (psIf (pT (pOp (qEq false) (pVar 1) (pC (.str "stop")))) (psRet (pNew "Stop" [] pNil)) psNx)
    (psSeq (psIf (pT (pOp (qEq false) (pVar 1) (pC (.str "home")))) (psRet (pNew "Home" [] pNil)) psNx)
    (psRet (pCall p__law_box_row (pCons (pVar 1) (pCons (pOp qIx (pVar 0) (pC (.int 1))) pNil)))))))))))))))
def p__law_made : PF := pfOf 1 2 d__law_made
theorem a__law_made : Pf f__law_made p__law_made := f_of (show Ps b__law_made d__law_made from (s_seq (s_set 1 (e_op d_ix ((e_var 0)).b ((e_int _)).b))
    (s_seq (s_if (t_e ((e_op d_in ((e_var 1)).b ((e_call a__law_pairs a_nil)).b)).b) (s_ret (e_new (cs := ["Pair"]) (ns := ["word", "a", "b", "c"]) rfl rfl (by decide) (by decide) (a_cons (e_var 1) (a_cons (e_op d_ix ((e_var 0)).b ((e_int _)).b) (a_cons (e_op d_ix ((e_var 0)).b ((e_int _)).b) (a_cons (e_op d_ix ((e_var 0)).b ((e_int _)).b) a_nil)))))) s_nx)
    (s_seq (s_if (t_e ((e_op d_eq ((e_var 1)).b ((e_str _)).b)).b) (s_ret (e_new (cs := ["Num"]) (ns := ["a", "n"]) rfl rfl (by decide) (by decide) (a_cons (e_op d_ix ((e_var 0)).b ((e_int _)).b) (a_cons (e_op d_ix ((e_var 0)).b ((e_int _)).b) a_nil)))) s_nx)
    (s_seq (s_if (t_e ((e_op d_eq ((e_var 1)).b ((e_str _)).b)).b) (s_ret (e_new (cs := ["Plus"]) (ns := ["a", "b", "n"]) rfl rfl (by decide) (by decide) (a_cons (e_op d_ix ((e_var 0)).b ((e_int _)).b) (a_cons (e_op d_ix ((e_var 0)).b ((e_int _)).b) (a_cons (e_op d_ix ((e_var 0)).b ((e_int _)).b) a_nil))))) s_nx)
    (s_seq (s_if (t_e ((e_op d_eq ((e_var 1)).b ((e_str _)).b)).b) (s_ret (e_new (cs := ["Load"]) (ns := ["a", "b", "n"]) rfl rfl (by decide) (by decide) (a_cons (e_op d_ix ((e_var 0)).b ((e_int _)).b) (a_cons (e_op d_ix ((e_var 0)).b ((e_int _)).b) (a_cons (e_op d_ix ((e_var 0)).b ((e_int _)).b) a_nil))))) s_nx)
    (s_seq (s_if (t_e ((e_op d_eq ((e_var 1)).b ((e_str _)).b)).b) (s_ret (e_new (cs := ["Store"]) (ns := ["a", "b", "n"]) rfl rfl (by decide) (by decide) (a_cons (e_op d_ix ((e_var 0)).b ((e_int _)).b) (a_cons (e_op d_ix ((e_var 0)).b ((e_int _)).b) (a_cons (e_op d_ix ((e_var 0)).b ((e_int _)).b) a_nil))))) s_nx)
    (s_seq (s_if (t_e ((e_op d_eq ((e_var 1)).b ((e_str _)).b)).b) (s_ret (e_new (cs := ["Jump"]) (ns := ["n"]) rfl rfl (by decide) (by decide) (a_cons (e_op d_ix ((e_var 0)).b ((e_int _)).b) a_nil))) s_nx)
    (s_seq (s_if (t_e ((e_op d_eq ((e_var 1)).b ((e_str _)).b)).b) (s_ret (e_new (cs := ["Zero"]) (ns := ["a", "n"]) rfl rfl (by decide) (by decide) (a_cons (e_op d_ix ((e_var 0)).b ((e_int _)).b) (a_cons (e_op d_ix ((e_var 0)).b ((e_int _)).b) a_nil)))) s_nx)
    (s_seq (s_if (t_e ((e_op d_eq ((e_var 1)).b ((e_str _)).b)).b) (s_ret (e_new (cs := ["Link"]) (ns := ["a", "n"]) rfl rfl (by decide) (by decide) (a_cons (e_op d_ix ((e_var 0)).b ((e_int _)).b) (a_cons (e_op d_ix ((e_var 0)).b ((e_int _)).b) a_nil)))) s_nx)
    (s_seq (s_if (t_e ((e_op d_eq ((e_var 1)).b ((e_str _)).b)).b) (s_ret (e_new (cs := ["Stop"]) (ns := []) rfl rfl (by decide) (by decide) a_nil)) s_nx)
    (s_seq (s_if (t_e ((e_op d_eq ((e_var 1)).b ((e_str _)).b)).b) (s_ret (e_new (cs := ["Home"]) (ns := []) rfl rfl (by decide) (by decide) a_nil)) s_nx)
    (s_ret (e_call a__law_box_row (a_cons (e_var 1) (a_cons (e_op d_ix ((e_var 0)).b ((e_int _)).b) a_nil))))))))))))))))
def b__law_same : DS := (sSeq (sIf (tOr (tNot (dT (dB (bIsi CTab) (dCons (dVar 0) (dCons (dC (.ty "tuple")) dNil))))) (dT (dOp oNe (dVar 0) (dVar 1)))) (sRet (dC (.bl false))) sNx)
    (sRet (dOp oEq (dComp (iRange1 (dB bLen (dCons (dVar 1) dNil))) 1 [0] (gName 0) (dT (dB (bIsi CTab) (dCons (dOp oIx (dVar 1) (dVar 0)) (dCons (dC (.ty "bool")) dNil)))) (dVar 0)) (dB bLst dNil))))
abbrev f__law_same : Fn := fnOf 2 2 b__law_same
def d__law_same : PS := (psSeq (psIf (ptOr (ptNot (pT (pB (qIsi CTab) (pCons (pVar 0) (pCons (pC (.ty "tuple")) pNil))))) (pT (pOp (qEq true) (pVar 0) (pVar 1)))) (psRet (pC (.bl false))) psNx)
    (psRet (pOp (qEq false) (pL (pComp (piRange1 (pB qLen (pCons (pVar 1) pNil))) 1 [0] (pgName 0) (pT (pB (qIsi CTab) (pCons (pOp qIx (pVar 1) (pVar 0)) (pCons (pC (.ty "bool")) pNil)))) (pVar 0))) (pL (pO qLst pNil)))))
def p__law_same : PF := pfOf 2 2 d__law_same
theorem a__law_same : Pf f__law_same p__law_same := f_of (show Ps b__law_same d__law_same from (s_seq (s_if (t_or (t_not (t_e ((e_b d_isi (ab_cons ((e_var 0)).b (ab_cons ((e_ty _)).b ab_nil)))).b)) (t_e ((e_op d_ne ((e_var 0)).b ((e_var 1)).b)).b)) (s_ret (e_bl _)) s_nx)
    (s_ret (e_op d_eq ((e_l (o_comp (i_range1 (e_b d_len (ab_cons ((e_var 1)).b ab_nil))) (g_name 0) (t_e ((e_b d_isi (ab_cons ((e_op d_ix ((e_var 1)).b ((e_var 0)).b)).b (ab_cons ((e_ty _)).b ab_nil)))).b) (e_var 0)))).b ((e_l (o_lst a_nil))).b))))
def b_Aim_reads : DS := (sRet (dB bTup (dCons (dFld ["Aim", "Go", "Ask", "Tell", "Why", "Where", "Pair", "Num", "Plus", "Load", "Store", "Zero", "Link"] "a" (dVar 0)) dNil)))
abbrev f_Aim_reads : Fn := fnOf 1 1 b_Aim_reads
def d_Aim_reads : PS := (psRet (pB qTup (pCons (pFld ["Aim", "Go", "Ask", "Tell", "Why", "Where", "Pair", "Num", "Plus", "Load", "Store", "Zero", "Link"] "a" (pVar 0)) pNil)))
def p_Aim_reads : PF := pfOf 1 1 d_Aim_reads
theorem a_Aim_reads : Pf f_Aim_reads p_Aim_reads := f_of (show Ps b_Aim_reads d_Aim_reads from (s_ret (e_tup (a_cons (e_fld (e_var 0)) a_nil))))
def b_Go_reads : DS := (sRet (dB bTup (dCons (dFld ["Aim", "Go", "Ask", "Tell", "Why", "Where", "Pair", "Num", "Plus", "Load", "Store", "Zero", "Link"] "a" (dVar 0)) dNil)))
abbrev f_Go_reads : Fn := fnOf 1 1 b_Go_reads
def d_Go_reads : PS := (psRet (pB qTup (pCons (pFld ["Aim", "Go", "Ask", "Tell", "Why", "Where", "Pair", "Num", "Plus", "Load", "Store", "Zero", "Link"] "a" (pVar 0)) pNil)))
def p_Go_reads : PF := pfOf 1 1 d_Go_reads
theorem a_Go_reads : Pf f_Go_reads p_Go_reads := f_of (show Ps b_Go_reads d_Go_reads from (s_ret (e_tup (a_cons (e_fld (e_var 0)) a_nil))))
def b_Row_reads : DS := (sRet (dB bTup dNil))
abbrev f_Row_reads : Fn := fnOf 1 1 b_Row_reads
def d_Row_reads : PS := (psRet (pB qTup pNil))
def p_Row_reads : PF := pfOf 1 1 d_Row_reads
theorem a_Row_reads : Pf f_Row_reads p_Row_reads := f_of (show Ps b_Row_reads d_Row_reads from (s_ret (e_tup a_nil)))
def b_Tell_reads : DS := (sRet (dB bTup (dCons (dFld ["Aim", "Go", "Ask", "Tell", "Why", "Where", "Pair", "Num", "Plus", "Load", "Store", "Zero", "Link"] "a" (dVar 0)) dNil)))
abbrev f_Tell_reads : Fn := fnOf 1 1 b_Tell_reads
def d_Tell_reads : PS := (psRet (pB qTup (pCons (pFld ["Aim", "Go", "Ask", "Tell", "Why", "Where", "Pair", "Num", "Plus", "Load", "Store", "Zero", "Link"] "a" (pVar 0)) pNil)))
def p_Tell_reads : PF := pfOf 1 1 d_Tell_reads
theorem a_Tell_reads : Pf f_Tell_reads p_Tell_reads := f_of (show Ps b_Tell_reads d_Tell_reads from (s_ret (e_tup (a_cons (e_fld (e_var 0)) a_nil))))
def b_Pair_reads : DS := (sRet (dB bTup (dCons (dFld ["Pair", "Plus", "Load", "Store"] "b" (dVar 0)) (dCons (dFld ["Pair"] "c" (dVar 0)) dNil))))
abbrev f_Pair_reads : Fn := fnOf 1 1 b_Pair_reads
def d_Pair_reads : PS := (psRet (pB qTup (pCons (pFld ["Pair", "Plus", "Load", "Store"] "b" (pVar 0)) (pCons (pFld ["Pair"] "c" (pVar 0)) pNil))))
def p_Pair_reads : PF := pfOf 1 1 d_Pair_reads
theorem a_Pair_reads : Pf f_Pair_reads p_Pair_reads := f_of (show Ps b_Pair_reads d_Pair_reads from (s_ret (e_tup (a_cons (e_fld (e_var 0)) (a_cons (e_fld (e_var 0)) a_nil)))))
def b_Plus_reads : DS := (sRet (dB bTup (dCons (dFld ["Pair", "Plus", "Load", "Store"] "b" (dVar 0)) dNil)))
abbrev f_Plus_reads : Fn := fnOf 1 1 b_Plus_reads
def d_Plus_reads : PS := (psRet (pB qTup (pCons (pFld ["Pair", "Plus", "Load", "Store"] "b" (pVar 0)) pNil)))
def p_Plus_reads : PF := pfOf 1 1 d_Plus_reads
theorem a_Plus_reads : Pf f_Plus_reads p_Plus_reads := f_of (show Ps b_Plus_reads d_Plus_reads from (s_ret (e_tup (a_cons (e_fld (e_var 0)) a_nil))))
def b_Load_reads : DS := (sRet (dB bTup (dCons (dFld ["Pair", "Plus", "Load", "Store"] "b" (dVar 0)) dNil)))
abbrev f_Load_reads : Fn := fnOf 1 1 b_Load_reads
def d_Load_reads : PS := (psRet (pB qTup (pCons (pFld ["Pair", "Plus", "Load", "Store"] "b" (pVar 0)) pNil)))
def p_Load_reads : PF := pfOf 1 1 d_Load_reads
theorem a_Load_reads : Pf f_Load_reads p_Load_reads := f_of (show Ps b_Load_reads d_Load_reads from (s_ret (e_tup (a_cons (e_fld (e_var 0)) a_nil))))
def b_Store_reads : DS := (sRet (dB bTup (dCons (dFld ["Aim", "Go", "Ask", "Tell", "Why", "Where", "Pair", "Num", "Plus", "Load", "Store", "Zero", "Link"] "a" (dVar 0)) (dCons (dFld ["Pair", "Plus", "Load", "Store"] "b" (dVar 0)) dNil))))
abbrev f_Store_reads : Fn := fnOf 1 1 b_Store_reads
def d_Store_reads : PS := (psRet (pB qTup (pCons (pFld ["Aim", "Go", "Ask", "Tell", "Why", "Where", "Pair", "Num", "Plus", "Load", "Store", "Zero", "Link"] "a" (pVar 0)) (pCons (pFld ["Pair", "Plus", "Load", "Store"] "b" (pVar 0)) pNil))))
def p_Store_reads : PF := pfOf 1 1 d_Store_reads
theorem a_Store_reads : Pf f_Store_reads p_Store_reads := f_of (show Ps b_Store_reads d_Store_reads from (s_ret (e_tup (a_cons (e_fld (e_var 0)) (a_cons (e_fld (e_var 0)) a_nil)))))
def b_Zero_reads : DS := (sRet (dB bTup (dCons (dFld ["Aim", "Go", "Ask", "Tell", "Why", "Where", "Pair", "Num", "Plus", "Load", "Store", "Zero", "Link"] "a" (dVar 0)) dNil)))
abbrev f_Zero_reads : Fn := fnOf 1 1 b_Zero_reads
def d_Zero_reads : PS := (psRet (pB qTup (pCons (pFld ["Aim", "Go", "Ask", "Tell", "Why", "Where", "Pair", "Num", "Plus", "Load", "Store", "Zero", "Link"] "a" (pVar 0)) pNil)))
def p_Zero_reads : PF := pfOf 1 1 d_Zero_reads
theorem a_Zero_reads : Pf f_Zero_reads p_Zero_reads := f_of (show Ps b_Zero_reads d_Zero_reads from (s_ret (e_tup (a_cons (e_fld (e_var 0)) a_nil))))
def tb_reads : List (Str × Fn) := [("Aim", f_Aim_reads), ("Go", f_Go_reads), ("Ask", f_Row_reads), ("Tell", f_Tell_reads), ("Why", f_Row_reads), ("Where", f_Row_reads), ("Pair", f_Pair_reads), ("Num", f_Row_reads), ("Plus", f_Plus_reads), ("Load", f_Load_reads), ("Store", f_Store_reads), ("Jump", f_Row_reads), ("Zero", f_Zero_reads), ("Link", f_Row_reads), ("Stop", f_Row_reads), ("Home", f_Row_reads)]
def pt_reads : List (Str × PF) := [("Aim", p_Aim_reads), ("Go", p_Go_reads), ("Ask", p_Row_reads), ("Tell", p_Tell_reads), ("Why", p_Row_reads), ("Where", p_Row_reads), ("Pair", p_Pair_reads), ("Num", p_Row_reads), ("Plus", p_Plus_reads), ("Load", p_Load_reads), ("Store", p_Store_reads), ("Jump", p_Row_reads), ("Zero", p_Zero_reads), ("Link", p_Row_reads), ("Stop", p_Row_reads), ("Home", p_Row_reads)]
theorem tbd_reads : TbD tb_reads pt_reads := (TbD.cons a_Aim_reads (TbD.cons a_Go_reads (TbD.cons a_Row_reads (TbD.cons a_Tell_reads (TbD.cons a_Row_reads (TbD.cons a_Row_reads (TbD.cons a_Pair_reads (TbD.cons a_Row_reads (TbD.cons a_Plus_reads (TbD.cons a_Load_reads (TbD.cons a_Store_reads (TbD.cons a_Row_reads (TbD.cons a_Zero_reads (TbD.cons a_Row_reads (TbD.cons a_Row_reads (TbD.cons a_Row_reads TbD.nil))))))))))))))))
def b__law_reads : DS := (sSeq (sSet 1 (dOp oIx (dVar 0) (dC (.int 0))))
    (sSeq (sIf (dT (dOp oIn (dVar 1) (dCall f__law_pairs dNil))) (sRet (dSl (dVar 0) (dPart (dC (.int 2))) dNoPart)) sNx)
    (sSeq (sIf (dT (dOp oIn (dVar 1) (dB bLst (dCons (dC (.str "plus")) (dCons (dC (.str "load")) dNil))))) (sRet (dSl (dVar 0) (dPart (dC (.int 2))) (dPart (dC (.int 3))))) sNx)
    (sSeq (sIf (dT (dOp oEq (dVar 1) (dC (.str "store")))) (sRet (dSl (dVar 0) (dPart (dC (.int 1))) (dPart (dC (.int 3))))) sNx)
    (sSeq (sIf (dT (dOp oIn (dVar 1) (dB bLst (dCons (dC (.str "zero")) (dCons (dC (.str "go")) (dCons (dC (.str "tell")) (dCons (dC (.str "aim")) dNil))))))) (sRet (dSl (dVar 0) (dPart (dC (.int 1))) (dPart (dC (.int 2))))) sNx)
    (sRet (dB bTup dNil)))))))
abbrev f__law_reads : Fn := fnOf 1 2 b__law_reads
def d__law_reads : PS := (psSeq (psSet 1 (pOp qIx (pVar 0) (pC (.int 0))))
    (psSeq (psIf (pT (pOp (qIn false) (pVar 1) (pCall p__law_pairs pNil))) (psRet (pSl (pVar 0) (pPart (pC (.int 2))) pNoPart)) psNx)
    (psSeq (psIf (pT (pOp (qIn false) (pVar 1) (pL (pO qLst (pCons (pC (.str "plus")) (pCons (pC (.str "load")) pNil)))))) (psRet (pSl (pVar 0) (pPart (pC (.int 2))) (pPart (pC (.int 3))))) psNx)
    (psSeq (psIf (pT (pOp (qEq false) (pVar 1) (pC (.str "store")))) (psRet (pSl (pVar 0) (pPart (pC (.int 1))) (pPart (pC (.int 3))))) psNx)
    (psSeq (psIf (pT (pOp (qIn false) (pVar 1) (pL (pO qLst (pCons (pC (.str "zero")) (pCons (pC (.str "go")) (pCons (pC (.str "tell")) (pCons (pC (.str "aim")) pNil)))))))) (psRet (pSl (pVar 0) (pPart (pC (.int 1))) (pPart (pC (.int 2))))) psNx)
    (psRet (pB qTup pNil)))))))
def p__law_reads : PF := pfOf 1 2 d__law_reads
theorem a__law_reads : Pf f__law_reads p__law_reads := f_of (show Ps b__law_reads d__law_reads from (s_seq (s_set 1 (e_op d_ix ((e_var 0)).b ((e_int _)).b))
    (s_seq (s_if (t_e ((e_op d_in ((e_var 1)).b ((e_call a__law_pairs a_nil)).b)).b) (s_ret (e_sl ((e_var 0)).b (q_part (e_int _)) q_no)) s_nx)
    (s_seq (s_if (t_e ((e_op d_in ((e_var 1)).b ((e_l (o_lst (a_cons (e_str _) (a_cons (e_str _) a_nil))))).b)).b) (s_ret (e_sl ((e_var 0)).b (q_part (e_int _)) (q_part (e_int _)))) s_nx)
    (s_seq (s_if (t_e ((e_op d_eq ((e_var 1)).b ((e_str _)).b)).b) (s_ret (e_sl ((e_var 0)).b (q_part (e_int _)) (q_part (e_int _)))) s_nx)
    (s_seq (s_if (t_e ((e_op d_in ((e_var 1)).b ((e_l (o_lst (a_cons (e_str _) (a_cons (e_str _) (a_cons (e_str _) (a_cons (e_str _) a_nil))))))).b)).b) (s_ret (e_sl ((e_var 0)).b (q_part (e_int _)) (q_part (e_int _)))) s_nx)
    (s_ret (e_tup a_nil))))))))
def b__law_fields : DS := (sSeq (sSet 2 (dOp oIx (dVar 1) (dC (.int 0))))
    (sSeq (sIf (dT (dOp oIn (dVar 2) (dCall f__law_pairs dNil))) (sRet (dOp oEq (dB bTup (dCons (dFld ["Pair"] "word" (dVar 0)) (dCons (dFld ["Aim", "Go", "Ask", "Tell", "Why", "Where", "Pair", "Num", "Plus", "Load", "Store", "Zero", "Link"] "a" (dVar 0)) (dCons (dFld ["Pair", "Plus", "Load", "Store"] "b" (dVar 0)) (dCons (dFld ["Pair"] "c" (dVar 0)) dNil))))) (dVar 1))) sNx)
    (sSeq (sIf (dT (dOp oIn (dVar 2) (dB bLst (dCons (dC (.str "plus")) (dCons (dC (.str "load")) (dCons (dC (.str "store")) dNil)))))) (sRet (dOp oEq (dB bTup (dCons (dFld ["Aim", "Go", "Ask", "Tell", "Why", "Where", "Pair", "Num", "Plus", "Load", "Store", "Zero", "Link"] "a" (dVar 0)) (dCons (dFld ["Pair", "Plus", "Load", "Store"] "b" (dVar 0)) (dCons (dFld ["Num", "Plus", "Load", "Store", "Jump", "Zero", "Link"] "n" (dVar 0)) dNil)))) (dSl (dVar 1) (dPart (dC (.int 1))) dNoPart))) sNx)
    (sSeq (sIf (dT (dOp oIn (dVar 2) (dB bLst (dCons (dC (.str "num")) (dCons (dC (.str "zero")) (dCons (dC (.str "link")) dNil)))))) (sRet (dOp oEq (dB bTup (dCons (dFld ["Aim", "Go", "Ask", "Tell", "Why", "Where", "Pair", "Num", "Plus", "Load", "Store", "Zero", "Link"] "a" (dVar 0)) (dCons (dFld ["Num", "Plus", "Load", "Store", "Jump", "Zero", "Link"] "n" (dVar 0)) dNil))) (dSl (dVar 1) (dPart (dC (.int 1))) dNoPart))) sNx)
    (sSeq (sIf (dT (dOp oEq (dVar 2) (dC (.str "jump")))) (sRet (dOp oEq (dFld ["Num", "Plus", "Load", "Store", "Jump", "Zero", "Link"] "n" (dVar 0)) (dOp oIx (dVar 1) (dC (.int 1))))) sNx)
    (sRet (dOr (dOp oEq (dB bLen (dCons (dVar 1) dNil)) (dC (.int 1))) (dOp oEq (dFld ["Aim", "Go", "Ask", "Tell", "Why", "Where", "Pair", "Num", "Plus", "Load", "Store", "Zero", "Link"] "a" (dVar 0)) (dOp oIx (dVar 1) (dC (.int 1)))))))))))
abbrev f__law_fields : Fn := fnOf 2 3 b__law_fields
def d__law_fields : PS := (psSeq (psSet 2 (pOp qIx (pVar 1) (pC (.int 0))))
    (psSeq (psIf (pT (pOp (qIn false) (pVar 2) (pCall p__law_pairs pNil))) (psRet (pOp (qEq false) (pB qTup (pCons (pFld ["Pair"] "word" (pVar 0)) (pCons (pFld ["Aim", "Go", "Ask", "Tell", "Why", "Where", "Pair", "Num", "Plus", "Load", "Store", "Zero", "Link"] "a" (pVar 0)) (pCons (pFld ["Pair", "Plus", "Load", "Store"] "b" (pVar 0)) (pCons (pFld ["Pair"] "c" (pVar 0)) pNil))))) (pVar 1))) psNx)
    (psSeq (psIf (pT (pOp (qIn false) (pVar 2) (pL (pO qLst (pCons (pC (.str "plus")) (pCons (pC (.str "load")) (pCons (pC (.str "store")) pNil))))))) (psRet (pOp (qEq false) (pB qTup (pCons (pFld ["Aim", "Go", "Ask", "Tell", "Why", "Where", "Pair", "Num", "Plus", "Load", "Store", "Zero", "Link"] "a" (pVar 0)) (pCons (pFld ["Pair", "Plus", "Load", "Store"] "b" (pVar 0)) (pCons (pFld ["Num", "Plus", "Load", "Store", "Jump", "Zero", "Link"] "n" (pVar 0)) pNil)))) (pSl (pVar 1) (pPart (pC (.int 1))) pNoPart))) psNx)
    (psSeq (psIf (pT (pOp (qIn false) (pVar 2) (pL (pO qLst (pCons (pC (.str "num")) (pCons (pC (.str "zero")) (pCons (pC (.str "link")) pNil))))))) (psRet (pOp (qEq false) (pB qTup (pCons (pFld ["Aim", "Go", "Ask", "Tell", "Why", "Where", "Pair", "Num", "Plus", "Load", "Store", "Zero", "Link"] "a" (pVar 0)) (pCons (pFld ["Num", "Plus", "Load", "Store", "Jump", "Zero", "Link"] "n" (pVar 0)) pNil))) (pSl (pVar 1) (pPart (pC (.int 1))) pNoPart))) psNx)
    (psSeq (psIf (pT (pOp (qEq false) (pVar 2) (pC (.str "jump")))) (psRet (pOp (qEq false) (pFld ["Num", "Plus", "Load", "Store", "Jump", "Zero", "Link"] "n" (pVar 0)) (pOp qIx (pVar 1) (pC (.int 1))))) psNx)
    (psRet (pOr (pOp (qEq false) (pB qLen (pCons (pVar 1) pNil)) (pC (.int 1))) (pOp (qEq false) (pFld ["Aim", "Go", "Ask", "Tell", "Why", "Where", "Pair", "Num", "Plus", "Load", "Store", "Zero", "Link"] "a" (pVar 0)) (pOp qIx (pVar 1) (pC (.int 1)))))))))))
def p__law_fields : PF := pfOf 2 3 d__law_fields
theorem a__law_fields : Pf f__law_fields p__law_fields := f_of (show Ps b__law_fields d__law_fields from (s_seq (s_set 2 (e_op d_ix ((e_var 1)).b ((e_int _)).b))
    (s_seq (s_if (t_e ((e_op d_in ((e_var 2)).b ((e_call a__law_pairs a_nil)).b)).b) (s_ret (e_op d_eq ((e_tup (a_cons (e_fld (e_var 0)) (a_cons (e_fld (e_var 0)) (a_cons (e_fld (e_var 0)) (a_cons (e_fld (e_var 0)) a_nil)))))).b ((e_var 1)).b)) s_nx)
    (s_seq (s_if (t_e ((e_op d_in ((e_var 2)).b ((e_l (o_lst (a_cons (e_str _) (a_cons (e_str _) (a_cons (e_str _) a_nil)))))).b)).b) (s_ret (e_op d_eq ((e_tup (a_cons (e_fld (e_var 0)) (a_cons (e_fld (e_var 0)) (a_cons (e_fld (e_var 0)) a_nil))))).b ((e_sl ((e_var 1)).b (q_part (e_int _)) q_no)).b)) s_nx)
    (s_seq (s_if (t_e ((e_op d_in ((e_var 2)).b ((e_l (o_lst (a_cons (e_str _) (a_cons (e_str _) (a_cons (e_str _) a_nil)))))).b)).b) (s_ret (e_op d_eq ((e_tup (a_cons (e_fld (e_var 0)) (a_cons (e_fld (e_var 0)) a_nil)))).b ((e_sl ((e_var 1)).b (q_part (e_int _)) q_no)).b)) s_nx)
    (s_seq (s_if (t_e ((e_op d_eq ((e_var 2)).b ((e_str _)).b)).b) (s_ret (e_op d_eq ((e_fld (e_var 0))).b ((e_op d_ix ((e_var 1)).b ((e_int _)).b)).b)) s_nx)
    (s_ret (e_or (e_op d_eq ((e_b d_len (ab_cons ((e_var 1)).b ab_nil))).b ((e_int _)).b) (e_op d_eq ((e_fld (e_var 0))).b ((e_op d_ix ((e_var 1)).b ((e_int _)).b)).b)))))))))
def b_Aim_told : DS := (sRet (dB bTup (dCons (dC (.str "aim")) (dCons (dFld ["Aim", "Go", "Ask", "Tell", "Why", "Where", "Pair", "Num", "Plus", "Load", "Store", "Zero", "Link"] "a" (dVar 0)) dNil))))
abbrev f_Aim_told : Fn := fnOf 1 1 b_Aim_told
def d_Aim_told : PS := (psRet (pB qTup (pCons (pC (.str "aim")) (pCons (pFld ["Aim", "Go", "Ask", "Tell", "Why", "Where", "Pair", "Num", "Plus", "Load", "Store", "Zero", "Link"] "a" (pVar 0)) pNil))))
def p_Aim_told : PF := pfOf 1 1 d_Aim_told
theorem a_Aim_told : Pf f_Aim_told p_Aim_told := f_of (show Ps b_Aim_told d_Aim_told from (s_ret (e_tup (a_cons (e_str _) (a_cons (e_fld (e_var 0)) a_nil)))))
def b_Go_told : DS := (sRet (dB bTup (dCons (dC (.str "go")) (dCons (dFld ["Aim", "Go", "Ask", "Tell", "Why", "Where", "Pair", "Num", "Plus", "Load", "Store", "Zero", "Link"] "a" (dVar 0)) dNil))))
abbrev f_Go_told : Fn := fnOf 1 1 b_Go_told
def d_Go_told : PS := (psRet (pB qTup (pCons (pC (.str "go")) (pCons (pFld ["Aim", "Go", "Ask", "Tell", "Why", "Where", "Pair", "Num", "Plus", "Load", "Store", "Zero", "Link"] "a" (pVar 0)) pNil))))
def p_Go_told : PF := pfOf 1 1 d_Go_told
theorem a_Go_told : Pf f_Go_told p_Go_told := f_of (show Ps b_Go_told d_Go_told from (s_ret (e_tup (a_cons (e_str _) (a_cons (e_fld (e_var 0)) a_nil)))))
def b_Ask_told : DS := (sRet (dB bTup (dCons (dC (.str "ask")) (dCons (dFld ["Aim", "Go", "Ask", "Tell", "Why", "Where", "Pair", "Num", "Plus", "Load", "Store", "Zero", "Link"] "a" (dVar 0)) dNil))))
abbrev f_Ask_told : Fn := fnOf 1 1 b_Ask_told
def d_Ask_told : PS := (psRet (pB qTup (pCons (pC (.str "ask")) (pCons (pFld ["Aim", "Go", "Ask", "Tell", "Why", "Where", "Pair", "Num", "Plus", "Load", "Store", "Zero", "Link"] "a" (pVar 0)) pNil))))
def p_Ask_told : PF := pfOf 1 1 d_Ask_told
theorem a_Ask_told : Pf f_Ask_told p_Ask_told := f_of (show Ps b_Ask_told d_Ask_told from (s_ret (e_tup (a_cons (e_str _) (a_cons (e_fld (e_var 0)) a_nil)))))
def b_Tell_told : DS := (sRet (dB bTup (dCons (dC (.str "tell")) (dCons (dFld ["Aim", "Go", "Ask", "Tell", "Why", "Where", "Pair", "Num", "Plus", "Load", "Store", "Zero", "Link"] "a" (dVar 0)) dNil))))
abbrev f_Tell_told : Fn := fnOf 1 1 b_Tell_told
def d_Tell_told : PS := (psRet (pB qTup (pCons (pC (.str "tell")) (pCons (pFld ["Aim", "Go", "Ask", "Tell", "Why", "Where", "Pair", "Num", "Plus", "Load", "Store", "Zero", "Link"] "a" (pVar 0)) pNil))))
def p_Tell_told : PF := pfOf 1 1 d_Tell_told
theorem a_Tell_told : Pf f_Tell_told p_Tell_told := f_of (show Ps b_Tell_told d_Tell_told from (s_ret (e_tup (a_cons (e_str _) (a_cons (e_fld (e_var 0)) a_nil)))))
def b_Why_told : DS := (sRet (dB bTup (dCons (dC (.str "why")) (dCons (dFld ["Aim", "Go", "Ask", "Tell", "Why", "Where", "Pair", "Num", "Plus", "Load", "Store", "Zero", "Link"] "a" (dVar 0)) dNil))))
abbrev f_Why_told : Fn := fnOf 1 1 b_Why_told
def d_Why_told : PS := (psRet (pB qTup (pCons (pC (.str "why")) (pCons (pFld ["Aim", "Go", "Ask", "Tell", "Why", "Where", "Pair", "Num", "Plus", "Load", "Store", "Zero", "Link"] "a" (pVar 0)) pNil))))
def p_Why_told : PF := pfOf 1 1 d_Why_told
theorem a_Why_told : Pf f_Why_told p_Why_told := f_of (show Ps b_Why_told d_Why_told from (s_ret (e_tup (a_cons (e_str _) (a_cons (e_fld (e_var 0)) a_nil)))))
def b_Where_told : DS := (sRet (dB bTup (dCons (dC (.str "where")) (dCons (dFld ["Aim", "Go", "Ask", "Tell", "Why", "Where", "Pair", "Num", "Plus", "Load", "Store", "Zero", "Link"] "a" (dVar 0)) dNil))))
abbrev f_Where_told : Fn := fnOf 1 1 b_Where_told
def d_Where_told : PS := (psRet (pB qTup (pCons (pC (.str "where")) (pCons (pFld ["Aim", "Go", "Ask", "Tell", "Why", "Where", "Pair", "Num", "Plus", "Load", "Store", "Zero", "Link"] "a" (pVar 0)) pNil))))
def p_Where_told : PF := pfOf 1 1 d_Where_told
theorem a_Where_told : Pf f_Where_told p_Where_told := f_of (show Ps b_Where_told d_Where_told from (s_ret (e_tup (a_cons (e_str _) (a_cons (e_fld (e_var 0)) a_nil)))))
def b_Pair_told : DS := (sRet (dB bTup (dCons (dFld ["Pair"] "word" (dVar 0)) (dCons (dFld ["Aim", "Go", "Ask", "Tell", "Why", "Where", "Pair", "Num", "Plus", "Load", "Store", "Zero", "Link"] "a" (dVar 0)) (dCons (dFld ["Pair", "Plus", "Load", "Store"] "b" (dVar 0)) (dCons (dFld ["Pair"] "c" (dVar 0)) dNil))))))
abbrev f_Pair_told : Fn := fnOf 1 1 b_Pair_told
def d_Pair_told : PS := (psRet (pB qTup (pCons (pFld ["Pair"] "word" (pVar 0)) (pCons (pFld ["Aim", "Go", "Ask", "Tell", "Why", "Where", "Pair", "Num", "Plus", "Load", "Store", "Zero", "Link"] "a" (pVar 0)) (pCons (pFld ["Pair", "Plus", "Load", "Store"] "b" (pVar 0)) (pCons (pFld ["Pair"] "c" (pVar 0)) pNil))))))
def p_Pair_told : PF := pfOf 1 1 d_Pair_told
theorem a_Pair_told : Pf f_Pair_told p_Pair_told := f_of (show Ps b_Pair_told d_Pair_told from (s_ret (e_tup (a_cons (e_fld (e_var 0)) (a_cons (e_fld (e_var 0)) (a_cons (e_fld (e_var 0)) (a_cons (e_fld (e_var 0)) a_nil)))))))
def b_Num_told : DS := (sRet (dB bTup (dCons (dC (.str "num")) (dCons (dFld ["Aim", "Go", "Ask", "Tell", "Why", "Where", "Pair", "Num", "Plus", "Load", "Store", "Zero", "Link"] "a" (dVar 0)) (dCons (dFld ["Num", "Plus", "Load", "Store", "Jump", "Zero", "Link"] "n" (dVar 0)) dNil)))))
abbrev f_Num_told : Fn := fnOf 1 1 b_Num_told
def d_Num_told : PS := (psRet (pB qTup (pCons (pC (.str "num")) (pCons (pFld ["Aim", "Go", "Ask", "Tell", "Why", "Where", "Pair", "Num", "Plus", "Load", "Store", "Zero", "Link"] "a" (pVar 0)) (pCons (pFld ["Num", "Plus", "Load", "Store", "Jump", "Zero", "Link"] "n" (pVar 0)) pNil)))))
def p_Num_told : PF := pfOf 1 1 d_Num_told
theorem a_Num_told : Pf f_Num_told p_Num_told := f_of (show Ps b_Num_told d_Num_told from (s_ret (e_tup (a_cons (e_str _) (a_cons (e_fld (e_var 0)) (a_cons (e_fld (e_var 0)) a_nil))))))
def b_Plus_told : DS := (sRet (dB bTup (dCons (dC (.str "plus")) (dCons (dFld ["Aim", "Go", "Ask", "Tell", "Why", "Where", "Pair", "Num", "Plus", "Load", "Store", "Zero", "Link"] "a" (dVar 0)) (dCons (dFld ["Pair", "Plus", "Load", "Store"] "b" (dVar 0)) (dCons (dFld ["Num", "Plus", "Load", "Store", "Jump", "Zero", "Link"] "n" (dVar 0)) dNil))))))
abbrev f_Plus_told : Fn := fnOf 1 1 b_Plus_told
def d_Plus_told : PS := (psRet (pB qTup (pCons (pC (.str "plus")) (pCons (pFld ["Aim", "Go", "Ask", "Tell", "Why", "Where", "Pair", "Num", "Plus", "Load", "Store", "Zero", "Link"] "a" (pVar 0)) (pCons (pFld ["Pair", "Plus", "Load", "Store"] "b" (pVar 0)) (pCons (pFld ["Num", "Plus", "Load", "Store", "Jump", "Zero", "Link"] "n" (pVar 0)) pNil))))))
def p_Plus_told : PF := pfOf 1 1 d_Plus_told
theorem a_Plus_told : Pf f_Plus_told p_Plus_told := f_of (show Ps b_Plus_told d_Plus_told from (s_ret (e_tup (a_cons (e_str _) (a_cons (e_fld (e_var 0)) (a_cons (e_fld (e_var 0)) (a_cons (e_fld (e_var 0)) a_nil)))))))
def b_Load_told : DS := (sRet (dB bTup (dCons (dC (.str "load")) (dCons (dFld ["Aim", "Go", "Ask", "Tell", "Why", "Where", "Pair", "Num", "Plus", "Load", "Store", "Zero", "Link"] "a" (dVar 0)) (dCons (dFld ["Pair", "Plus", "Load", "Store"] "b" (dVar 0)) (dCons (dFld ["Num", "Plus", "Load", "Store", "Jump", "Zero", "Link"] "n" (dVar 0)) dNil))))))
abbrev f_Load_told : Fn := fnOf 1 1 b_Load_told
def d_Load_told : PS := (psRet (pB qTup (pCons (pC (.str "load")) (pCons (pFld ["Aim", "Go", "Ask", "Tell", "Why", "Where", "Pair", "Num", "Plus", "Load", "Store", "Zero", "Link"] "a" (pVar 0)) (pCons (pFld ["Pair", "Plus", "Load", "Store"] "b" (pVar 0)) (pCons (pFld ["Num", "Plus", "Load", "Store", "Jump", "Zero", "Link"] "n" (pVar 0)) pNil))))))
def p_Load_told : PF := pfOf 1 1 d_Load_told
theorem a_Load_told : Pf f_Load_told p_Load_told := f_of (show Ps b_Load_told d_Load_told from (s_ret (e_tup (a_cons (e_str _) (a_cons (e_fld (e_var 0)) (a_cons (e_fld (e_var 0)) (a_cons (e_fld (e_var 0)) a_nil)))))))
def b_Store_told : DS := (sRet (dB bTup (dCons (dC (.str "store")) (dCons (dFld ["Aim", "Go", "Ask", "Tell", "Why", "Where", "Pair", "Num", "Plus", "Load", "Store", "Zero", "Link"] "a" (dVar 0)) (dCons (dFld ["Pair", "Plus", "Load", "Store"] "b" (dVar 0)) (dCons (dFld ["Num", "Plus", "Load", "Store", "Jump", "Zero", "Link"] "n" (dVar 0)) dNil))))))
abbrev f_Store_told : Fn := fnOf 1 1 b_Store_told
def d_Store_told : PS := (psRet (pB qTup (pCons (pC (.str "store")) (pCons (pFld ["Aim", "Go", "Ask", "Tell", "Why", "Where", "Pair", "Num", "Plus", "Load", "Store", "Zero", "Link"] "a" (pVar 0)) (pCons (pFld ["Pair", "Plus", "Load", "Store"] "b" (pVar 0)) (pCons (pFld ["Num", "Plus", "Load", "Store", "Jump", "Zero", "Link"] "n" (pVar 0)) pNil))))))
def p_Store_told : PF := pfOf 1 1 d_Store_told
theorem a_Store_told : Pf f_Store_told p_Store_told := f_of (show Ps b_Store_told d_Store_told from (s_ret (e_tup (a_cons (e_str _) (a_cons (e_fld (e_var 0)) (a_cons (e_fld (e_var 0)) (a_cons (e_fld (e_var 0)) a_nil)))))))
def b_Jump_told : DS := (sRet (dB bTup (dCons (dC (.str "jump")) (dCons (dFld ["Num", "Plus", "Load", "Store", "Jump", "Zero", "Link"] "n" (dVar 0)) dNil))))
abbrev f_Jump_told : Fn := fnOf 1 1 b_Jump_told
def d_Jump_told : PS := (psRet (pB qTup (pCons (pC (.str "jump")) (pCons (pFld ["Num", "Plus", "Load", "Store", "Jump", "Zero", "Link"] "n" (pVar 0)) pNil))))
def p_Jump_told : PF := pfOf 1 1 d_Jump_told
theorem a_Jump_told : Pf f_Jump_told p_Jump_told := f_of (show Ps b_Jump_told d_Jump_told from (s_ret (e_tup (a_cons (e_str _) (a_cons (e_fld (e_var 0)) a_nil)))))
def b_Zero_told : DS := (sRet (dB bTup (dCons (dC (.str "zero")) (dCons (dFld ["Aim", "Go", "Ask", "Tell", "Why", "Where", "Pair", "Num", "Plus", "Load", "Store", "Zero", "Link"] "a" (dVar 0)) (dCons (dFld ["Num", "Plus", "Load", "Store", "Jump", "Zero", "Link"] "n" (dVar 0)) dNil)))))
abbrev f_Zero_told : Fn := fnOf 1 1 b_Zero_told
def d_Zero_told : PS := (psRet (pB qTup (pCons (pC (.str "zero")) (pCons (pFld ["Aim", "Go", "Ask", "Tell", "Why", "Where", "Pair", "Num", "Plus", "Load", "Store", "Zero", "Link"] "a" (pVar 0)) (pCons (pFld ["Num", "Plus", "Load", "Store", "Jump", "Zero", "Link"] "n" (pVar 0)) pNil)))))
def p_Zero_told : PF := pfOf 1 1 d_Zero_told
theorem a_Zero_told : Pf f_Zero_told p_Zero_told := f_of (show Ps b_Zero_told d_Zero_told from (s_ret (e_tup (a_cons (e_str _) (a_cons (e_fld (e_var 0)) (a_cons (e_fld (e_var 0)) a_nil))))))
def b_Link_told : DS := (sRet (dB bTup (dCons (dC (.str "link")) (dCons (dFld ["Aim", "Go", "Ask", "Tell", "Why", "Where", "Pair", "Num", "Plus", "Load", "Store", "Zero", "Link"] "a" (dVar 0)) (dCons (dFld ["Num", "Plus", "Load", "Store", "Jump", "Zero", "Link"] "n" (dVar 0)) dNil)))))
abbrev f_Link_told : Fn := fnOf 1 1 b_Link_told
def d_Link_told : PS := (psRet (pB qTup (pCons (pC (.str "link")) (pCons (pFld ["Aim", "Go", "Ask", "Tell", "Why", "Where", "Pair", "Num", "Plus", "Load", "Store", "Zero", "Link"] "a" (pVar 0)) (pCons (pFld ["Num", "Plus", "Load", "Store", "Jump", "Zero", "Link"] "n" (pVar 0)) pNil)))))
def p_Link_told : PF := pfOf 1 1 d_Link_told
theorem a_Link_told : Pf f_Link_told p_Link_told := f_of (show Ps b_Link_told d_Link_told from (s_ret (e_tup (a_cons (e_str _) (a_cons (e_fld (e_var 0)) (a_cons (e_fld (e_var 0)) a_nil))))))
def b_Stop_told : DS := (sRet (dB bTup (dCons (dC (.str "stop")) dNil)))
abbrev f_Stop_told : Fn := fnOf 1 1 b_Stop_told
def d_Stop_told : PS := (psRet (pB qTup (pCons (pC (.str "stop")) pNil)))
def p_Stop_told : PF := pfOf 1 1 d_Stop_told
theorem a_Stop_told : Pf f_Stop_told p_Stop_told := f_of (show Ps b_Stop_told d_Stop_told from (s_ret (e_tup (a_cons (e_str _) a_nil))))
def b_Home_told : DS := (sRet (dB bTup (dCons (dC (.str "home")) dNil)))
abbrev f_Home_told : Fn := fnOf 1 1 b_Home_told
def d_Home_told : PS := (psRet (pB qTup (pCons (pC (.str "home")) pNil)))
def p_Home_told : PF := pfOf 1 1 d_Home_told
theorem a_Home_told : Pf f_Home_told p_Home_told := f_of (show Ps b_Home_told d_Home_told from (s_ret (e_tup (a_cons (e_str _) a_nil))))
def tb_told : List (Str × Fn) := [("Aim", f_Aim_told), ("Go", f_Go_told), ("Ask", f_Ask_told), ("Tell", f_Tell_told), ("Why", f_Why_told), ("Where", f_Where_told), ("Pair", f_Pair_told), ("Num", f_Num_told), ("Plus", f_Plus_told), ("Load", f_Load_told), ("Store", f_Store_told), ("Jump", f_Jump_told), ("Zero", f_Zero_told), ("Link", f_Link_told), ("Stop", f_Stop_told), ("Home", f_Home_told)]
def pt_told : List (Str × PF) := [("Aim", p_Aim_told), ("Go", p_Go_told), ("Ask", p_Ask_told), ("Tell", p_Tell_told), ("Why", p_Why_told), ("Where", p_Where_told), ("Pair", p_Pair_told), ("Num", p_Num_told), ("Plus", p_Plus_told), ("Load", p_Load_told), ("Store", p_Store_told), ("Jump", p_Jump_told), ("Zero", p_Zero_told), ("Link", p_Link_told), ("Stop", p_Stop_told), ("Home", p_Home_told)]
theorem tbd_told : TbD tb_told pt_told := (TbD.cons a_Aim_told (TbD.cons a_Go_told (TbD.cons a_Ask_told (TbD.cons a_Tell_told (TbD.cons a_Why_told (TbD.cons a_Where_told (TbD.cons a_Pair_told (TbD.cons a_Num_told (TbD.cons a_Plus_told (TbD.cons a_Load_told (TbD.cons a_Store_told (TbD.cons a_Jump_told (TbD.cons a_Zero_told (TbD.cons a_Link_told (TbD.cons a_Stop_told (TbD.cons a_Home_told TbD.nil))))))))))))))))
def b__law_gives : DS := (sSeq (sIf (tAnd (dT (dOp oIn (dOp oIx (dVar 0) (dC (.int 0))) (dOp oAdd (dCall f__law_pairs dNil) (dB bLst (dCons (dC (.str "num")) (dCons (dC (.str "plus")) (dCons (dC (.str "load")) (dCons (dC (.str "link")) (dCons (dC (.str "ask")) (dCons (dC (.str "why")) (dCons (dC (.str "where")) dNil))))))))))) (dT (dOp oGt (dOp oIx (dVar 0) (dC (.int 1))) (dC (.int 0))))) (sRet (dOp oIx (dVar 0) (dC (.int 1)))) sNx)
    (sRet (dC .non)))
abbrev f__law_gives : Fn := fnOf 1 1 b__law_gives
def d__law_gives : PS := (psSeq (psIf (ptAnd (pT (pOp (qIn false) (pOp qIx (pVar 0) (pC (.int 0))) (pOp qAdd (pCall p__law_pairs pNil) (pL (pO qLst (pCons (pC (.str "num")) (pCons (pC (.str "plus")) (pCons (pC (.str "load")) (pCons (pC (.str "link")) (pCons (pC (.str "ask")) (pCons (pC (.str "why")) (pCons (pC (.str "where")) pNil)))))))))))) (pT (pOp qGt (pOp qIx (pVar 0) (pC (.int 1))) (pC (.int 0))))) (psRet (pOp qIx (pVar 0) (pC (.int 1)))) psNx)
    (psRet (pC .non)))
def p__law_gives : PF := pfOf 1 1 d__law_gives
theorem a__law_gives : Pf f__law_gives p__law_gives := f_of (show Ps b__law_gives d__law_gives from (s_seq (s_if (t_and (t_e ((e_op d_in ((e_op d_ix ((e_var 0)).b ((e_int _)).b)).b ((e_op d_add ((e_call a__law_pairs a_nil)).b ((e_l (o_lst (a_cons (e_str _) (a_cons (e_str _) (a_cons (e_str _) (a_cons (e_str _) (a_cons (e_str _) (a_cons (e_str _) (a_cons (e_str _) a_nil)))))))))).b)).b)).b) (t_e ((e_op d_gt ((e_op d_ix ((e_var 0)).b ((e_int _)).b)).b ((e_int _)).b)).b)) (s_ret (e_op d_ix ((e_var 0)).b ((e_int _)).b)) s_nx)
    (s_ret e_non)))
def b_known_at : DS := (sSeq (sIf (dT (dOp oIs (dVar 1) (dC .non))) (sRet (dC .non)) sNx)
    (sRet (dVar 0)))
abbrev f_known_at : Fn := fnOf 2 2 b_known_at
def d_known_at : PS := (psSeq (psIf (pT (pOp (qIs false) (pVar 1) (pC .non))) (psRet (pC .non)) psNx)
    (psRet (pVar 0)))
def p_known_at : PF := pfOf 2 2 d_known_at
theorem a_known_at : Pf f_known_at p_known_at := f_of (show Ps b_known_at d_known_at from (s_seq (s_if (t_e ((e_op d_is ((e_var 1)).b (e_non).b)).b) (s_ret e_non) s_nx)
    (s_ret (e_var 0))))
def b_Row_gives : DS := (sRet (dC .non))
abbrev f_Row_gives : Fn := fnOf 1 1 b_Row_gives
def d_Row_gives : PS := (psRet (pC .non))
def p_Row_gives : PF := pfOf 1 1 d_Row_gives
theorem a_Row_gives : Pf f_Row_gives p_Row_gives := f_of (show Ps b_Row_gives d_Row_gives from (s_ret e_non))
def b_given_box : DS := (sSeq (sIf (dT (dOp oEq (dVar 0) (dC (.int 0)))) (sRet (dC .non)) sNx)
    (sRet (dVar 0)))
abbrev f_given_box : Fn := fnOf 1 1 b_given_box
def d_given_box : PS := (psSeq (psIf (pT (pOp (qEq false) (pVar 0) (pC (.int 0)))) (psRet (pC .non)) psNx)
    (psRet (pVar 0)))
def p_given_box : PF := pfOf 1 1 d_given_box
theorem a_given_box : Pf f_given_box p_given_box := f_of (show Ps b_given_box d_given_box from (s_seq (s_if (t_e ((e_op d_eq ((e_var 0)).b ((e_int _)).b)).b) (s_ret e_non) s_nx)
    (s_ret (e_var 0))))
def b_Ask_gives : DS := (sRet (dCall f_given_box (dCons (dFld ["Aim", "Go", "Ask", "Tell", "Why", "Where", "Pair", "Num", "Plus", "Load", "Store", "Zero", "Link"] "a" (dVar 0)) dNil)))
abbrev f_Ask_gives : Fn := fnOf 1 1 b_Ask_gives
def d_Ask_gives : PS := (psRet (pCall p_given_box (pCons (pFld ["Aim", "Go", "Ask", "Tell", "Why", "Where", "Pair", "Num", "Plus", "Load", "Store", "Zero", "Link"] "a" (pVar 0)) pNil)))
def p_Ask_gives : PF := pfOf 1 1 d_Ask_gives
theorem a_Ask_gives : Pf f_Ask_gives p_Ask_gives := f_of (show Ps b_Ask_gives d_Ask_gives from (s_ret (e_call a_given_box (a_cons (e_fld (e_var 0)) a_nil))))
def b_Why_gives : DS := (sRet (dCall f_given_box (dCons (dFld ["Aim", "Go", "Ask", "Tell", "Why", "Where", "Pair", "Num", "Plus", "Load", "Store", "Zero", "Link"] "a" (dVar 0)) dNil)))
abbrev f_Why_gives : Fn := fnOf 1 1 b_Why_gives
def d_Why_gives : PS := (psRet (pCall p_given_box (pCons (pFld ["Aim", "Go", "Ask", "Tell", "Why", "Where", "Pair", "Num", "Plus", "Load", "Store", "Zero", "Link"] "a" (pVar 0)) pNil)))
def p_Why_gives : PF := pfOf 1 1 d_Why_gives
theorem a_Why_gives : Pf f_Why_gives p_Why_gives := f_of (show Ps b_Why_gives d_Why_gives from (s_ret (e_call a_given_box (a_cons (e_fld (e_var 0)) a_nil))))
def b_Where_gives : DS := (sRet (dCall f_given_box (dCons (dFld ["Aim", "Go", "Ask", "Tell", "Why", "Where", "Pair", "Num", "Plus", "Load", "Store", "Zero", "Link"] "a" (dVar 0)) dNil)))
abbrev f_Where_gives : Fn := fnOf 1 1 b_Where_gives
def d_Where_gives : PS := (psRet (pCall p_given_box (pCons (pFld ["Aim", "Go", "Ask", "Tell", "Why", "Where", "Pair", "Num", "Plus", "Load", "Store", "Zero", "Link"] "a" (pVar 0)) pNil)))
def p_Where_gives : PF := pfOf 1 1 d_Where_gives
theorem a_Where_gives : Pf f_Where_gives p_Where_gives := f_of (show Ps b_Where_gives d_Where_gives from (s_ret (e_call a_given_box (a_cons (e_fld (e_var 0)) a_nil))))
def b_Pair_gives : DS := (sRet (dCall f_given_box (dCons (dFld ["Aim", "Go", "Ask", "Tell", "Why", "Where", "Pair", "Num", "Plus", "Load", "Store", "Zero", "Link"] "a" (dVar 0)) dNil)))
abbrev f_Pair_gives : Fn := fnOf 1 1 b_Pair_gives
def d_Pair_gives : PS := (psRet (pCall p_given_box (pCons (pFld ["Aim", "Go", "Ask", "Tell", "Why", "Where", "Pair", "Num", "Plus", "Load", "Store", "Zero", "Link"] "a" (pVar 0)) pNil)))
def p_Pair_gives : PF := pfOf 1 1 d_Pair_gives
theorem a_Pair_gives : Pf f_Pair_gives p_Pair_gives := f_of (show Ps b_Pair_gives d_Pair_gives from (s_ret (e_call a_given_box (a_cons (e_fld (e_var 0)) a_nil))))
def b_Num_gives : DS := (sRet (dCall f_given_box (dCons (dFld ["Aim", "Go", "Ask", "Tell", "Why", "Where", "Pair", "Num", "Plus", "Load", "Store", "Zero", "Link"] "a" (dVar 0)) dNil)))
abbrev f_Num_gives : Fn := fnOf 1 1 b_Num_gives
def d_Num_gives : PS := (psRet (pCall p_given_box (pCons (pFld ["Aim", "Go", "Ask", "Tell", "Why", "Where", "Pair", "Num", "Plus", "Load", "Store", "Zero", "Link"] "a" (pVar 0)) pNil)))
def p_Num_gives : PF := pfOf 1 1 d_Num_gives
theorem a_Num_gives : Pf f_Num_gives p_Num_gives := f_of (show Ps b_Num_gives d_Num_gives from (s_ret (e_call a_given_box (a_cons (e_fld (e_var 0)) a_nil))))
def b_Plus_gives : DS := (sRet (dCall f_given_box (dCons (dFld ["Aim", "Go", "Ask", "Tell", "Why", "Where", "Pair", "Num", "Plus", "Load", "Store", "Zero", "Link"] "a" (dVar 0)) dNil)))
abbrev f_Plus_gives : Fn := fnOf 1 1 b_Plus_gives
def d_Plus_gives : PS := (psRet (pCall p_given_box (pCons (pFld ["Aim", "Go", "Ask", "Tell", "Why", "Where", "Pair", "Num", "Plus", "Load", "Store", "Zero", "Link"] "a" (pVar 0)) pNil)))
def p_Plus_gives : PF := pfOf 1 1 d_Plus_gives
theorem a_Plus_gives : Pf f_Plus_gives p_Plus_gives := f_of (show Ps b_Plus_gives d_Plus_gives from (s_ret (e_call a_given_box (a_cons (e_fld (e_var 0)) a_nil))))
def b_Load_gives : DS := (sRet (dCall f_given_box (dCons (dFld ["Aim", "Go", "Ask", "Tell", "Why", "Where", "Pair", "Num", "Plus", "Load", "Store", "Zero", "Link"] "a" (dVar 0)) dNil)))
abbrev f_Load_gives : Fn := fnOf 1 1 b_Load_gives
def d_Load_gives : PS := (psRet (pCall p_given_box (pCons (pFld ["Aim", "Go", "Ask", "Tell", "Why", "Where", "Pair", "Num", "Plus", "Load", "Store", "Zero", "Link"] "a" (pVar 0)) pNil)))
def p_Load_gives : PF := pfOf 1 1 d_Load_gives
theorem a_Load_gives : Pf f_Load_gives p_Load_gives := f_of (show Ps b_Load_gives d_Load_gives from (s_ret (e_call a_given_box (a_cons (e_fld (e_var 0)) a_nil))))
def b_Link_gives : DS := (sRet (dCall f_given_box (dCons (dFld ["Aim", "Go", "Ask", "Tell", "Why", "Where", "Pair", "Num", "Plus", "Load", "Store", "Zero", "Link"] "a" (dVar 0)) dNil)))
abbrev f_Link_gives : Fn := fnOf 1 1 b_Link_gives
def d_Link_gives : PS := (psRet (pCall p_given_box (pCons (pFld ["Aim", "Go", "Ask", "Tell", "Why", "Where", "Pair", "Num", "Plus", "Load", "Store", "Zero", "Link"] "a" (pVar 0)) pNil)))
def p_Link_gives : PF := pfOf 1 1 d_Link_gives
theorem a_Link_gives : Pf f_Link_gives p_Link_gives := f_of (show Ps b_Link_gives d_Link_gives from (s_ret (e_call a_given_box (a_cons (e_fld (e_var 0)) a_nil))))
def tb_gives : List (Str × Fn) := [("Aim", f_Row_gives), ("Go", f_Row_gives), ("Ask", f_Ask_gives), ("Tell", f_Row_gives), ("Why", f_Why_gives), ("Where", f_Where_gives), ("Pair", f_Pair_gives), ("Num", f_Num_gives), ("Plus", f_Plus_gives), ("Load", f_Load_gives), ("Store", f_Row_gives), ("Jump", f_Row_gives), ("Zero", f_Row_gives), ("Link", f_Link_gives), ("Stop", f_Row_gives), ("Home", f_Row_gives)]
def pt_gives : List (Str × PF) := [("Aim", p_Row_gives), ("Go", p_Row_gives), ("Ask", p_Ask_gives), ("Tell", p_Row_gives), ("Why", p_Why_gives), ("Where", p_Where_gives), ("Pair", p_Pair_gives), ("Num", p_Num_gives), ("Plus", p_Plus_gives), ("Load", p_Load_gives), ("Store", p_Row_gives), ("Jump", p_Row_gives), ("Zero", p_Row_gives), ("Link", p_Link_gives), ("Stop", p_Row_gives), ("Home", p_Row_gives)]
theorem tbd_gives : TbD tb_gives pt_gives := (TbD.cons a_Row_gives (TbD.cons a_Row_gives (TbD.cons a_Ask_gives (TbD.cons a_Row_gives (TbD.cons a_Why_gives (TbD.cons a_Where_gives (TbD.cons a_Pair_gives (TbD.cons a_Num_gives (TbD.cons a_Plus_gives (TbD.cons a_Load_gives (TbD.cons a_Row_gives (TbD.cons a_Row_gives (TbD.cons a_Row_gives (TbD.cons a_Link_gives (TbD.cons a_Row_gives (TbD.cons a_Row_gives TbD.nil))))))))))))))))
def b_Row_known : DS := (sRet (dCall f_known_at (dCons (dC (.str "reckon")) (dCons (dMeth tb_gives "gives" (dVar 0) dNil) dNil))))
abbrev f_Row_known : Fn := fnOf 1 1 b_Row_known
def d_Row_known : PS := (psRet (pCall p_known_at (pCons (pC (.str "reckon")) (pCons (pMeth pt_gives "gives" (pVar 0) pNil) pNil))))
def p_Row_known : PF := pfOf 1 1 d_Row_known
theorem a_Row_known : Pf f_Row_known p_Row_known := f_of (show Ps b_Row_known d_Row_known from (s_ret (e_call a_known_at (a_cons (e_str _) (a_cons (e_meth tbd_gives (e_var 0) a_nil) a_nil)))))
def b_Ask_known : DS := (sRet (dCall f_known_at (dCons (dC (.str "write")) (dCons (dMeth tb_gives "gives" (dVar 0) dNil) dNil))))
abbrev f_Ask_known : Fn := fnOf 1 1 b_Ask_known
def d_Ask_known : PS := (psRet (pCall p_known_at (pCons (pC (.str "write")) (pCons (pMeth pt_gives "gives" (pVar 0) pNil) pNil))))
def p_Ask_known : PF := pfOf 1 1 d_Ask_known
theorem a_Ask_known : Pf f_Ask_known p_Ask_known := f_of (show Ps b_Ask_known d_Ask_known from (s_ret (e_call a_known_at (a_cons (e_str _) (a_cons (e_meth tbd_gives (e_var 0) a_nil) a_nil)))))
def b_Why_known : DS := (sRet (dCall f_known_at (dCons (dC (.str "write")) (dCons (dMeth tb_gives "gives" (dVar 0) dNil) dNil))))
abbrev f_Why_known : Fn := fnOf 1 1 b_Why_known
def d_Why_known : PS := (psRet (pCall p_known_at (pCons (pC (.str "write")) (pCons (pMeth pt_gives "gives" (pVar 0) pNil) pNil))))
def p_Why_known : PF := pfOf 1 1 d_Why_known
theorem a_Why_known : Pf f_Why_known p_Why_known := f_of (show Ps b_Why_known d_Why_known from (s_ret (e_call a_known_at (a_cons (e_str _) (a_cons (e_meth tbd_gives (e_var 0) a_nil) a_nil)))))
def b_Where_known : DS := (sRet (dCall f_known_at (dCons (dC (.str "write")) (dCons (dMeth tb_gives "gives" (dVar 0) dNil) dNil))))
abbrev f_Where_known : Fn := fnOf 1 1 b_Where_known
def d_Where_known : PS := (psRet (pCall p_known_at (pCons (pC (.str "write")) (pCons (pMeth pt_gives "gives" (pVar 0) pNil) pNil))))
def p_Where_known : PF := pfOf 1 1 d_Where_known
theorem a_Where_known : Pf f_Where_known p_Where_known := f_of (show Ps b_Where_known d_Where_known from (s_ret (e_call a_known_at (a_cons (e_str _) (a_cons (e_meth tbd_gives (e_var 0) a_nil) a_nil)))))
def b_Load_known : DS := (sRet (dCall f_known_at (dCons (dC (.str "memory")) (dCons (dMeth tb_gives "gives" (dVar 0) dNil) dNil))))
abbrev f_Load_known : Fn := fnOf 1 1 b_Load_known
def d_Load_known : PS := (psRet (pCall p_known_at (pCons (pC (.str "memory")) (pCons (pMeth pt_gives "gives" (pVar 0) pNil) pNil))))
def p_Load_known : PF := pfOf 1 1 d_Load_known
theorem a_Load_known : Pf f_Load_known p_Load_known := f_of (show Ps b_Load_known d_Load_known from (s_ret (e_call a_known_at (a_cons (e_str _) (a_cons (e_meth tbd_gives (e_var 0) a_nil) a_nil)))))
def tb_known : List (Str × Fn) := [("Aim", f_Row_known), ("Go", f_Row_known), ("Ask", f_Ask_known), ("Tell", f_Row_known), ("Why", f_Why_known), ("Where", f_Where_known), ("Pair", f_Row_known), ("Num", f_Row_known), ("Plus", f_Row_known), ("Load", f_Load_known), ("Store", f_Row_known), ("Jump", f_Row_known), ("Zero", f_Row_known), ("Link", f_Row_known), ("Stop", f_Row_known), ("Home", f_Row_known)]
def pt_known : List (Str × PF) := [("Aim", p_Row_known), ("Go", p_Row_known), ("Ask", p_Ask_known), ("Tell", p_Row_known), ("Why", p_Why_known), ("Where", p_Where_known), ("Pair", p_Row_known), ("Num", p_Row_known), ("Plus", p_Row_known), ("Load", p_Load_known), ("Store", p_Row_known), ("Jump", p_Row_known), ("Zero", p_Row_known), ("Link", p_Row_known), ("Stop", p_Row_known), ("Home", p_Row_known)]
theorem tbd_known : TbD tb_known pt_known := (TbD.cons a_Row_known (TbD.cons a_Row_known (TbD.cons a_Ask_known (TbD.cons a_Row_known (TbD.cons a_Why_known (TbD.cons a_Where_known (TbD.cons a_Row_known (TbD.cons a_Row_known (TbD.cons a_Row_known (TbD.cons a_Load_known (TbD.cons a_Row_known (TbD.cons a_Row_known (TbD.cons a_Row_known (TbD.cons a_Row_known (TbD.cons a_Row_known (TbD.cons a_Row_known TbD.nil))))))))))))))))
def b__law_known : DS := (sSeq (sIf (dT (dOp oIs (dCall f__law_gives (dCons (dVar 0) dNil)) (dC .non))) (sRet (dC .non)) sNx)
    (sSeq (sIf (dT (dOp oEq (dOp oIx (dVar 0) (dC (.int 0))) (dC (.str "load")))) (sRet (dC (.str "memory"))) sNx)
    (sRet (dOp oIx (dB bLst (dCons (dC (.str "reckon")) (dCons (dC (.str "write")) dNil))) (dB bInt (dCons (dOp oIn (dOp oIx (dVar 0) (dC (.int 0))) (dB bLst (dCons (dC (.str "ask")) (dCons (dC (.str "why")) (dCons (dC (.str "where")) dNil))))) dNil))))))
abbrev f__law_known : Fn := fnOf 1 1 b__law_known
def d__law_known : PS := (psSeq (psIf (pT (pOp (qIs false) (pCall p__law_gives (pCons (pVar 0) pNil)) (pC .non))) (psRet (pC .non)) psNx)
    (psSeq (psIf (pT (pOp (qEq false) (pOp qIx (pVar 0) (pC (.int 0))) (pC (.str "load")))) (psRet (pC (.str "memory"))) psNx)
    (psRet (pOp qIx (pL (pO qLst (pCons (pC (.str "reckon")) (pCons (pC (.str "write")) pNil)))) (pB qInt1 (pCons (pOp (qIn false) (pOp qIx (pVar 0) (pC (.int 0))) (pL (pO qLst (pCons (pC (.str "ask")) (pCons (pC (.str "why")) (pCons (pC (.str "where")) pNil)))))) pNil))))))
def p__law_known : PF := pfOf 1 1 d__law_known
theorem a__law_known : Pf f__law_known p__law_known := f_of (show Ps b__law_known d__law_known from (s_seq (s_if (t_e ((e_op d_is ((e_call a__law_gives (a_cons (e_var 0) a_nil))).b (e_non).b)).b) (s_ret e_non) s_nx)
    (s_seq (s_if (t_e ((e_op d_eq ((e_op d_ix ((e_var 0)).b ((e_int _)).b)).b ((e_str _)).b)).b) (s_ret (e_str _)) s_nx)
    (s_ret (e_op d_ix ((e_l (o_lst (a_cons (e_str _) (a_cons (e_str _) a_nil))))).b ((e_b d_int1 (ab_cons ((e_op d_in ((e_op d_ix ((e_var 0)).b ((e_int _)).b)).b ((e_l (o_lst (a_cons (e_str _) (a_cons (e_str _) (a_cons (e_str _) a_nil)))))).b)).b ab_nil))).b)))))
def b__law_whole : DS := (sRet (dAnd (dB (bIsi CTab) (dCons (dVar 0) (dCons (dC (.ty "int")) dNil))) (dAnd (dNot (dB (bIsi CTab) (dCons (dVar 0) (dCons (dC (.ty "bool")) dNil)))) (dOp oEq (dVar 0) (dVar 1)))))
abbrev f__law_whole : Fn := fnOf 2 2 b__law_whole
def d__law_whole : PS := (psRet (pAnd (pB (qIsi CTab) (pCons (pVar 0) (pCons (pC (.ty "int")) pNil))) (pAnd (pNot (pB (qIsi CTab) (pCons (pVar 0) (pCons (pC (.ty "bool")) pNil)))) (pOp (qEq false) (pVar 0) (pVar 1)))))
def p__law_whole : PF := pfOf 2 2 d__law_whole
theorem a__law_whole : Pf f__law_whole p__law_whole := f_of (show Ps b__law_whole d__law_whole from (s_ret (e_and (e_b d_isi (ab_cons ((e_var 0)).b (ab_cons ((e_ty _)).b ab_nil))) (e_and (e_not (e_b d_isi (ab_cons ((e_var 0)).b (ab_cons ((e_ty _)).b ab_nil)))) (e_op d_eq ((e_var 0)).b ((e_var 1)).b)))))
def b__law_gives_right : DS := (sSeq (sSet 2 (dCall f__law_gives (dCons (dVar 1) dNil)))
    (sSeq (sIf (dT (dOp oIs (dVar 2) (dC .non))) (sRet (dAnd (dOp oIs (dMeth tb_gives "gives" (dVar 0) dNil) (dC .non)) (dOp oIs (dMeth tb_known "known" (dVar 0) dNil) (dC .non)))) sNx)
    (sRet (dAnd (dCall f__law_whole (dCons (dMeth tb_gives "gives" (dVar 0) dNil) (dCons (dVar 2) dNil))) (dOp oEq (dMeth tb_known "known" (dVar 0) dNil) (dCall f__law_known (dCons (dVar 1) dNil)))))))
abbrev f__law_gives_right : Fn := fnOf 2 3 b__law_gives_right
def d__law_gives_right : PS := (psSeq (psSet 2 (pCall p__law_gives (pCons (pVar 1) pNil)))
    (psSeq (psIf (pT (pOp (qIs false) (pVar 2) (pC .non))) (psRet (pAnd (pOp (qIs false) (pMeth pt_gives "gives" (pVar 0) pNil) (pC .non)) (pOp (qIs false) (pMeth pt_known "known" (pVar 0) pNil) (pC .non)))) psNx)
    (psRet (pAnd (pCall p__law_whole (pCons (pMeth pt_gives "gives" (pVar 0) pNil) (pCons (pVar 2) pNil))) (pOp (qEq false) (pMeth pt_known "known" (pVar 0) pNil) (pCall p__law_known (pCons (pVar 1) pNil)))))))
def p__law_gives_right : PF := pfOf 2 3 d__law_gives_right
theorem a__law_gives_right : Pf f__law_gives_right p__law_gives_right := f_of (show Ps b__law_gives_right d__law_gives_right from (s_seq (s_set 2 (e_call a__law_gives (a_cons (e_var 1) a_nil)))
    (s_seq (s_if (t_e ((e_op d_is ((e_var 2)).b (e_non).b)).b) (s_ret (e_and (e_op d_is ((e_meth tbd_gives (e_var 0) a_nil)).b (e_non).b) (e_op d_is ((e_meth tbd_known (e_var 0) a_nil)).b (e_non).b))) s_nx)
    (s_ret (e_and (e_call a__law_whole (a_cons (e_meth tbd_gives (e_var 0) a_nil) (a_cons (e_var 2) a_nil))) (e_op d_eq ((e_meth tbd_known (e_var 0) a_nil)).b ((e_call a__law_known (a_cons (e_var 1) a_nil))).b))))))
def b_Row_long : DS := (sRet (dC (.int 1)))
abbrev f_Row_long : Fn := fnOf 1 1 b_Row_long
def d_Row_long : PS := (psRet (pC (.int 1)))
def p_Row_long : PF := pfOf 1 1 d_Row_long
theorem a_Row_long : Pf f_Row_long p_Row_long := f_of (show Ps b_Row_long d_Row_long from (s_ret (e_int _)))
def b_Pair_long : DS := (sRet (dGetI [("mul", 3), ("div", 5), ("rest", 5)] (dFld ["Pair"] "word" (dVar 0)) (dC (.int 1))))
abbrev f_Pair_long : Fn := fnOf 1 1 b_Pair_long
def d_Pair_long : PS := (psRet (pGetI [("mul", 3), ("div", 5), ("rest", 5)] (pFld ["Pair"] "word" (pVar 0)) (pC (.int 1))))
def p_Pair_long : PF := pfOf 1 1 d_Pair_long
theorem a_Pair_long : Pf f_Pair_long p_Pair_long := f_of (show Ps b_Pair_long d_Pair_long from (s_ret (e_getI (e_fld (e_var 0)) (e_int _))))
def tb_long : List (Str × Fn) := [("Aim", f_Row_long), ("Go", f_Row_long), ("Ask", f_Row_long), ("Tell", f_Row_long), ("Why", f_Row_long), ("Where", f_Row_long), ("Pair", f_Pair_long), ("Num", f_Row_long), ("Plus", f_Row_long), ("Load", f_Row_long), ("Store", f_Row_long), ("Jump", f_Row_long), ("Zero", f_Row_long), ("Link", f_Row_long), ("Stop", f_Row_long), ("Home", f_Row_long)]
def pt_long : List (Str × PF) := [("Aim", p_Row_long), ("Go", p_Row_long), ("Ask", p_Row_long), ("Tell", p_Row_long), ("Why", p_Row_long), ("Where", p_Row_long), ("Pair", p_Pair_long), ("Num", p_Row_long), ("Plus", p_Row_long), ("Load", p_Row_long), ("Store", p_Row_long), ("Jump", p_Row_long), ("Zero", p_Row_long), ("Link", p_Row_long), ("Stop", p_Row_long), ("Home", p_Row_long)]
theorem tbd_long : TbD tb_long pt_long := (TbD.cons a_Row_long (TbD.cons a_Row_long (TbD.cons a_Row_long (TbD.cons a_Row_long (TbD.cons a_Row_long (TbD.cons a_Row_long (TbD.cons a_Pair_long (TbD.cons a_Row_long (TbD.cons a_Row_long (TbD.cons a_Row_long (TbD.cons a_Row_long (TbD.cons a_Row_long (TbD.cons a_Row_long (TbD.cons a_Row_long (TbD.cons a_Row_long (TbD.cons a_Row_long TbD.nil))))))))))))))))
def b_Aim_alone : DS := (sRet (dC (.bl true)))
abbrev f_Aim_alone : Fn := fnOf 1 1 b_Aim_alone
def d_Aim_alone : PS := (psRet (pC (.bl true)))
def p_Aim_alone : PF := pfOf 1 1 d_Aim_alone
theorem a_Aim_alone : Pf f_Aim_alone p_Aim_alone := f_of (show Ps b_Aim_alone d_Aim_alone from (s_ret (e_bl _)))
def b_Row_alone : DS := (sRet (dC (.bl false)))
abbrev f_Row_alone : Fn := fnOf 1 1 b_Row_alone
def d_Row_alone : PS := (psRet (pC (.bl false)))
def p_Row_alone : PF := pfOf 1 1 d_Row_alone
theorem a_Row_alone : Pf f_Row_alone p_Row_alone := f_of (show Ps b_Row_alone d_Row_alone from (s_ret (e_bl _)))
def b_Why_alone : DS := (sRet (dC (.bl true)))
abbrev f_Why_alone : Fn := fnOf 1 1 b_Why_alone
def d_Why_alone : PS := (psRet (pC (.bl true)))
def p_Why_alone : PF := pfOf 1 1 d_Why_alone
theorem a_Why_alone : Pf f_Why_alone p_Why_alone := f_of (show Ps b_Why_alone d_Why_alone from (s_ret (e_bl _)))
def b_Where_alone : DS := (sRet (dC (.bl true)))
abbrev f_Where_alone : Fn := fnOf 1 1 b_Where_alone
def d_Where_alone : PS := (psRet (pC (.bl true)))
def p_Where_alone : PF := pfOf 1 1 d_Where_alone
theorem a_Where_alone : Pf f_Where_alone p_Where_alone := f_of (show Ps b_Where_alone d_Where_alone from (s_ret (e_bl _)))
def b_Home_alone : DS := (sRet (dC (.bl true)))
abbrev f_Home_alone : Fn := fnOf 1 1 b_Home_alone
def d_Home_alone : PS := (psRet (pC (.bl true)))
def p_Home_alone : PF := pfOf 1 1 d_Home_alone
theorem a_Home_alone : Pf f_Home_alone p_Home_alone := f_of (show Ps b_Home_alone d_Home_alone from (s_ret (e_bl _)))
def tb_alone : List (Str × Fn) := [("Aim", f_Aim_alone), ("Go", f_Row_alone), ("Ask", f_Row_alone), ("Tell", f_Row_alone), ("Why", f_Why_alone), ("Where", f_Where_alone), ("Pair", f_Row_alone), ("Num", f_Row_alone), ("Plus", f_Row_alone), ("Load", f_Row_alone), ("Store", f_Row_alone), ("Jump", f_Row_alone), ("Zero", f_Row_alone), ("Link", f_Row_alone), ("Stop", f_Row_alone), ("Home", f_Home_alone)]
def pt_alone : List (Str × PF) := [("Aim", p_Aim_alone), ("Go", p_Row_alone), ("Ask", p_Row_alone), ("Tell", p_Row_alone), ("Why", p_Why_alone), ("Where", p_Where_alone), ("Pair", p_Row_alone), ("Num", p_Row_alone), ("Plus", p_Row_alone), ("Load", p_Row_alone), ("Store", p_Row_alone), ("Jump", p_Row_alone), ("Zero", p_Row_alone), ("Link", p_Row_alone), ("Stop", p_Row_alone), ("Home", p_Home_alone)]
theorem tbd_alone : TbD tb_alone pt_alone := (TbD.cons a_Aim_alone (TbD.cons a_Row_alone (TbD.cons a_Row_alone (TbD.cons a_Row_alone (TbD.cons a_Why_alone (TbD.cons a_Where_alone (TbD.cons a_Row_alone (TbD.cons a_Row_alone (TbD.cons a_Row_alone (TbD.cons a_Row_alone (TbD.cons a_Row_alone (TbD.cons a_Row_alone (TbD.cons a_Row_alone (TbD.cons a_Row_alone (TbD.cons a_Row_alone (TbD.cons a_Home_alone TbD.nil))))))))))))))))
def b__law_right : DS := (sSeq (sIf (tAnd (dT (dOp oEq (dVar 2) (dC (.int 1)))) (tNot (dT (dCall f__law_same (dCons (dMeth tb_reads "reads" (dVar 0) dNil) (dCons (dCall f__law_reads (dCons (dVar 1) dNil)) dNil)))))) (sRet (dC (.bl false))) sNx)
    (sSeq (sIf (tOr (tNot (dT (dCall f__law_gives_right (dCons (dVar 0) (dCons (dVar 1) dNil))))) (tOr (tNot (dT (dCall f__law_same (dCons (dMeth tb_told "told" (dVar 0) dNil) (dCons (dVar 1) dNil))))) (tNot (dT (dCall f__law_fields (dCons (dVar 0) (dCons (dVar 1) dNil))))))) (sRet (dC (.bl false))) sNx)
    (sSeq (sSet 3 (dOp oIx (dB bLst (dCons (dC (.int 1)) (dCons (dC (.int 3)) (dCons (dC (.int 5)) dNil)))) (dOp oAdd (dB bInt (dCons (dOp oEq (dOp oIx (dVar 1) (dC (.int 0))) (dC (.str "mul"))) dNil)) (dOp oMul (dC (.int 2)) (dB bInt (dCons (dOp oIn (dOp oIx (dVar 1) (dC (.int 0))) (dB bLst (dCons (dC (.str "div")) (dCons (dC (.str "rest")) dNil)))) dNil))))))
    (sSeq (sIf (tOr (tNot (dT (dCall f__law_whole (dCons (dMeth tb_long "long" (dVar 0) dNil) (dCons (dVar 3) dNil))))) (tNot (dT (dCall f__law_same (dCons (dMeth tb_reads "reads" (dVar 0) dNil) (dCons (dCall f__law_reads (dCons (dVar 1) dNil)) dNil)))))) (sRet (dC (.bl false))) sNx)
    (sSeq (sSet 4 (dMeth tb_alone "alone" (dVar 0) dNil))
    (sRet (dAnd (dB (bIsi CTab) (dCons (dVar 4) (dCons (dC (.ty "bool")) dNil))) (dOp oEq (dVar 4) (dOp oIn (dOp oIx (dVar 1) (dC (.int 0))) (dB bLst (dCons (dC (.str "why")) (dCons (dC (.str "where")) (dCons (dC (.str "aim")) (dCons (dC (.str "home")) dNil))))))))))))))
abbrev f__law_right : Fn := fnOf 3 5 b__law_right
def d__law_right : PS := (psSeq (psIf (ptAnd (pT (pOp (qEq false) (pVar 2) (pC (.int 1)))) (ptNot (pT (pCall p__law_same (pCons (pMeth pt_reads "reads" (pVar 0) pNil) (pCons (pCall p__law_reads (pCons (pVar 1) pNil)) pNil)))))) (psRet (pC (.bl false))) psNx)
    (psSeq (psIf (ptOr (ptNot (pT (pCall p__law_gives_right (pCons (pVar 0) (pCons (pVar 1) pNil))))) (ptOr (ptNot (pT (pCall p__law_same (pCons (pMeth pt_told "told" (pVar 0) pNil) (pCons (pVar 1) pNil))))) (ptNot (pT (pCall p__law_fields (pCons (pVar 0) (pCons (pVar 1) pNil))))))) (psRet (pC (.bl false))) psNx)
    (psSeq (psSet 3 (pOp qIx (pL (pO qLst (pCons (pC (.int 1)) (pCons (pC (.int 3)) (pCons (pC (.int 5)) pNil))))) (pOp qAdd (pB qInt1 (pCons (pOp (qEq false) (pOp qIx (pVar 1) (pC (.int 0))) (pC (.str "mul"))) pNil)) (pOp qMul (pC (.int 2)) (pB qInt1 (pCons (pOp (qIn false) (pOp qIx (pVar 1) (pC (.int 0))) (pL (pO qLst (pCons (pC (.str "div")) (pCons (pC (.str "rest")) pNil))))) pNil))))))
    (psSeq (psIf (ptOr (ptNot (pT (pCall p__law_whole (pCons (pMeth pt_long "long" (pVar 0) pNil) (pCons (pVar 3) pNil))))) (ptNot (pT (pCall p__law_same (pCons (pMeth pt_reads "reads" (pVar 0) pNil) (pCons (pCall p__law_reads (pCons (pVar 1) pNil)) pNil)))))) (psRet (pC (.bl false))) psNx)
    (psSeq (psSet 4 (pMeth pt_alone "alone" (pVar 0) pNil))
    (psRet (pAnd (pB (qIsi CTab) (pCons (pVar 4) (pCons (pC (.ty "bool")) pNil))) (pOp (qEq false) (pVar 4) (pOp (qIn false) (pOp qIx (pVar 1) (pC (.int 0))) (pL (pO qLst (pCons (pC (.str "why")) (pCons (pC (.str "where")) (pCons (pC (.str "aim")) (pCons (pC (.str "home")) pNil)))))))))))))))
def p__law_right : PF := pfOf 3 5 d__law_right
theorem a__law_right : Pf f__law_right p__law_right := f_of (show Ps b__law_right d__law_right from (s_seq (s_if (t_and (t_e ((e_op d_eq ((e_var 2)).b ((e_int _)).b)).b) (t_not (t_e ((e_call a__law_same (a_cons (e_meth tbd_reads (e_var 0) a_nil) (a_cons (e_call a__law_reads (a_cons (e_var 1) a_nil)) a_nil)))).b))) (s_ret (e_bl _)) s_nx)
    (s_seq (s_if (t_or (t_not (t_e ((e_call a__law_gives_right (a_cons (e_var 0) (a_cons (e_var 1) a_nil)))).b)) (t_or (t_not (t_e ((e_call a__law_same (a_cons (e_meth tbd_told (e_var 0) a_nil) (a_cons (e_var 1) a_nil)))).b)) (t_not (t_e ((e_call a__law_fields (a_cons (e_var 0) (a_cons (e_var 1) a_nil)))).b)))) (s_ret (e_bl _)) s_nx)
    (s_seq (s_set 3 (e_op d_ix ((e_l (o_lst (a_cons (e_int _) (a_cons (e_int _) (a_cons (e_int _) a_nil)))))).b ((e_op d_add ((e_b d_int1 (ab_cons ((e_op d_eq ((e_op d_ix ((e_var 1)).b ((e_int _)).b)).b ((e_str _)).b)).b ab_nil))).b ((e_op d_mul ((e_int _)).b ((e_b d_int1 (ab_cons ((e_op d_in ((e_op d_ix ((e_var 1)).b ((e_int _)).b)).b ((e_l (o_lst (a_cons (e_str _) (a_cons (e_str _) a_nil))))).b)).b ab_nil))).b)).b)).b))
    (s_seq (s_if (t_or (t_not (t_e ((e_call a__law_whole (a_cons (e_meth tbd_long (e_var 0) a_nil) (a_cons (e_var 3) a_nil)))).b)) (t_not (t_e ((e_call a__law_same (a_cons (e_meth tbd_reads (e_var 0) a_nil) (a_cons (e_call a__law_reads (a_cons (e_var 1) a_nil)) a_nil)))).b))) (s_ret (e_bl _)) s_nx)
    (s_seq (s_set 4 (e_meth tbd_alone (e_var 0) a_nil))
    (s_ret (e_and (e_b d_isi (ab_cons ((e_var 4)).b (ab_cons ((e_ty _)).b ab_nil))) (e_op d_eq ((e_var 4)).b ((e_op d_in ((e_op d_ix ((e_var 1)).b ((e_int _)).b)).b ((e_l (o_lst (a_cons (e_str _) (a_cons (e_str _) (a_cons (e_str _) (a_cons (e_str _) a_nil))))))).b)).b)))))))))
def b_law : DS := (sSeq (sFor (iRange1 (dB bMax2 (dCons (dC (.int 1)) (dCons (dB bMin2 (dCons (dB bLen (dCons (dVar 0) dNil)) (dCons (dC (.int 20)) dNil))) dNil)))) (gName 1) (sSeq (sSet 2 (dCall f__law_told_by (dCons (dCall f__law_cell (dCons (dVar 0) (dCons (dVar 1) dNil))) dNil)))
    (sSeq (sSet 3 (dCall f__law_made (dCons (dVar 2) dNil)))
    (sSeq (sIf (tNot (dT (dB (bIsi CTab) (dCons (dVar 3) (dCons (dC (.gl "Row")) dNil))))) (sRet (dC (.bl false))) sNx)
    (sSeq (sSet 4 (dOp oMod (dCall f__law_cell (dCons (dVar 0) (dCons (dOp oAdd (dC (.int 100)) (dVar 1)) dNil))) (dC (.int 2))))
    (sIf (tOr (tNot (dT (dCall f__law_right (dCons (dVar 3) (dCons (dVar 2) (dCons (dVar 4) dNil)))))) (tNot (dT (dCall f__law_right (dCons (dVar 3) (dCons (dVar 2) (dCons (dOp oSub (dC (.int 1)) (dVar 4)) dNil))))))) (sRet (dC (.bl false))) sNx))))))
    (sRet (dC (.bl true))))
abbrev f_law : Fn := fnOf 1 5 b_law
def l1_law : PS := (psSeq (psSet 2 (pCall p__law_told_by (pCons (pCall p__law_cell (pCons (pVar 0) (pCons (pVar 1) pNil))) pNil)))
    (psSeq (psSet 3 (pCall p__law_made (pCons (pVar 2) pNil)))
    (psSeq (psIf (ptNot (pT (pB (qIsi CTab) (pCons (pVar 3) (pCons (pC (.gl "Row")) pNil))))) (psRet (pC (.bl false))) psNx)
    (psSeq (psSet 4 (pOp qMod (pCall p__law_cell (pCons (pVar 0) (pCons (pOp qAdd (pC (.int 100)) (pVar 1)) pNil))) (pC (.int 2))))
    (psIf (ptOr (ptNot (pT (pCall p__law_right (pCons (pVar 3) (pCons (pVar 2) (pCons (pVar 4) pNil)))))) (ptNot (pT (pCall p__law_right (pCons (pVar 3) (pCons (pVar 2) (pCons (pOp qSub (pC (.int 1)) (pVar 4)) pNil))))))) (psRet (pC (.bl false))) psNx)))))
def d_law : PS := (psSeq (psFor (piRange1 (pB qMax2 (pCons (pC (.int 1)) (pCons (pB qMin2 (pCons (pB qLen (pCons (pVar 0) pNil)) (pCons (pC (.int 20)) pNil))) pNil)))) (pgName 1) l1_law)
    (psRet (pC (.bl true))))
def p_law : PF := pfOf 1 5 d_law
theorem a_law : Pf f_law p_law := f_of (show Ps b_law d_law from (s_seq (s_for (i_range1 (e_b d_max2 (ab_cons ((e_int _)).b (ab_cons ((e_b d_min2 (ab_cons ((e_b d_len (ab_cons ((e_var 0)).b ab_nil))).b (ab_cons ((e_int _)).b ab_nil)))).b ab_nil)))) (g_name 1) (s_seq (s_set 2 (e_call a__law_told_by (a_cons (e_call a__law_cell (a_cons (e_var 0) (a_cons (e_var 1) a_nil))) a_nil)))
    (s_seq (s_set 3 (e_call a__law_made (a_cons (e_var 2) a_nil)))
    (s_seq (s_if (t_not (t_e ((e_b d_isi (ab_cons ((e_var 3)).b (ab_cons ((e_gl _)).b ab_nil)))).b)) (s_ret (e_bl _)) s_nx)
    (s_seq (s_set 4 (e_op d_mod ((e_call a__law_cell (a_cons (e_var 0) (a_cons (e_op d_add ((e_int _)).b ((e_var 1)).b) a_nil)))).b ((e_int _)).b))
    (s_if (t_or (t_not (t_e ((e_call a__law_right (a_cons (e_var 3) (a_cons (e_var 2) (a_cons (e_var 4) a_nil))))).b)) (t_not (t_e ((e_call a__law_right (a_cons (e_var 3) (a_cons (e_var 2) (a_cons (e_op d_sub ((e_int _)).b ((e_var 4)).b) a_nil))))).b))) (s_ret (e_bl _)) s_nx))))))
    (s_ret (e_bl _))))
end K12


set_option Elab.async false
set_option linter.all false
set_option maxRecDepth 100000
set_option maxHeartbeats 4000000
namespace K12
open PySem L2
def top (i : Nat) : Stmt := PySem.Challenge.pw_rowmill_k12_rows_told.main.body.getD i (.Pass ⟨0, 0, 0, 0⟩)
abbrev s__law_pairs : Stmt := top 26
theorem sc__law_pairs : FnScope [] [] (defScope s__law_pairs) := ⟨rfl, rfl, rfl, by decide +kernel, rfl, by decide +kernel, by decide +kernel⟩
abbrev s__law_told_by : Stmt := top 27
theorem sc__law_told_by : FnScope ["_law_cell_here", "_law_kind", "_law_a", "_law_b", "_law_n"] ["_law_cell_here"] (defScope s__law_told_by) := ⟨rfl, rfl, rfl, by decide +kernel, rfl, by decide +kernel, by decide +kernel⟩
abbrev s__law_cell : Stmt := top 25
theorem sc__law_cell : FnScope ["_law_script", "_law_k", "_law_cell_here", "_law_more"] ["_law_script", "_law_k"] (defScope s__law_cell) := ⟨rfl, rfl, rfl, by decide +kernel, rfl, by decide +kernel, by decide +kernel⟩
abbrev s_Pair_init : Stmt := inClass (top 9) 0
theorem sc_Pair_init : FnScope ["self", "word", "a", "b", "c"] ["self", "word", "a", "b", "c"] (defScope s_Pair_init) := ⟨rfl, rfl, rfl, by decide +kernel, rfl, by decide +kernel, by decide +kernel⟩
abbrev s_Num_init : Stmt := inClass (top 7) 0
theorem sc_Num_init : FnScope ["self", "a", "n"] ["self", "a", "n"] (defScope s_Num_init) := ⟨rfl, rfl, rfl, by decide +kernel, rfl, by decide +kernel, by decide +kernel⟩
abbrev s_Plus_init : Stmt := inClass (top 8) 0
theorem sc_Plus_init : FnScope ["self", "a", "b", "n"] ["self", "a", "b", "n"] (defScope s_Plus_init) := ⟨rfl, rfl, rfl, by decide +kernel, rfl, by decide +kernel, by decide +kernel⟩
abbrev s_Load_init : Stmt := inClass (top 10) 0
theorem sc_Load_init : FnScope ["self", "a", "b", "n"] ["self", "a", "b", "n"] (defScope s_Load_init) := ⟨rfl, rfl, rfl, by decide +kernel, rfl, by decide +kernel, by decide +kernel⟩
abbrev s_Store_init : Stmt := inClass (top 11) 0
theorem sc_Store_init : FnScope ["self", "a", "b", "n"] ["self", "a", "b", "n"] (defScope s_Store_init) := ⟨rfl, rfl, rfl, by decide +kernel, rfl, by decide +kernel, by decide +kernel⟩
abbrev s_Jump_init : Stmt := inClass (top 13) 0
theorem sc_Jump_init : FnScope ["self", "n"] ["self", "n"] (defScope s_Jump_init) := ⟨rfl, rfl, rfl, by decide +kernel, rfl, by decide +kernel, by decide +kernel⟩
abbrev s_Zero_init : Stmt := inClass (top 14) 0
theorem sc_Zero_init : FnScope ["self", "a", "n"] ["self", "a", "n"] (defScope s_Zero_init) := ⟨rfl, rfl, rfl, by decide +kernel, rfl, by decide +kernel, by decide +kernel⟩
abbrev s_Link_init : Stmt := inClass (top 15) 0
theorem sc_Link_init : FnScope ["self", "a", "n"] ["self", "a", "n"] (defScope s_Link_init) := ⟨rfl, rfl, rfl, by decide +kernel, rfl, by decide +kernel, by decide +kernel⟩
abbrev s_Go_init : Stmt := inClass (top 16) 0
theorem sc_Go_init : FnScope ["self", "a"] ["self", "a"] (defScope s_Go_init) := ⟨rfl, rfl, rfl, by decide +kernel, rfl, by decide +kernel, by decide +kernel⟩
abbrev s_Ask_init : Stmt := inClass (top 18) 0
theorem sc_Ask_init : FnScope ["self", "a"] ["self", "a"] (defScope s_Ask_init) := ⟨rfl, rfl, rfl, by decide +kernel, rfl, by decide +kernel, by decide +kernel⟩
abbrev s_Tell_init : Stmt := inClass (top 19) 0
theorem sc_Tell_init : FnScope ["self", "a"] ["self", "a"] (defScope s_Tell_init) := ⟨rfl, rfl, rfl, by decide +kernel, rfl, by decide +kernel, by decide +kernel⟩
abbrev s_Why_init : Stmt := inClass (top 20) 0
theorem sc_Why_init : FnScope ["self", "a"] ["self", "a"] (defScope s_Why_init) := ⟨rfl, rfl, rfl, by decide +kernel, rfl, by decide +kernel, by decide +kernel⟩
abbrev s_Where_init : Stmt := inClass (top 21) 0
theorem sc_Where_init : FnScope ["self", "a"] ["self", "a"] (defScope s_Where_init) := ⟨rfl, rfl, rfl, by decide +kernel, rfl, by decide +kernel, by decide +kernel⟩
abbrev s_Aim_init : Stmt := inClass (top 22) 0
theorem sc_Aim_init : FnScope ["self", "a"] ["self", "a"] (defScope s_Aim_init) := ⟨rfl, rfl, rfl, by decide +kernel, rfl, by decide +kernel, by decide +kernel⟩
abbrev s__law_box_row : Stmt := top 28
theorem sc__law_box_row : FnScope ["_law_word", "_law_a"] ["_law_word", "_law_a"] (defScope s__law_box_row) := ⟨rfl, rfl, rfl, by decide +kernel, rfl, by decide +kernel, by decide +kernel⟩
abbrev s__law_made : Stmt := top 29
theorem sc__law_made : FnScope ["_law_told", "_law_word"] ["_law_told"] (defScope s__law_made) := ⟨rfl, rfl, rfl, by decide +kernel, rfl, by decide +kernel, by decide +kernel⟩
abbrev s__law_same : Stmt := top 31
theorem sc__law_same : FnScope ["_law_found", "_law_due"] ["_law_found", "_law_due"] (defScope s__law_same) := ⟨rfl, rfl, rfl, by decide +kernel, rfl, by decide +kernel, by decide +kernel⟩
abbrev s_Aim_reads : Stmt := inClass (top 22) 2
theorem sc_Aim_reads : FnScope ["self"] ["self"] (defScope s_Aim_reads) := ⟨rfl, rfl, rfl, by decide +kernel, rfl, by decide +kernel, by decide +kernel⟩
abbrev s_Go_reads : Stmt := inClass (top 16) 2
theorem sc_Go_reads : FnScope ["self"] ["self"] (defScope s_Go_reads) := ⟨rfl, rfl, rfl, by decide +kernel, rfl, by decide +kernel, by decide +kernel⟩
abbrev s_Row_reads : Stmt := inClass (top 5) 1
theorem sc_Row_reads : FnScope ["self"] ["self"] (defScope s_Row_reads) := ⟨rfl, rfl, rfl, by decide +kernel, rfl, by decide +kernel, by decide +kernel⟩
abbrev s_Tell_reads : Stmt := inClass (top 19) 2
theorem sc_Tell_reads : FnScope ["self"] ["self"] (defScope s_Tell_reads) := ⟨rfl, rfl, rfl, by decide +kernel, rfl, by decide +kernel, by decide +kernel⟩
abbrev s_Pair_reads : Stmt := inClass (top 9) 2
theorem sc_Pair_reads : FnScope ["self"] ["self"] (defScope s_Pair_reads) := ⟨rfl, rfl, rfl, by decide +kernel, rfl, by decide +kernel, by decide +kernel⟩
abbrev s_Plus_reads : Stmt := inClass (top 8) 2
theorem sc_Plus_reads : FnScope ["self"] ["self"] (defScope s_Plus_reads) := ⟨rfl, rfl, rfl, by decide +kernel, rfl, by decide +kernel, by decide +kernel⟩
abbrev s_Load_reads : Stmt := inClass (top 10) 2
theorem sc_Load_reads : FnScope ["self"] ["self"] (defScope s_Load_reads) := ⟨rfl, rfl, rfl, by decide +kernel, rfl, by decide +kernel, by decide +kernel⟩
abbrev s_Store_reads : Stmt := inClass (top 11) 2
theorem sc_Store_reads : FnScope ["self"] ["self"] (defScope s_Store_reads) := ⟨rfl, rfl, rfl, by decide +kernel, rfl, by decide +kernel, by decide +kernel⟩
abbrev s_Zero_reads : Stmt := inClass (top 14) 2
theorem sc_Zero_reads : FnScope ["self"] ["self"] (defScope s_Zero_reads) := ⟨rfl, rfl, rfl, by decide +kernel, rfl, by decide +kernel, by decide +kernel⟩
abbrev s__law_reads : Stmt := top 32
theorem sc__law_reads : FnScope ["_law_told", "_law_word"] ["_law_told"] (defScope s__law_reads) := ⟨rfl, rfl, rfl, by decide +kernel, rfl, by decide +kernel, by decide +kernel⟩
abbrev s__law_fields : Stmt := top 36
theorem sc__law_fields : FnScope ["_law_row", "_law_told", "_law_word"] ["_law_row", "_law_told"] (defScope s__law_fields) := ⟨rfl, rfl, rfl, by decide +kernel, rfl, by decide +kernel, by decide +kernel⟩
abbrev s_Aim_told : Stmt := inClass (top 22) 1
theorem sc_Aim_told : FnScope ["self"] ["self"] (defScope s_Aim_told) := ⟨rfl, rfl, rfl, by decide +kernel, rfl, by decide +kernel, by decide +kernel⟩
abbrev s_Go_told : Stmt := inClass (top 16) 1
theorem sc_Go_told : FnScope ["self"] ["self"] (defScope s_Go_told) := ⟨rfl, rfl, rfl, by decide +kernel, rfl, by decide +kernel, by decide +kernel⟩
abbrev s_Ask_told : Stmt := inClass (top 18) 1
theorem sc_Ask_told : FnScope ["self"] ["self"] (defScope s_Ask_told) := ⟨rfl, rfl, rfl, by decide +kernel, rfl, by decide +kernel, by decide +kernel⟩
abbrev s_Tell_told : Stmt := inClass (top 19) 1
theorem sc_Tell_told : FnScope ["self"] ["self"] (defScope s_Tell_told) := ⟨rfl, rfl, rfl, by decide +kernel, rfl, by decide +kernel, by decide +kernel⟩
abbrev s_Why_told : Stmt := inClass (top 20) 1
theorem sc_Why_told : FnScope ["self"] ["self"] (defScope s_Why_told) := ⟨rfl, rfl, rfl, by decide +kernel, rfl, by decide +kernel, by decide +kernel⟩
abbrev s_Where_told : Stmt := inClass (top 21) 1
theorem sc_Where_told : FnScope ["self"] ["self"] (defScope s_Where_told) := ⟨rfl, rfl, rfl, by decide +kernel, rfl, by decide +kernel, by decide +kernel⟩
abbrev s_Pair_told : Stmt := inClass (top 9) 1
theorem sc_Pair_told : FnScope ["self"] ["self"] (defScope s_Pair_told) := ⟨rfl, rfl, rfl, by decide +kernel, rfl, by decide +kernel, by decide +kernel⟩
abbrev s_Num_told : Stmt := inClass (top 7) 1
theorem sc_Num_told : FnScope ["self"] ["self"] (defScope s_Num_told) := ⟨rfl, rfl, rfl, by decide +kernel, rfl, by decide +kernel, by decide +kernel⟩
abbrev s_Plus_told : Stmt := inClass (top 8) 1
theorem sc_Plus_told : FnScope ["self"] ["self"] (defScope s_Plus_told) := ⟨rfl, rfl, rfl, by decide +kernel, rfl, by decide +kernel, by decide +kernel⟩
abbrev s_Load_told : Stmt := inClass (top 10) 1
theorem sc_Load_told : FnScope ["self"] ["self"] (defScope s_Load_told) := ⟨rfl, rfl, rfl, by decide +kernel, rfl, by decide +kernel, by decide +kernel⟩
abbrev s_Store_told : Stmt := inClass (top 11) 1
theorem sc_Store_told : FnScope ["self"] ["self"] (defScope s_Store_told) := ⟨rfl, rfl, rfl, by decide +kernel, rfl, by decide +kernel, by decide +kernel⟩
abbrev s_Jump_told : Stmt := inClass (top 13) 1
theorem sc_Jump_told : FnScope ["self"] ["self"] (defScope s_Jump_told) := ⟨rfl, rfl, rfl, by decide +kernel, rfl, by decide +kernel, by decide +kernel⟩
abbrev s_Zero_told : Stmt := inClass (top 14) 1
theorem sc_Zero_told : FnScope ["self"] ["self"] (defScope s_Zero_told) := ⟨rfl, rfl, rfl, by decide +kernel, rfl, by decide +kernel, by decide +kernel⟩
abbrev s_Link_told : Stmt := inClass (top 15) 1
theorem sc_Link_told : FnScope ["self"] ["self"] (defScope s_Link_told) := ⟨rfl, rfl, rfl, by decide +kernel, rfl, by decide +kernel, by decide +kernel⟩
abbrev s_Stop_told : Stmt := inClass (top 6) 0
theorem sc_Stop_told : FnScope ["self"] ["self"] (defScope s_Stop_told) := ⟨rfl, rfl, rfl, by decide +kernel, rfl, by decide +kernel, by decide +kernel⟩
abbrev s_Home_told : Stmt := inClass (top 23) 0
theorem sc_Home_told : FnScope ["self"] ["self"] (defScope s_Home_told) := ⟨rfl, rfl, rfl, by decide +kernel, rfl, by decide +kernel, by decide +kernel⟩
abbrev s__law_gives : Stmt := top 33
theorem sc__law_gives : FnScope ["_law_told"] ["_law_told"] (defScope s__law_gives) := ⟨rfl, rfl, rfl, by decide +kernel, rfl, by decide +kernel, by decide +kernel⟩
abbrev s_known_at : Stmt := top 4
theorem sc_known_at : FnScope ["station", "box"] ["station", "box"] (defScope s_known_at) := ⟨rfl, rfl, rfl, by decide +kernel, rfl, by decide +kernel, by decide +kernel⟩
abbrev s_Row_gives : Stmt := inClass (top 5) 2
theorem sc_Row_gives : FnScope ["self"] ["self"] (defScope s_Row_gives) := ⟨rfl, rfl, rfl, by decide +kernel, rfl, by decide +kernel, by decide +kernel⟩
abbrev s_given_box : Stmt := top 3
theorem sc_given_box : FnScope ["box"] ["box"] (defScope s_given_box) := ⟨rfl, rfl, rfl, by decide +kernel, rfl, by decide +kernel, by decide +kernel⟩
abbrev s_Ask_gives : Stmt := inClass (top 18) 2
theorem sc_Ask_gives : FnScope ["self"] ["self"] (defScope s_Ask_gives) := ⟨rfl, rfl, rfl, by decide +kernel, rfl, by decide +kernel, by decide +kernel⟩
abbrev s_Why_gives : Stmt := inClass (top 20) 2
theorem sc_Why_gives : FnScope ["self"] ["self"] (defScope s_Why_gives) := ⟨rfl, rfl, rfl, by decide +kernel, rfl, by decide +kernel, by decide +kernel⟩
abbrev s_Where_gives : Stmt := inClass (top 21) 2
theorem sc_Where_gives : FnScope ["self"] ["self"] (defScope s_Where_gives) := ⟨rfl, rfl, rfl, by decide +kernel, rfl, by decide +kernel, by decide +kernel⟩
abbrev s_Pair_gives : Stmt := inClass (top 9) 3
theorem sc_Pair_gives : FnScope ["self"] ["self"] (defScope s_Pair_gives) := ⟨rfl, rfl, rfl, by decide +kernel, rfl, by decide +kernel, by decide +kernel⟩
abbrev s_Num_gives : Stmt := inClass (top 7) 2
theorem sc_Num_gives : FnScope ["self"] ["self"] (defScope s_Num_gives) := ⟨rfl, rfl, rfl, by decide +kernel, rfl, by decide +kernel, by decide +kernel⟩
abbrev s_Plus_gives : Stmt := inClass (top 8) 3
theorem sc_Plus_gives : FnScope ["self"] ["self"] (defScope s_Plus_gives) := ⟨rfl, rfl, rfl, by decide +kernel, rfl, by decide +kernel, by decide +kernel⟩
abbrev s_Load_gives : Stmt := inClass (top 10) 3
theorem sc_Load_gives : FnScope ["self"] ["self"] (defScope s_Load_gives) := ⟨rfl, rfl, rfl, by decide +kernel, rfl, by decide +kernel, by decide +kernel⟩
abbrev s_Link_gives : Stmt := inClass (top 15) 2
theorem sc_Link_gives : FnScope ["self"] ["self"] (defScope s_Link_gives) := ⟨rfl, rfl, rfl, by decide +kernel, rfl, by decide +kernel, by decide +kernel⟩
abbrev s_Row_known : Stmt := inClass (top 5) 3
theorem sc_Row_known : FnScope ["self"] ["self"] (defScope s_Row_known) := ⟨rfl, rfl, rfl, by decide +kernel, rfl, by decide +kernel, by decide +kernel⟩
abbrev s_Ask_known : Stmt := inClass (top 18) 3
theorem sc_Ask_known : FnScope ["self"] ["self"] (defScope s_Ask_known) := ⟨rfl, rfl, rfl, by decide +kernel, rfl, by decide +kernel, by decide +kernel⟩
abbrev s_Why_known : Stmt := inClass (top 20) 3
theorem sc_Why_known : FnScope ["self"] ["self"] (defScope s_Why_known) := ⟨rfl, rfl, rfl, by decide +kernel, rfl, by decide +kernel, by decide +kernel⟩
abbrev s_Where_known : Stmt := inClass (top 21) 3
theorem sc_Where_known : FnScope ["self"] ["self"] (defScope s_Where_known) := ⟨rfl, rfl, rfl, by decide +kernel, rfl, by decide +kernel, by decide +kernel⟩
abbrev s_Load_known : Stmt := inClass (top 10) 4
theorem sc_Load_known : FnScope ["self"] ["self"] (defScope s_Load_known) := ⟨rfl, rfl, rfl, by decide +kernel, rfl, by decide +kernel, by decide +kernel⟩
abbrev s__law_known : Stmt := top 34
theorem sc__law_known : FnScope ["_law_told"] ["_law_told"] (defScope s__law_known) := ⟨rfl, rfl, rfl, by decide +kernel, rfl, by decide +kernel, by decide +kernel⟩
abbrev s__law_whole : Stmt := top 30
theorem sc__law_whole : FnScope ["_law_found", "_law_due"] ["_law_found", "_law_due"] (defScope s__law_whole) := ⟨rfl, rfl, rfl, by decide +kernel, rfl, by decide +kernel, by decide +kernel⟩
abbrev s__law_gives_right : Stmt := top 35
theorem sc__law_gives_right : FnScope ["_law_row", "_law_told", "_law_due"] ["_law_row", "_law_told"] (defScope s__law_gives_right) := ⟨rfl, rfl, rfl, by decide +kernel, rfl, by decide +kernel, by decide +kernel⟩
abbrev s_Row_long : Stmt := inClass (top 5) 5
theorem sc_Row_long : FnScope ["self"] ["self"] (defScope s_Row_long) := ⟨rfl, rfl, rfl, by decide +kernel, rfl, by decide +kernel, by decide +kernel⟩
abbrev s_Pair_long : Stmt := inClass (top 9) 4
theorem sc_Pair_long : FnScope ["self"] ["self"] (defScope s_Pair_long) := ⟨rfl, rfl, rfl, by decide +kernel, rfl, by decide +kernel, by decide +kernel⟩
abbrev s_Aim_alone : Stmt := inClass (top 22) 3
theorem sc_Aim_alone : FnScope ["self"] ["self"] (defScope s_Aim_alone) := ⟨rfl, rfl, rfl, by decide +kernel, rfl, by decide +kernel, by decide +kernel⟩
abbrev s_Row_alone : Stmt := inClass (top 5) 4
theorem sc_Row_alone : FnScope ["self"] ["self"] (defScope s_Row_alone) := ⟨rfl, rfl, rfl, by decide +kernel, rfl, by decide +kernel, by decide +kernel⟩
abbrev s_Why_alone : Stmt := inClass (top 20) 4
theorem sc_Why_alone : FnScope ["self"] ["self"] (defScope s_Why_alone) := ⟨rfl, rfl, rfl, by decide +kernel, rfl, by decide +kernel, by decide +kernel⟩
abbrev s_Where_alone : Stmt := inClass (top 21) 4
theorem sc_Where_alone : FnScope ["self"] ["self"] (defScope s_Where_alone) := ⟨rfl, rfl, rfl, by decide +kernel, rfl, by decide +kernel, by decide +kernel⟩
abbrev s_Home_alone : Stmt := inClass (top 23) 1
theorem sc_Home_alone : FnScope ["self"] ["self"] (defScope s_Home_alone) := ⟨rfl, rfl, rfl, by decide +kernel, rfl, by decide +kernel, by decide +kernel⟩
abbrev s__law_right : Stmt := top 37
theorem sc__law_right : FnScope ["_law_row", "_law_told", "_law_turn", "_law_long", "_law_alone"] ["_law_row", "_law_told", "_law_turn"] (defScope s__law_right) := ⟨rfl, rfl, rfl, by decide +kernel, rfl, by decide +kernel, by decide +kernel⟩
abbrev s_law : Stmt := top 38
theorem sc_law : FnScope ["_law_script", "_law_k", "_law_told", "_law_row", "_law_turn"] ["_law_script"] (defScope s_law) := ⟨rfl, rfl, rfl, by decide +kernel, rfl, by decide +kernel, by decide +kernel⟩
structure Txt (w : World) (K : PySem.W.Frag) (γ : Str → Addr) (mg : Str → Option Value) : Prop where
  z_bool : mg "bool" = none
  z_int : mg "int" = none
  z_isinstance : mg "isinstance" = none
  z_len : mg "len" = none
  z_max : mg "max" = none
  z_min : mg "min" = none
  z_range : mg "range" = none
  z_tuple : mg "tuple" = none
  isi : IsiOk K γ CTab
  cls_Aim : Cls K (γ "Aim")
  mk_Aim : MkC K mg "Aim" (γ "Aim")
  cls_Go : Cls K (γ "Go")
  mk_Go : MkC K mg "Go" (γ "Go")
  cls_Ask : Cls K (γ "Ask")
  mk_Ask : MkC K mg "Ask" (γ "Ask")
  cls_Tell : Cls K (γ "Tell")
  mk_Tell : MkC K mg "Tell" (γ "Tell")
  cls_Why : Cls K (γ "Why")
  mk_Why : MkC K mg "Why" (γ "Why")
  cls_Where : Cls K (γ "Where")
  mk_Where : MkC K mg "Where" (γ "Where")
  cls_Pair : Cls K (γ "Pair")
  mk_Pair : MkC K mg "Pair" (γ "Pair")
  cls_Num : Cls K (γ "Num")
  mk_Num : MkC K mg "Num" (γ "Num")
  cls_Plus : Cls K (γ "Plus")
  mk_Plus : MkC K mg "Plus" (γ "Plus")
  cls_Load : Cls K (γ "Load")
  mk_Load : MkC K mg "Load" (γ "Load")
  cls_Store : Cls K (γ "Store")
  mk_Store : MkC K mg "Store" (γ "Store")
  cls_Jump : Cls K (γ "Jump")
  mk_Jump : MkC K mg "Jump" (γ "Jump")
  cls_Zero : Cls K (γ "Zero")
  mk_Zero : MkC K mg "Zero" (γ "Zero")
  cls_Link : Cls K (γ "Link")
  mk_Link : MkC K mg "Link" (γ "Link")
  cls_Stop : Cls K (γ "Stop")
  mk_Stop : Mk0 K mg "Stop" (γ "Stop")
  cls_Home : Cls K (γ "Home")
  mk_Home : Mk0 K mg "Home" (γ "Home")
  m_Row : mg "Row" = some (.ref (γ "Row"))
  inh_Aim_gives : PySem.W.findIn K (.ref (γ "Aim")) "gives" = PySem.W.findIn K (.ref (γ "Row")) "gives"
  inh_Aim_known : PySem.W.findIn K (.ref (γ "Aim")) "known" = PySem.W.findIn K (.ref (γ "Row")) "known"
  inh_Aim_long : PySem.W.findIn K (.ref (γ "Aim")) "long" = PySem.W.findIn K (.ref (γ "Row")) "long"
  inh_Ask_alone : PySem.W.findIn K (.ref (γ "Ask")) "alone" = PySem.W.findIn K (.ref (γ "Row")) "alone"
  inh_Ask_long : PySem.W.findIn K (.ref (γ "Ask")) "long" = PySem.W.findIn K (.ref (γ "Row")) "long"
  inh_Ask_reads : PySem.W.findIn K (.ref (γ "Ask")) "reads" = PySem.W.findIn K (.ref (γ "Row")) "reads"
  inh_Go_alone : PySem.W.findIn K (.ref (γ "Go")) "alone" = PySem.W.findIn K (.ref (γ "Row")) "alone"
  inh_Go_gives : PySem.W.findIn K (.ref (γ "Go")) "gives" = PySem.W.findIn K (.ref (γ "Row")) "gives"
  inh_Go_known : PySem.W.findIn K (.ref (γ "Go")) "known" = PySem.W.findIn K (.ref (γ "Row")) "known"
  inh_Go_long : PySem.W.findIn K (.ref (γ "Go")) "long" = PySem.W.findIn K (.ref (γ "Row")) "long"
  inh_Home_gives : PySem.W.findIn K (.ref (γ "Home")) "gives" = PySem.W.findIn K (.ref (γ "Row")) "gives"
  inh_Home_known : PySem.W.findIn K (.ref (γ "Home")) "known" = PySem.W.findIn K (.ref (γ "Row")) "known"
  inh_Home_long : PySem.W.findIn K (.ref (γ "Home")) "long" = PySem.W.findIn K (.ref (γ "Row")) "long"
  inh_Home_reads : PySem.W.findIn K (.ref (γ "Home")) "reads" = PySem.W.findIn K (.ref (γ "Row")) "reads"
  inh_Jump_alone : PySem.W.findIn K (.ref (γ "Jump")) "alone" = PySem.W.findIn K (.ref (γ "Row")) "alone"
  inh_Jump_gives : PySem.W.findIn K (.ref (γ "Jump")) "gives" = PySem.W.findIn K (.ref (γ "Row")) "gives"
  inh_Jump_known : PySem.W.findIn K (.ref (γ "Jump")) "known" = PySem.W.findIn K (.ref (γ "Row")) "known"
  inh_Jump_long : PySem.W.findIn K (.ref (γ "Jump")) "long" = PySem.W.findIn K (.ref (γ "Row")) "long"
  inh_Jump_reads : PySem.W.findIn K (.ref (γ "Jump")) "reads" = PySem.W.findIn K (.ref (γ "Row")) "reads"
  inh_Link_alone : PySem.W.findIn K (.ref (γ "Link")) "alone" = PySem.W.findIn K (.ref (γ "Row")) "alone"
  inh_Link_known : PySem.W.findIn K (.ref (γ "Link")) "known" = PySem.W.findIn K (.ref (γ "Row")) "known"
  inh_Link_long : PySem.W.findIn K (.ref (γ "Link")) "long" = PySem.W.findIn K (.ref (γ "Row")) "long"
  inh_Link_reads : PySem.W.findIn K (.ref (γ "Link")) "reads" = PySem.W.findIn K (.ref (γ "Row")) "reads"
  inh_Load_alone : PySem.W.findIn K (.ref (γ "Load")) "alone" = PySem.W.findIn K (.ref (γ "Row")) "alone"
  inh_Load_long : PySem.W.findIn K (.ref (γ "Load")) "long" = PySem.W.findIn K (.ref (γ "Row")) "long"
  inh_Num_alone : PySem.W.findIn K (.ref (γ "Num")) "alone" = PySem.W.findIn K (.ref (γ "Row")) "alone"
  inh_Num_known : PySem.W.findIn K (.ref (γ "Num")) "known" = PySem.W.findIn K (.ref (γ "Row")) "known"
  inh_Num_long : PySem.W.findIn K (.ref (γ "Num")) "long" = PySem.W.findIn K (.ref (γ "Row")) "long"
  inh_Num_reads : PySem.W.findIn K (.ref (γ "Num")) "reads" = PySem.W.findIn K (.ref (γ "Row")) "reads"
  inh_Pair_alone : PySem.W.findIn K (.ref (γ "Pair")) "alone" = PySem.W.findIn K (.ref (γ "Row")) "alone"
  inh_Pair_known : PySem.W.findIn K (.ref (γ "Pair")) "known" = PySem.W.findIn K (.ref (γ "Row")) "known"
  inh_Plus_alone : PySem.W.findIn K (.ref (γ "Plus")) "alone" = PySem.W.findIn K (.ref (γ "Row")) "alone"
  inh_Plus_known : PySem.W.findIn K (.ref (γ "Plus")) "known" = PySem.W.findIn K (.ref (γ "Row")) "known"
  inh_Plus_long : PySem.W.findIn K (.ref (γ "Plus")) "long" = PySem.W.findIn K (.ref (γ "Row")) "long"
  inh_Stop_alone : PySem.W.findIn K (.ref (γ "Stop")) "alone" = PySem.W.findIn K (.ref (γ "Row")) "alone"
  inh_Stop_gives : PySem.W.findIn K (.ref (γ "Stop")) "gives" = PySem.W.findIn K (.ref (γ "Row")) "gives"
  inh_Stop_known : PySem.W.findIn K (.ref (γ "Stop")) "known" = PySem.W.findIn K (.ref (γ "Row")) "known"
  inh_Stop_long : PySem.W.findIn K (.ref (γ "Stop")) "long" = PySem.W.findIn K (.ref (γ "Row")) "long"
  inh_Stop_reads : PySem.W.findIn K (.ref (γ "Stop")) "reads" = PySem.W.findIn K (.ref (γ "Row")) "reads"
  inh_Store_alone : PySem.W.findIn K (.ref (γ "Store")) "alone" = PySem.W.findIn K (.ref (γ "Row")) "alone"
  inh_Store_gives : PySem.W.findIn K (.ref (γ "Store")) "gives" = PySem.W.findIn K (.ref (γ "Row")) "gives"
  inh_Store_known : PySem.W.findIn K (.ref (γ "Store")) "known" = PySem.W.findIn K (.ref (γ "Row")) "known"
  inh_Store_long : PySem.W.findIn K (.ref (γ "Store")) "long" = PySem.W.findIn K (.ref (γ "Row")) "long"
  inh_Tell_alone : PySem.W.findIn K (.ref (γ "Tell")) "alone" = PySem.W.findIn K (.ref (γ "Row")) "alone"
  inh_Tell_gives : PySem.W.findIn K (.ref (γ "Tell")) "gives" = PySem.W.findIn K (.ref (γ "Row")) "gives"
  inh_Tell_known : PySem.W.findIn K (.ref (γ "Tell")) "known" = PySem.W.findIn K (.ref (γ "Row")) "known"
  inh_Tell_long : PySem.W.findIn K (.ref (γ "Tell")) "long" = PySem.W.findIn K (.ref (γ "Row")) "long"
  inh_Where_long : PySem.W.findIn K (.ref (γ "Where")) "long" = PySem.W.findIn K (.ref (γ "Row")) "long"
  inh_Where_reads : PySem.W.findIn K (.ref (γ "Where")) "reads" = PySem.W.findIn K (.ref (γ "Row")) "reads"
  inh_Why_long : PySem.W.findIn K (.ref (γ "Why")) "long" = PySem.W.findIn K (.ref (γ "Row")) "long"
  inh_Why_reads : PySem.W.findIn K (.ref (γ "Why")) "reads" = PySem.W.findIn K (.ref (γ "Row")) "reads"
  inh_Zero_alone : PySem.W.findIn K (.ref (γ "Zero")) "alone" = PySem.W.findIn K (.ref (γ "Row")) "alone"
  inh_Zero_gives : PySem.W.findIn K (.ref (γ "Zero")) "gives" = PySem.W.findIn K (.ref (γ "Row")) "gives"
  inh_Zero_known : PySem.W.findIn K (.ref (γ "Zero")) "known" = PySem.W.findIn K (.ref (γ "Row")) "known"
  inh_Zero_long : PySem.W.findIn K (.ref (γ "Zero")) "long" = PySem.W.findIn K (.ref (γ "Row")) "long"
  fld_a : FldOk K γ ["Aim", "Go", "Ask", "Tell", "Why", "Where", "Pair", "Num", "Plus", "Load", "Store", "Zero", "Link"] "a"
  fld_b : FldOk K γ ["Pair", "Plus", "Load", "Store"] "b"
  fld_c : FldOk K γ ["Pair"] "c"
  fld_n : FldOk K γ ["Num", "Plus", "Load", "Store", "Jump", "Zero", "Link"] "n"
  fld_word : FldOk K γ ["Pair"] "word"
  d_LONG : DctI K mg w "LONG" [("mul", 3), ("div", 5), ("rest", 5)]
section
variable {P : Program} {w : World} {K : PySem.W.Frag} {mg : Str → Option Value} {base : Heap} {γ : Str → Addr}
theorem ok__law_pairs (T : Txt w K γ mg)  (F : TopFn K mg "_law_pairs" s__law_pairs) : Def P w K mg base 1 "_law_pairs" [] (spF K γ 0 f__law_pairs) := by
  refine F.qdef (k := 0) sc__law_pairs rfl rfl (fun _ _ _ _ _ _ us hl => match us, hl with | [], _ => rfl) (bd := b__law_pairs) fun f cdv A outer s H E hr => ?_
  unfold b__law_pairs
  refine qs_one ?_; refine qs_ret ?_; refine q_lst ?_; (repeat (refine qa_cons ?_ ?_ ?_; rotate_left 2; exact star_const _ _ _ _ _; (first | exact q_str | exact q_int | exact q_non | exact q_bl))); exact qa_nil
theorem ok__law_told_by (T : Txt w K γ mg) (D__law_pairs : Def P w K mg base 1 "_law_pairs" [] (spF K γ 0 f__law_pairs)) (F : TopFn K mg "_law_told_by" s__law_told_by) : Def P w K mg base 2 "_law_told_by" ["_law_cell_here"] (spF K γ 1 f__law_told_by) := by
  refine F.qdef (k := 1) sc__law_told_by rfl rfl (fun _ _ _ _ _ _ us hl => match us, hl with | [_], _ => rfl) (bd := b__law_told_by) fun f cdv A outer s H E hr => ?_
  unfold b__law_told_by
  exact (qs_cons (sset 1 sc__law_told_by.nd (b_Mod (v 0) q_int))
    (qs_cons (sset 2 sc__law_told_by.nd (b_Mod (b_FloorDiv (v 0) q_int) q_int))
    (qs_cons (sset 3 sc__law_told_by.nd (b_Mod (b_FloorDiv (v 0) q_int) q_int))
    (qs_cons (sset 4 sc__law_told_by.nd (ix (q_lst (qa_cons (b_Mod (b_FloorDiv (v 0) q_int) q_int) (qa_cons (ix (q_lst (qa_cons q_int (qa_cons q_int (qa_cons q_int (qa_cons q_int qa_nil))))) (b_Mod (b_FloorDiv (v 0) q_int) q_int)) qa_nil))) (b_Mod (b_FloorDiv (v 0) q_int) q_int)))
    (qs_cons (qs_if (t_Lt (v 1) q_int) (qs_one (qs_ret (ix (q_lst (qa_cons (q_tup (qa_cons q_str qa_nil)) (qa_cons (q_tup (qa_cons q_str (qa_cons (v 2) (qa_cons (v 4) qa_nil)))) qa_nil))) (v 1)))) qs_nil)
    (qs_cons (qs_if (t_In (v 1) (q_lst (qa_cons q_int (qa_cons q_int (qa_cons q_int qa_nil))))) (qs_one (qs_ret (q_tup (qa_cons (ix (q_lst (qa_cons q_str (qa_cons q_str (qa_cons q_str qa_nil)))) (q_index (q_lst (qa_cons q_int (qa_cons q_int (qa_cons q_int qa_nil)))) (v 1))) (qa_cons (v 2) (qa_cons (v 3) (qa_cons (b_Sub (v 4) q_int) qa_nil))))))) qs_nil)
    (qs_cons (qs_if (t_Lt (v 1) q_int) (qs_one (qs_ret (q_tup (qa_cons (ix (q_call0 D__law_pairs (hr.mono (by decide)) (by rfl)) (b_Sub (v 1) q_int)) (qa_cons (v 2) (qa_cons (v 3) (qa_cons (b_Mod (b_FloorDiv (v 0) q_int) q_int) qa_nil))))))) qs_nil)
    (qs_cons (qs_if (t_Eq (room64 hr) (v 1) q_int) (qs_one (qs_ret (q_tup (qa_cons q_str (qa_cons (v 4) qa_nil))))) qs_nil)
    (qs_cons (qs_if (t_Lt (v 1) q_int) (qs_one (qs_ret (q_tup (qa_cons (ix (q_lst (qa_cons q_str (qa_cons q_str qa_nil))) (b_Sub (v 1) q_int)) (qa_cons (v 2) (qa_cons (v 4) qa_nil)))))) qs_nil)
    (qs_cons (qs_if (t_Eq (room64 hr) (v 1) q_int) (qs_one (qs_ret (q_tup (qa_cons q_str qa_nil)))) qs_nil)
    (qs_one (qs_ret (q_tup (qa_cons (ix (q_lst (qa_cons q_str (qa_cons q_str (qa_cons q_str (qa_cons q_str (qa_cons q_str (qa_cons q_str qa_nil))))))) (b_Sub (v 1) q_int)) (qa_cons (v 2) qa_nil)))))))))))))))
theorem ok__law_cell (T : Txt w K γ mg)  (F : TopFn K mg "_law_cell" s__law_cell) : Def P w K mg base 1 "_law_cell" ["_law_script", "_law_k"] (spF K γ 2 f__law_cell) := by
  refine F.qdef (k := 0) sc__law_cell rfl rfl (fun _ _ _ _ _ _ us hl => match us, hl with | [_, _], _ => rfl) (bd := b__law_cell) fun f cdv A outer s H E hr => ?_
  unfold b__law_cell
  exact (qs_cons (sset 2 sc__law_cell.nd (b_Add (b_Mult q_int (v 1)) q_int))
    (qs_cons (qs_if (t_NotEq (room64 hr) (v 0) (q_lst qa_nil)) (qs_cons (sset 2 sc__law_cell.nd (b_Mult (ix (v 0) (b_Mod (v 1) (f_len rfl T.z_len (qa_cons (v 0) qa_nil)))) q_int))
    (qs_one (sset 2 sc__law_cell.nd (b_Add (b_Add (v 2) (b_Mult q_int (v 1))) (b_Mult (b_FloorDiv (v 1) (f_len rfl T.z_len (qa_cons (v 0) qa_nil))) q_int))))) qs_nil)
    (qs_cons (sset 3 sc__law_cell.nd (b_Mod (v 2) q_int))
    (qs_cons (sset 3 sc__law_cell.nd (b_Mod (b_Mult (v 3) (v 3)) q_int))
    (qs_one (qs_ret (b_Mod (b_Add (b_Add (b_Mult (v 3) (v 3)) (b_Mult q_int (v 3))) (v 1)) q_int)))))))
theorem ok_Pair_init (T : Txt w K γ mg)  (F : MethB K (γ "Pair") "__init__" "Pair.__init__" s_Pair_init ["self", "word", "a", "b", "c"]) : MDef P w K mg base 1 (γ "Pair") "__init__" ["self", "word", "a", "b", "c"] (spF K γ 5 f_Pair_init) := by
  refine F.qdef (k := 0) sc_Pair_init rfl rfl (bd := b_Pair_init) fun f cdv A outer s H E hr => ?_
  unfold b_Pair_init
  exact (qs_cons (qs_fld (T.fld_word.sub (by decide +kernel)) (v 0) (v 1))
    (qs_cons (qs_fld (T.fld_a.sub (by decide +kernel)) (v 0) (v 2))
    (qs_cons (qs_fld (T.fld_b.sub (by decide +kernel)) (v 0) (v 3))
    (qs_one (qs_fld (T.fld_c.sub (by decide +kernel)) (v 0) (v 4))))))
theorem ok_Num_init (T : Txt w K γ mg)  (F : MethB K (γ "Num") "__init__" "Num.__init__" s_Num_init ["self", "a", "n"]) : MDef P w K mg base 1 (γ "Num") "__init__" ["self", "a", "n"] (spF K γ 3 f_Num_init) := by
  refine F.qdef (k := 0) sc_Num_init rfl rfl (bd := b_Num_init) fun f cdv A outer s H E hr => ?_
  unfold b_Num_init
  exact (qs_cons (qs_fld (T.fld_a.sub (by decide +kernel)) (v 0) (v 1))
    (qs_one (qs_fld (T.fld_n.sub (by decide +kernel)) (v 0) (v 2))))
theorem ok_Plus_init (T : Txt w K γ mg)  (F : MethB K (γ "Plus") "__init__" "Plus.__init__" s_Plus_init ["self", "a", "b", "n"]) : MDef P w K mg base 1 (γ "Plus") "__init__" ["self", "a", "b", "n"] (spF K γ 4 f_Plus_init) := by
  refine F.qdef (k := 0) sc_Plus_init rfl rfl (bd := b_Plus_init) fun f cdv A outer s H E hr => ?_
  unfold b_Plus_init
  exact (qs_cons (qs_fld (T.fld_a.sub (by decide +kernel)) (v 0) (v 1))
    (qs_cons (qs_fld (T.fld_b.sub (by decide +kernel)) (v 0) (v 2))
    (qs_one (qs_fld (T.fld_n.sub (by decide +kernel)) (v 0) (v 3)))))
theorem ok_Load_init (T : Txt w K γ mg)  (F : MethB K (γ "Load") "__init__" "Load.__init__" s_Load_init ["self", "a", "b", "n"]) : MDef P w K mg base 1 (γ "Load") "__init__" ["self", "a", "b", "n"] (spF K γ 4 f_Load_init) := by
  refine F.qdef (k := 0) sc_Load_init rfl rfl (bd := b_Load_init) fun f cdv A outer s H E hr => ?_
  unfold b_Load_init
  exact (qs_cons (qs_fld (T.fld_a.sub (by decide +kernel)) (v 0) (v 1))
    (qs_cons (qs_fld (T.fld_b.sub (by decide +kernel)) (v 0) (v 2))
    (qs_one (qs_fld (T.fld_n.sub (by decide +kernel)) (v 0) (v 3)))))
theorem ok_Store_init (T : Txt w K γ mg)  (F : MethB K (γ "Store") "__init__" "Store.__init__" s_Store_init ["self", "a", "b", "n"]) : MDef P w K mg base 1 (γ "Store") "__init__" ["self", "a", "b", "n"] (spF K γ 4 f_Store_init) := by
  refine F.qdef (k := 0) sc_Store_init rfl rfl (bd := b_Store_init) fun f cdv A outer s H E hr => ?_
  unfold b_Store_init
  exact (qs_cons (qs_fld (T.fld_a.sub (by decide +kernel)) (v 0) (v 1))
    (qs_cons (qs_fld (T.fld_b.sub (by decide +kernel)) (v 0) (v 2))
    (qs_one (qs_fld (T.fld_n.sub (by decide +kernel)) (v 0) (v 3)))))
theorem ok_Jump_init (T : Txt w K γ mg)  (F : MethB K (γ "Jump") "__init__" "Jump.__init__" s_Jump_init ["self", "n"]) : MDef P w K mg base 1 (γ "Jump") "__init__" ["self", "n"] (spF K γ 2 f_Jump_init) := by
  refine F.qdef (k := 0) sc_Jump_init rfl rfl (bd := b_Jump_init) fun f cdv A outer s H E hr => ?_
  unfold b_Jump_init
  exact (qs_one (qs_fld (T.fld_n.sub (by decide +kernel)) (v 0) (v 1)))
theorem ok_Zero_init (T : Txt w K γ mg)  (F : MethB K (γ "Zero") "__init__" "Zero.__init__" s_Zero_init ["self", "a", "n"]) : MDef P w K mg base 1 (γ "Zero") "__init__" ["self", "a", "n"] (spF K γ 3 f_Zero_init) := by
  refine F.qdef (k := 0) sc_Zero_init rfl rfl (bd := b_Zero_init) fun f cdv A outer s H E hr => ?_
  unfold b_Zero_init
  exact (qs_cons (qs_fld (T.fld_a.sub (by decide +kernel)) (v 0) (v 1))
    (qs_one (qs_fld (T.fld_n.sub (by decide +kernel)) (v 0) (v 2))))
theorem ok_Link_init (T : Txt w K γ mg)  (F : MethB K (γ "Link") "__init__" "Link.__init__" s_Link_init ["self", "a", "n"]) : MDef P w K mg base 1 (γ "Link") "__init__" ["self", "a", "n"] (spF K γ 3 f_Link_init) := by
  refine F.qdef (k := 0) sc_Link_init rfl rfl (bd := b_Link_init) fun f cdv A outer s H E hr => ?_
  unfold b_Link_init
  exact (qs_cons (qs_fld (T.fld_a.sub (by decide +kernel)) (v 0) (v 1))
    (qs_one (qs_fld (T.fld_n.sub (by decide +kernel)) (v 0) (v 2))))
theorem ok_Go_init (T : Txt w K γ mg)  (F : MethB K (γ "Go") "__init__" "Go.__init__" s_Go_init ["self", "a"]) : MDef P w K mg base 1 (γ "Go") "__init__" ["self", "a"] (spF K γ 2 f_Go_init) := by
  refine F.qdef (k := 0) sc_Go_init rfl rfl (bd := b_Go_init) fun f cdv A outer s H E hr => ?_
  unfold b_Go_init
  exact (qs_one (qs_fld (T.fld_a.sub (by decide +kernel)) (v 0) (v 1)))
theorem ok_Ask_init (T : Txt w K γ mg)  (F : MethB K (γ "Ask") "__init__" "Ask.__init__" s_Ask_init ["self", "a"]) : MDef P w K mg base 1 (γ "Ask") "__init__" ["self", "a"] (spF K γ 2 f_Ask_init) := by
  refine F.qdef (k := 0) sc_Ask_init rfl rfl (bd := b_Ask_init) fun f cdv A outer s H E hr => ?_
  unfold b_Ask_init
  exact (qs_one (qs_fld (T.fld_a.sub (by decide +kernel)) (v 0) (v 1)))
theorem ok_Tell_init (T : Txt w K γ mg)  (F : MethB K (γ "Tell") "__init__" "Tell.__init__" s_Tell_init ["self", "a"]) : MDef P w K mg base 1 (γ "Tell") "__init__" ["self", "a"] (spF K γ 2 f_Tell_init) := by
  refine F.qdef (k := 0) sc_Tell_init rfl rfl (bd := b_Tell_init) fun f cdv A outer s H E hr => ?_
  unfold b_Tell_init
  exact (qs_one (qs_fld (T.fld_a.sub (by decide +kernel)) (v 0) (v 1)))
theorem ok_Why_init (T : Txt w K γ mg)  (F : MethB K (γ "Why") "__init__" "Why.__init__" s_Why_init ["self", "a"]) : MDef P w K mg base 1 (γ "Why") "__init__" ["self", "a"] (spF K γ 2 f_Why_init) := by
  refine F.qdef (k := 0) sc_Why_init rfl rfl (bd := b_Why_init) fun f cdv A outer s H E hr => ?_
  unfold b_Why_init
  exact (qs_one (qs_fld (T.fld_a.sub (by decide +kernel)) (v 0) (v 1)))
theorem ok_Where_init (T : Txt w K γ mg)  (F : MethB K (γ "Where") "__init__" "Where.__init__" s_Where_init ["self", "a"]) : MDef P w K mg base 1 (γ "Where") "__init__" ["self", "a"] (spF K γ 2 f_Where_init) := by
  refine F.qdef (k := 0) sc_Where_init rfl rfl (bd := b_Where_init) fun f cdv A outer s H E hr => ?_
  unfold b_Where_init
  exact (qs_one (qs_fld (T.fld_a.sub (by decide +kernel)) (v 0) (v 1)))
theorem ok_Aim_init (T : Txt w K γ mg)  (F : MethB K (γ "Aim") "__init__" "Aim.__init__" s_Aim_init ["self", "a"]) : MDef P w K mg base 1 (γ "Aim") "__init__" ["self", "a"] (spF K γ 2 f_Aim_init) := by
  refine F.qdef (k := 0) sc_Aim_init rfl rfl (bd := b_Aim_init) fun f cdv A outer s H E hr => ?_
  unfold b_Aim_init
  exact (qs_one (qs_fld (T.fld_a.sub (by decide +kernel)) (v 0) (v 1)))
theorem ok__law_box_row (T : Txt w K γ mg) (D_Go_init : MDef P w K mg base 1 (γ "Go") "__init__" ["self", "a"] (spF K γ 2 f_Go_init)) (D_Ask_init : MDef P w K mg base 1 (γ "Ask") "__init__" ["self", "a"] (spF K γ 2 f_Ask_init)) (D_Tell_init : MDef P w K mg base 1 (γ "Tell") "__init__" ["self", "a"] (spF K γ 2 f_Tell_init)) (D_Why_init : MDef P w K mg base 1 (γ "Why") "__init__" ["self", "a"] (spF K γ 2 f_Why_init)) (D_Where_init : MDef P w K mg base 1 (γ "Where") "__init__" ["self", "a"] (spF K γ 2 f_Where_init)) (D_Aim_init : MDef P w K mg base 1 (γ "Aim") "__init__" ["self", "a"] (spF K γ 2 f_Aim_init)) (F : TopFn K mg "_law_box_row" s__law_box_row) : Def P w K mg base 3 "_law_box_row" ["_law_word", "_law_a"] (spF K γ 2 f__law_box_row) := by
  refine F.qdef (k := 2) sc__law_box_row rfl rfl (fun _ _ _ _ _ _ us hl => match us, hl with | [_, _], _ => rfl) (bd := b__law_box_row) fun f cdv A outer s H E hr => ?_
  unfold b__law_box_row
  exact (qs_cons (qs_if (t_Eq (room64 hr) (v 0) q_str) (qs_one (qs_ret (q_new (newOk_of T.mk_Go D_Go_init (hr.mono (by decide))) (by rfl) (qa_cons (v 1) qa_nil)))) qs_nil)
    (qs_cons (qs_if (t_Eq (room64 hr) (v 0) q_str) (qs_one (qs_ret (q_new (newOk_of T.mk_Ask D_Ask_init (hr.mono (by decide))) (by rfl) (qa_cons (v 1) qa_nil)))) qs_nil)
    (qs_cons (qs_if (t_Eq (room64 hr) (v 0) q_str) (qs_one (qs_ret (q_new (newOk_of T.mk_Tell D_Tell_init (hr.mono (by decide))) (by rfl) (qa_cons (v 1) qa_nil)))) qs_nil)
    (qs_cons (qs_if (t_Eq (room64 hr) (v 0) q_str) (qs_one (qs_ret (q_new (newOk_of T.mk_Why D_Why_init (hr.mono (by decide))) (by rfl) (qa_cons (v 1) qa_nil)))) qs_nil)
    (qs_cons (qs_if (t_Eq (room64 hr) (v 0) q_str) (qs_one (qs_ret (q_new (newOk_of T.mk_Where D_Where_init (hr.mono (by decide))) (by rfl) (qa_cons (v 1) qa_nil)))) qs_nil)
    (qs_one (qs_ret (q_new (newOk_of T.mk_Aim D_Aim_init (hr.mono (by decide))) (by rfl) (qa_cons (v 1) qa_nil)))))))))
theorem ok__law_made (T : Txt w K γ mg) (D__law_pairs : Def P w K mg base 1 "_law_pairs" [] (spF K γ 0 f__law_pairs)) (D_Pair_init : MDef P w K mg base 1 (γ "Pair") "__init__" ["self", "word", "a", "b", "c"] (spF K γ 5 f_Pair_init)) (D_Num_init : MDef P w K mg base 1 (γ "Num") "__init__" ["self", "a", "n"] (spF K γ 3 f_Num_init)) (D_Plus_init : MDef P w K mg base 1 (γ "Plus") "__init__" ["self", "a", "b", "n"] (spF K γ 4 f_Plus_init)) (D_Load_init : MDef P w K mg base 1 (γ "Load") "__init__" ["self", "a", "b", "n"] (spF K γ 4 f_Load_init)) (D_Store_init : MDef P w K mg base 1 (γ "Store") "__init__" ["self", "a", "b", "n"] (spF K γ 4 f_Store_init)) (D_Jump_init : MDef P w K mg base 1 (γ "Jump") "__init__" ["self", "n"] (spF K γ 2 f_Jump_init)) (D_Zero_init : MDef P w K mg base 1 (γ "Zero") "__init__" ["self", "a", "n"] (spF K γ 3 f_Zero_init)) (D_Link_init : MDef P w K mg base 1 (γ "Link") "__init__" ["self", "a", "n"] (spF K γ 3 f_Link_init)) (D__law_box_row : Def P w K mg base 3 "_law_box_row" ["_law_word", "_law_a"] (spF K γ 2 f__law_box_row)) (F : TopFn K mg "_law_made" s__law_made) : Def P w K mg base 4 "_law_made" ["_law_told"] (spF K γ 1 f__law_made) := by
  refine F.qdef (k := 3) sc__law_made rfl rfl (fun _ _ _ _ _ _ us hl => match us, hl with | [_], _ => rfl) (bd := b__law_made) fun f cdv A outer s H E hr => ?_
  unfold b__law_made
  exact (qs_cons (sset 1 sc__law_made.nd (ix (v 0) q_int))
    (qs_cons (qs_if (t_In (v 1) (q_call0 D__law_pairs (hr.mono (by decide)) (by rfl))) (qs_one (qs_ret (q_new (newOk_of T.mk_Pair D_Pair_init (hr.mono (by decide))) (by rfl) (qa_cons (v 1) (qa_cons (ix (v 0) q_int) (qa_cons (ix (v 0) q_int) (qa_cons (ix (v 0) q_int) qa_nil))))))) qs_nil)
    (qs_cons (qs_if (t_Eq (room64 hr) (v 1) q_str) (qs_one (qs_ret (q_new (newOk_of T.mk_Num D_Num_init (hr.mono (by decide))) (by rfl) (qa_cons (ix (v 0) q_int) (qa_cons (ix (v 0) q_int) qa_nil))))) qs_nil)
    (qs_cons (qs_if (t_Eq (room64 hr) (v 1) q_str) (qs_one (qs_ret (q_new (newOk_of T.mk_Plus D_Plus_init (hr.mono (by decide))) (by rfl) (qa_cons (ix (v 0) q_int) (qa_cons (ix (v 0) q_int) (qa_cons (ix (v 0) q_int) qa_nil)))))) qs_nil)
    (qs_cons (qs_if (t_Eq (room64 hr) (v 1) q_str) (qs_one (qs_ret (q_new (newOk_of T.mk_Load D_Load_init (hr.mono (by decide))) (by rfl) (qa_cons (ix (v 0) q_int) (qa_cons (ix (v 0) q_int) (qa_cons (ix (v 0) q_int) qa_nil)))))) qs_nil)
    (qs_cons (qs_if (t_Eq (room64 hr) (v 1) q_str) (qs_one (qs_ret (q_new (newOk_of T.mk_Store D_Store_init (hr.mono (by decide))) (by rfl) (qa_cons (ix (v 0) q_int) (qa_cons (ix (v 0) q_int) (qa_cons (ix (v 0) q_int) qa_nil)))))) qs_nil)
    (qs_cons (qs_if (t_Eq (room64 hr) (v 1) q_str) (qs_one (qs_ret (q_new (newOk_of T.mk_Jump D_Jump_init (hr.mono (by decide))) (by rfl) (qa_cons (ix (v 0) q_int) qa_nil)))) qs_nil)
    (qs_cons (qs_if (t_Eq (room64 hr) (v 1) q_str) (qs_one (qs_ret (q_new (newOk_of T.mk_Zero D_Zero_init (hr.mono (by decide))) (by rfl) (qa_cons (ix (v 0) q_int) (qa_cons (ix (v 0) q_int) qa_nil))))) qs_nil)
    (qs_cons (qs_if (t_Eq (room64 hr) (v 1) q_str) (qs_one (qs_ret (q_new (newOk_of T.mk_Link D_Link_init (hr.mono (by decide))) (by rfl) (qa_cons (ix (v 0) q_int) (qa_cons (ix (v 0) q_int) qa_nil))))) qs_nil)
    (qs_cons (qs_if (t_Eq (room64 hr) (v 1) q_str) (qs_one (qs_ret (q_bare T.mk_Stop (by rfl)))) qs_nil)
    (qs_cons (qs_if (t_Eq (room64 hr) (v 1) q_str) (qs_one (qs_ret (q_bare T.mk_Home (by rfl)))) qs_nil)
    (qs_one (qs_ret (q_call D__law_box_row (hr.mono (by decide)) (by rfl) (qa_cons (v 1) (qa_cons (ix (v 0) q_int) qa_nil))))))))))))))))
theorem ok__law_same (T : Txt w K γ mg)  (F : TopFn K mg "_law_same" s__law_same) : Def P w K mg base 1 "_law_same" ["_law_found", "_law_due"] (spF K γ 2 f__law_same) := by
  refine F.qdef (k := 0) sc__law_same rfl rfl (fun _ _ _ _ _ _ us hl => match us, hl with | [_, _], _ => rfl) (bd := b__law_same) fun f cdv A outer s H E hr => ?_
  unfold b__law_same
  exact (qs_cons (qs_if (qt_w (qw_or (qt_not (qt_e (f_isi T.isi rfl T.z_isinstance (qa_cons (v 0) (qa_cons (q_ty rfl T.z_tuple PyProof.Rows.boot_tuple) qa_nil))))) (qw_or1 (t_NotEq (room64 hr) (v 0) (v 1))))) (qs_one (qs_ret q_bl)) qs_nil)
    (qs_one (qs_ret (c_Eq (room64 hr) (q_comp (cs := ["_law_found"]) (ts := ["_law_k"]) (js := [0]) (cap_mk _ rfl rfl rfl rfl (by decide +kernel) (by decide +kernel) rfl) rfl rfl (qi_range1 rfl T.z_range (f_len rfl T.z_len (qa_cons (v 1) qa_nil))) (fun _ _ _ => (gn 0 (show List.Nodup (["_law_k", "_law_found"] : List Str) by decide +kernel))) (fun _ _ _ => (qts_one (qt_e (f_isi T.isi rfl T.z_isinstance (qa_cons (ix (v 1) (v 0)) (qa_cons (q_ty rfl T.z_bool PyProof.Rows.boot_bool) qa_nil)))))) (fun _ _ _ => (v 0))) (q_lst qa_nil)))))
theorem ok_Aim_reads (T : Txt w K γ mg)  (F : MethB K (γ "Aim") "reads" "Aim.reads" s_Aim_reads ["self"]) : MDef P w K mg base 1 (γ "Aim") "reads" ["self"] (spF K γ 1 f_Aim_reads) := by
  refine F.qdef (k := 0) sc_Aim_reads rfl rfl (bd := b_Aim_reads) fun f cdv A outer s H E hr => ?_
  unfold b_Aim_reads
  exact (qs_one (qs_ret (q_tup (qa_cons (q_fld T.fld_a (v 0)) qa_nil))))
theorem ok_Go_reads (T : Txt w K γ mg)  (F : MethB K (γ "Go") "reads" "Go.reads" s_Go_reads ["self"]) : MDef P w K mg base 1 (γ "Go") "reads" ["self"] (spF K γ 1 f_Go_reads) := by
  refine F.qdef (k := 0) sc_Go_reads rfl rfl (bd := b_Go_reads) fun f cdv A outer s H E hr => ?_
  unfold b_Go_reads
  exact (qs_one (qs_ret (q_tup (qa_cons (q_fld T.fld_a (v 0)) qa_nil))))
theorem ok_Row_reads (T : Txt w K γ mg)  (F : MethB K (γ "Row") "reads" "Row.reads" s_Row_reads ["self"]) : MDef P w K mg base 1 (γ "Row") "reads" ["self"] (spF K γ 1 f_Row_reads) := by
  refine F.qdef (k := 0) sc_Row_reads rfl rfl (bd := b_Row_reads) fun f cdv A outer s H E hr => ?_
  unfold b_Row_reads
  exact (qs_one (qs_ret (q_tup qa_nil)))
theorem ok_Tell_reads (T : Txt w K γ mg)  (F : MethB K (γ "Tell") "reads" "Tell.reads" s_Tell_reads ["self"]) : MDef P w K mg base 1 (γ "Tell") "reads" ["self"] (spF K γ 1 f_Tell_reads) := by
  refine F.qdef (k := 0) sc_Tell_reads rfl rfl (bd := b_Tell_reads) fun f cdv A outer s H E hr => ?_
  unfold b_Tell_reads
  exact (qs_one (qs_ret (q_tup (qa_cons (q_fld T.fld_a (v 0)) qa_nil))))
theorem ok_Pair_reads (T : Txt w K γ mg)  (F : MethB K (γ "Pair") "reads" "Pair.reads" s_Pair_reads ["self"]) : MDef P w K mg base 1 (γ "Pair") "reads" ["self"] (spF K γ 1 f_Pair_reads) := by
  refine F.qdef (k := 0) sc_Pair_reads rfl rfl (bd := b_Pair_reads) fun f cdv A outer s H E hr => ?_
  unfold b_Pair_reads
  exact (qs_one (qs_ret (q_tup (qa_cons (q_fld T.fld_b (v 0)) (qa_cons (q_fld T.fld_c (v 0)) qa_nil)))))
theorem ok_Plus_reads (T : Txt w K γ mg)  (F : MethB K (γ "Plus") "reads" "Plus.reads" s_Plus_reads ["self"]) : MDef P w K mg base 1 (γ "Plus") "reads" ["self"] (spF K γ 1 f_Plus_reads) := by
  refine F.qdef (k := 0) sc_Plus_reads rfl rfl (bd := b_Plus_reads) fun f cdv A outer s H E hr => ?_
  unfold b_Plus_reads
  exact (qs_one (qs_ret (q_tup (qa_cons (q_fld T.fld_b (v 0)) qa_nil))))
theorem ok_Load_reads (T : Txt w K γ mg)  (F : MethB K (γ "Load") "reads" "Load.reads" s_Load_reads ["self"]) : MDef P w K mg base 1 (γ "Load") "reads" ["self"] (spF K γ 1 f_Load_reads) := by
  refine F.qdef (k := 0) sc_Load_reads rfl rfl (bd := b_Load_reads) fun f cdv A outer s H E hr => ?_
  unfold b_Load_reads
  exact (qs_one (qs_ret (q_tup (qa_cons (q_fld T.fld_b (v 0)) qa_nil))))
theorem ok_Store_reads (T : Txt w K γ mg)  (F : MethB K (γ "Store") "reads" "Store.reads" s_Store_reads ["self"]) : MDef P w K mg base 1 (γ "Store") "reads" ["self"] (spF K γ 1 f_Store_reads) := by
  refine F.qdef (k := 0) sc_Store_reads rfl rfl (bd := b_Store_reads) fun f cdv A outer s H E hr => ?_
  unfold b_Store_reads
  exact (qs_one (qs_ret (q_tup (qa_cons (q_fld T.fld_a (v 0)) (qa_cons (q_fld T.fld_b (v 0)) qa_nil)))))
theorem ok_Zero_reads (T : Txt w K γ mg)  (F : MethB K (γ "Zero") "reads" "Zero.reads" s_Zero_reads ["self"]) : MDef P w K mg base 1 (γ "Zero") "reads" ["self"] (spF K γ 1 f_Zero_reads) := by
  refine F.qdef (k := 0) sc_Zero_reads rfl rfl (bd := b_Zero_reads) fun f cdv A outer s H E hr => ?_
  unfold b_Zero_reads
  exact (qs_one (qs_ret (q_tup (qa_cons (q_fld T.fld_a (v 0)) qa_nil))))
theorem ok__law_reads (T : Txt w K γ mg) (D__law_pairs : Def P w K mg base 1 "_law_pairs" [] (spF K γ 0 f__law_pairs)) (F : TopFn K mg "_law_reads" s__law_reads) : Def P w K mg base 2 "_law_reads" ["_law_told"] (spF K γ 1 f__law_reads) := by
  refine F.qdef (k := 1) sc__law_reads rfl rfl (fun _ _ _ _ _ _ us hl => match us, hl with | [_], _ => rfl) (bd := b__law_reads) fun f cdv A outer s H E hr => ?_
  unfold b__law_reads
  exact (qs_cons (sset 1 sc__law_reads.nd (ix (v 0) q_int))
    (qs_cons (qs_if (t_In (v 1) (q_call0 D__law_pairs (hr.mono (by decide)) (by rfl))) (qs_one (qs_ret (q_sl (v 0) (qo_some q_int) qo_none))) qs_nil)
    (qs_cons (qs_if (t_In (v 1) (q_lst (qa_cons q_str (qa_cons q_str qa_nil)))) (qs_one (qs_ret (q_sl (v 0) (qo_some q_int) (qo_some q_int)))) qs_nil)
    (qs_cons (qs_if (t_Eq (room64 hr) (v 1) q_str) (qs_one (qs_ret (q_sl (v 0) (qo_some q_int) (qo_some q_int)))) qs_nil)
    (qs_cons (qs_if (t_In (v 1) (q_lst (qa_cons q_str (qa_cons q_str (qa_cons q_str (qa_cons q_str qa_nil)))))) (qs_one (qs_ret (q_sl (v 0) (qo_some q_int) (qo_some q_int)))) qs_nil)
    (qs_one (qs_ret (q_tup qa_nil))))))))
theorem ok__law_fields (T : Txt w K γ mg) (D__law_pairs : Def P w K mg base 1 "_law_pairs" [] (spF K γ 0 f__law_pairs)) (F : TopFn K mg "_law_fields" s__law_fields) : Def P w K mg base 2 "_law_fields" ["_law_row", "_law_told"] (spF K γ 2 f__law_fields) := by
  refine F.qdef (k := 1) sc__law_fields rfl rfl (fun _ _ _ _ _ _ us hl => match us, hl with | [_, _], _ => rfl) (bd := b__law_fields) fun f cdv A outer s H E hr => ?_
  unfold b__law_fields
  exact (qs_cons (sset 2 sc__law_fields.nd (ix (v 1) q_int))
    (qs_cons (qs_if (t_In (v 2) (q_call0 D__law_pairs (hr.mono (by decide)) (by rfl))) (qs_one (qs_ret (c_Eq (room64 hr) (q_tup (qa_cons (q_fld T.fld_word (v 0)) (qa_cons (q_fld T.fld_a (v 0)) (qa_cons (q_fld T.fld_b (v 0)) (qa_cons (q_fld T.fld_c (v 0)) qa_nil))))) (v 1)))) qs_nil)
    (qs_cons (qs_if (t_In (v 2) (q_lst (qa_cons q_str (qa_cons q_str (qa_cons q_str qa_nil))))) (qs_one (qs_ret (c_Eq (room64 hr) (q_tup (qa_cons (q_fld T.fld_a (v 0)) (qa_cons (q_fld T.fld_b (v 0)) (qa_cons (q_fld T.fld_n (v 0)) qa_nil)))) (q_sl (v 1) (qo_some q_int) qo_none)))) qs_nil)
    (qs_cons (qs_if (t_In (v 2) (q_lst (qa_cons q_str (qa_cons q_str (qa_cons q_str qa_nil))))) (qs_one (qs_ret (c_Eq (room64 hr) (q_tup (qa_cons (q_fld T.fld_a (v 0)) (qa_cons (q_fld T.fld_n (v 0)) qa_nil))) (q_sl (v 1) (qo_some q_int) qo_none)))) qs_nil)
    (qs_cons (qs_if (t_Eq (room64 hr) (v 2) q_str) (qs_one (qs_ret (c_Eq (room64 hr) (q_fld T.fld_n (v 0)) (ix (v 1) q_int)))) qs_nil)
    (qs_one (qs_ret (q_or (c_Eq (room64 hr) (f_len rfl T.z_len (qa_cons (v 1) qa_nil)) q_int) (q_one (c_Eq (room64 hr) (q_fld T.fld_a (v 0)) (ix (v 1) q_int)))))))))))
theorem ok_Aim_told (T : Txt w K γ mg)  (F : MethB K (γ "Aim") "told" "Aim.told" s_Aim_told ["self"]) : MDef P w K mg base 1 (γ "Aim") "told" ["self"] (spF K γ 1 f_Aim_told) := by
  refine F.qdef (k := 0) sc_Aim_told rfl rfl (bd := b_Aim_told) fun f cdv A outer s H E hr => ?_
  unfold b_Aim_told
  exact (qs_one (qs_ret (q_tup (qa_cons q_str (qa_cons (q_fld T.fld_a (v 0)) qa_nil)))))
theorem ok_Go_told (T : Txt w K γ mg)  (F : MethB K (γ "Go") "told" "Go.told" s_Go_told ["self"]) : MDef P w K mg base 1 (γ "Go") "told" ["self"] (spF K γ 1 f_Go_told) := by
  refine F.qdef (k := 0) sc_Go_told rfl rfl (bd := b_Go_told) fun f cdv A outer s H E hr => ?_
  unfold b_Go_told
  exact (qs_one (qs_ret (q_tup (qa_cons q_str (qa_cons (q_fld T.fld_a (v 0)) qa_nil)))))
theorem ok_Ask_told (T : Txt w K γ mg)  (F : MethB K (γ "Ask") "told" "Ask.told" s_Ask_told ["self"]) : MDef P w K mg base 1 (γ "Ask") "told" ["self"] (spF K γ 1 f_Ask_told) := by
  refine F.qdef (k := 0) sc_Ask_told rfl rfl (bd := b_Ask_told) fun f cdv A outer s H E hr => ?_
  unfold b_Ask_told
  exact (qs_one (qs_ret (q_tup (qa_cons q_str (qa_cons (q_fld T.fld_a (v 0)) qa_nil)))))
theorem ok_Tell_told (T : Txt w K γ mg)  (F : MethB K (γ "Tell") "told" "Tell.told" s_Tell_told ["self"]) : MDef P w K mg base 1 (γ "Tell") "told" ["self"] (spF K γ 1 f_Tell_told) := by
  refine F.qdef (k := 0) sc_Tell_told rfl rfl (bd := b_Tell_told) fun f cdv A outer s H E hr => ?_
  unfold b_Tell_told
  exact (qs_one (qs_ret (q_tup (qa_cons q_str (qa_cons (q_fld T.fld_a (v 0)) qa_nil)))))
theorem ok_Why_told (T : Txt w K γ mg)  (F : MethB K (γ "Why") "told" "Why.told" s_Why_told ["self"]) : MDef P w K mg base 1 (γ "Why") "told" ["self"] (spF K γ 1 f_Why_told) := by
  refine F.qdef (k := 0) sc_Why_told rfl rfl (bd := b_Why_told) fun f cdv A outer s H E hr => ?_
  unfold b_Why_told
  exact (qs_one (qs_ret (q_tup (qa_cons q_str (qa_cons (q_fld T.fld_a (v 0)) qa_nil)))))
theorem ok_Where_told (T : Txt w K γ mg)  (F : MethB K (γ "Where") "told" "Where.told" s_Where_told ["self"]) : MDef P w K mg base 1 (γ "Where") "told" ["self"] (spF K γ 1 f_Where_told) := by
  refine F.qdef (k := 0) sc_Where_told rfl rfl (bd := b_Where_told) fun f cdv A outer s H E hr => ?_
  unfold b_Where_told
  exact (qs_one (qs_ret (q_tup (qa_cons q_str (qa_cons (q_fld T.fld_a (v 0)) qa_nil)))))
theorem ok_Pair_told (T : Txt w K γ mg)  (F : MethB K (γ "Pair") "told" "Pair.told" s_Pair_told ["self"]) : MDef P w K mg base 1 (γ "Pair") "told" ["self"] (spF K γ 1 f_Pair_told) := by
  refine F.qdef (k := 0) sc_Pair_told rfl rfl (bd := b_Pair_told) fun f cdv A outer s H E hr => ?_
  unfold b_Pair_told
  exact (qs_one (qs_ret (q_tup (qa_cons (q_fld T.fld_word (v 0)) (qa_cons (q_fld T.fld_a (v 0)) (qa_cons (q_fld T.fld_b (v 0)) (qa_cons (q_fld T.fld_c (v 0)) qa_nil)))))))
theorem ok_Num_told (T : Txt w K γ mg)  (F : MethB K (γ "Num") "told" "Num.told" s_Num_told ["self"]) : MDef P w K mg base 1 (γ "Num") "told" ["self"] (spF K γ 1 f_Num_told) := by
  refine F.qdef (k := 0) sc_Num_told rfl rfl (bd := b_Num_told) fun f cdv A outer s H E hr => ?_
  unfold b_Num_told
  exact (qs_one (qs_ret (q_tup (qa_cons q_str (qa_cons (q_fld T.fld_a (v 0)) (qa_cons (q_fld T.fld_n (v 0)) qa_nil))))))
theorem ok_Plus_told (T : Txt w K γ mg)  (F : MethB K (γ "Plus") "told" "Plus.told" s_Plus_told ["self"]) : MDef P w K mg base 1 (γ "Plus") "told" ["self"] (spF K γ 1 f_Plus_told) := by
  refine F.qdef (k := 0) sc_Plus_told rfl rfl (bd := b_Plus_told) fun f cdv A outer s H E hr => ?_
  unfold b_Plus_told
  exact (qs_one (qs_ret (q_tup (qa_cons q_str (qa_cons (q_fld T.fld_a (v 0)) (qa_cons (q_fld T.fld_b (v 0)) (qa_cons (q_fld T.fld_n (v 0)) qa_nil)))))))
theorem ok_Load_told (T : Txt w K γ mg)  (F : MethB K (γ "Load") "told" "Load.told" s_Load_told ["self"]) : MDef P w K mg base 1 (γ "Load") "told" ["self"] (spF K γ 1 f_Load_told) := by
  refine F.qdef (k := 0) sc_Load_told rfl rfl (bd := b_Load_told) fun f cdv A outer s H E hr => ?_
  unfold b_Load_told
  exact (qs_one (qs_ret (q_tup (qa_cons q_str (qa_cons (q_fld T.fld_a (v 0)) (qa_cons (q_fld T.fld_b (v 0)) (qa_cons (q_fld T.fld_n (v 0)) qa_nil)))))))
theorem ok_Store_told (T : Txt w K γ mg)  (F : MethB K (γ "Store") "told" "Store.told" s_Store_told ["self"]) : MDef P w K mg base 1 (γ "Store") "told" ["self"] (spF K γ 1 f_Store_told) := by
  refine F.qdef (k := 0) sc_Store_told rfl rfl (bd := b_Store_told) fun f cdv A outer s H E hr => ?_
  unfold b_Store_told
  exact (qs_one (qs_ret (q_tup (qa_cons q_str (qa_cons (q_fld T.fld_a (v 0)) (qa_cons (q_fld T.fld_b (v 0)) (qa_cons (q_fld T.fld_n (v 0)) qa_nil)))))))
theorem ok_Jump_told (T : Txt w K γ mg)  (F : MethB K (γ "Jump") "told" "Jump.told" s_Jump_told ["self"]) : MDef P w K mg base 1 (γ "Jump") "told" ["self"] (spF K γ 1 f_Jump_told) := by
  refine F.qdef (k := 0) sc_Jump_told rfl rfl (bd := b_Jump_told) fun f cdv A outer s H E hr => ?_
  unfold b_Jump_told
  exact (qs_one (qs_ret (q_tup (qa_cons q_str (qa_cons (q_fld T.fld_n (v 0)) qa_nil)))))
theorem ok_Zero_told (T : Txt w K γ mg)  (F : MethB K (γ "Zero") "told" "Zero.told" s_Zero_told ["self"]) : MDef P w K mg base 1 (γ "Zero") "told" ["self"] (spF K γ 1 f_Zero_told) := by
  refine F.qdef (k := 0) sc_Zero_told rfl rfl (bd := b_Zero_told) fun f cdv A outer s H E hr => ?_
  unfold b_Zero_told
  exact (qs_one (qs_ret (q_tup (qa_cons q_str (qa_cons (q_fld T.fld_a (v 0)) (qa_cons (q_fld T.fld_n (v 0)) qa_nil))))))
theorem ok_Link_told (T : Txt w K γ mg)  (F : MethB K (γ "Link") "told" "Link.told" s_Link_told ["self"]) : MDef P w K mg base 1 (γ "Link") "told" ["self"] (spF K γ 1 f_Link_told) := by
  refine F.qdef (k := 0) sc_Link_told rfl rfl (bd := b_Link_told) fun f cdv A outer s H E hr => ?_
  unfold b_Link_told
  exact (qs_one (qs_ret (q_tup (qa_cons q_str (qa_cons (q_fld T.fld_a (v 0)) (qa_cons (q_fld T.fld_n (v 0)) qa_nil))))))
theorem ok_Stop_told (T : Txt w K γ mg)  (F : MethB K (γ "Stop") "told" "Stop.told" s_Stop_told ["self"]) : MDef P w K mg base 1 (γ "Stop") "told" ["self"] (spF K γ 1 f_Stop_told) := by
  refine F.qdef (k := 0) sc_Stop_told rfl rfl (bd := b_Stop_told) fun f cdv A outer s H E hr => ?_
  unfold b_Stop_told
  exact (qs_one (qs_ret (q_tup (qa_cons q_str qa_nil))))
theorem ok_Home_told (T : Txt w K γ mg)  (F : MethB K (γ "Home") "told" "Home.told" s_Home_told ["self"]) : MDef P w K mg base 1 (γ "Home") "told" ["self"] (spF K γ 1 f_Home_told) := by
  refine F.qdef (k := 0) sc_Home_told rfl rfl (bd := b_Home_told) fun f cdv A outer s H E hr => ?_
  unfold b_Home_told
  exact (qs_one (qs_ret (q_tup (qa_cons q_str qa_nil))))
theorem ok__law_gives (T : Txt w K γ mg) (D__law_pairs : Def P w K mg base 1 "_law_pairs" [] (spF K γ 0 f__law_pairs)) (F : TopFn K mg "_law_gives" s__law_gives) : Def P w K mg base 2 "_law_gives" ["_law_told"] (spF K γ 1 f__law_gives) := by
  refine F.qdef (k := 1) sc__law_gives rfl rfl (fun _ _ _ _ _ _ us hl => match us, hl with | [_], _ => rfl) (bd := b__law_gives) fun f cdv A outer s H E hr => ?_
  unfold b__law_gives
  exact (qs_cons (qs_if (qt_w (qw_and (t_In (ix (v 0) q_int) (b_Add (q_call0 D__law_pairs (hr.mono (by decide)) (by rfl)) (q_lst (qa_cons q_str (qa_cons q_str (qa_cons q_str (qa_cons q_str (qa_cons q_str (qa_cons q_str (qa_cons q_str qa_nil)))))))))) (qw_and1 (t_Gt (ix (v 0) q_int) q_int)))) (qs_one (qs_ret (ix (v 0) q_int))) qs_nil)
    (qs_one (qs_ret q_non)))
theorem ok_known_at (T : Txt w K γ mg)  (F : TopFn K mg "known_at" s_known_at) : Def P w K mg base 1 "known_at" ["station", "box"] (spF K γ 2 f_known_at) := by
  refine F.qdef (k := 0) sc_known_at rfl rfl (fun _ _ _ _ _ _ us hl => match us, hl with | [_, _], _ => rfl) (bd := b_known_at) fun f cdv A outer s H E hr => ?_
  unfold b_known_at
  exact (qs_cons (qs_if (t_Is (v 1) q_non) (qs_one (qs_ret q_non)) qs_nil)
    (qs_one (qs_ret (v 0))))
theorem ok_Row_gives (T : Txt w K γ mg)  (F : MethB K (γ "Row") "gives" "Row.gives" s_Row_gives ["self"]) : MDef P w K mg base 1 (γ "Row") "gives" ["self"] (spF K γ 1 f_Row_gives) := by
  refine F.qdef (k := 0) sc_Row_gives rfl rfl (bd := b_Row_gives) fun f cdv A outer s H E hr => ?_
  unfold b_Row_gives
  exact (qs_one (qs_ret q_non))
theorem ok_given_box (T : Txt w K γ mg)  (F : TopFn K mg "given_box" s_given_box) : Def P w K mg base 1 "given_box" ["box"] (spF K γ 1 f_given_box) := by
  refine F.qdef (k := 0) sc_given_box rfl rfl (fun _ _ _ _ _ _ us hl => match us, hl with | [_], _ => rfl) (bd := b_given_box) fun f cdv A outer s H E hr => ?_
  unfold b_given_box
  exact (qs_cons (qs_if (t_Eq (room64 hr) (v 0) q_int) (qs_one (qs_ret q_non)) qs_nil)
    (qs_one (qs_ret (v 0))))
theorem ok_Ask_gives (T : Txt w K γ mg) (D_given_box : Def P w K mg base 1 "given_box" ["box"] (spF K γ 1 f_given_box)) (F : MethB K (γ "Ask") "gives" "Ask.gives" s_Ask_gives ["self"]) : MDef P w K mg base 2 (γ "Ask") "gives" ["self"] (spF K γ 1 f_Ask_gives) := by
  refine F.qdef (k := 1) sc_Ask_gives rfl rfl (bd := b_Ask_gives) fun f cdv A outer s H E hr => ?_
  unfold b_Ask_gives
  exact (qs_one (qs_ret (q_call D_given_box (hr.mono (by decide)) (by rfl) (qa_cons (q_fld T.fld_a (v 0)) qa_nil))))
theorem ok_Why_gives (T : Txt w K γ mg) (D_given_box : Def P w K mg base 1 "given_box" ["box"] (spF K γ 1 f_given_box)) (F : MethB K (γ "Why") "gives" "Why.gives" s_Why_gives ["self"]) : MDef P w K mg base 2 (γ "Why") "gives" ["self"] (spF K γ 1 f_Why_gives) := by
  refine F.qdef (k := 1) sc_Why_gives rfl rfl (bd := b_Why_gives) fun f cdv A outer s H E hr => ?_
  unfold b_Why_gives
  exact (qs_one (qs_ret (q_call D_given_box (hr.mono (by decide)) (by rfl) (qa_cons (q_fld T.fld_a (v 0)) qa_nil))))
theorem ok_Where_gives (T : Txt w K γ mg) (D_given_box : Def P w K mg base 1 "given_box" ["box"] (spF K γ 1 f_given_box)) (F : MethB K (γ "Where") "gives" "Where.gives" s_Where_gives ["self"]) : MDef P w K mg base 2 (γ "Where") "gives" ["self"] (spF K γ 1 f_Where_gives) := by
  refine F.qdef (k := 1) sc_Where_gives rfl rfl (bd := b_Where_gives) fun f cdv A outer s H E hr => ?_
  unfold b_Where_gives
  exact (qs_one (qs_ret (q_call D_given_box (hr.mono (by decide)) (by rfl) (qa_cons (q_fld T.fld_a (v 0)) qa_nil))))
theorem ok_Pair_gives (T : Txt w K γ mg) (D_given_box : Def P w K mg base 1 "given_box" ["box"] (spF K γ 1 f_given_box)) (F : MethB K (γ "Pair") "gives" "Pair.gives" s_Pair_gives ["self"]) : MDef P w K mg base 2 (γ "Pair") "gives" ["self"] (spF K γ 1 f_Pair_gives) := by
  refine F.qdef (k := 1) sc_Pair_gives rfl rfl (bd := b_Pair_gives) fun f cdv A outer s H E hr => ?_
  unfold b_Pair_gives
  exact (qs_one (qs_ret (q_call D_given_box (hr.mono (by decide)) (by rfl) (qa_cons (q_fld T.fld_a (v 0)) qa_nil))))
theorem ok_Num_gives (T : Txt w K γ mg) (D_given_box : Def P w K mg base 1 "given_box" ["box"] (spF K γ 1 f_given_box)) (F : MethB K (γ "Num") "gives" "Num.gives" s_Num_gives ["self"]) : MDef P w K mg base 2 (γ "Num") "gives" ["self"] (spF K γ 1 f_Num_gives) := by
  refine F.qdef (k := 1) sc_Num_gives rfl rfl (bd := b_Num_gives) fun f cdv A outer s H E hr => ?_
  unfold b_Num_gives
  exact (qs_one (qs_ret (q_call D_given_box (hr.mono (by decide)) (by rfl) (qa_cons (q_fld T.fld_a (v 0)) qa_nil))))
theorem ok_Plus_gives (T : Txt w K γ mg) (D_given_box : Def P w K mg base 1 "given_box" ["box"] (spF K γ 1 f_given_box)) (F : MethB K (γ "Plus") "gives" "Plus.gives" s_Plus_gives ["self"]) : MDef P w K mg base 2 (γ "Plus") "gives" ["self"] (spF K γ 1 f_Plus_gives) := by
  refine F.qdef (k := 1) sc_Plus_gives rfl rfl (bd := b_Plus_gives) fun f cdv A outer s H E hr => ?_
  unfold b_Plus_gives
  exact (qs_one (qs_ret (q_call D_given_box (hr.mono (by decide)) (by rfl) (qa_cons (q_fld T.fld_a (v 0)) qa_nil))))
theorem ok_Load_gives (T : Txt w K γ mg) (D_given_box : Def P w K mg base 1 "given_box" ["box"] (spF K γ 1 f_given_box)) (F : MethB K (γ "Load") "gives" "Load.gives" s_Load_gives ["self"]) : MDef P w K mg base 2 (γ "Load") "gives" ["self"] (spF K γ 1 f_Load_gives) := by
  refine F.qdef (k := 1) sc_Load_gives rfl rfl (bd := b_Load_gives) fun f cdv A outer s H E hr => ?_
  unfold b_Load_gives
  exact (qs_one (qs_ret (q_call D_given_box (hr.mono (by decide)) (by rfl) (qa_cons (q_fld T.fld_a (v 0)) qa_nil))))
theorem ok_Link_gives (T : Txt w K γ mg) (D_given_box : Def P w K mg base 1 "given_box" ["box"] (spF K γ 1 f_given_box)) (F : MethB K (γ "Link") "gives" "Link.gives" s_Link_gives ["self"]) : MDef P w K mg base 2 (γ "Link") "gives" ["self"] (spF K γ 1 f_Link_gives) := by
  refine F.qdef (k := 1) sc_Link_gives rfl rfl (bd := b_Link_gives) fun f cdv A outer s H E hr => ?_
  unfold b_Link_gives
  exact (qs_one (qs_ret (q_call D_given_box (hr.mono (by decide)) (by rfl) (qa_cons (q_fld T.fld_a (v 0)) qa_nil))))
theorem ok_Row_known (T : Txt w K γ mg) (D_known_at : Def P w K mg base 1 "known_at" ["station", "box"] (spF K γ 2 f_known_at)) (D_Row_gives : MDef P w K mg base 1 (γ "Row") "gives" ["self"] (spF K γ 1 f_Row_gives)) (D_Ask_gives : MDef P w K mg base 2 (γ "Ask") "gives" ["self"] (spF K γ 1 f_Ask_gives)) (D_Why_gives : MDef P w K mg base 2 (γ "Why") "gives" ["self"] (spF K γ 1 f_Why_gives)) (D_Where_gives : MDef P w K mg base 2 (γ "Where") "gives" ["self"] (spF K γ 1 f_Where_gives)) (D_Pair_gives : MDef P w K mg base 2 (γ "Pair") "gives" ["self"] (spF K γ 1 f_Pair_gives)) (D_Num_gives : MDef P w K mg base 2 (γ "Num") "gives" ["self"] (spF K γ 1 f_Num_gives)) (D_Plus_gives : MDef P w K mg base 2 (γ "Plus") "gives" ["self"] (spF K γ 1 f_Plus_gives)) (D_Load_gives : MDef P w K mg base 2 (γ "Load") "gives" ["self"] (spF K γ 1 f_Load_gives)) (D_Link_gives : MDef P w K mg base 2 (γ "Link") "gives" ["self"] (spF K γ 1 f_Link_gives)) (F : MethB K (γ "Row") "known" "Row.known" s_Row_known ["self"]) : MDef P w K mg base 3 (γ "Row") "known" ["self"] (spF K γ 1 f_Row_known) := by
  refine F.qdef (k := 2) sc_Row_known rfl rfl (bd := b_Row_known) fun f cdv A outer s H E hr => ?_
  unfold b_Row_known
  exact (qs_one (qs_ret (q_call D_known_at (hr.mono (by decide)) (by rfl) (qa_cons q_str (qa_cons (q_meth0 (MtOk.cons T.cls_Aim (D_Row_gives.inh T.inh_Aim_gives) (hr.mono (by decide)) (MtOk.cons T.cls_Go (D_Row_gives.inh T.inh_Go_gives) (hr.mono (by decide)) (MtOk.cons T.cls_Ask D_Ask_gives (hr.mono (by decide)) (MtOk.cons T.cls_Tell (D_Row_gives.inh T.inh_Tell_gives) (hr.mono (by decide)) (MtOk.cons T.cls_Why D_Why_gives (hr.mono (by decide)) (MtOk.cons T.cls_Where D_Where_gives (hr.mono (by decide)) (MtOk.cons T.cls_Pair D_Pair_gives (hr.mono (by decide)) (MtOk.cons T.cls_Num D_Num_gives (hr.mono (by decide)) (MtOk.cons T.cls_Plus D_Plus_gives (hr.mono (by decide)) (MtOk.cons T.cls_Load D_Load_gives (hr.mono (by decide)) (MtOk.cons T.cls_Store (D_Row_gives.inh T.inh_Store_gives) (hr.mono (by decide)) (MtOk.cons T.cls_Jump (D_Row_gives.inh T.inh_Jump_gives) (hr.mono (by decide)) (MtOk.cons T.cls_Zero (D_Row_gives.inh T.inh_Zero_gives) (hr.mono (by decide)) (MtOk.cons T.cls_Link D_Link_gives (hr.mono (by decide)) (MtOk.cons T.cls_Stop (D_Row_gives.inh T.inh_Stop_gives) (hr.mono (by decide)) (MtOk.cons T.cls_Home (D_Row_gives.inh T.inh_Home_gives) (hr.mono (by decide)) MtOk.nil)))))))))))))))) (v 0)) qa_nil)))))
theorem ok_Ask_known (T : Txt w K γ mg) (D_known_at : Def P w K mg base 1 "known_at" ["station", "box"] (spF K γ 2 f_known_at)) (D_Row_gives : MDef P w K mg base 1 (γ "Row") "gives" ["self"] (spF K γ 1 f_Row_gives)) (D_Ask_gives : MDef P w K mg base 2 (γ "Ask") "gives" ["self"] (spF K γ 1 f_Ask_gives)) (D_Why_gives : MDef P w K mg base 2 (γ "Why") "gives" ["self"] (spF K γ 1 f_Why_gives)) (D_Where_gives : MDef P w K mg base 2 (γ "Where") "gives" ["self"] (spF K γ 1 f_Where_gives)) (D_Pair_gives : MDef P w K mg base 2 (γ "Pair") "gives" ["self"] (spF K γ 1 f_Pair_gives)) (D_Num_gives : MDef P w K mg base 2 (γ "Num") "gives" ["self"] (spF K γ 1 f_Num_gives)) (D_Plus_gives : MDef P w K mg base 2 (γ "Plus") "gives" ["self"] (spF K γ 1 f_Plus_gives)) (D_Load_gives : MDef P w K mg base 2 (γ "Load") "gives" ["self"] (spF K γ 1 f_Load_gives)) (D_Link_gives : MDef P w K mg base 2 (γ "Link") "gives" ["self"] (spF K γ 1 f_Link_gives)) (F : MethB K (γ "Ask") "known" "Ask.known" s_Ask_known ["self"]) : MDef P w K mg base 3 (γ "Ask") "known" ["self"] (spF K γ 1 f_Ask_known) := by
  refine F.qdef (k := 2) sc_Ask_known rfl rfl (bd := b_Ask_known) fun f cdv A outer s H E hr => ?_
  unfold b_Ask_known
  exact (qs_one (qs_ret (q_call D_known_at (hr.mono (by decide)) (by rfl) (qa_cons q_str (qa_cons (q_meth0 (MtOk.cons T.cls_Aim (D_Row_gives.inh T.inh_Aim_gives) (hr.mono (by decide)) (MtOk.cons T.cls_Go (D_Row_gives.inh T.inh_Go_gives) (hr.mono (by decide)) (MtOk.cons T.cls_Ask D_Ask_gives (hr.mono (by decide)) (MtOk.cons T.cls_Tell (D_Row_gives.inh T.inh_Tell_gives) (hr.mono (by decide)) (MtOk.cons T.cls_Why D_Why_gives (hr.mono (by decide)) (MtOk.cons T.cls_Where D_Where_gives (hr.mono (by decide)) (MtOk.cons T.cls_Pair D_Pair_gives (hr.mono (by decide)) (MtOk.cons T.cls_Num D_Num_gives (hr.mono (by decide)) (MtOk.cons T.cls_Plus D_Plus_gives (hr.mono (by decide)) (MtOk.cons T.cls_Load D_Load_gives (hr.mono (by decide)) (MtOk.cons T.cls_Store (D_Row_gives.inh T.inh_Store_gives) (hr.mono (by decide)) (MtOk.cons T.cls_Jump (D_Row_gives.inh T.inh_Jump_gives) (hr.mono (by decide)) (MtOk.cons T.cls_Zero (D_Row_gives.inh T.inh_Zero_gives) (hr.mono (by decide)) (MtOk.cons T.cls_Link D_Link_gives (hr.mono (by decide)) (MtOk.cons T.cls_Stop (D_Row_gives.inh T.inh_Stop_gives) (hr.mono (by decide)) (MtOk.cons T.cls_Home (D_Row_gives.inh T.inh_Home_gives) (hr.mono (by decide)) MtOk.nil)))))))))))))))) (v 0)) qa_nil)))))
theorem ok_Why_known (T : Txt w K γ mg) (D_known_at : Def P w K mg base 1 "known_at" ["station", "box"] (spF K γ 2 f_known_at)) (D_Row_gives : MDef P w K mg base 1 (γ "Row") "gives" ["self"] (spF K γ 1 f_Row_gives)) (D_Ask_gives : MDef P w K mg base 2 (γ "Ask") "gives" ["self"] (spF K γ 1 f_Ask_gives)) (D_Why_gives : MDef P w K mg base 2 (γ "Why") "gives" ["self"] (spF K γ 1 f_Why_gives)) (D_Where_gives : MDef P w K mg base 2 (γ "Where") "gives" ["self"] (spF K γ 1 f_Where_gives)) (D_Pair_gives : MDef P w K mg base 2 (γ "Pair") "gives" ["self"] (spF K γ 1 f_Pair_gives)) (D_Num_gives : MDef P w K mg base 2 (γ "Num") "gives" ["self"] (spF K γ 1 f_Num_gives)) (D_Plus_gives : MDef P w K mg base 2 (γ "Plus") "gives" ["self"] (spF K γ 1 f_Plus_gives)) (D_Load_gives : MDef P w K mg base 2 (γ "Load") "gives" ["self"] (spF K γ 1 f_Load_gives)) (D_Link_gives : MDef P w K mg base 2 (γ "Link") "gives" ["self"] (spF K γ 1 f_Link_gives)) (F : MethB K (γ "Why") "known" "Why.known" s_Why_known ["self"]) : MDef P w K mg base 3 (γ "Why") "known" ["self"] (spF K γ 1 f_Why_known) := by
  refine F.qdef (k := 2) sc_Why_known rfl rfl (bd := b_Why_known) fun f cdv A outer s H E hr => ?_
  unfold b_Why_known
  exact (qs_one (qs_ret (q_call D_known_at (hr.mono (by decide)) (by rfl) (qa_cons q_str (qa_cons (q_meth0 (MtOk.cons T.cls_Aim (D_Row_gives.inh T.inh_Aim_gives) (hr.mono (by decide)) (MtOk.cons T.cls_Go (D_Row_gives.inh T.inh_Go_gives) (hr.mono (by decide)) (MtOk.cons T.cls_Ask D_Ask_gives (hr.mono (by decide)) (MtOk.cons T.cls_Tell (D_Row_gives.inh T.inh_Tell_gives) (hr.mono (by decide)) (MtOk.cons T.cls_Why D_Why_gives (hr.mono (by decide)) (MtOk.cons T.cls_Where D_Where_gives (hr.mono (by decide)) (MtOk.cons T.cls_Pair D_Pair_gives (hr.mono (by decide)) (MtOk.cons T.cls_Num D_Num_gives (hr.mono (by decide)) (MtOk.cons T.cls_Plus D_Plus_gives (hr.mono (by decide)) (MtOk.cons T.cls_Load D_Load_gives (hr.mono (by decide)) (MtOk.cons T.cls_Store (D_Row_gives.inh T.inh_Store_gives) (hr.mono (by decide)) (MtOk.cons T.cls_Jump (D_Row_gives.inh T.inh_Jump_gives) (hr.mono (by decide)) (MtOk.cons T.cls_Zero (D_Row_gives.inh T.inh_Zero_gives) (hr.mono (by decide)) (MtOk.cons T.cls_Link D_Link_gives (hr.mono (by decide)) (MtOk.cons T.cls_Stop (D_Row_gives.inh T.inh_Stop_gives) (hr.mono (by decide)) (MtOk.cons T.cls_Home (D_Row_gives.inh T.inh_Home_gives) (hr.mono (by decide)) MtOk.nil)))))))))))))))) (v 0)) qa_nil)))))
theorem ok_Where_known (T : Txt w K γ mg) (D_known_at : Def P w K mg base 1 "known_at" ["station", "box"] (spF K γ 2 f_known_at)) (D_Row_gives : MDef P w K mg base 1 (γ "Row") "gives" ["self"] (spF K γ 1 f_Row_gives)) (D_Ask_gives : MDef P w K mg base 2 (γ "Ask") "gives" ["self"] (spF K γ 1 f_Ask_gives)) (D_Why_gives : MDef P w K mg base 2 (γ "Why") "gives" ["self"] (spF K γ 1 f_Why_gives)) (D_Where_gives : MDef P w K mg base 2 (γ "Where") "gives" ["self"] (spF K γ 1 f_Where_gives)) (D_Pair_gives : MDef P w K mg base 2 (γ "Pair") "gives" ["self"] (spF K γ 1 f_Pair_gives)) (D_Num_gives : MDef P w K mg base 2 (γ "Num") "gives" ["self"] (spF K γ 1 f_Num_gives)) (D_Plus_gives : MDef P w K mg base 2 (γ "Plus") "gives" ["self"] (spF K γ 1 f_Plus_gives)) (D_Load_gives : MDef P w K mg base 2 (γ "Load") "gives" ["self"] (spF K γ 1 f_Load_gives)) (D_Link_gives : MDef P w K mg base 2 (γ "Link") "gives" ["self"] (spF K γ 1 f_Link_gives)) (F : MethB K (γ "Where") "known" "Where.known" s_Where_known ["self"]) : MDef P w K mg base 3 (γ "Where") "known" ["self"] (spF K γ 1 f_Where_known) := by
  refine F.qdef (k := 2) sc_Where_known rfl rfl (bd := b_Where_known) fun f cdv A outer s H E hr => ?_
  unfold b_Where_known
  exact (qs_one (qs_ret (q_call D_known_at (hr.mono (by decide)) (by rfl) (qa_cons q_str (qa_cons (q_meth0 (MtOk.cons T.cls_Aim (D_Row_gives.inh T.inh_Aim_gives) (hr.mono (by decide)) (MtOk.cons T.cls_Go (D_Row_gives.inh T.inh_Go_gives) (hr.mono (by decide)) (MtOk.cons T.cls_Ask D_Ask_gives (hr.mono (by decide)) (MtOk.cons T.cls_Tell (D_Row_gives.inh T.inh_Tell_gives) (hr.mono (by decide)) (MtOk.cons T.cls_Why D_Why_gives (hr.mono (by decide)) (MtOk.cons T.cls_Where D_Where_gives (hr.mono (by decide)) (MtOk.cons T.cls_Pair D_Pair_gives (hr.mono (by decide)) (MtOk.cons T.cls_Num D_Num_gives (hr.mono (by decide)) (MtOk.cons T.cls_Plus D_Plus_gives (hr.mono (by decide)) (MtOk.cons T.cls_Load D_Load_gives (hr.mono (by decide)) (MtOk.cons T.cls_Store (D_Row_gives.inh T.inh_Store_gives) (hr.mono (by decide)) (MtOk.cons T.cls_Jump (D_Row_gives.inh T.inh_Jump_gives) (hr.mono (by decide)) (MtOk.cons T.cls_Zero (D_Row_gives.inh T.inh_Zero_gives) (hr.mono (by decide)) (MtOk.cons T.cls_Link D_Link_gives (hr.mono (by decide)) (MtOk.cons T.cls_Stop (D_Row_gives.inh T.inh_Stop_gives) (hr.mono (by decide)) (MtOk.cons T.cls_Home (D_Row_gives.inh T.inh_Home_gives) (hr.mono (by decide)) MtOk.nil)))))))))))))))) (v 0)) qa_nil)))))
theorem ok_Load_known (T : Txt w K γ mg) (D_known_at : Def P w K mg base 1 "known_at" ["station", "box"] (spF K γ 2 f_known_at)) (D_Row_gives : MDef P w K mg base 1 (γ "Row") "gives" ["self"] (spF K γ 1 f_Row_gives)) (D_Ask_gives : MDef P w K mg base 2 (γ "Ask") "gives" ["self"] (spF K γ 1 f_Ask_gives)) (D_Why_gives : MDef P w K mg base 2 (γ "Why") "gives" ["self"] (spF K γ 1 f_Why_gives)) (D_Where_gives : MDef P w K mg base 2 (γ "Where") "gives" ["self"] (spF K γ 1 f_Where_gives)) (D_Pair_gives : MDef P w K mg base 2 (γ "Pair") "gives" ["self"] (spF K γ 1 f_Pair_gives)) (D_Num_gives : MDef P w K mg base 2 (γ "Num") "gives" ["self"] (spF K γ 1 f_Num_gives)) (D_Plus_gives : MDef P w K mg base 2 (γ "Plus") "gives" ["self"] (spF K γ 1 f_Plus_gives)) (D_Load_gives : MDef P w K mg base 2 (γ "Load") "gives" ["self"] (spF K γ 1 f_Load_gives)) (D_Link_gives : MDef P w K mg base 2 (γ "Link") "gives" ["self"] (spF K γ 1 f_Link_gives)) (F : MethB K (γ "Load") "known" "Load.known" s_Load_known ["self"]) : MDef P w K mg base 3 (γ "Load") "known" ["self"] (spF K γ 1 f_Load_known) := by
  refine F.qdef (k := 2) sc_Load_known rfl rfl (bd := b_Load_known) fun f cdv A outer s H E hr => ?_
  unfold b_Load_known
  exact (qs_one (qs_ret (q_call D_known_at (hr.mono (by decide)) (by rfl) (qa_cons q_str (qa_cons (q_meth0 (MtOk.cons T.cls_Aim (D_Row_gives.inh T.inh_Aim_gives) (hr.mono (by decide)) (MtOk.cons T.cls_Go (D_Row_gives.inh T.inh_Go_gives) (hr.mono (by decide)) (MtOk.cons T.cls_Ask D_Ask_gives (hr.mono (by decide)) (MtOk.cons T.cls_Tell (D_Row_gives.inh T.inh_Tell_gives) (hr.mono (by decide)) (MtOk.cons T.cls_Why D_Why_gives (hr.mono (by decide)) (MtOk.cons T.cls_Where D_Where_gives (hr.mono (by decide)) (MtOk.cons T.cls_Pair D_Pair_gives (hr.mono (by decide)) (MtOk.cons T.cls_Num D_Num_gives (hr.mono (by decide)) (MtOk.cons T.cls_Plus D_Plus_gives (hr.mono (by decide)) (MtOk.cons T.cls_Load D_Load_gives (hr.mono (by decide)) (MtOk.cons T.cls_Store (D_Row_gives.inh T.inh_Store_gives) (hr.mono (by decide)) (MtOk.cons T.cls_Jump (D_Row_gives.inh T.inh_Jump_gives) (hr.mono (by decide)) (MtOk.cons T.cls_Zero (D_Row_gives.inh T.inh_Zero_gives) (hr.mono (by decide)) (MtOk.cons T.cls_Link D_Link_gives (hr.mono (by decide)) (MtOk.cons T.cls_Stop (D_Row_gives.inh T.inh_Stop_gives) (hr.mono (by decide)) (MtOk.cons T.cls_Home (D_Row_gives.inh T.inh_Home_gives) (hr.mono (by decide)) MtOk.nil)))))))))))))))) (v 0)) qa_nil)))))
theorem ok__law_known (T : Txt w K γ mg) (D__law_gives : Def P w K mg base 2 "_law_gives" ["_law_told"] (spF K γ 1 f__law_gives)) (F : TopFn K mg "_law_known" s__law_known) : Def P w K mg base 3 "_law_known" ["_law_told"] (spF K γ 1 f__law_known) := by
  refine F.qdef (k := 2) sc__law_known rfl rfl (fun _ _ _ _ _ _ us hl => match us, hl with | [_], _ => rfl) (bd := b__law_known) fun f cdv A outer s H E hr => ?_
  unfold b__law_known
  exact (qs_cons (qs_if (t_Is (q_call D__law_gives (hr.mono (by decide)) (by rfl) (qa_cons (v 0) qa_nil)) q_non) (qs_one (qs_ret q_non)) qs_nil)
    (qs_cons (qs_if (t_Eq (room64 hr) (ix (v 0) q_int) q_str) (qs_one (qs_ret q_str)) qs_nil)
    (qs_one (qs_ret (ix (q_lst (qa_cons q_str (qa_cons q_str qa_nil))) (f_int rfl T.z_int (qa_cons (c_In (ix (v 0) q_int) (q_lst (qa_cons q_str (qa_cons q_str (qa_cons q_str qa_nil))))) qa_nil)))))))
theorem ok__law_whole (T : Txt w K γ mg)  (F : TopFn K mg "_law_whole" s__law_whole) : Def P w K mg base 1 "_law_whole" ["_law_found", "_law_due"] (spF K γ 2 f__law_whole) := by
  refine F.qdef (k := 0) sc__law_whole rfl rfl (fun _ _ _ _ _ _ us hl => match us, hl with | [_, _], _ => rfl) (bd := b__law_whole) fun f cdv A outer s H E hr => ?_
  unfold b__law_whole
  exact (qs_one (qs_ret (q_and (f_isi T.isi rfl T.z_isinstance (qa_cons (v 0) (qa_cons (q_ty rfl T.z_int PyProof.Rows.boot_int) qa_nil))) (q_and (q_not (f_isi T.isi rfl T.z_isinstance (qa_cons (v 0) (qa_cons (q_ty rfl T.z_bool PyProof.Rows.boot_bool) qa_nil)))) (q_one (c_Eq (room64 hr) (v 0) (v 1)))))))
theorem ok__law_gives_right (T : Txt w K γ mg) (D__law_gives : Def P w K mg base 2 "_law_gives" ["_law_told"] (spF K γ 1 f__law_gives)) (D_Row_known : MDef P w K mg base 3 (γ "Row") "known" ["self"] (spF K γ 1 f_Row_known)) (D_Ask_known : MDef P w K mg base 3 (γ "Ask") "known" ["self"] (spF K γ 1 f_Ask_known)) (D_Why_known : MDef P w K mg base 3 (γ "Why") "known" ["self"] (spF K γ 1 f_Why_known)) (D_Where_known : MDef P w K mg base 3 (γ "Where") "known" ["self"] (spF K γ 1 f_Where_known)) (D_Load_known : MDef P w K mg base 3 (γ "Load") "known" ["self"] (spF K γ 1 f_Load_known)) (D_Row_gives : MDef P w K mg base 1 (γ "Row") "gives" ["self"] (spF K γ 1 f_Row_gives)) (D_Ask_gives : MDef P w K mg base 2 (γ "Ask") "gives" ["self"] (spF K γ 1 f_Ask_gives)) (D_Why_gives : MDef P w K mg base 2 (γ "Why") "gives" ["self"] (spF K γ 1 f_Why_gives)) (D_Where_gives : MDef P w K mg base 2 (γ "Where") "gives" ["self"] (spF K γ 1 f_Where_gives)) (D_Pair_gives : MDef P w K mg base 2 (γ "Pair") "gives" ["self"] (spF K γ 1 f_Pair_gives)) (D_Num_gives : MDef P w K mg base 2 (γ "Num") "gives" ["self"] (spF K γ 1 f_Num_gives)) (D_Plus_gives : MDef P w K mg base 2 (γ "Plus") "gives" ["self"] (spF K γ 1 f_Plus_gives)) (D_Load_gives : MDef P w K mg base 2 (γ "Load") "gives" ["self"] (spF K γ 1 f_Load_gives)) (D_Link_gives : MDef P w K mg base 2 (γ "Link") "gives" ["self"] (spF K γ 1 f_Link_gives)) (D__law_known : Def P w K mg base 3 "_law_known" ["_law_told"] (spF K γ 1 f__law_known)) (D__law_whole : Def P w K mg base 1 "_law_whole" ["_law_found", "_law_due"] (spF K γ 2 f__law_whole)) (F : TopFn K mg "_law_gives_right" s__law_gives_right) : Def P w K mg base 4 "_law_gives_right" ["_law_row", "_law_told"] (spF K γ 2 f__law_gives_right) := by
  refine F.qdef (k := 3) sc__law_gives_right rfl rfl (fun _ _ _ _ _ _ us hl => match us, hl with | [_, _], _ => rfl) (bd := b__law_gives_right) fun f cdv A outer s H E hr => ?_
  unfold b__law_gives_right
  exact (qs_cons (sset 2 sc__law_gives_right.nd (q_call D__law_gives (hr.mono (by decide)) (by rfl) (qa_cons (v 1) qa_nil)))
    (qs_cons (qs_if (t_Is (v 2) q_non) (qs_one (qs_ret (q_and (c_Is (q_meth0 (MtOk.cons T.cls_Aim (D_Row_gives.inh T.inh_Aim_gives) (hr.mono (by decide)) (MtOk.cons T.cls_Go (D_Row_gives.inh T.inh_Go_gives) (hr.mono (by decide)) (MtOk.cons T.cls_Ask D_Ask_gives (hr.mono (by decide)) (MtOk.cons T.cls_Tell (D_Row_gives.inh T.inh_Tell_gives) (hr.mono (by decide)) (MtOk.cons T.cls_Why D_Why_gives (hr.mono (by decide)) (MtOk.cons T.cls_Where D_Where_gives (hr.mono (by decide)) (MtOk.cons T.cls_Pair D_Pair_gives (hr.mono (by decide)) (MtOk.cons T.cls_Num D_Num_gives (hr.mono (by decide)) (MtOk.cons T.cls_Plus D_Plus_gives (hr.mono (by decide)) (MtOk.cons T.cls_Load D_Load_gives (hr.mono (by decide)) (MtOk.cons T.cls_Store (D_Row_gives.inh T.inh_Store_gives) (hr.mono (by decide)) (MtOk.cons T.cls_Jump (D_Row_gives.inh T.inh_Jump_gives) (hr.mono (by decide)) (MtOk.cons T.cls_Zero (D_Row_gives.inh T.inh_Zero_gives) (hr.mono (by decide)) (MtOk.cons T.cls_Link D_Link_gives (hr.mono (by decide)) (MtOk.cons T.cls_Stop (D_Row_gives.inh T.inh_Stop_gives) (hr.mono (by decide)) (MtOk.cons T.cls_Home (D_Row_gives.inh T.inh_Home_gives) (hr.mono (by decide)) MtOk.nil)))))))))))))))) (v 0)) q_non) (q_one (c_Is (q_meth0 (MtOk.cons T.cls_Aim (D_Row_known.inh T.inh_Aim_known) (hr.mono (by decide)) (MtOk.cons T.cls_Go (D_Row_known.inh T.inh_Go_known) (hr.mono (by decide)) (MtOk.cons T.cls_Ask D_Ask_known (hr.mono (by decide)) (MtOk.cons T.cls_Tell (D_Row_known.inh T.inh_Tell_known) (hr.mono (by decide)) (MtOk.cons T.cls_Why D_Why_known (hr.mono (by decide)) (MtOk.cons T.cls_Where D_Where_known (hr.mono (by decide)) (MtOk.cons T.cls_Pair (D_Row_known.inh T.inh_Pair_known) (hr.mono (by decide)) (MtOk.cons T.cls_Num (D_Row_known.inh T.inh_Num_known) (hr.mono (by decide)) (MtOk.cons T.cls_Plus (D_Row_known.inh T.inh_Plus_known) (hr.mono (by decide)) (MtOk.cons T.cls_Load D_Load_known (hr.mono (by decide)) (MtOk.cons T.cls_Store (D_Row_known.inh T.inh_Store_known) (hr.mono (by decide)) (MtOk.cons T.cls_Jump (D_Row_known.inh T.inh_Jump_known) (hr.mono (by decide)) (MtOk.cons T.cls_Zero (D_Row_known.inh T.inh_Zero_known) (hr.mono (by decide)) (MtOk.cons T.cls_Link (D_Row_known.inh T.inh_Link_known) (hr.mono (by decide)) (MtOk.cons T.cls_Stop (D_Row_known.inh T.inh_Stop_known) (hr.mono (by decide)) (MtOk.cons T.cls_Home (D_Row_known.inh T.inh_Home_known) (hr.mono (by decide)) MtOk.nil)))))))))))))))) (v 0)) q_non))))) qs_nil)
    (qs_one (qs_ret (q_and (q_call D__law_whole (hr.mono (by decide)) (by rfl) (qa_cons (q_meth0 (MtOk.cons T.cls_Aim (D_Row_gives.inh T.inh_Aim_gives) (hr.mono (by decide)) (MtOk.cons T.cls_Go (D_Row_gives.inh T.inh_Go_gives) (hr.mono (by decide)) (MtOk.cons T.cls_Ask D_Ask_gives (hr.mono (by decide)) (MtOk.cons T.cls_Tell (D_Row_gives.inh T.inh_Tell_gives) (hr.mono (by decide)) (MtOk.cons T.cls_Why D_Why_gives (hr.mono (by decide)) (MtOk.cons T.cls_Where D_Where_gives (hr.mono (by decide)) (MtOk.cons T.cls_Pair D_Pair_gives (hr.mono (by decide)) (MtOk.cons T.cls_Num D_Num_gives (hr.mono (by decide)) (MtOk.cons T.cls_Plus D_Plus_gives (hr.mono (by decide)) (MtOk.cons T.cls_Load D_Load_gives (hr.mono (by decide)) (MtOk.cons T.cls_Store (D_Row_gives.inh T.inh_Store_gives) (hr.mono (by decide)) (MtOk.cons T.cls_Jump (D_Row_gives.inh T.inh_Jump_gives) (hr.mono (by decide)) (MtOk.cons T.cls_Zero (D_Row_gives.inh T.inh_Zero_gives) (hr.mono (by decide)) (MtOk.cons T.cls_Link D_Link_gives (hr.mono (by decide)) (MtOk.cons T.cls_Stop (D_Row_gives.inh T.inh_Stop_gives) (hr.mono (by decide)) (MtOk.cons T.cls_Home (D_Row_gives.inh T.inh_Home_gives) (hr.mono (by decide)) MtOk.nil)))))))))))))))) (v 0)) (qa_cons (v 2) qa_nil))) (q_one (c_Eq (room64 hr) (q_meth0 (MtOk.cons T.cls_Aim (D_Row_known.inh T.inh_Aim_known) (hr.mono (by decide)) (MtOk.cons T.cls_Go (D_Row_known.inh T.inh_Go_known) (hr.mono (by decide)) (MtOk.cons T.cls_Ask D_Ask_known (hr.mono (by decide)) (MtOk.cons T.cls_Tell (D_Row_known.inh T.inh_Tell_known) (hr.mono (by decide)) (MtOk.cons T.cls_Why D_Why_known (hr.mono (by decide)) (MtOk.cons T.cls_Where D_Where_known (hr.mono (by decide)) (MtOk.cons T.cls_Pair (D_Row_known.inh T.inh_Pair_known) (hr.mono (by decide)) (MtOk.cons T.cls_Num (D_Row_known.inh T.inh_Num_known) (hr.mono (by decide)) (MtOk.cons T.cls_Plus (D_Row_known.inh T.inh_Plus_known) (hr.mono (by decide)) (MtOk.cons T.cls_Load D_Load_known (hr.mono (by decide)) (MtOk.cons T.cls_Store (D_Row_known.inh T.inh_Store_known) (hr.mono (by decide)) (MtOk.cons T.cls_Jump (D_Row_known.inh T.inh_Jump_known) (hr.mono (by decide)) (MtOk.cons T.cls_Zero (D_Row_known.inh T.inh_Zero_known) (hr.mono (by decide)) (MtOk.cons T.cls_Link (D_Row_known.inh T.inh_Link_known) (hr.mono (by decide)) (MtOk.cons T.cls_Stop (D_Row_known.inh T.inh_Stop_known) (hr.mono (by decide)) (MtOk.cons T.cls_Home (D_Row_known.inh T.inh_Home_known) (hr.mono (by decide)) MtOk.nil)))))))))))))))) (v 0)) (q_call D__law_known (hr.mono (by decide)) (by rfl) (qa_cons (v 1) qa_nil)))))))))
theorem ok_Row_long (T : Txt w K γ mg)  (F : MethB K (γ "Row") "long" "Row.long" s_Row_long ["self"]) : MDef P w K mg base 1 (γ "Row") "long" ["self"] (spF K γ 1 f_Row_long) := by
  refine F.qdef (k := 0) sc_Row_long rfl rfl (bd := b_Row_long) fun f cdv A outer s H E hr => ?_
  unfold b_Row_long
  exact (qs_one (qs_ret q_int))
theorem ok_Pair_long (T : Txt w K γ mg)  (F : MethB K (γ "Pair") "long" "Pair.long" s_Pair_long ["self"]) : MDef P w K mg base 1 (γ "Pair") "long" ["self"] (spF K γ 1 f_Pair_long) := by
  refine F.qdef (k := 0) sc_Pair_long rfl rfl (bd := b_Pair_long) fun f cdv A outer s H E hr => ?_
  unfold b_Pair_long
  exact (qs_one (qs_ret (q_getI T.d_LONG (by rfl) (q_fld T.fld_word (v 0)) q_int)))
theorem ok_Aim_alone (T : Txt w K γ mg)  (F : MethB K (γ "Aim") "alone" "Aim.alone" s_Aim_alone ["self"]) : MDef P w K mg base 1 (γ "Aim") "alone" ["self"] (spF K γ 1 f_Aim_alone) := by
  refine F.qdef (k := 0) sc_Aim_alone rfl rfl (bd := b_Aim_alone) fun f cdv A outer s H E hr => ?_
  unfold b_Aim_alone
  exact (qs_one (qs_ret q_bl))
theorem ok_Row_alone (T : Txt w K γ mg)  (F : MethB K (γ "Row") "alone" "Row.alone" s_Row_alone ["self"]) : MDef P w K mg base 1 (γ "Row") "alone" ["self"] (spF K γ 1 f_Row_alone) := by
  refine F.qdef (k := 0) sc_Row_alone rfl rfl (bd := b_Row_alone) fun f cdv A outer s H E hr => ?_
  unfold b_Row_alone
  exact (qs_one (qs_ret q_bl))
theorem ok_Why_alone (T : Txt w K γ mg)  (F : MethB K (γ "Why") "alone" "Why.alone" s_Why_alone ["self"]) : MDef P w K mg base 1 (γ "Why") "alone" ["self"] (spF K γ 1 f_Why_alone) := by
  refine F.qdef (k := 0) sc_Why_alone rfl rfl (bd := b_Why_alone) fun f cdv A outer s H E hr => ?_
  unfold b_Why_alone
  exact (qs_one (qs_ret q_bl))
theorem ok_Where_alone (T : Txt w K γ mg)  (F : MethB K (γ "Where") "alone" "Where.alone" s_Where_alone ["self"]) : MDef P w K mg base 1 (γ "Where") "alone" ["self"] (spF K γ 1 f_Where_alone) := by
  refine F.qdef (k := 0) sc_Where_alone rfl rfl (bd := b_Where_alone) fun f cdv A outer s H E hr => ?_
  unfold b_Where_alone
  exact (qs_one (qs_ret q_bl))
theorem ok_Home_alone (T : Txt w K γ mg)  (F : MethB K (γ "Home") "alone" "Home.alone" s_Home_alone ["self"]) : MDef P w K mg base 1 (γ "Home") "alone" ["self"] (spF K γ 1 f_Home_alone) := by
  refine F.qdef (k := 0) sc_Home_alone rfl rfl (bd := b_Home_alone) fun f cdv A outer s H E hr => ?_
  unfold b_Home_alone
  exact (qs_one (qs_ret q_bl))
theorem ok__law_right (T : Txt w K γ mg) (D__law_same : Def P w K mg base 1 "_law_same" ["_law_found", "_law_due"] (spF K γ 2 f__law_same)) (D_Aim_reads : MDef P w K mg base 1 (γ "Aim") "reads" ["self"] (spF K γ 1 f_Aim_reads)) (D_Go_reads : MDef P w K mg base 1 (γ "Go") "reads" ["self"] (spF K γ 1 f_Go_reads)) (D_Row_reads : MDef P w K mg base 1 (γ "Row") "reads" ["self"] (spF K γ 1 f_Row_reads)) (D_Tell_reads : MDef P w K mg base 1 (γ "Tell") "reads" ["self"] (spF K γ 1 f_Tell_reads)) (D_Pair_reads : MDef P w K mg base 1 (γ "Pair") "reads" ["self"] (spF K γ 1 f_Pair_reads)) (D_Plus_reads : MDef P w K mg base 1 (γ "Plus") "reads" ["self"] (spF K γ 1 f_Plus_reads)) (D_Load_reads : MDef P w K mg base 1 (γ "Load") "reads" ["self"] (spF K γ 1 f_Load_reads)) (D_Store_reads : MDef P w K mg base 1 (γ "Store") "reads" ["self"] (spF K γ 1 f_Store_reads)) (D_Zero_reads : MDef P w K mg base 1 (γ "Zero") "reads" ["self"] (spF K γ 1 f_Zero_reads)) (D__law_reads : Def P w K mg base 2 "_law_reads" ["_law_told"] (spF K γ 1 f__law_reads)) (D__law_fields : Def P w K mg base 2 "_law_fields" ["_law_row", "_law_told"] (spF K γ 2 f__law_fields)) (D_Aim_told : MDef P w K mg base 1 (γ "Aim") "told" ["self"] (spF K γ 1 f_Aim_told)) (D_Go_told : MDef P w K mg base 1 (γ "Go") "told" ["self"] (spF K γ 1 f_Go_told)) (D_Ask_told : MDef P w K mg base 1 (γ "Ask") "told" ["self"] (spF K γ 1 f_Ask_told)) (D_Tell_told : MDef P w K mg base 1 (γ "Tell") "told" ["self"] (spF K γ 1 f_Tell_told)) (D_Why_told : MDef P w K mg base 1 (γ "Why") "told" ["self"] (spF K γ 1 f_Why_told)) (D_Where_told : MDef P w K mg base 1 (γ "Where") "told" ["self"] (spF K γ 1 f_Where_told)) (D_Pair_told : MDef P w K mg base 1 (γ "Pair") "told" ["self"] (spF K γ 1 f_Pair_told)) (D_Num_told : MDef P w K mg base 1 (γ "Num") "told" ["self"] (spF K γ 1 f_Num_told)) (D_Plus_told : MDef P w K mg base 1 (γ "Plus") "told" ["self"] (spF K γ 1 f_Plus_told)) (D_Load_told : MDef P w K mg base 1 (γ "Load") "told" ["self"] (spF K γ 1 f_Load_told)) (D_Store_told : MDef P w K mg base 1 (γ "Store") "told" ["self"] (spF K γ 1 f_Store_told)) (D_Jump_told : MDef P w K mg base 1 (γ "Jump") "told" ["self"] (spF K γ 1 f_Jump_told)) (D_Zero_told : MDef P w K mg base 1 (γ "Zero") "told" ["self"] (spF K γ 1 f_Zero_told)) (D_Link_told : MDef P w K mg base 1 (γ "Link") "told" ["self"] (spF K γ 1 f_Link_told)) (D_Stop_told : MDef P w K mg base 1 (γ "Stop") "told" ["self"] (spF K γ 1 f_Stop_told)) (D_Home_told : MDef P w K mg base 1 (γ "Home") "told" ["self"] (spF K γ 1 f_Home_told)) (D__law_gives_right : Def P w K mg base 4 "_law_gives_right" ["_law_row", "_law_told"] (spF K γ 2 f__law_gives_right)) (D__law_whole : Def P w K mg base 1 "_law_whole" ["_law_found", "_law_due"] (spF K γ 2 f__law_whole)) (D_Row_long : MDef P w K mg base 1 (γ "Row") "long" ["self"] (spF K γ 1 f_Row_long)) (D_Pair_long : MDef P w K mg base 1 (γ "Pair") "long" ["self"] (spF K γ 1 f_Pair_long)) (D_Aim_alone : MDef P w K mg base 1 (γ "Aim") "alone" ["self"] (spF K γ 1 f_Aim_alone)) (D_Row_alone : MDef P w K mg base 1 (γ "Row") "alone" ["self"] (spF K γ 1 f_Row_alone)) (D_Why_alone : MDef P w K mg base 1 (γ "Why") "alone" ["self"] (spF K γ 1 f_Why_alone)) (D_Where_alone : MDef P w K mg base 1 (γ "Where") "alone" ["self"] (spF K γ 1 f_Where_alone)) (D_Home_alone : MDef P w K mg base 1 (γ "Home") "alone" ["self"] (spF K γ 1 f_Home_alone)) (F : TopFn K mg "_law_right" s__law_right) : Def P w K mg base 5 "_law_right" ["_law_row", "_law_told", "_law_turn"] (spF K γ 3 f__law_right) := by
  refine F.qdef (k := 4) sc__law_right rfl rfl (fun _ _ _ _ _ _ us hl => match us, hl with | [_, _, _], _ => rfl) (bd := b__law_right) fun f cdv A outer s H E hr => ?_
  unfold b__law_right
  exact (qs_cons (qs_if (qt_w (qw_and (t_Eq (room64 hr) (v 2) q_int) (qw_and1 (qt_not (qt_e (q_call D__law_same (hr.mono (by decide)) (by rfl) (qa_cons (q_meth0 (MtOk.cons T.cls_Aim D_Aim_reads (hr.mono (by decide)) (MtOk.cons T.cls_Go D_Go_reads (hr.mono (by decide)) (MtOk.cons T.cls_Ask (D_Row_reads.inh T.inh_Ask_reads) (hr.mono (by decide)) (MtOk.cons T.cls_Tell D_Tell_reads (hr.mono (by decide)) (MtOk.cons T.cls_Why (D_Row_reads.inh T.inh_Why_reads) (hr.mono (by decide)) (MtOk.cons T.cls_Where (D_Row_reads.inh T.inh_Where_reads) (hr.mono (by decide)) (MtOk.cons T.cls_Pair D_Pair_reads (hr.mono (by decide)) (MtOk.cons T.cls_Num (D_Row_reads.inh T.inh_Num_reads) (hr.mono (by decide)) (MtOk.cons T.cls_Plus D_Plus_reads (hr.mono (by decide)) (MtOk.cons T.cls_Load D_Load_reads (hr.mono (by decide)) (MtOk.cons T.cls_Store D_Store_reads (hr.mono (by decide)) (MtOk.cons T.cls_Jump (D_Row_reads.inh T.inh_Jump_reads) (hr.mono (by decide)) (MtOk.cons T.cls_Zero D_Zero_reads (hr.mono (by decide)) (MtOk.cons T.cls_Link (D_Row_reads.inh T.inh_Link_reads) (hr.mono (by decide)) (MtOk.cons T.cls_Stop (D_Row_reads.inh T.inh_Stop_reads) (hr.mono (by decide)) (MtOk.cons T.cls_Home (D_Row_reads.inh T.inh_Home_reads) (hr.mono (by decide)) MtOk.nil)))))))))))))))) (v 0)) (qa_cons (q_call D__law_reads (hr.mono (by decide)) (by rfl) (qa_cons (v 1) qa_nil)) qa_nil)))))))) (qs_one (qs_ret q_bl)) qs_nil)
    (qs_cons (qs_if (qt_w (qw_or (qt_not (qt_e (q_call D__law_gives_right (hr.mono (by decide)) (by rfl) (qa_cons (v 0) (qa_cons (v 1) qa_nil))))) (qw_or (qt_not (qt_e (q_call D__law_same (hr.mono (by decide)) (by rfl) (qa_cons (q_meth0 (MtOk.cons T.cls_Aim D_Aim_told (hr.mono (by decide)) (MtOk.cons T.cls_Go D_Go_told (hr.mono (by decide)) (MtOk.cons T.cls_Ask D_Ask_told (hr.mono (by decide)) (MtOk.cons T.cls_Tell D_Tell_told (hr.mono (by decide)) (MtOk.cons T.cls_Why D_Why_told (hr.mono (by decide)) (MtOk.cons T.cls_Where D_Where_told (hr.mono (by decide)) (MtOk.cons T.cls_Pair D_Pair_told (hr.mono (by decide)) (MtOk.cons T.cls_Num D_Num_told (hr.mono (by decide)) (MtOk.cons T.cls_Plus D_Plus_told (hr.mono (by decide)) (MtOk.cons T.cls_Load D_Load_told (hr.mono (by decide)) (MtOk.cons T.cls_Store D_Store_told (hr.mono (by decide)) (MtOk.cons T.cls_Jump D_Jump_told (hr.mono (by decide)) (MtOk.cons T.cls_Zero D_Zero_told (hr.mono (by decide)) (MtOk.cons T.cls_Link D_Link_told (hr.mono (by decide)) (MtOk.cons T.cls_Stop D_Stop_told (hr.mono (by decide)) (MtOk.cons T.cls_Home D_Home_told (hr.mono (by decide)) MtOk.nil)))))))))))))))) (v 0)) (qa_cons (v 1) qa_nil))))) (qw_or1 (qt_not (qt_e (q_call D__law_fields (hr.mono (by decide)) (by rfl) (qa_cons (v 0) (qa_cons (v 1) qa_nil))))))))) (qs_one (qs_ret q_bl)) qs_nil)
    (qs_cons (sset 3 sc__law_right.nd (ix (q_lst (qa_cons q_int (qa_cons q_int (qa_cons q_int qa_nil)))) (b_Add (f_int rfl T.z_int (qa_cons (c_Eq (room64 hr) (ix (v 1) q_int) q_str) qa_nil)) (b_Mult q_int (f_int rfl T.z_int (qa_cons (c_In (ix (v 1) q_int) (q_lst (qa_cons q_str (qa_cons q_str qa_nil)))) qa_nil))))))
    (qs_cons (qs_if (qt_w (qw_or (qt_not (qt_e (q_call D__law_whole (hr.mono (by decide)) (by rfl) (qa_cons (q_meth0 (MtOk.cons T.cls_Aim (D_Row_long.inh T.inh_Aim_long) (hr.mono (by decide)) (MtOk.cons T.cls_Go (D_Row_long.inh T.inh_Go_long) (hr.mono (by decide)) (MtOk.cons T.cls_Ask (D_Row_long.inh T.inh_Ask_long) (hr.mono (by decide)) (MtOk.cons T.cls_Tell (D_Row_long.inh T.inh_Tell_long) (hr.mono (by decide)) (MtOk.cons T.cls_Why (D_Row_long.inh T.inh_Why_long) (hr.mono (by decide)) (MtOk.cons T.cls_Where (D_Row_long.inh T.inh_Where_long) (hr.mono (by decide)) (MtOk.cons T.cls_Pair D_Pair_long (hr.mono (by decide)) (MtOk.cons T.cls_Num (D_Row_long.inh T.inh_Num_long) (hr.mono (by decide)) (MtOk.cons T.cls_Plus (D_Row_long.inh T.inh_Plus_long) (hr.mono (by decide)) (MtOk.cons T.cls_Load (D_Row_long.inh T.inh_Load_long) (hr.mono (by decide)) (MtOk.cons T.cls_Store (D_Row_long.inh T.inh_Store_long) (hr.mono (by decide)) (MtOk.cons T.cls_Jump (D_Row_long.inh T.inh_Jump_long) (hr.mono (by decide)) (MtOk.cons T.cls_Zero (D_Row_long.inh T.inh_Zero_long) (hr.mono (by decide)) (MtOk.cons T.cls_Link (D_Row_long.inh T.inh_Link_long) (hr.mono (by decide)) (MtOk.cons T.cls_Stop (D_Row_long.inh T.inh_Stop_long) (hr.mono (by decide)) (MtOk.cons T.cls_Home (D_Row_long.inh T.inh_Home_long) (hr.mono (by decide)) MtOk.nil)))))))))))))))) (v 0)) (qa_cons (v 3) qa_nil))))) (qw_or1 (qt_not (qt_e (q_call D__law_same (hr.mono (by decide)) (by rfl) (qa_cons (q_meth0 (MtOk.cons T.cls_Aim D_Aim_reads (hr.mono (by decide)) (MtOk.cons T.cls_Go D_Go_reads (hr.mono (by decide)) (MtOk.cons T.cls_Ask (D_Row_reads.inh T.inh_Ask_reads) (hr.mono (by decide)) (MtOk.cons T.cls_Tell D_Tell_reads (hr.mono (by decide)) (MtOk.cons T.cls_Why (D_Row_reads.inh T.inh_Why_reads) (hr.mono (by decide)) (MtOk.cons T.cls_Where (D_Row_reads.inh T.inh_Where_reads) (hr.mono (by decide)) (MtOk.cons T.cls_Pair D_Pair_reads (hr.mono (by decide)) (MtOk.cons T.cls_Num (D_Row_reads.inh T.inh_Num_reads) (hr.mono (by decide)) (MtOk.cons T.cls_Plus D_Plus_reads (hr.mono (by decide)) (MtOk.cons T.cls_Load D_Load_reads (hr.mono (by decide)) (MtOk.cons T.cls_Store D_Store_reads (hr.mono (by decide)) (MtOk.cons T.cls_Jump (D_Row_reads.inh T.inh_Jump_reads) (hr.mono (by decide)) (MtOk.cons T.cls_Zero D_Zero_reads (hr.mono (by decide)) (MtOk.cons T.cls_Link (D_Row_reads.inh T.inh_Link_reads) (hr.mono (by decide)) (MtOk.cons T.cls_Stop (D_Row_reads.inh T.inh_Stop_reads) (hr.mono (by decide)) (MtOk.cons T.cls_Home (D_Row_reads.inh T.inh_Home_reads) (hr.mono (by decide)) MtOk.nil)))))))))))))))) (v 0)) (qa_cons (q_call D__law_reads (hr.mono (by decide)) (by rfl) (qa_cons (v 1) qa_nil)) qa_nil)))))))) (qs_one (qs_ret q_bl)) qs_nil)
    (qs_cons (sset 4 sc__law_right.nd (q_meth0 (MtOk.cons T.cls_Aim D_Aim_alone (hr.mono (by decide)) (MtOk.cons T.cls_Go (D_Row_alone.inh T.inh_Go_alone) (hr.mono (by decide)) (MtOk.cons T.cls_Ask (D_Row_alone.inh T.inh_Ask_alone) (hr.mono (by decide)) (MtOk.cons T.cls_Tell (D_Row_alone.inh T.inh_Tell_alone) (hr.mono (by decide)) (MtOk.cons T.cls_Why D_Why_alone (hr.mono (by decide)) (MtOk.cons T.cls_Where D_Where_alone (hr.mono (by decide)) (MtOk.cons T.cls_Pair (D_Row_alone.inh T.inh_Pair_alone) (hr.mono (by decide)) (MtOk.cons T.cls_Num (D_Row_alone.inh T.inh_Num_alone) (hr.mono (by decide)) (MtOk.cons T.cls_Plus (D_Row_alone.inh T.inh_Plus_alone) (hr.mono (by decide)) (MtOk.cons T.cls_Load (D_Row_alone.inh T.inh_Load_alone) (hr.mono (by decide)) (MtOk.cons T.cls_Store (D_Row_alone.inh T.inh_Store_alone) (hr.mono (by decide)) (MtOk.cons T.cls_Jump (D_Row_alone.inh T.inh_Jump_alone) (hr.mono (by decide)) (MtOk.cons T.cls_Zero (D_Row_alone.inh T.inh_Zero_alone) (hr.mono (by decide)) (MtOk.cons T.cls_Link (D_Row_alone.inh T.inh_Link_alone) (hr.mono (by decide)) (MtOk.cons T.cls_Stop (D_Row_alone.inh T.inh_Stop_alone) (hr.mono (by decide)) (MtOk.cons T.cls_Home D_Home_alone (hr.mono (by decide)) MtOk.nil)))))))))))))))) (v 0)))
    (qs_one (qs_ret (q_and (f_isi T.isi rfl T.z_isinstance (qa_cons (v 4) (qa_cons (q_ty rfl T.z_bool PyProof.Rows.boot_bool) qa_nil))) (q_one (c_Eq (room64 hr) (v 4) (c_In (ix (v 1) q_int) (q_lst (qa_cons q_str (qa_cons q_str (qa_cons q_str (qa_cons q_str qa_nil))))))))))))))))
theorem ok_law (T : Txt w K γ mg) {ρ : Nat → Addr} (C : ConsOk K γ ρ consts) (D__law_told_by : ∀ base, Def P w K mg base 2 "_law_told_by" ["_law_cell_here"] (spF K γ 1 f__law_told_by)) (D__law_cell : ∀ base, Def P w K mg base 1 "_law_cell" ["_law_script", "_law_k"] (spF K γ 2 f__law_cell)) (D__law_made : ∀ base, Def P w K mg base 4 "_law_made" ["_law_told"] (spF K γ 1 f__law_made)) (D__law_right : ∀ base, Def P w K mg base 5 "_law_right" ["_law_row", "_law_told", "_law_turn"] (spF K γ 3 f__law_right)) (F : TopFn K mg "law" s_law) (good : ∀ ns : List Int, ns.length ≤ 63 → ∃ h', f_law [.ref consts.length] (consts ++ [.rol (ns.map HL.W.int)]) = .ok (.bl true) h') : LawR P w K mg 6 := by
  refine F.qlaw (k := 5) (γ := γ) sc_law rfl C (fun _ _ _ _ _ _ us hl => match us, hl with | [_], _ => rfl) (bd := b_law) (fun base f cdv A outer s H E hr => ?_) good
  replace D__law_told_by := D__law_told_by base
  replace D__law_cell := D__law_cell base
  replace D__law_made := D__law_made base
  replace D__law_right := D__law_right base
  unfold b_law
  exact (qs_cons (qs_for PassesOwn.never rfl (qi_range1 rfl T.z_range (f_max rfl rfl T.z_max (qa_cons q_int (qa_cons (f_min rfl rfl T.z_min (qa_cons (f_len rfl T.z_len (qa_cons (v 0) qa_nil)) (qa_cons q_int qa_nil))) qa_nil)))) (gn 1 sc_law.nd) (qs_cons (sset 2 sc_law.nd (q_call D__law_told_by (hr.mono (by decide)) (by rfl) (qa_cons (q_call D__law_cell (hr.mono (by decide)) (by rfl) (qa_cons (v 0) (qa_cons (v 1) qa_nil))) qa_nil)))
    (qs_cons (sset 3 sc_law.nd (q_call D__law_made (hr.mono (by decide)) (by rfl) (qa_cons (v 2) qa_nil)))
    (qs_cons (qs_if (qt_not (qt_e (f_isi T.isi rfl T.z_isinstance (qa_cons (v 3) (qa_cons (q_glob rfl T.m_Row) qa_nil))))) (qs_one (qs_ret q_bl)) qs_nil)
    (qs_cons (sset 4 sc_law.nd (b_Mod (q_call D__law_cell (hr.mono (by decide)) (by rfl) (qa_cons (v 0) (qa_cons (b_Add q_int (v 1)) qa_nil))) q_int))
    (qs_one (qs_if (qt_w (qw_or (qt_not (qt_e (q_call D__law_right (hr.mono (by decide)) (by rfl) (qa_cons (v 3) (qa_cons (v 2) (qa_cons (v 4) qa_nil)))))) (qw_or1 (qt_not (qt_e (q_call D__law_right (hr.mono (by decide)) (by rfl) (qa_cons (v 3) (qa_cons (v 2) (qa_cons (b_Sub q_int (v 4)) qa_nil))))))))) (qs_one (qs_ret q_bl)) qs_nil)))))))
    (qs_one (qs_ret q_bl)))
theorem all (T : Txt w K γ mg) {ρ : Nat → Addr} (C : ConsOk K γ ρ consts) (F__law_pairs : TopFn K mg "_law_pairs" s__law_pairs) (F__law_told_by : TopFn K mg "_law_told_by" s__law_told_by) (F__law_cell : TopFn K mg "_law_cell" s__law_cell) (F_Pair_init : MethB K (γ "Pair") "__init__" "Pair.__init__" s_Pair_init ["self", "word", "a", "b", "c"]) (F_Num_init : MethB K (γ "Num") "__init__" "Num.__init__" s_Num_init ["self", "a", "n"]) (F_Plus_init : MethB K (γ "Plus") "__init__" "Plus.__init__" s_Plus_init ["self", "a", "b", "n"]) (F_Load_init : MethB K (γ "Load") "__init__" "Load.__init__" s_Load_init ["self", "a", "b", "n"]) (F_Store_init : MethB K (γ "Store") "__init__" "Store.__init__" s_Store_init ["self", "a", "b", "n"]) (F_Jump_init : MethB K (γ "Jump") "__init__" "Jump.__init__" s_Jump_init ["self", "n"]) (F_Zero_init : MethB K (γ "Zero") "__init__" "Zero.__init__" s_Zero_init ["self", "a", "n"]) (F_Link_init : MethB K (γ "Link") "__init__" "Link.__init__" s_Link_init ["self", "a", "n"]) (F_Go_init : MethB K (γ "Go") "__init__" "Go.__init__" s_Go_init ["self", "a"]) (F_Ask_init : MethB K (γ "Ask") "__init__" "Ask.__init__" s_Ask_init ["self", "a"]) (F_Tell_init : MethB K (γ "Tell") "__init__" "Tell.__init__" s_Tell_init ["self", "a"]) (F_Why_init : MethB K (γ "Why") "__init__" "Why.__init__" s_Why_init ["self", "a"]) (F_Where_init : MethB K (γ "Where") "__init__" "Where.__init__" s_Where_init ["self", "a"]) (F_Aim_init : MethB K (γ "Aim") "__init__" "Aim.__init__" s_Aim_init ["self", "a"]) (F__law_box_row : TopFn K mg "_law_box_row" s__law_box_row) (F__law_made : TopFn K mg "_law_made" s__law_made) (F__law_same : TopFn K mg "_law_same" s__law_same) (F_Aim_reads : MethB K (γ "Aim") "reads" "Aim.reads" s_Aim_reads ["self"]) (F_Go_reads : MethB K (γ "Go") "reads" "Go.reads" s_Go_reads ["self"]) (F_Row_reads : MethB K (γ "Row") "reads" "Row.reads" s_Row_reads ["self"]) (F_Tell_reads : MethB K (γ "Tell") "reads" "Tell.reads" s_Tell_reads ["self"]) (F_Pair_reads : MethB K (γ "Pair") "reads" "Pair.reads" s_Pair_reads ["self"]) (F_Plus_reads : MethB K (γ "Plus") "reads" "Plus.reads" s_Plus_reads ["self"]) (F_Load_reads : MethB K (γ "Load") "reads" "Load.reads" s_Load_reads ["self"]) (F_Store_reads : MethB K (γ "Store") "reads" "Store.reads" s_Store_reads ["self"]) (F_Zero_reads : MethB K (γ "Zero") "reads" "Zero.reads" s_Zero_reads ["self"]) (F__law_reads : TopFn K mg "_law_reads" s__law_reads) (F__law_fields : TopFn K mg "_law_fields" s__law_fields) (F_Aim_told : MethB K (γ "Aim") "told" "Aim.told" s_Aim_told ["self"]) (F_Go_told : MethB K (γ "Go") "told" "Go.told" s_Go_told ["self"]) (F_Ask_told : MethB K (γ "Ask") "told" "Ask.told" s_Ask_told ["self"]) (F_Tell_told : MethB K (γ "Tell") "told" "Tell.told" s_Tell_told ["self"]) (F_Why_told : MethB K (γ "Why") "told" "Why.told" s_Why_told ["self"]) (F_Where_told : MethB K (γ "Where") "told" "Where.told" s_Where_told ["self"]) (F_Pair_told : MethB K (γ "Pair") "told" "Pair.told" s_Pair_told ["self"]) (F_Num_told : MethB K (γ "Num") "told" "Num.told" s_Num_told ["self"]) (F_Plus_told : MethB K (γ "Plus") "told" "Plus.told" s_Plus_told ["self"]) (F_Load_told : MethB K (γ "Load") "told" "Load.told" s_Load_told ["self"]) (F_Store_told : MethB K (γ "Store") "told" "Store.told" s_Store_told ["self"]) (F_Jump_told : MethB K (γ "Jump") "told" "Jump.told" s_Jump_told ["self"]) (F_Zero_told : MethB K (γ "Zero") "told" "Zero.told" s_Zero_told ["self"]) (F_Link_told : MethB K (γ "Link") "told" "Link.told" s_Link_told ["self"]) (F_Stop_told : MethB K (γ "Stop") "told" "Stop.told" s_Stop_told ["self"]) (F_Home_told : MethB K (γ "Home") "told" "Home.told" s_Home_told ["self"]) (F__law_gives : TopFn K mg "_law_gives" s__law_gives) (F_known_at : TopFn K mg "known_at" s_known_at) (F_Row_gives : MethB K (γ "Row") "gives" "Row.gives" s_Row_gives ["self"]) (F_given_box : TopFn K mg "given_box" s_given_box) (F_Ask_gives : MethB K (γ "Ask") "gives" "Ask.gives" s_Ask_gives ["self"]) (F_Why_gives : MethB K (γ "Why") "gives" "Why.gives" s_Why_gives ["self"]) (F_Where_gives : MethB K (γ "Where") "gives" "Where.gives" s_Where_gives ["self"]) (F_Pair_gives : MethB K (γ "Pair") "gives" "Pair.gives" s_Pair_gives ["self"]) (F_Num_gives : MethB K (γ "Num") "gives" "Num.gives" s_Num_gives ["self"]) (F_Plus_gives : MethB K (γ "Plus") "gives" "Plus.gives" s_Plus_gives ["self"]) (F_Load_gives : MethB K (γ "Load") "gives" "Load.gives" s_Load_gives ["self"]) (F_Link_gives : MethB K (γ "Link") "gives" "Link.gives" s_Link_gives ["self"]) (F_Row_known : MethB K (γ "Row") "known" "Row.known" s_Row_known ["self"]) (F_Ask_known : MethB K (γ "Ask") "known" "Ask.known" s_Ask_known ["self"]) (F_Why_known : MethB K (γ "Why") "known" "Why.known" s_Why_known ["self"]) (F_Where_known : MethB K (γ "Where") "known" "Where.known" s_Where_known ["self"]) (F_Load_known : MethB K (γ "Load") "known" "Load.known" s_Load_known ["self"]) (F__law_known : TopFn K mg "_law_known" s__law_known) (F__law_whole : TopFn K mg "_law_whole" s__law_whole) (F__law_gives_right : TopFn K mg "_law_gives_right" s__law_gives_right) (F_Row_long : MethB K (γ "Row") "long" "Row.long" s_Row_long ["self"]) (F_Pair_long : MethB K (γ "Pair") "long" "Pair.long" s_Pair_long ["self"]) (F_Aim_alone : MethB K (γ "Aim") "alone" "Aim.alone" s_Aim_alone ["self"]) (F_Row_alone : MethB K (γ "Row") "alone" "Row.alone" s_Row_alone ["self"]) (F_Why_alone : MethB K (γ "Why") "alone" "Why.alone" s_Why_alone ["self"]) (F_Where_alone : MethB K (γ "Where") "alone" "Where.alone" s_Where_alone ["self"]) (F_Home_alone : MethB K (γ "Home") "alone" "Home.alone" s_Home_alone ["self"]) (F__law_right : TopFn K mg "_law_right" s__law_right) (F_law : TopFn K mg "law" s_law) (good : ∀ ns : List Int, ns.length ≤ 63 → ∃ h', f_law [.ref consts.length] (consts ++ [.rol (ns.map HL.W.int)]) = .ok (.bl true) h') : LawR P w K mg 6 := by
  have D__law_pairs : ∀ base, Def P w K mg base 1 "_law_pairs" [] (spF K γ 0 f__law_pairs) := fun base => ok__law_pairs T  F__law_pairs
  have D__law_told_by : ∀ base, Def P w K mg base 2 "_law_told_by" ["_law_cell_here"] (spF K γ 1 f__law_told_by) := fun base => ok__law_told_by T (D__law_pairs base) F__law_told_by
  have D__law_cell : ∀ base, Def P w K mg base 1 "_law_cell" ["_law_script", "_law_k"] (spF K γ 2 f__law_cell) := fun base => ok__law_cell T  F__law_cell
  have D_Pair_init : ∀ base, MDef P w K mg base 1 (γ "Pair") "__init__" ["self", "word", "a", "b", "c"] (spF K γ 5 f_Pair_init) := fun base => ok_Pair_init T  F_Pair_init
  have D_Num_init : ∀ base, MDef P w K mg base 1 (γ "Num") "__init__" ["self", "a", "n"] (spF K γ 3 f_Num_init) := fun base => ok_Num_init T  F_Num_init
  have D_Plus_init : ∀ base, MDef P w K mg base 1 (γ "Plus") "__init__" ["self", "a", "b", "n"] (spF K γ 4 f_Plus_init) := fun base => ok_Plus_init T  F_Plus_init
  have D_Load_init : ∀ base, MDef P w K mg base 1 (γ "Load") "__init__" ["self", "a", "b", "n"] (spF K γ 4 f_Load_init) := fun base => ok_Load_init T  F_Load_init
  have D_Store_init : ∀ base, MDef P w K mg base 1 (γ "Store") "__init__" ["self", "a", "b", "n"] (spF K γ 4 f_Store_init) := fun base => ok_Store_init T  F_Store_init
  have D_Jump_init : ∀ base, MDef P w K mg base 1 (γ "Jump") "__init__" ["self", "n"] (spF K γ 2 f_Jump_init) := fun base => ok_Jump_init T  F_Jump_init
  have D_Zero_init : ∀ base, MDef P w K mg base 1 (γ "Zero") "__init__" ["self", "a", "n"] (spF K γ 3 f_Zero_init) := fun base => ok_Zero_init T  F_Zero_init
  have D_Link_init : ∀ base, MDef P w K mg base 1 (γ "Link") "__init__" ["self", "a", "n"] (spF K γ 3 f_Link_init) := fun base => ok_Link_init T  F_Link_init
  have D_Go_init : ∀ base, MDef P w K mg base 1 (γ "Go") "__init__" ["self", "a"] (spF K γ 2 f_Go_init) := fun base => ok_Go_init T  F_Go_init
  have D_Ask_init : ∀ base, MDef P w K mg base 1 (γ "Ask") "__init__" ["self", "a"] (spF K γ 2 f_Ask_init) := fun base => ok_Ask_init T  F_Ask_init
  have D_Tell_init : ∀ base, MDef P w K mg base 1 (γ "Tell") "__init__" ["self", "a"] (spF K γ 2 f_Tell_init) := fun base => ok_Tell_init T  F_Tell_init
  have D_Why_init : ∀ base, MDef P w K mg base 1 (γ "Why") "__init__" ["self", "a"] (spF K γ 2 f_Why_init) := fun base => ok_Why_init T  F_Why_init
  have D_Where_init : ∀ base, MDef P w K mg base 1 (γ "Where") "__init__" ["self", "a"] (spF K γ 2 f_Where_init) := fun base => ok_Where_init T  F_Where_init
  have D_Aim_init : ∀ base, MDef P w K mg base 1 (γ "Aim") "__init__" ["self", "a"] (spF K γ 2 f_Aim_init) := fun base => ok_Aim_init T  F_Aim_init
  have D__law_box_row : ∀ base, Def P w K mg base 3 "_law_box_row" ["_law_word", "_law_a"] (spF K γ 2 f__law_box_row) := fun base => ok__law_box_row T (D_Go_init base) (D_Ask_init base) (D_Tell_init base) (D_Why_init base) (D_Where_init base) (D_Aim_init base) F__law_box_row
  have D__law_made : ∀ base, Def P w K mg base 4 "_law_made" ["_law_told"] (spF K γ 1 f__law_made) := fun base => ok__law_made T (D__law_pairs base) (D_Pair_init base) (D_Num_init base) (D_Plus_init base) (D_Load_init base) (D_Store_init base) (D_Jump_init base) (D_Zero_init base) (D_Link_init base) (D__law_box_row base) F__law_made
  have D__law_same : ∀ base, Def P w K mg base 1 "_law_same" ["_law_found", "_law_due"] (spF K γ 2 f__law_same) := fun base => ok__law_same T  F__law_same
  have D_Aim_reads : ∀ base, MDef P w K mg base 1 (γ "Aim") "reads" ["self"] (spF K γ 1 f_Aim_reads) := fun base => ok_Aim_reads T  F_Aim_reads
  have D_Go_reads : ∀ base, MDef P w K mg base 1 (γ "Go") "reads" ["self"] (spF K γ 1 f_Go_reads) := fun base => ok_Go_reads T  F_Go_reads
  have D_Row_reads : ∀ base, MDef P w K mg base 1 (γ "Row") "reads" ["self"] (spF K γ 1 f_Row_reads) := fun base => ok_Row_reads T  F_Row_reads
  have D_Tell_reads : ∀ base, MDef P w K mg base 1 (γ "Tell") "reads" ["self"] (spF K γ 1 f_Tell_reads) := fun base => ok_Tell_reads T  F_Tell_reads
  have D_Pair_reads : ∀ base, MDef P w K mg base 1 (γ "Pair") "reads" ["self"] (spF K γ 1 f_Pair_reads) := fun base => ok_Pair_reads T  F_Pair_reads
  have D_Plus_reads : ∀ base, MDef P w K mg base 1 (γ "Plus") "reads" ["self"] (spF K γ 1 f_Plus_reads) := fun base => ok_Plus_reads T  F_Plus_reads
  have D_Load_reads : ∀ base, MDef P w K mg base 1 (γ "Load") "reads" ["self"] (spF K γ 1 f_Load_reads) := fun base => ok_Load_reads T  F_Load_reads
  have D_Store_reads : ∀ base, MDef P w K mg base 1 (γ "Store") "reads" ["self"] (spF K γ 1 f_Store_reads) := fun base => ok_Store_reads T  F_Store_reads
  have D_Zero_reads : ∀ base, MDef P w K mg base 1 (γ "Zero") "reads" ["self"] (spF K γ 1 f_Zero_reads) := fun base => ok_Zero_reads T  F_Zero_reads
  have D__law_reads : ∀ base, Def P w K mg base 2 "_law_reads" ["_law_told"] (spF K γ 1 f__law_reads) := fun base => ok__law_reads T (D__law_pairs base) F__law_reads
  have D__law_fields : ∀ base, Def P w K mg base 2 "_law_fields" ["_law_row", "_law_told"] (spF K γ 2 f__law_fields) := fun base => ok__law_fields T (D__law_pairs base) F__law_fields
  have D_Aim_told : ∀ base, MDef P w K mg base 1 (γ "Aim") "told" ["self"] (spF K γ 1 f_Aim_told) := fun base => ok_Aim_told T  F_Aim_told
  have D_Go_told : ∀ base, MDef P w K mg base 1 (γ "Go") "told" ["self"] (spF K γ 1 f_Go_told) := fun base => ok_Go_told T  F_Go_told
  have D_Ask_told : ∀ base, MDef P w K mg base 1 (γ "Ask") "told" ["self"] (spF K γ 1 f_Ask_told) := fun base => ok_Ask_told T  F_Ask_told
  have D_Tell_told : ∀ base, MDef P w K mg base 1 (γ "Tell") "told" ["self"] (spF K γ 1 f_Tell_told) := fun base => ok_Tell_told T  F_Tell_told
  have D_Why_told : ∀ base, MDef P w K mg base 1 (γ "Why") "told" ["self"] (spF K γ 1 f_Why_told) := fun base => ok_Why_told T  F_Why_told
  have D_Where_told : ∀ base, MDef P w K mg base 1 (γ "Where") "told" ["self"] (spF K γ 1 f_Where_told) := fun base => ok_Where_told T  F_Where_told
  have D_Pair_told : ∀ base, MDef P w K mg base 1 (γ "Pair") "told" ["self"] (spF K γ 1 f_Pair_told) := fun base => ok_Pair_told T  F_Pair_told
  have D_Num_told : ∀ base, MDef P w K mg base 1 (γ "Num") "told" ["self"] (spF K γ 1 f_Num_told) := fun base => ok_Num_told T  F_Num_told
  have D_Plus_told : ∀ base, MDef P w K mg base 1 (γ "Plus") "told" ["self"] (spF K γ 1 f_Plus_told) := fun base => ok_Plus_told T  F_Plus_told
  have D_Load_told : ∀ base, MDef P w K mg base 1 (γ "Load") "told" ["self"] (spF K γ 1 f_Load_told) := fun base => ok_Load_told T  F_Load_told
  have D_Store_told : ∀ base, MDef P w K mg base 1 (γ "Store") "told" ["self"] (spF K γ 1 f_Store_told) := fun base => ok_Store_told T  F_Store_told
  have D_Jump_told : ∀ base, MDef P w K mg base 1 (γ "Jump") "told" ["self"] (spF K γ 1 f_Jump_told) := fun base => ok_Jump_told T  F_Jump_told
  have D_Zero_told : ∀ base, MDef P w K mg base 1 (γ "Zero") "told" ["self"] (spF K γ 1 f_Zero_told) := fun base => ok_Zero_told T  F_Zero_told
  have D_Link_told : ∀ base, MDef P w K mg base 1 (γ "Link") "told" ["self"] (spF K γ 1 f_Link_told) := fun base => ok_Link_told T  F_Link_told
  have D_Stop_told : ∀ base, MDef P w K mg base 1 (γ "Stop") "told" ["self"] (spF K γ 1 f_Stop_told) := fun base => ok_Stop_told T  F_Stop_told
  have D_Home_told : ∀ base, MDef P w K mg base 1 (γ "Home") "told" ["self"] (spF K γ 1 f_Home_told) := fun base => ok_Home_told T  F_Home_told
  have D__law_gives : ∀ base, Def P w K mg base 2 "_law_gives" ["_law_told"] (spF K γ 1 f__law_gives) := fun base => ok__law_gives T (D__law_pairs base) F__law_gives
  have D_known_at : ∀ base, Def P w K mg base 1 "known_at" ["station", "box"] (spF K γ 2 f_known_at) := fun base => ok_known_at T  F_known_at
  have D_Row_gives : ∀ base, MDef P w K mg base 1 (γ "Row") "gives" ["self"] (spF K γ 1 f_Row_gives) := fun base => ok_Row_gives T  F_Row_gives
  have D_given_box : ∀ base, Def P w K mg base 1 "given_box" ["box"] (spF K γ 1 f_given_box) := fun base => ok_given_box T  F_given_box
  have D_Ask_gives : ∀ base, MDef P w K mg base 2 (γ "Ask") "gives" ["self"] (spF K γ 1 f_Ask_gives) := fun base => ok_Ask_gives T (D_given_box base) F_Ask_gives
  have D_Why_gives : ∀ base, MDef P w K mg base 2 (γ "Why") "gives" ["self"] (spF K γ 1 f_Why_gives) := fun base => ok_Why_gives T (D_given_box base) F_Why_gives
  have D_Where_gives : ∀ base, MDef P w K mg base 2 (γ "Where") "gives" ["self"] (spF K γ 1 f_Where_gives) := fun base => ok_Where_gives T (D_given_box base) F_Where_gives
  have D_Pair_gives : ∀ base, MDef P w K mg base 2 (γ "Pair") "gives" ["self"] (spF K γ 1 f_Pair_gives) := fun base => ok_Pair_gives T (D_given_box base) F_Pair_gives
  have D_Num_gives : ∀ base, MDef P w K mg base 2 (γ "Num") "gives" ["self"] (spF K γ 1 f_Num_gives) := fun base => ok_Num_gives T (D_given_box base) F_Num_gives
  have D_Plus_gives : ∀ base, MDef P w K mg base 2 (γ "Plus") "gives" ["self"] (spF K γ 1 f_Plus_gives) := fun base => ok_Plus_gives T (D_given_box base) F_Plus_gives
  have D_Load_gives : ∀ base, MDef P w K mg base 2 (γ "Load") "gives" ["self"] (spF K γ 1 f_Load_gives) := fun base => ok_Load_gives T (D_given_box base) F_Load_gives
  have D_Link_gives : ∀ base, MDef P w K mg base 2 (γ "Link") "gives" ["self"] (spF K γ 1 f_Link_gives) := fun base => ok_Link_gives T (D_given_box base) F_Link_gives
  have D_Row_known : ∀ base, MDef P w K mg base 3 (γ "Row") "known" ["self"] (spF K γ 1 f_Row_known) := fun base => ok_Row_known T (D_known_at base) (D_Row_gives base) (D_Ask_gives base) (D_Why_gives base) (D_Where_gives base) (D_Pair_gives base) (D_Num_gives base) (D_Plus_gives base) (D_Load_gives base) (D_Link_gives base) F_Row_known
  have D_Ask_known : ∀ base, MDef P w K mg base 3 (γ "Ask") "known" ["self"] (spF K γ 1 f_Ask_known) := fun base => ok_Ask_known T (D_known_at base) (D_Row_gives base) (D_Ask_gives base) (D_Why_gives base) (D_Where_gives base) (D_Pair_gives base) (D_Num_gives base) (D_Plus_gives base) (D_Load_gives base) (D_Link_gives base) F_Ask_known
  have D_Why_known : ∀ base, MDef P w K mg base 3 (γ "Why") "known" ["self"] (spF K γ 1 f_Why_known) := fun base => ok_Why_known T (D_known_at base) (D_Row_gives base) (D_Ask_gives base) (D_Why_gives base) (D_Where_gives base) (D_Pair_gives base) (D_Num_gives base) (D_Plus_gives base) (D_Load_gives base) (D_Link_gives base) F_Why_known
  have D_Where_known : ∀ base, MDef P w K mg base 3 (γ "Where") "known" ["self"] (spF K γ 1 f_Where_known) := fun base => ok_Where_known T (D_known_at base) (D_Row_gives base) (D_Ask_gives base) (D_Why_gives base) (D_Where_gives base) (D_Pair_gives base) (D_Num_gives base) (D_Plus_gives base) (D_Load_gives base) (D_Link_gives base) F_Where_known
  have D_Load_known : ∀ base, MDef P w K mg base 3 (γ "Load") "known" ["self"] (spF K γ 1 f_Load_known) := fun base => ok_Load_known T (D_known_at base) (D_Row_gives base) (D_Ask_gives base) (D_Why_gives base) (D_Where_gives base) (D_Pair_gives base) (D_Num_gives base) (D_Plus_gives base) (D_Load_gives base) (D_Link_gives base) F_Load_known
  have D__law_known : ∀ base, Def P w K mg base 3 "_law_known" ["_law_told"] (spF K γ 1 f__law_known) := fun base => ok__law_known T (D__law_gives base) F__law_known
  have D__law_whole : ∀ base, Def P w K mg base 1 "_law_whole" ["_law_found", "_law_due"] (spF K γ 2 f__law_whole) := fun base => ok__law_whole T  F__law_whole
  have D__law_gives_right : ∀ base, Def P w K mg base 4 "_law_gives_right" ["_law_row", "_law_told"] (spF K γ 2 f__law_gives_right) := fun base => ok__law_gives_right T (D__law_gives base) (D_Row_known base) (D_Ask_known base) (D_Why_known base) (D_Where_known base) (D_Load_known base) (D_Row_gives base) (D_Ask_gives base) (D_Why_gives base) (D_Where_gives base) (D_Pair_gives base) (D_Num_gives base) (D_Plus_gives base) (D_Load_gives base) (D_Link_gives base) (D__law_known base) (D__law_whole base) F__law_gives_right
  have D_Row_long : ∀ base, MDef P w K mg base 1 (γ "Row") "long" ["self"] (spF K γ 1 f_Row_long) := fun base => ok_Row_long T  F_Row_long
  have D_Pair_long : ∀ base, MDef P w K mg base 1 (γ "Pair") "long" ["self"] (spF K γ 1 f_Pair_long) := fun base => ok_Pair_long T  F_Pair_long
  have D_Aim_alone : ∀ base, MDef P w K mg base 1 (γ "Aim") "alone" ["self"] (spF K γ 1 f_Aim_alone) := fun base => ok_Aim_alone T  F_Aim_alone
  have D_Row_alone : ∀ base, MDef P w K mg base 1 (γ "Row") "alone" ["self"] (spF K γ 1 f_Row_alone) := fun base => ok_Row_alone T  F_Row_alone
  have D_Why_alone : ∀ base, MDef P w K mg base 1 (γ "Why") "alone" ["self"] (spF K γ 1 f_Why_alone) := fun base => ok_Why_alone T  F_Why_alone
  have D_Where_alone : ∀ base, MDef P w K mg base 1 (γ "Where") "alone" ["self"] (spF K γ 1 f_Where_alone) := fun base => ok_Where_alone T  F_Where_alone
  have D_Home_alone : ∀ base, MDef P w K mg base 1 (γ "Home") "alone" ["self"] (spF K γ 1 f_Home_alone) := fun base => ok_Home_alone T  F_Home_alone
  have D__law_right : ∀ base, Def P w K mg base 5 "_law_right" ["_law_row", "_law_told", "_law_turn"] (spF K γ 3 f__law_right) := fun base => ok__law_right T (D__law_same base) (D_Aim_reads base) (D_Go_reads base) (D_Row_reads base) (D_Tell_reads base) (D_Pair_reads base) (D_Plus_reads base) (D_Load_reads base) (D_Store_reads base) (D_Zero_reads base) (D__law_reads base) (D__law_fields base) (D_Aim_told base) (D_Go_told base) (D_Ask_told base) (D_Tell_told base) (D_Why_told base) (D_Where_told base) (D_Pair_told base) (D_Num_told base) (D_Plus_told base) (D_Load_told base) (D_Store_told base) (D_Jump_told base) (D_Zero_told base) (D_Link_told base) (D_Stop_told base) (D_Home_told base) (D__law_gives_right base) (D__law_whole base) (D_Row_long base) (D_Pair_long base) (D_Aim_alone base) (D_Row_alone base) (D_Why_alone base) (D_Where_alone base) (D_Home_alone base) F__law_right
  exact ok_law T C D__law_told_by D__law_cell D__law_made D__law_right F_law good
end
end K12


set_option Elab.async false
set_option linter.all false
set_option maxRecDepth 100000
set_option maxHeartbeats 4000000
namespace K12
open HL
local macro_rules | `(tactic| simp! only [$ls,*]) => `(tactic| simp only [pfOf, startP, psSeq, psSet, psIf, psRet, psRetN, psNx, psBk, psCt, psEr, psOwn, psRetO, psRetV, psDrop, psFrz, frz, psSub, psApp, psSetG, psFor, pOp, pUn, pVar, pBor, pC, pT, ptNot, ptAnd, ptOr, ptTrue, pAnd, pOr, pNot, pIf, pChain, pB, pO, pL, pNil, pCons, pCall, pCallB, pCallO, pOpO, pSl, pNoPart, pPart, pComp, capP, piSeq, piRange1, piRange2, pgName, pgTup, setAllP, RF.val, qLst, qTup, LIM, seqP_lst, seqP_rol, seqP_tup, lstP_lst, lstP_rol, truP_non, truP_bl, truP_int, truP_lst, truP_rol, truP_tup, blP_bl, List.isEmpty_cons, List.isEmpty_nil, qMul_int, qAdd_int, qSub_int, qMod_int, qDiv_int, qLt_int, qLe_int, qGt_int, qGe_int, qEq_int, qEq_str, qIx_lst, qIx_rol, qIx_tup, qLen_rol, qLen_lst, qLen_tup, List.map_cons, List.map_nil, List.length_cons, List.length_nil, List.getElem?_cons_zero, List.getElem?_cons_succ, List.getElem?_nil, List.set_cons_zero, List.set_cons_succ, List.replicate, List.cons_append, List.nil_append, List.append_nil, Option.bind_some, Option.map_some, Option.bind_none, Option.map_none, Option.getD_some, if_true, if_false, Nat.reduceSub, Nat.reduceAdd, Nat.reduceLeDiff, Nat.reduceLT, Int.reduceLT, Int.reduceLE, Bool.not_true, Bool.not_false, Bool.false_eq_true, bne_self_eq_false, Bool.bne_true, Bool.bne_false, Bool.true_bne, Bool.false_bne, decide_eq_true_eq, reduceIte, reduceCtorEq, atP_0, atP_1, atP_2, atP_3, atP_4, atP_5, atP_6, atP_7, atP_8, atP_9, atP_10, atP_11, $ls,*])
open PySem (Str)
theorem cell_ok (ns : List Int) (k : Int) (hl : ns.length ≤ 63) (h0 : 0 ≤ k) (h1 : k ≤ 100000000) : p__law_cell [.rol (ns.map .int), .int k] = some (.v (.int (cellV ns k))) := by
  have c1 : ∀ x : Int, mulOk 7919 x = true := fun x => mulOk_l (by decide)
  have c2 : ∀ x : Int, mulOk x 48271 = true := fun x => mulOk_r (by decide)
  have c3 : ∀ x : Int, mulOk 104729 x = true := fun x => mulOk_l (by decide)
  have c4 : ∀ x : Int, mulOk x 7919 = true := fun x => mulOk_r (by decide)
  have c5 : ∀ x : Int, mulOk 69621 x = true := fun x => mulOk_l (by decide)
  have c6 : ∀ x : Int, mulOk (x % 2147483647) (x % 2147483647) = true := fun x => mulOk_l (by omega)
  have c7 : ∀ x : Int, mulOk (x % 2147483629) (x % 2147483629) = true := fun x => mulOk_l (by omega)
  by_cases hn : ns = []
  · subst hn
    have q0 := qEq_scr true []
    simp only [List.map_nil, decide_true] at q0
    simp! only [p__law_cell, d__law_cell, c1, c2, c3, c4, c5, c6, c7, q0, decide_true, bne_self_eq_false]
    simp only [cellV, mixV, if_true]
  · have hp : 0 < ns.length := List.length_pos_iff.mpr hn
    have hp' : (0 : Int) < (ns.length : Int) := by omega
    have hp2 : (ns.length : Int) < 1073741824 := by omega
    have hm0 : 0 ≤ k % (ns.length : Int) := Int.emod_nonneg _ (by omega)
    have hm1 : k % (ns.length : Int) < ns.length := Int.emod_lt_of_pos _ (by omega)
    simp! only [p__law_cell, d__law_cell, c1, c2, c3, c4, c5, c6, c7, qEq_scr, hn, List.length_map, hp', hp2, atP_ints _ _ hm0 hm1, decide_false]
    simp only [cellV, mixV, hn, if_false]

def toldP (k : Nat) (a b c n : Int) : P := match k with
  | 0 => .tup [.str "stop"]
  | 1 => .tup [.str "num", .int a, .int n]
  | 2 => .tup [.str "plus", .int a, .int b, .int (n - 512)]
  | 3 => .tup [.str "add", .int a, .int b, .int c]
  | 4 => .tup [.str "sub", .int a, .int b, .int c]
  | 5 => .tup [.str "mul", .int a, .int b, .int c]
  | 6 => .tup [.str "div", .int a, .int b, .int c]
  | 7 => .tup [.str "rest", .int a, .int b, .int c]
  | 8 => .tup [.str "and", .int a, .int b, .int c]
  | 9 => .tup [.str "or", .int a, .int b, .int c]
  | 10 => .tup [.str "xor", .int a, .int b, .int c]
  | 11 => .tup [.str "up", .int a, .int b, .int c]
  | 12 => .tup [.str "down", .int a, .int b, .int c]
  | 13 => .tup [.str "low", .int a, .int b, .int c]
  | 14 => .tup [.str "same", .int a, .int b, .int c]
  | 15 => .tup [.str "load", .int a, .int b, .int (n - 512)]
  | 16 => .tup [.str "store", .int a, .int b, .int (n - 512)]
  | 17 => .tup [.str "jump", .int n]
  | 18 => .tup [.str "zero", .int a, .int n]
  | 19 => .tup [.str "link", .int a, .int n]
  | 20 => .tup [.str "go", .int a]
  | 21 => .tup [.str "ask", .int a]
  | 22 => .tup [.str "tell", .int a]
  | 23 => .tup [.str "why", .int a]
  | 24 => .tup [.str "where", .int a]
  | 25 => .tup [.str "aim", .int a]
  | 26 => .tup [.str "home"]
  | _ => .non
def rowP (k : Nat) (a b c n : Int) : P := match k with
  | 0 => .ins "Stop" []
  | 1 => .ins "Num" [("a", .int a), ("n", .int n)]
  | 2 => .ins "Plus" [("a", .int a), ("b", .int b), ("n", .int (n - 512))]
  | 3 => .ins "Pair" [("word", .str "add"), ("a", .int a), ("b", .int b), ("c", .int c)]
  | 4 => .ins "Pair" [("word", .str "sub"), ("a", .int a), ("b", .int b), ("c", .int c)]
  | 5 => .ins "Pair" [("word", .str "mul"), ("a", .int a), ("b", .int b), ("c", .int c)]
  | 6 => .ins "Pair" [("word", .str "div"), ("a", .int a), ("b", .int b), ("c", .int c)]
  | 7 => .ins "Pair" [("word", .str "rest"), ("a", .int a), ("b", .int b), ("c", .int c)]
  | 8 => .ins "Pair" [("word", .str "and"), ("a", .int a), ("b", .int b), ("c", .int c)]
  | 9 => .ins "Pair" [("word", .str "or"), ("a", .int a), ("b", .int b), ("c", .int c)]
  | 10 => .ins "Pair" [("word", .str "xor"), ("a", .int a), ("b", .int b), ("c", .int c)]
  | 11 => .ins "Pair" [("word", .str "up"), ("a", .int a), ("b", .int b), ("c", .int c)]
  | 12 => .ins "Pair" [("word", .str "down"), ("a", .int a), ("b", .int b), ("c", .int c)]
  | 13 => .ins "Pair" [("word", .str "low"), ("a", .int a), ("b", .int b), ("c", .int c)]
  | 14 => .ins "Pair" [("word", .str "same"), ("a", .int a), ("b", .int b), ("c", .int c)]
  | 15 => .ins "Load" [("a", .int a), ("b", .int b), ("n", .int (n - 512))]
  | 16 => .ins "Store" [("a", .int a), ("b", .int b), ("n", .int (n - 512))]
  | 17 => .ins "Jump" [("n", .int n)]
  | 18 => .ins "Zero" [("a", .int a), ("n", .int n)]
  | 19 => .ins "Link" [("a", .int a), ("n", .int n)]
  | 20 => .ins "Go" [("a", .int a)]
  | 21 => .ins "Ask" [("a", .int a)]
  | 22 => .ins "Tell" [("a", .int a)]
  | 23 => .ins "Why" [("a", .int a)]
  | 24 => .ins "Where" [("a", .int a)]
  | 25 => .ins "Aim" [("a", .int a)]
  | 26 => .ins "Home" []
  | _ => .non
def rdP (k : Nat) (a b c n : Int) : List P := match k with
  | 0 => []
  | 1 => []
  | 2 => [.int b]
  | 3 => [.int b, .int c]
  | 4 => [.int b, .int c]
  | 5 => [.int b, .int c]
  | 6 => [.int b, .int c]
  | 7 => [.int b, .int c]
  | 8 => [.int b, .int c]
  | 9 => [.int b, .int c]
  | 10 => [.int b, .int c]
  | 11 => [.int b, .int c]
  | 12 => [.int b, .int c]
  | 13 => [.int b, .int c]
  | 14 => [.int b, .int c]
  | 15 => [.int b]
  | 16 => [.int a, .int b]
  | 17 => []
  | 18 => [.int a]
  | 19 => []
  | 20 => [.int a]
  | 21 => []
  | 22 => [.int a]
  | 23 => []
  | 24 => []
  | 25 => [.int a]
  | 26 => []
  | _ => []
def lgK (k : Nat) : Int := match k with
  | 0 => 1
  | 1 => 1
  | 2 => 1
  | 3 => 1
  | 4 => 1
  | 5 => 3
  | 6 => 5
  | 7 => 5
  | 8 => 1
  | 9 => 1
  | 10 => 1
  | 11 => 1
  | 12 => 1
  | 13 => 1
  | 14 => 1
  | 15 => 1
  | 16 => 1
  | 17 => 1
  | 18 => 1
  | 19 => 1
  | 20 => 1
  | 21 => 1
  | 22 => 1
  | 23 => 1
  | 24 => 1
  | 25 => 1
  | 26 => 1
  | _ => 1
def alK (k : Nat) : Bool := match k with
  | 0 => false
  | 1 => false
  | 2 => false
  | 3 => false
  | 4 => false
  | 5 => false
  | 6 => false
  | 7 => false
  | 8 => false
  | 9 => false
  | 10 => false
  | 11 => false
  | 12 => false
  | 13 => false
  | 14 => false
  | 15 => false
  | 16 => false
  | 17 => false
  | 18 => false
  | 19 => false
  | 20 => false
  | 21 => false
  | 22 => false
  | 23 => true
  | 24 => true
  | 25 => true
  | 26 => true
  | _ => false
def fX (k : Nat) (a b c n : Int) : P := match k with
  | 0 => .int 1
  | 1 => .tup [.int a, .int n]
  | 2 => .tup [.int a, .int b, .int (n - 512)]
  | 3 => .tup [.str "add", .int a, .int b, .int c]
  | 4 => .tup [.str "sub", .int a, .int b, .int c]
  | 5 => .tup [.str "mul", .int a, .int b, .int c]
  | 6 => .tup [.str "div", .int a, .int b, .int c]
  | 7 => .tup [.str "rest", .int a, .int b, .int c]
  | 8 => .tup [.str "and", .int a, .int b, .int c]
  | 9 => .tup [.str "or", .int a, .int b, .int c]
  | 10 => .tup [.str "xor", .int a, .int b, .int c]
  | 11 => .tup [.str "up", .int a, .int b, .int c]
  | 12 => .tup [.str "down", .int a, .int b, .int c]
  | 13 => .tup [.str "low", .int a, .int b, .int c]
  | 14 => .tup [.str "same", .int a, .int b, .int c]
  | 15 => .tup [.int a, .int b, .int (n - 512)]
  | 16 => .tup [.int a, .int b, .int (n - 512)]
  | 17 => .int n
  | 18 => .tup [.int a, .int n]
  | 19 => .tup [.int a, .int n]
  | 20 => .int a
  | 21 => .int a
  | 22 => .int a
  | 23 => .int a
  | 24 => .int a
  | 25 => .int a
  | 26 => .int 1
  | _ => .non
def mcall (pt : List (Str × PF)) (m : Str) (x : P) : Option P := (qMt pt m x).bind fun g => (g [x]).map RF.val
theorem pMeth_m {pt : List (Str × PF)} {m : Str} {p : PE} {δ : Dl} : pMeth pt m p pNil δ = (p δ).bind (mcall pt m) := rfl
theorem made_ok (k : Nat) (hk : k < 27) (a b c n : Int) : p__law_made [toldP k a b c n] = some (.v (rowP k a b c n)) := match k, hk with
  | 0, _ => rfl
  | 1, _ => rfl
  | 2, _ => rfl
  | 3, _ => rfl
  | 4, _ => rfl
  | 5, _ => rfl
  | 6, _ => rfl
  | 7, _ => rfl
  | 8, _ => rfl
  | 9, _ => rfl
  | 10, _ => rfl
  | 11, _ => rfl
  | 12, _ => rfl
  | 13, _ => rfl
  | 14, _ => rfl
  | 15, _ => rfl
  | 16, _ => rfl
  | 17, _ => rfl
  | 18, _ => rfl
  | 19, _ => rfl
  | 20, _ => rfl
  | 21, _ => rfl
  | 22, _ => rfl
  | 23, _ => rfl
  | 24, _ => rfl
  | 25, _ => rfl
  | 26, _ => rfl
  | k + 27, h => absurd h (by omega)
theorem told_ok (k : Nat) (hk : k < 27) (a b c n : Int) : mcall pt_told "told" (rowP k a b c n) = some (toldP k a b c n) := match k, hk with
  | 0, _ => rfl
  | 1, _ => rfl
  | 2, _ => rfl
  | 3, _ => rfl
  | 4, _ => rfl
  | 5, _ => rfl
  | 6, _ => rfl
  | 7, _ => rfl
  | 8, _ => rfl
  | 9, _ => rfl
  | 10, _ => rfl
  | 11, _ => rfl
  | 12, _ => rfl
  | 13, _ => rfl
  | 14, _ => rfl
  | 15, _ => rfl
  | 16, _ => rfl
  | 17, _ => rfl
  | 18, _ => rfl
  | 19, _ => rfl
  | 20, _ => rfl
  | 21, _ => rfl
  | 22, _ => rfl
  | 23, _ => rfl
  | 24, _ => rfl
  | 25, _ => rfl
  | 26, _ => rfl
  | k + 27, h => absurd h (by omega)
theorem reads_ok (k : Nat) (hk : k < 27) (a b c n : Int) : mcall pt_reads "reads" (rowP k a b c n) = some (.tup (rdP k a b c n)) := match k, hk with
  | 0, _ => rfl
  | 1, _ => rfl
  | 2, _ => rfl
  | 3, _ => rfl
  | 4, _ => rfl
  | 5, _ => rfl
  | 6, _ => rfl
  | 7, _ => rfl
  | 8, _ => rfl
  | 9, _ => rfl
  | 10, _ => rfl
  | 11, _ => rfl
  | 12, _ => rfl
  | 13, _ => rfl
  | 14, _ => rfl
  | 15, _ => rfl
  | 16, _ => rfl
  | 17, _ => rfl
  | 18, _ => rfl
  | 19, _ => rfl
  | 20, _ => rfl
  | 21, _ => rfl
  | 22, _ => rfl
  | 23, _ => rfl
  | 24, _ => rfl
  | 25, _ => rfl
  | 26, _ => rfl
  | k + 27, h => absurd h (by omega)
theorem lreads_ok (k : Nat) (hk : k < 27) (a b c n : Int) : p__law_reads [toldP k a b c n] = some (.v (.tup (rdP k a b c n))) := match k, hk with
  | 0, _ => rfl
  | 1, _ => rfl
  | 2, _ => rfl
  | 3, _ => rfl
  | 4, _ => rfl
  | 5, _ => rfl
  | 6, _ => rfl
  | 7, _ => rfl
  | 8, _ => rfl
  | 9, _ => rfl
  | 10, _ => rfl
  | 11, _ => rfl
  | 12, _ => rfl
  | 13, _ => rfl
  | 14, _ => rfl
  | 15, _ => rfl
  | 16, _ => rfl
  | 17, _ => rfl
  | 18, _ => rfl
  | 19, _ => rfl
  | 20, _ => rfl
  | 21, _ => rfl
  | 22, _ => rfl
  | 23, _ => rfl
  | 24, _ => rfl
  | 25, _ => rfl
  | 26, _ => rfl
  | k + 27, h => absurd h (by omega)
theorem long_ok (k : Nat) (hk : k < 27) (a b c n : Int) : mcall pt_long "long" (rowP k a b c n) = some (.int (lgK k)) := match k, hk with
  | 0, _ => rfl
  | 1, _ => rfl
  | 2, _ => rfl
  | 3, _ => rfl
  | 4, _ => rfl
  | 5, _ => rfl
  | 6, _ => rfl
  | 7, _ => rfl
  | 8, _ => rfl
  | 9, _ => rfl
  | 10, _ => rfl
  | 11, _ => rfl
  | 12, _ => rfl
  | 13, _ => rfl
  | 14, _ => rfl
  | 15, _ => rfl
  | 16, _ => rfl
  | 17, _ => rfl
  | 18, _ => rfl
  | 19, _ => rfl
  | 20, _ => rfl
  | 21, _ => rfl
  | 22, _ => rfl
  | 23, _ => rfl
  | 24, _ => rfl
  | 25, _ => rfl
  | 26, _ => rfl
  | k + 27, h => absurd h (by omega)
theorem alone_ok (k : Nat) (hk : k < 27) (a b c n : Int) : mcall pt_alone "alone" (rowP k a b c n) = some (.bl (alK k)) := match k, hk with
  | 0, _ => rfl
  | 1, _ => rfl
  | 2, _ => rfl
  | 3, _ => rfl
  | 4, _ => rfl
  | 5, _ => rfl
  | 6, _ => rfl
  | 7, _ => rfl
  | 8, _ => rfl
  | 9, _ => rfl
  | 10, _ => rfl
  | 11, _ => rfl
  | 12, _ => rfl
  | 13, _ => rfl
  | 14, _ => rfl
  | 15, _ => rfl
  | 16, _ => rfl
  | 17, _ => rfl
  | 18, _ => rfl
  | 19, _ => rfl
  | 20, _ => rfl
  | 21, _ => rfl
  | 22, _ => rfl
  | 23, _ => rfl
  | 24, _ => rfl
  | 25, _ => rfl
  | 26, _ => rfl
  | k + 27, h => absurd h (by omega)
theorem isi_ok (k : Nat) (hk : k < 27) (a b c n : Int) : qIsi CTab [rowP k a b c n, .gl "Row"] = some (.bl true) := match k, hk with
  | 0, _ => rfl
  | 1, _ => rfl
  | 2, _ => rfl
  | 3, _ => rfl
  | 4, _ => rfl
  | 5, _ => rfl
  | 6, _ => rfl
  | 7, _ => rfl
  | 8, _ => rfl
  | 9, _ => rfl
  | 10, _ => rfl
  | 11, _ => rfl
  | 12, _ => rfl
  | 13, _ => rfl
  | 14, _ => rfl
  | 15, _ => rfl
  | 16, _ => rfl
  | 17, _ => rfl
  | 18, _ => rfl
  | 19, _ => rfl
  | 20, _ => rfl
  | 21, _ => rfl
  | 22, _ => rfl
  | 23, _ => rfl
  | 24, _ => rfl
  | 25, _ => rfl
  | 26, _ => rfl
  | k + 27, h => absurd h (by omega)
theorem fields_eq (k : Nat) (hk : k < 27) (a b c n : Int) : p__law_fields [rowP k a b c n, toldP k a b c n] = pfOf 0 0 (psRet (fun _ => qEq false (fX k a b c n) (fX k a b c n))) [] := match k, hk with
  | 0, _ => rfl
  | 1, _ => rfl
  | 2, _ => rfl
  | 3, _ => rfl
  | 4, _ => rfl
  | 5, _ => rfl
  | 6, _ => rfl
  | 7, _ => rfl
  | 8, _ => rfl
  | 9, _ => rfl
  | 10, _ => rfl
  | 11, _ => rfl
  | 12, _ => rfl
  | 13, _ => rfl
  | 14, _ => rfl
  | 15, _ => rfl
  | 16, _ => rfl
  | 17, _ => rfl
  | 18, _ => rfl
  | 19, _ => rfl
  | 20, _ => rfl
  | 21, _ => rfl
  | 22, _ => rfl
  | 23, _ => rfl
  | 24, _ => rfl
  | 25, _ => rfl
  | 26, _ => rfl
  | k + 27, h => absurd h (by omega)
theorem gives_right_ok (k : Nat) (hk : k < 27) (a b c n : Int) (ha : 0 ≤ a) (ha2 : a < 8) : p__law_gives_right [rowP k a b c n, toldP k a b c n] = some (.v (.bl true)) := by
  have h8 : a = 0 ∨ a = 1 ∨ a = 2 ∨ a = 3 ∨ a = 4 ∨ a = 5 ∨ a = 6 ∨ a = 7 := by omega
  rcases h8 with rfl | rfl | rfl | rfl | rfl | rfl | rfl | rfl
  · exact (match k, hk with
    | 0, _ => rfl
    | 1, _ => rfl
    | 2, _ => rfl
    | 3, _ => rfl
    | 4, _ => rfl
    | 5, _ => rfl
    | 6, _ => rfl
    | 7, _ => rfl
    | 8, _ => rfl
    | 9, _ => rfl
    | 10, _ => rfl
    | 11, _ => rfl
    | 12, _ => rfl
    | 13, _ => rfl
    | 14, _ => rfl
    | 15, _ => rfl
    | 16, _ => rfl
    | 17, _ => rfl
    | 18, _ => rfl
    | 19, _ => rfl
    | 20, _ => rfl
    | 21, _ => rfl
    | 22, _ => rfl
    | 23, _ => rfl
    | 24, _ => rfl
    | 25, _ => rfl
    | 26, _ => rfl
    | k + 27, h => absurd h (by omega))
  · exact (match k, hk with
    | 0, _ => rfl
    | 1, _ => rfl
    | 2, _ => rfl
    | 3, _ => rfl
    | 4, _ => rfl
    | 5, _ => rfl
    | 6, _ => rfl
    | 7, _ => rfl
    | 8, _ => rfl
    | 9, _ => rfl
    | 10, _ => rfl
    | 11, _ => rfl
    | 12, _ => rfl
    | 13, _ => rfl
    | 14, _ => rfl
    | 15, _ => rfl
    | 16, _ => rfl
    | 17, _ => rfl
    | 18, _ => rfl
    | 19, _ => rfl
    | 20, _ => rfl
    | 21, _ => rfl
    | 22, _ => rfl
    | 23, _ => rfl
    | 24, _ => rfl
    | 25, _ => rfl
    | 26, _ => rfl
    | k + 27, h => absurd h (by omega))
  · exact (match k, hk with
    | 0, _ => rfl
    | 1, _ => rfl
    | 2, _ => rfl
    | 3, _ => rfl
    | 4, _ => rfl
    | 5, _ => rfl
    | 6, _ => rfl
    | 7, _ => rfl
    | 8, _ => rfl
    | 9, _ => rfl
    | 10, _ => rfl
    | 11, _ => rfl
    | 12, _ => rfl
    | 13, _ => rfl
    | 14, _ => rfl
    | 15, _ => rfl
    | 16, _ => rfl
    | 17, _ => rfl
    | 18, _ => rfl
    | 19, _ => rfl
    | 20, _ => rfl
    | 21, _ => rfl
    | 22, _ => rfl
    | 23, _ => rfl
    | 24, _ => rfl
    | 25, _ => rfl
    | 26, _ => rfl
    | k + 27, h => absurd h (by omega))
  · exact (match k, hk with
    | 0, _ => rfl
    | 1, _ => rfl
    | 2, _ => rfl
    | 3, _ => rfl
    | 4, _ => rfl
    | 5, _ => rfl
    | 6, _ => rfl
    | 7, _ => rfl
    | 8, _ => rfl
    | 9, _ => rfl
    | 10, _ => rfl
    | 11, _ => rfl
    | 12, _ => rfl
    | 13, _ => rfl
    | 14, _ => rfl
    | 15, _ => rfl
    | 16, _ => rfl
    | 17, _ => rfl
    | 18, _ => rfl
    | 19, _ => rfl
    | 20, _ => rfl
    | 21, _ => rfl
    | 22, _ => rfl
    | 23, _ => rfl
    | 24, _ => rfl
    | 25, _ => rfl
    | 26, _ => rfl
    | k + 27, h => absurd h (by omega))
  · exact (match k, hk with
    | 0, _ => rfl
    | 1, _ => rfl
    | 2, _ => rfl
    | 3, _ => rfl
    | 4, _ => rfl
    | 5, _ => rfl
    | 6, _ => rfl
    | 7, _ => rfl
    | 8, _ => rfl
    | 9, _ => rfl
    | 10, _ => rfl
    | 11, _ => rfl
    | 12, _ => rfl
    | 13, _ => rfl
    | 14, _ => rfl
    | 15, _ => rfl
    | 16, _ => rfl
    | 17, _ => rfl
    | 18, _ => rfl
    | 19, _ => rfl
    | 20, _ => rfl
    | 21, _ => rfl
    | 22, _ => rfl
    | 23, _ => rfl
    | 24, _ => rfl
    | 25, _ => rfl
    | 26, _ => rfl
    | k + 27, h => absurd h (by omega))
  · exact (match k, hk with
    | 0, _ => rfl
    | 1, _ => rfl
    | 2, _ => rfl
    | 3, _ => rfl
    | 4, _ => rfl
    | 5, _ => rfl
    | 6, _ => rfl
    | 7, _ => rfl
    | 8, _ => rfl
    | 9, _ => rfl
    | 10, _ => rfl
    | 11, _ => rfl
    | 12, _ => rfl
    | 13, _ => rfl
    | 14, _ => rfl
    | 15, _ => rfl
    | 16, _ => rfl
    | 17, _ => rfl
    | 18, _ => rfl
    | 19, _ => rfl
    | 20, _ => rfl
    | 21, _ => rfl
    | 22, _ => rfl
    | 23, _ => rfl
    | 24, _ => rfl
    | 25, _ => rfl
    | 26, _ => rfl
    | k + 27, h => absurd h (by omega))
  · exact (match k, hk with
    | 0, _ => rfl
    | 1, _ => rfl
    | 2, _ => rfl
    | 3, _ => rfl
    | 4, _ => rfl
    | 5, _ => rfl
    | 6, _ => rfl
    | 7, _ => rfl
    | 8, _ => rfl
    | 9, _ => rfl
    | 10, _ => rfl
    | 11, _ => rfl
    | 12, _ => rfl
    | 13, _ => rfl
    | 14, _ => rfl
    | 15, _ => rfl
    | 16, _ => rfl
    | 17, _ => rfl
    | 18, _ => rfl
    | 19, _ => rfl
    | 20, _ => rfl
    | 21, _ => rfl
    | 22, _ => rfl
    | 23, _ => rfl
    | 24, _ => rfl
    | 25, _ => rfl
    | 26, _ => rfl
    | k + 27, h => absurd h (by omega))
  · exact (match k, hk with
    | 0, _ => rfl
    | 1, _ => rfl
    | 2, _ => rfl
    | 3, _ => rfl
    | 4, _ => rfl
    | 5, _ => rfl
    | 6, _ => rfl
    | 7, _ => rfl
    | 8, _ => rfl
    | 9, _ => rfl
    | 10, _ => rfl
    | 11, _ => rfl
    | 12, _ => rfl
    | 13, _ => rfl
    | 14, _ => rfl
    | 15, _ => rfl
    | 16, _ => rfl
    | 17, _ => rfl
    | 18, _ => rfl
    | 19, _ => rfl
    | 20, _ => rfl
    | 21, _ => rfl
    | 22, _ => rfl
    | 23, _ => rfl
    | 24, _ => rfl
    | 25, _ => rfl
    | 26, _ => rfl
    | k + 27, h => absurd h (by omega))

def dNB : P → D
  | .int i => .int i
  | .str s => .str s
  | _ => .non
def nbB : P → Bool
  | .int _ => true
  | .str x => sOk x
  | _ => false
theorem nb_dat (m : Nat) : ∀ xs : List P, (∀ x ∈ xs, nbB x = true) → datsP (datP (m + 1)) xs = some (xs.map dNB)
  | [], _ => rfl
  | x :: xs, h => by
    have e1 : datP (m + 1) x = some (dNB x) := by
      have := h x List.mem_cons_self
      cases x with
      | int i => rfl
      | str y => simp only [nbB] at this; simp only [datP, this, if_true, dNB]
      | _ => cases this
    simp only [datsP, e1, nb_dat m xs (fun y hy => h y (List.mem_cons_of_mem _ hy)), Option.bind_some, Option.map_some, List.map_cons]
theorem nb_self (m : Bool) (xs : List P) (h : ∀ x ∈ xs, nbB x = true) : qEq m (.tup xs) (.tup xs) = some (.bl (!m)) := qEq_self (d := .tup (xs.map dNB)) m (by simp only [DEEP, datP, nb_dat _ xs h, Option.map_some])
theorem pOp_of {f : P → P → Option P} {a b : PE} {δ : Dl} {x y r : P} (ha : a δ = some x) (hb : b δ = some y) (h : f x y = some r) : pOp f a b δ = some r := by
  unfold pOp; rw [ha, hb]; exact h
theorem ret_rt {e : PE} {δ : Dl} {p : P} (h : e δ = some p) : psRet e δ = .rt p := by unfold psRet; rw [h]
theorem same_ok (xs : List P) (h : ∀ x ∈ xs, nbB x = true) (hl : xs.length ≤ 10) : p__law_same [.tup xs, .tup xs] = some (.v (.bl true)) := by
  have i1 : ∀ xs, qIsi CTab [.tup xs, .ty "tuple"] = some (.bl true) := fun _ => rfl
  have e1 := nb_self true xs h
  have en : qEq false (.lst []) (.lst []) = some (.bl true) := qEq_nil (ds := []) false rfl
  have rM : (-4611686018427387904 : Int) ≤ (xs.length : Int) ∧ (xs.length : Int) < 4611686018427387904 := by omega
  have q2 := comp_ft (t := pT (pB (qIsi CTab) (pCons (pOp qIx (pVar 1) (pVar 0)) (pCons (pC (.ty "bool")) pNil)))) (e := pVar 0) (τ := [.val (.tup xs)]) (fun k : Nat => P.int (0 + (k : Int))) (fun k => .int (0 + (k : Int))) (fun _ => false) (List.range xs.length) .no (fun k hk => by
    have hk' : k < xs.length := List.mem_range.mp hk
    have a1 : atP xs (0 + (k : Int)) = some xs[k] := by
      unfold atP ixW
      rw [if_pos (by omega), if_pos (by omega)]
      simp only [Option.bind_some]
      rw [show (0 + (k : Int)).toNat = k by omega, List.getElem?_eq_getElem hk']
    have a2 : qIsi CTab [xs[k], .ty "bool"] = some (.bl false) := by
      have := h xs[k] (List.getElem_mem hk')
      cases hx : xs[k] <;> rw [hx] at this <;> first | rfl | cases this
    simp! only [a1, a2]) (fun _ _ z => by cases z) (by rw [List.length_range]; omega)
  have q3 : (List.range xs.length).filter (fun _ => false) = [] := by simp
  rw [q3] at q2
  have q4 : rangeP 0 xs.length = (List.range xs.length).map (fun k : Nat => P.int (0 + (k : Int))) := rfl
  refine pf_rt rfl rfl ?_
  unfold d__law_same
  refine seq_nx (δ' := [.val (.tup xs), .val (.tup xs)]) (by simp! only [startP, i1, e1]) ?_
  refine ret_rt (pOp_of (x := .lst []) (y := .lst []) ?_ (by simp! only []) en)
  have r1 : piRange1 (pB qLen (pCons (pVar 1) pNil)) [.val (.tup xs), .val (.tup xs)] = some (rangeP 0 xs.length) := by
    simp! only [Int.reducePow, Int.reduceNeg, rM, and_self, Int.toNat_natCast]
  rw [q4] at r1
  unfold pL pComp
  rw [r1]
  simp only [Option.bind_some, capP, List.map_cons, List.map_nil, List.getElem?_cons_zero, Option.getD_some, List.replicate, List.cons_append, List.nil_append, q2, Option.map_some]
theorem fx_dat (k : Nat) (hk : k < 27) (a b c n : Int) : ∃ d, datP DEEP (fX k a b c n) = some d := match k, hk with
  | 0, _ => ⟨_, rfl⟩
  | 1, _ => ⟨_, rfl⟩
  | 2, _ => ⟨_, rfl⟩
  | 3, _ => ⟨_, rfl⟩
  | 4, _ => ⟨_, rfl⟩
  | 5, _ => ⟨_, rfl⟩
  | 6, _ => ⟨_, rfl⟩
  | 7, _ => ⟨_, rfl⟩
  | 8, _ => ⟨_, rfl⟩
  | 9, _ => ⟨_, rfl⟩
  | 10, _ => ⟨_, rfl⟩
  | 11, _ => ⟨_, rfl⟩
  | 12, _ => ⟨_, rfl⟩
  | 13, _ => ⟨_, rfl⟩
  | 14, _ => ⟨_, rfl⟩
  | 15, _ => ⟨_, rfl⟩
  | 16, _ => ⟨_, rfl⟩
  | 17, _ => ⟨_, rfl⟩
  | 18, _ => ⟨_, rfl⟩
  | 19, _ => ⟨_, rfl⟩
  | 20, _ => ⟨_, rfl⟩
  | 21, _ => ⟨_, rfl⟩
  | 22, _ => ⟨_, rfl⟩
  | 23, _ => ⟨_, rfl⟩
  | 24, _ => ⟨_, rfl⟩
  | 25, _ => ⟨_, rfl⟩
  | 26, _ => ⟨_, rfl⟩
  | k + 27, h => absurd h (by omega)
theorem fields_ok (k : Nat) (hk : k < 27) (a b c n : Int) : p__law_fields [rowP k a b c n, toldP k a b c n] = some (.v (.bl true)) := by
  obtain ⟨d, e⟩ := fx_dat k hk a b c n
  rw [fields_eq k hk, qEq_self false e]
  rfl
theorem rd_nb (k : Nat) (hk : k < 27) (a b c n : Int) : (rdP k a b c n).all nbB = true ∧ (rdP k a b c n).length ≤ 10 := match k, hk with
  | 0, _ => ⟨rfl, Nat.le_of_ble_eq_true rfl⟩
  | 1, _ => ⟨rfl, Nat.le_of_ble_eq_true rfl⟩
  | 2, _ => ⟨rfl, Nat.le_of_ble_eq_true rfl⟩
  | 3, _ => ⟨rfl, Nat.le_of_ble_eq_true rfl⟩
  | 4, _ => ⟨rfl, Nat.le_of_ble_eq_true rfl⟩
  | 5, _ => ⟨rfl, Nat.le_of_ble_eq_true rfl⟩
  | 6, _ => ⟨rfl, Nat.le_of_ble_eq_true rfl⟩
  | 7, _ => ⟨rfl, Nat.le_of_ble_eq_true rfl⟩
  | 8, _ => ⟨rfl, Nat.le_of_ble_eq_true rfl⟩
  | 9, _ => ⟨rfl, Nat.le_of_ble_eq_true rfl⟩
  | 10, _ => ⟨rfl, Nat.le_of_ble_eq_true rfl⟩
  | 11, _ => ⟨rfl, Nat.le_of_ble_eq_true rfl⟩
  | 12, _ => ⟨rfl, Nat.le_of_ble_eq_true rfl⟩
  | 13, _ => ⟨rfl, Nat.le_of_ble_eq_true rfl⟩
  | 14, _ => ⟨rfl, Nat.le_of_ble_eq_true rfl⟩
  | 15, _ => ⟨rfl, Nat.le_of_ble_eq_true rfl⟩
  | 16, _ => ⟨rfl, Nat.le_of_ble_eq_true rfl⟩
  | 17, _ => ⟨rfl, Nat.le_of_ble_eq_true rfl⟩
  | 18, _ => ⟨rfl, Nat.le_of_ble_eq_true rfl⟩
  | 19, _ => ⟨rfl, Nat.le_of_ble_eq_true rfl⟩
  | 20, _ => ⟨rfl, Nat.le_of_ble_eq_true rfl⟩
  | 21, _ => ⟨rfl, Nat.le_of_ble_eq_true rfl⟩
  | 22, _ => ⟨rfl, Nat.le_of_ble_eq_true rfl⟩
  | 23, _ => ⟨rfl, Nat.le_of_ble_eq_true rfl⟩
  | 24, _ => ⟨rfl, Nat.le_of_ble_eq_true rfl⟩
  | 25, _ => ⟨rfl, Nat.le_of_ble_eq_true rfl⟩
  | 26, _ => ⟨rfl, Nat.le_of_ble_eq_true rfl⟩
  | k + 27, h => absurd h (by omega)
theorem told_tup (k : Nat) (hk : k < 27) (a b c n : Int) : ∃ xs, toldP k a b c n = .tup xs ∧ xs.all nbB = true ∧ xs.length ≤ 10 := match k, hk with
  | 0, _ => ⟨_, rfl, rfl, Nat.le_of_ble_eq_true rfl⟩
  | 1, _ => ⟨_, rfl, rfl, Nat.le_of_ble_eq_true rfl⟩
  | 2, _ => ⟨_, rfl, rfl, Nat.le_of_ble_eq_true rfl⟩
  | 3, _ => ⟨_, rfl, rfl, Nat.le_of_ble_eq_true rfl⟩
  | 4, _ => ⟨_, rfl, rfl, Nat.le_of_ble_eq_true rfl⟩
  | 5, _ => ⟨_, rfl, rfl, Nat.le_of_ble_eq_true rfl⟩
  | 6, _ => ⟨_, rfl, rfl, Nat.le_of_ble_eq_true rfl⟩
  | 7, _ => ⟨_, rfl, rfl, Nat.le_of_ble_eq_true rfl⟩
  | 8, _ => ⟨_, rfl, rfl, Nat.le_of_ble_eq_true rfl⟩
  | 9, _ => ⟨_, rfl, rfl, Nat.le_of_ble_eq_true rfl⟩
  | 10, _ => ⟨_, rfl, rfl, Nat.le_of_ble_eq_true rfl⟩
  | 11, _ => ⟨_, rfl, rfl, Nat.le_of_ble_eq_true rfl⟩
  | 12, _ => ⟨_, rfl, rfl, Nat.le_of_ble_eq_true rfl⟩
  | 13, _ => ⟨_, rfl, rfl, Nat.le_of_ble_eq_true rfl⟩
  | 14, _ => ⟨_, rfl, rfl, Nat.le_of_ble_eq_true rfl⟩
  | 15, _ => ⟨_, rfl, rfl, Nat.le_of_ble_eq_true rfl⟩
  | 16, _ => ⟨_, rfl, rfl, Nat.le_of_ble_eq_true rfl⟩
  | 17, _ => ⟨_, rfl, rfl, Nat.le_of_ble_eq_true rfl⟩
  | 18, _ => ⟨_, rfl, rfl, Nat.le_of_ble_eq_true rfl⟩
  | 19, _ => ⟨_, rfl, rfl, Nat.le_of_ble_eq_true rfl⟩
  | 20, _ => ⟨_, rfl, rfl, Nat.le_of_ble_eq_true rfl⟩
  | 21, _ => ⟨_, rfl, rfl, Nat.le_of_ble_eq_true rfl⟩
  | 22, _ => ⟨_, rfl, rfl, Nat.le_of_ble_eq_true rfl⟩
  | 23, _ => ⟨_, rfl, rfl, Nat.le_of_ble_eq_true rfl⟩
  | 24, _ => ⟨_, rfl, rfl, Nat.le_of_ble_eq_true rfl⟩
  | 25, _ => ⟨_, rfl, rfl, Nat.le_of_ble_eq_true rfl⟩
  | 26, _ => ⟨_, rfl, rfl, Nat.le_of_ble_eq_true rfl⟩
  | k + 27, h => absurd h (by omega)
theorem lng_ok (k : Nat) (hk : k < 27) (a b c n : Int) (t : Sl) : psSet 3 (pOp qIx (pL (pO qLst (pCons (pC (.int 1)) (pCons (pC (.int 3)) (pCons (pC (.int 5)) pNil))))) (pOp qAdd (pB qInt1 (pCons (pOp (qEq false) (pOp qIx (pVar 1) (pC (.int 0))) (pC (.str "mul"))) pNil)) (pOp qMul (pC (.int 2)) (pB qInt1 (pCons (pOp (qIn false) (pOp qIx (pVar 1) (pC (.int 0))) (pL (pO qLst (pCons (pC (.str "div")) (pCons (pC (.str "rest")) pNil))))) pNil))))) [.val (rowP k a b c n), .val (toldP k a b c n), t, .no, .no] = .nx [.val (rowP k a b c n), .val (toldP k a b c n), t, .val (.int (lgK k)), .no] := match k, hk with
  | 0, _ => rfl
  | 1, _ => rfl
  | 2, _ => rfl
  | 3, _ => rfl
  | 4, _ => rfl
  | 5, _ => rfl
  | 6, _ => rfl
  | 7, _ => rfl
  | 8, _ => rfl
  | 9, _ => rfl
  | 10, _ => rfl
  | 11, _ => rfl
  | 12, _ => rfl
  | 13, _ => rfl
  | 14, _ => rfl
  | 15, _ => rfl
  | 16, _ => rfl
  | 17, _ => rfl
  | 18, _ => rfl
  | 19, _ => rfl
  | 20, _ => rfl
  | 21, _ => rfl
  | 22, _ => rfl
  | 23, _ => rfl
  | 24, _ => rfl
  | 25, _ => rfl
  | 26, _ => rfl
  | k + 27, h => absurd h (by omega)
theorem last_ok (k : Nat) (hk : k < 27) (a b c n : Int) (t : Sl) : psRet (pAnd (pB (qIsi CTab) (pCons (pVar 4) (pCons (pC (.ty "bool")) pNil))) (pOp (qEq false) (pVar 4) (pOp (qIn false) (pOp qIx (pVar 1) (pC (.int 0))) (pL (pO qLst (pCons (pC (.str "why")) (pCons (pC (.str "where")) (pCons (pC (.str "aim")) (pCons (pC (.str "home")) pNil)))))))))  [.val (rowP k a b c n), .val (toldP k a b c n), t, .val (.int (lgK k)), .val (.bl (alK k))] = .rt (.bl true) := match k, hk with
  | 0, _ => rfl
  | 1, _ => rfl
  | 2, _ => rfl
  | 3, _ => rfl
  | 4, _ => rfl
  | 5, _ => rfl
  | 6, _ => rfl
  | 7, _ => rfl
  | 8, _ => rfl
  | 9, _ => rfl
  | 10, _ => rfl
  | 11, _ => rfl
  | 12, _ => rfl
  | 13, _ => rfl
  | 14, _ => rfl
  | 15, _ => rfl
  | 16, _ => rfl
  | 17, _ => rfl
  | 18, _ => rfl
  | 19, _ => rfl
  | 20, _ => rfl
  | 21, _ => rfl
  | 22, _ => rfl
  | 23, _ => rfl
  | 24, _ => rfl
  | 25, _ => rfl
  | 26, _ => rfl
  | k + 27, h => absurd h (by omega)
theorem whole_ok (i : Int) : p__law_whole [.int i, .int i] = some (.v (.bl true)) := by
  have i1 : ∀ i, qIsi CTab [.int i, .ty "int"] = some (.bl true) := fun _ => rfl
  have i2 : ∀ i, qIsi CTab [.int i, .ty "bool"] = some (.bl false) := fun _ => rfl
  simp! only [p__law_whole, d__law_whole, i1, i2, decide_true]
theorem right_ok (k : Nat) (hk : k < 27) (a b c n t : Int) (ha : 0 ≤ a) (ha2 : a < 8) (ht : t = 0 ∨ t = 1) : p__law_right [rowP k a b c n, toldP k a b c n, .int t] = some (.v (.bl true)) := by
  have f1 := reads_ok k hk a b c n
  have f2 := lreads_ok k hk a b c n
  have f3 := same_ok (rdP k a b c n) (List.all_eq_true.mp (rd_nb k hk a b c n).1) (rd_nb k hk a b c n).2
  have f4 := gives_right_ok k hk a b c n ha ha2
  have f5 := told_ok k hk a b c n
  have f6 : p__law_same [toldP k a b c n, toldP k a b c n] = some (.v (.bl true)) := by
    obtain ⟨xs, e, h1, h2⟩ := told_tup k hk a b c n
    rw [e]; exact same_ok xs (List.all_eq_true.mp h1) h2
  have f7 := fields_ok k hk a b c n
  have f8 := lng_ok k hk a b c n (.val (.int t))
  have f9 := last_ok k hk a b c n (.val (.int t))
  have f10 := long_ok k hk a b c n
  have f11 := alone_ok k hk a b c n
  have f12 := whole_ok (lgK k)
  generalize toldP k a b c n = T at *
  generalize rowP k a b c n = R at *
  generalize rdP k a b c n = D at *
  refine pf_rt rfl rfl ?_
  unfold d__law_right
  refine seq_nx (δ' := [.val R, .val T, .val (.int t), .no, .no]) ?_ ?_
  · rcases ht with rfl | rfl
    · simp! only [startP, pMeth_m]; rfl
    · simp! only [startP, pMeth_m, f1, f2, f3, decide_true]
  refine seq_nx (δ' := [.val R, .val T, .val (.int t), .no, .no]) (by simp! only [pMeth_m, f4, f5, f6, f7]) ?_
  refine seq_nx f8 ?_
  refine seq_nx (δ' := [.val R, .val T, .val (.int t), .val (.int (lgK k)), .no]) (by simp! only [pMeth_m, f10, f12, f1, f2, f3]) ?_
  refine seq_nx (δ' := [.val R, .val T, .val (.int t), .val (.int (lgK k)), .val (.bl (alK k))]) (by simp! only [pMeth_m, f11]) ?_
  exact f9
def nV (c : Int) : Int := if c / 55296 % 2 = 0 then c / 13824 % 1024 else if c / 13824 % 4 = 0 then 0 else if c / 13824 % 4 = 1 then 1023 else if c / 13824 % 4 = 2 then 511 else 512
def rest_told : PS := (psSeq (psIf (pT (pOp qLt (pVar 1) (pC (.int 2)))) (psRet (pOp qIx (pL (pO qLst (pCons (pB qTup (pCons (pC (.str "stop")) pNil)) (pCons (pB qTup (pCons (pC (.str "num")) (pCons (pVar 2) (pCons (pVar 4) pNil)))) pNil)))) (pVar 1))) psNx)
    (psSeq (psIf (pT (pOp (qIn false) (pVar 1) (pL (pO qLst (pCons (pC (.int 2)) (pCons (pC (.int 15)) (pCons (pC (.int 16)) pNil))))))) (psRet (pB qTup (pCons (pOp qIx (pL (pO qLst (pCons (pC (.str "plus")) (pCons (pC (.str "load")) (pCons (pC (.str "store")) pNil))))) (pOp qIndex (pL (pO qLst (pCons (pC (.int 2)) (pCons (pC (.int 15)) (pCons (pC (.int 16)) pNil))))) (pVar 1))) (pCons (pVar 2) (pCons (pVar 3) (pCons (pOp qSub (pVar 4) (pC (.int 512))) pNil)))))) psNx)
    (psSeq (psIf (pT (pOp qLt (pVar 1) (pC (.int 15)))) (psRet (pB qTup (pCons (pOp qIx (pCall p__law_pairs pNil) (pOp qSub (pVar 1) (pC (.int 3)))) (pCons (pVar 2) (pCons (pVar 3) (pCons (pOp qMod (pOp qDiv (pVar 0) (pC (.int 1728))) (pC (.int 8))) pNil)))))) psNx)
    (psSeq (psIf (pT (pOp (qEq false) (pVar 1) (pC (.int 17)))) (psRet (pB qTup (pCons (pC (.str "jump")) (pCons (pVar 4) pNil)))) psNx)
    (psSeq (psIf (pT (pOp qLt (pVar 1) (pC (.int 20)))) (psRet (pB qTup (pCons (pOp qIx (pL (pO qLst (pCons (pC (.str "zero")) (pCons (pC (.str "link")) pNil)))) (pOp qSub (pVar 1) (pC (.int 18)))) (pCons (pVar 2) (pCons (pVar 4) pNil))))) psNx)
    (psSeq (psIf (pT (pOp (qEq false) (pVar 1) (pC (.int 26)))) (psRet (pB qTup (pCons (pC (.str "home")) pNil))) psNx)
    (psRet (pB qTup (pCons (pOp qIx (pL (pO qLst (pCons (pC (.str "go")) (pCons (pC (.str "ask")) (pCons (pC (.str "tell")) (pCons (pC (.str "why")) (pCons (pC (.str "where")) (pCons (pC (.str "aim")) pNil)))))))) (pOp qSub (pVar 1) (pC (.int 20)))) (pCons (pVar 2) pNil))))))))))
theorem rest_ok (k : Nat) (hk : k < 27) (c a b n : Int) : rest_told [.val (.int c), .val (.int (k : Int)), .val (.int a), .val (.int b), .val (.int n)] = .rt (toldP k a b (c / 1728 % 8) n) := match k, hk with
  | 0, _ => rfl
  | 1, _ => rfl
  | 2, _ => rfl
  | 3, _ => rfl
  | 4, _ => rfl
  | 5, _ => rfl
  | 6, _ => rfl
  | 7, _ => rfl
  | 8, _ => rfl
  | 9, _ => rfl
  | 10, _ => rfl
  | 11, _ => rfl
  | 12, _ => rfl
  | 13, _ => rfl
  | 14, _ => rfl
  | 15, _ => rfl
  | 16, _ => rfl
  | 17, _ => rfl
  | 18, _ => rfl
  | 19, _ => rfl
  | 20, _ => rfl
  | 21, _ => rfl
  | 22, _ => rfl
  | 23, _ => rfl
  | 24, _ => rfl
  | 25, _ => rfl
  | 26, _ => rfl
  | k + 27, h => absurd h (by omega)
theorem nset_ok (c : Int) (x1 x2 x3 : Sl) : (psSet 4 (pOp qIx (pL (pO qLst (pCons (pOp qMod (pOp qDiv (pVar 0) (pC (.int 13824))) (pC (.int 1024))) (pCons (pOp qIx (pL (pO qLst (pCons (pC (.int 0)) (pCons (pC (.int 1023)) (pCons (pC (.int 511)) (pCons (pC (.int 512)) pNil)))))) (pOp qMod (pOp qDiv (pVar 0) (pC (.int 13824))) (pC (.int 4)))) pNil)))) (pOp qMod (pOp qDiv (pVar 0) (pC (.int 55296))) (pC (.int 2))))) [.val (.int c), x1, x2, x3, .no] = .nx [.val (.int c), x1, x2, x3, .val (.int (nV c))] := by
  have h2 : c / 55296 % 2 = 0 ∨ c / 55296 % 2 = 1 := by omega
  have h4 : c / 13824 % 4 = 0 ∨ c / 13824 % 4 = 1 ∨ c / 13824 % 4 = 2 ∨ c / 13824 % 4 = 3 := by omega
  rcases h2 with e | e <;> rcases h4 with e4 | e4 | e4 | e4 <;> (simp! only [e, e4, nV]; first | done | rfl)
theorem told_by_ok (c : Int) : ∃ k, k < 27 ∧ ∃ a b c' n, (0 ≤ a ∧ a < 8) ∧ p__law_told_by [.int c] = some (.v (toldP k a b c' n)) := by
  obtain ⟨k, hk⟩ : ∃ k : Nat, (k : Int) = c % 27 := ⟨(c % 27).toNat, by omega⟩
  refine ⟨k, by omega, c / 27 % 8, c / 216 % 8, c / 1728 % 8, nV c, by omega, ?_⟩
  refine pf_rt rfl rfl ?_
  unfold d__law_told_by
  refine seq_nx (δ' := [.val (.int c), .val (.int (k : Int)), .no, .no, .no]) (by simp! only [startP, hk]) ?_
  refine seq_nx (δ' := [.val (.int c), .val (.int (k : Int)), .val (.int (c / 27 % 8)), .no, .no]) (by simp! only []) ?_
  refine seq_nx (δ' := [.val (.int c), .val (.int (k : Int)), .val (.int (c / 27 % 8)), .val (.int (c / 216 % 8)), .no]) (by simp! only []) ?_
  refine seq_nx (nset_ok c _ _ _) ?_
  exact rest_ok k (by omega) c _ _ _
theorem l1_ok (ns : List Int) (hl : ns.length ≤ 63) (N : Nat) (hN : N ≤ 20) : ∃ δ', forP (pgName 1) l1_law (rangeP 0 N) [.val (.rol (ns.map .int)), .no, .no, .no, .no] = .nx δ' ∧ ∃ y1 y2 y3 y4, δ' = [.val (.rol (ns.map .int)), y1, y2, y3, y4] := by
  refine forP_range 0 N (fun _ δ => ∃ y1 y2 y3 y4, δ = [.val (.rol (ns.map .int)), y1, y2, y3, y4]) _ ⟨_, _, _, _, rfl⟩ ?_
  rintro j δ hj ⟨y1, y2, y3, y4, rfl⟩
  refine ⟨_, rfl, ?_⟩
  have c1 := cell_ok ns (0 + (j : Int)) hl (by omega) (by omega)
  have c2 := cell_ok ns (100 + (0 + (j : Int))) hl (by omega) (by omega)
  generalize cellV ns (0 + (j : Int)) = d1 at c1
  generalize cellV ns (100 + (0 + (j : Int))) = d2 at c2
  obtain ⟨k, hk, a, b, c, n, ⟨ha, ha2⟩, ht⟩ := told_by_ok d1
  have hm := made_ok k hk a b c n
  have hi := isi_ok k hk a b c n
  have r1 := right_ok k hk a b c n (d2 % 2) ha ha2 (by omega)
  have r2 := right_ok k hk a b c n (1 - d2 % 2) ha ha2 (by omega)
  generalize toldP k a b c n = T at *
  generalize rowP k a b c n = R at *
  refine ⟨[.val (.rol (ns.map .int)), .val (.int (0 + (j : Int))), .val T, .val R, .val (.int (d2 % 2))], ?_, _, _, _, _, rfl⟩
  unfold l1_law
  refine seq_nx (δ' := [.val (.rol (ns.map .int)), .val (.int (0 + (j : Int))), .val T, y3, y4]) (by simp! only [c1, ht]) ?_
  refine seq_nx (δ' := [.val (.rol (ns.map .int)), .val (.int (0 + (j : Int))), .val T, .val R, y4]) (by simp! only [hm]) ?_
  refine seq_nx (δ' := [.val (.rol (ns.map .int)), .val (.int (0 + (j : Int))), .val T, .val R, y4]) (by simp! only [hi]) ?_
  refine seq_nx (δ' := [.val (.rol (ns.map .int)), .val (.int (0 + (j : Int))), .val T, .val R, .val (.int (d2 % 2))]) (by simp! only [c2]) ?_
  simp! only [r1, r2]
theorem law_ok (ns : List Int) (hl : ns.length ≤ 63) : p_law [.rol (ns.map .int)] = some (.v (.bl true)) := by
  have r1 : ∃ N : Nat, N ≤ 20 ∧ piRange1 (pB qMax2 (pCons (pC (.int 1)) (pCons (pB qMin2 (pCons (pB qLen (pCons (pVar 0) pNil)) (pCons (pC (.int 20)) pNil))) pNil))) [.val (.rol (ns.map .int)), .no, .no, .no, .no] = some (rangeP 0 N) := by
    by_cases h20 : (20 : Int) < (ns.length : Int)
    · refine ⟨20, Nat.le_refl _, ?_⟩
      have t20 : (20 : Int).toNat = 20 := rfl
      have g1 : (20 : Int) > 1 := by decide
      simp! only [qMin2, qMax2, List.length_map, h20, g1, Int.reducePow, Int.reduceNeg, and_self, t20]
    · by_cases h1 : (ns.length : Int) > 1
      · refine ⟨ns.length, by omega, ?_⟩
        have rM : (-4611686018427387904 : Int) ≤ (ns.length : Int) ∧ (ns.length : Int) < 4611686018427387904 := by omega
        simp! only [qMin2, qMax2, List.length_map, h20, h1, Int.reducePow, Int.reduceNeg, rM, and_self, Int.toNat_natCast]
      · refine ⟨1, by decide, ?_⟩
        have t1 : (1 : Int).toNat = 1 := rfl
        simp! only [qMin2, qMax2, List.length_map, h20, h1, Int.reducePow, Int.reduceNeg, and_self, t1]
  obtain ⟨N, hN, r1⟩ := r1
  obtain ⟨δ1, e1, y1, y2, y3, y4, rfl⟩ := l1_ok ns hl N hN
  refine pf_rt rfl rfl ?_
  unfold d_law
  refine seq_nx (for_nx r1 e1) ?_
  simp! only []
theorem good (ns : List Int) (hl : ns.length ≤ 63) : ∃ h', f_law [.ref consts.length] (consts ++ [.rol (ns.map HL.W.int)]) = .ok (.bl true) h' := law_of a_law ns (law_ok ns hl)
end K12


set_option Elab.async false
set_option linter.all false
set_option maxRecDepth 100000
set_option maxHeartbeats 4000000
namespace K12
open PySem L2
def CTabA (C_Aim C_Ask C_Go C_Home C_Jump C_Link C_Load C_Num C_Pair C_Plus C_Row C_Stop C_Store C_Tell C_Where C_Why C_Zero : Addr) : List (Str × Addr × List HL.W) := [("Aim", C_Aim, [.gl "Aim", .gl "Row"]), ("Ask", C_Ask, [.gl "Ask", .gl "Row"]), ("Go", C_Go, [.gl "Go", .gl "Row"]), ("Home", C_Home, [.gl "Home", .gl "Row"]), ("Jump", C_Jump, [.gl "Jump", .gl "Row"]), ("Link", C_Link, [.gl "Link", .gl "Row"]), ("Load", C_Load, [.gl "Load", .gl "Row"]), ("Num", C_Num, [.gl "Num", .gl "Row"]), ("Pair", C_Pair, [.gl "Pair", .gl "Row"]), ("Plus", C_Plus, [.gl "Plus", .gl "Row"]), ("Row", C_Row, [.gl "Row"]), ("Stop", C_Stop, [.gl "Stop", .gl "Row"]), ("Store", C_Store, [.gl "Store", .gl "Row"]), ("Tell", C_Tell, [.gl "Tell", .gl "Row"]), ("Where", C_Where, [.gl "Where", .gl "Row"]), ("Why", C_Why, [.gl "Why", .gl "Row"]), ("Zero", C_Zero, [.gl "Zero", .gl "Row"])]
theorem all1 {P : Program} {w : World} {K : PySem.W.Frag} {mg : Str → Option Value} {C_Aim C_Ask C_Go C_Home C_Jump C_Link C_Load C_Num C_Pair C_Plus C_Row C_Stop C_Store C_Tell C_Where C_Why C_Zero : Addr} (e_Aim : mg "Aim" = some (.ref C_Aim)) (e_Ask : mg "Ask" = some (.ref C_Ask)) (e_Go : mg "Go" = some (.ref C_Go)) (e_Home : mg "Home" = some (.ref C_Home)) (e_Jump : mg "Jump" = some (.ref C_Jump)) (e_Link : mg "Link" = some (.ref C_Link)) (e_Load : mg "Load" = some (.ref C_Load)) (e_Num : mg "Num" = some (.ref C_Num)) (e_Pair : mg "Pair" = some (.ref C_Pair)) (e_Plus : mg "Plus" = some (.ref C_Plus)) (e_Row : mg "Row" = some (.ref C_Row)) (e_Stop : mg "Stop" = some (.ref C_Stop)) (e_Store : mg "Store" = some (.ref C_Store)) (e_Tell : mg "Tell" = some (.ref C_Tell)) (e_Where : mg "Where" = some (.ref C_Where)) (e_Why : mg "Why" = some (.ref C_Why)) (e_Zero : mg "Zero" = some (.ref C_Zero)) (z_bool : mg "bool" = none) (z_int : mg "int" = none) (z_isinstance : mg "isinstance" = none) (z_len : mg "len" = none) (z_max : mg "max" = none) (z_min : mg "min" = none) (z_range : mg "range" = none) (z_tuple : mg "tuple" = none) (hi : ∀ p ∈ CTabA C_Aim C_Ask C_Go C_Home C_Jump C_Link C_Load C_Num C_Pair C_Plus C_Row C_Stop C_Store C_Tell C_Where C_Why C_Zero, InsOk K p.2.1) (hb : isiB K (CTabA C_Aim C_Ask C_Go C_Home C_Jump C_Link C_Load C_Num C_Pair C_Plus C_Row C_Stop C_Store C_Tell C_Where C_Why C_Zero) = true) (cls_Aim : Cls K C_Aim) (mk_Aim : MkC K mg "Aim" C_Aim) (cls_Go : Cls K C_Go) (mk_Go : MkC K mg "Go" C_Go) (cls_Ask : Cls K C_Ask) (mk_Ask : MkC K mg "Ask" C_Ask) (cls_Tell : Cls K C_Tell) (mk_Tell : MkC K mg "Tell" C_Tell) (cls_Why : Cls K C_Why) (mk_Why : MkC K mg "Why" C_Why) (cls_Where : Cls K C_Where) (mk_Where : MkC K mg "Where" C_Where) (cls_Pair : Cls K C_Pair) (mk_Pair : MkC K mg "Pair" C_Pair) (cls_Num : Cls K C_Num) (mk_Num : MkC K mg "Num" C_Num) (cls_Plus : Cls K C_Plus) (mk_Plus : MkC K mg "Plus" C_Plus) (cls_Load : Cls K C_Load) (mk_Load : MkC K mg "Load" C_Load) (cls_Store : Cls K C_Store) (mk_Store : MkC K mg "Store" C_Store) (cls_Jump : Cls K C_Jump) (mk_Jump : MkC K mg "Jump" C_Jump) (cls_Zero : Cls K C_Zero) (mk_Zero : MkC K mg "Zero" C_Zero) (cls_Link : Cls K C_Link) (mk_Link : MkC K mg "Link" C_Link) (cls_Stop : Cls K C_Stop) (mk_Stop : Mk0 K mg "Stop" C_Stop) (cls_Home : Cls K C_Home) (mk_Home : Mk0 K mg "Home" C_Home) (inh_Aim_gives : PySem.W.findIn K (.ref C_Aim) "gives" = PySem.W.findIn K (.ref C_Row) "gives") (inh_Aim_known : PySem.W.findIn K (.ref C_Aim) "known" = PySem.W.findIn K (.ref C_Row) "known") (inh_Aim_long : PySem.W.findIn K (.ref C_Aim) "long" = PySem.W.findIn K (.ref C_Row) "long") (inh_Ask_alone : PySem.W.findIn K (.ref C_Ask) "alone" = PySem.W.findIn K (.ref C_Row) "alone") (inh_Ask_long : PySem.W.findIn K (.ref C_Ask) "long" = PySem.W.findIn K (.ref C_Row) "long") (inh_Ask_reads : PySem.W.findIn K (.ref C_Ask) "reads" = PySem.W.findIn K (.ref C_Row) "reads") (inh_Go_alone : PySem.W.findIn K (.ref C_Go) "alone" = PySem.W.findIn K (.ref C_Row) "alone") (inh_Go_gives : PySem.W.findIn K (.ref C_Go) "gives" = PySem.W.findIn K (.ref C_Row) "gives") (inh_Go_known : PySem.W.findIn K (.ref C_Go) "known" = PySem.W.findIn K (.ref C_Row) "known") (inh_Go_long : PySem.W.findIn K (.ref C_Go) "long" = PySem.W.findIn K (.ref C_Row) "long") (inh_Home_gives : PySem.W.findIn K (.ref C_Home) "gives" = PySem.W.findIn K (.ref C_Row) "gives") (inh_Home_known : PySem.W.findIn K (.ref C_Home) "known" = PySem.W.findIn K (.ref C_Row) "known") (inh_Home_long : PySem.W.findIn K (.ref C_Home) "long" = PySem.W.findIn K (.ref C_Row) "long") (inh_Home_reads : PySem.W.findIn K (.ref C_Home) "reads" = PySem.W.findIn K (.ref C_Row) "reads") (inh_Jump_alone : PySem.W.findIn K (.ref C_Jump) "alone" = PySem.W.findIn K (.ref C_Row) "alone") (inh_Jump_gives : PySem.W.findIn K (.ref C_Jump) "gives" = PySem.W.findIn K (.ref C_Row) "gives") (inh_Jump_known : PySem.W.findIn K (.ref C_Jump) "known" = PySem.W.findIn K (.ref C_Row) "known") (inh_Jump_long : PySem.W.findIn K (.ref C_Jump) "long" = PySem.W.findIn K (.ref C_Row) "long") (inh_Jump_reads : PySem.W.findIn K (.ref C_Jump) "reads" = PySem.W.findIn K (.ref C_Row) "reads") (inh_Link_alone : PySem.W.findIn K (.ref C_Link) "alone" = PySem.W.findIn K (.ref C_Row) "alone") (inh_Link_known : PySem.W.findIn K (.ref C_Link) "known" = PySem.W.findIn K (.ref C_Row) "known") (inh_Link_long : PySem.W.findIn K (.ref C_Link) "long" = PySem.W.findIn K (.ref C_Row) "long") (inh_Link_reads : PySem.W.findIn K (.ref C_Link) "reads" = PySem.W.findIn K (.ref C_Row) "reads") (inh_Load_alone : PySem.W.findIn K (.ref C_Load) "alone" = PySem.W.findIn K (.ref C_Row) "alone") (inh_Load_long : PySem.W.findIn K (.ref C_Load) "long" = PySem.W.findIn K (.ref C_Row) "long") (inh_Num_alone : PySem.W.findIn K (.ref C_Num) "alone" = PySem.W.findIn K (.ref C_Row) "alone") (inh_Num_known : PySem.W.findIn K (.ref C_Num) "known" = PySem.W.findIn K (.ref C_Row) "known") (inh_Num_long : PySem.W.findIn K (.ref C_Num) "long" = PySem.W.findIn K (.ref C_Row) "long") (inh_Num_reads : PySem.W.findIn K (.ref C_Num) "reads" = PySem.W.findIn K (.ref C_Row) "reads") (inh_Pair_alone : PySem.W.findIn K (.ref C_Pair) "alone" = PySem.W.findIn K (.ref C_Row) "alone") (inh_Pair_known : PySem.W.findIn K (.ref C_Pair) "known" = PySem.W.findIn K (.ref C_Row) "known") (inh_Plus_alone : PySem.W.findIn K (.ref C_Plus) "alone" = PySem.W.findIn K (.ref C_Row) "alone") (inh_Plus_known : PySem.W.findIn K (.ref C_Plus) "known" = PySem.W.findIn K (.ref C_Row) "known") (inh_Plus_long : PySem.W.findIn K (.ref C_Plus) "long" = PySem.W.findIn K (.ref C_Row) "long") (inh_Stop_alone : PySem.W.findIn K (.ref C_Stop) "alone" = PySem.W.findIn K (.ref C_Row) "alone") (inh_Stop_gives : PySem.W.findIn K (.ref C_Stop) "gives" = PySem.W.findIn K (.ref C_Row) "gives") (inh_Stop_known : PySem.W.findIn K (.ref C_Stop) "known" = PySem.W.findIn K (.ref C_Row) "known") (inh_Stop_long : PySem.W.findIn K (.ref C_Stop) "long" = PySem.W.findIn K (.ref C_Row) "long") (inh_Stop_reads : PySem.W.findIn K (.ref C_Stop) "reads" = PySem.W.findIn K (.ref C_Row) "reads") (inh_Store_alone : PySem.W.findIn K (.ref C_Store) "alone" = PySem.W.findIn K (.ref C_Row) "alone") (inh_Store_gives : PySem.W.findIn K (.ref C_Store) "gives" = PySem.W.findIn K (.ref C_Row) "gives") (inh_Store_known : PySem.W.findIn K (.ref C_Store) "known" = PySem.W.findIn K (.ref C_Row) "known") (inh_Store_long : PySem.W.findIn K (.ref C_Store) "long" = PySem.W.findIn K (.ref C_Row) "long") (inh_Tell_alone : PySem.W.findIn K (.ref C_Tell) "alone" = PySem.W.findIn K (.ref C_Row) "alone") (inh_Tell_gives : PySem.W.findIn K (.ref C_Tell) "gives" = PySem.W.findIn K (.ref C_Row) "gives") (inh_Tell_known : PySem.W.findIn K (.ref C_Tell) "known" = PySem.W.findIn K (.ref C_Row) "known") (inh_Tell_long : PySem.W.findIn K (.ref C_Tell) "long" = PySem.W.findIn K (.ref C_Row) "long") (inh_Where_long : PySem.W.findIn K (.ref C_Where) "long" = PySem.W.findIn K (.ref C_Row) "long") (inh_Where_reads : PySem.W.findIn K (.ref C_Where) "reads" = PySem.W.findIn K (.ref C_Row) "reads") (inh_Why_long : PySem.W.findIn K (.ref C_Why) "long" = PySem.W.findIn K (.ref C_Row) "long") (inh_Why_reads : PySem.W.findIn K (.ref C_Why) "reads" = PySem.W.findIn K (.ref C_Row) "reads") (inh_Zero_alone : PySem.W.findIn K (.ref C_Zero) "alone" = PySem.W.findIn K (.ref C_Row) "alone") (inh_Zero_gives : PySem.W.findIn K (.ref C_Zero) "gives" = PySem.W.findIn K (.ref C_Row) "gives") (inh_Zero_known : PySem.W.findIn K (.ref C_Zero) "known" = PySem.W.findIn K (.ref C_Row) "known") (inh_Zero_long : PySem.W.findIn K (.ref C_Zero) "long" = PySem.W.findIn K (.ref C_Row) "long") (na_Aim_a : NoAttr K C_Aim "a") (na_Go_a : NoAttr K C_Go "a") (na_Ask_a : NoAttr K C_Ask "a") (na_Tell_a : NoAttr K C_Tell "a") (na_Why_a : NoAttr K C_Why "a") (na_Where_a : NoAttr K C_Where "a") (na_Pair_a : NoAttr K C_Pair "a") (na_Num_a : NoAttr K C_Num "a") (na_Plus_a : NoAttr K C_Plus "a") (na_Load_a : NoAttr K C_Load "a") (na_Store_a : NoAttr K C_Store "a") (na_Zero_a : NoAttr K C_Zero "a") (na_Link_a : NoAttr K C_Link "a") (na_Pair_b : NoAttr K C_Pair "b") (na_Plus_b : NoAttr K C_Plus "b") (na_Load_b : NoAttr K C_Load "b") (na_Store_b : NoAttr K C_Store "b") (na_Pair_c : NoAttr K C_Pair "c") (na_Num_n : NoAttr K C_Num "n") (na_Plus_n : NoAttr K C_Plus "n") (na_Load_n : NoAttr K C_Load "n") (na_Store_n : NoAttr K C_Store "n") (na_Jump_n : NoAttr K C_Jump "n") (na_Zero_n : NoAttr K C_Zero "n") (na_Link_n : NoAttr K C_Link "n") (na_Pair_word : NoAttr K C_Pair "word") (d_LONG : DctI K mg w "LONG" [("mul", 3), ("div", 5), ("rest", 5)]) (F__law_pairs : TopFn K mg "_law_pairs" s__law_pairs) (F__law_told_by : TopFn K mg "_law_told_by" s__law_told_by) (F__law_cell : TopFn K mg "_law_cell" s__law_cell) (F_Pair_init : MethB K C_Pair "__init__" "Pair.__init__" s_Pair_init ["self", "word", "a", "b", "c"]) (F_Num_init : MethB K C_Num "__init__" "Num.__init__" s_Num_init ["self", "a", "n"]) (F_Plus_init : MethB K C_Plus "__init__" "Plus.__init__" s_Plus_init ["self", "a", "b", "n"]) (F_Load_init : MethB K C_Load "__init__" "Load.__init__" s_Load_init ["self", "a", "b", "n"]) (F_Store_init : MethB K C_Store "__init__" "Store.__init__" s_Store_init ["self", "a", "b", "n"]) (F_Jump_init : MethB K C_Jump "__init__" "Jump.__init__" s_Jump_init ["self", "n"]) (F_Zero_init : MethB K C_Zero "__init__" "Zero.__init__" s_Zero_init ["self", "a", "n"]) (F_Link_init : MethB K C_Link "__init__" "Link.__init__" s_Link_init ["self", "a", "n"]) (F_Go_init : MethB K C_Go "__init__" "Go.__init__" s_Go_init ["self", "a"]) (F_Ask_init : MethB K C_Ask "__init__" "Ask.__init__" s_Ask_init ["self", "a"]) (F_Tell_init : MethB K C_Tell "__init__" "Tell.__init__" s_Tell_init ["self", "a"]) (F_Why_init : MethB K C_Why "__init__" "Why.__init__" s_Why_init ["self", "a"]) (F_Where_init : MethB K C_Where "__init__" "Where.__init__" s_Where_init ["self", "a"]) (F_Aim_init : MethB K C_Aim "__init__" "Aim.__init__" s_Aim_init ["self", "a"]) (F__law_box_row : TopFn K mg "_law_box_row" s__law_box_row) (F__law_made : TopFn K mg "_law_made" s__law_made) (F__law_same : TopFn K mg "_law_same" s__law_same) (F_Aim_reads : MethB K C_Aim "reads" "Aim.reads" s_Aim_reads ["self"]) (F_Go_reads : MethB K C_Go "reads" "Go.reads" s_Go_reads ["self"]) (F_Row_reads : MethB K C_Row "reads" "Row.reads" s_Row_reads ["self"]) (F_Tell_reads : MethB K C_Tell "reads" "Tell.reads" s_Tell_reads ["self"]) (F_Pair_reads : MethB K C_Pair "reads" "Pair.reads" s_Pair_reads ["self"]) (F_Plus_reads : MethB K C_Plus "reads" "Plus.reads" s_Plus_reads ["self"]) (F_Load_reads : MethB K C_Load "reads" "Load.reads" s_Load_reads ["self"]) (F_Store_reads : MethB K C_Store "reads" "Store.reads" s_Store_reads ["self"]) (F_Zero_reads : MethB K C_Zero "reads" "Zero.reads" s_Zero_reads ["self"]) (F__law_reads : TopFn K mg "_law_reads" s__law_reads) (F__law_fields : TopFn K mg "_law_fields" s__law_fields) (F_Aim_told : MethB K C_Aim "told" "Aim.told" s_Aim_told ["self"]) (F_Go_told : MethB K C_Go "told" "Go.told" s_Go_told ["self"]) (F_Ask_told : MethB K C_Ask "told" "Ask.told" s_Ask_told ["self"]) (F_Tell_told : MethB K C_Tell "told" "Tell.told" s_Tell_told ["self"]) (F_Why_told : MethB K C_Why "told" "Why.told" s_Why_told ["self"]) (F_Where_told : MethB K C_Where "told" "Where.told" s_Where_told ["self"]) (F_Pair_told : MethB K C_Pair "told" "Pair.told" s_Pair_told ["self"]) (F_Num_told : MethB K C_Num "told" "Num.told" s_Num_told ["self"]) (F_Plus_told : MethB K C_Plus "told" "Plus.told" s_Plus_told ["self"]) (F_Load_told : MethB K C_Load "told" "Load.told" s_Load_told ["self"]) (F_Store_told : MethB K C_Store "told" "Store.told" s_Store_told ["self"]) (F_Jump_told : MethB K C_Jump "told" "Jump.told" s_Jump_told ["self"]) (F_Zero_told : MethB K C_Zero "told" "Zero.told" s_Zero_told ["self"]) (F_Link_told : MethB K C_Link "told" "Link.told" s_Link_told ["self"]) (F_Stop_told : MethB K C_Stop "told" "Stop.told" s_Stop_told ["self"]) (F_Home_told : MethB K C_Home "told" "Home.told" s_Home_told ["self"]) (F__law_gives : TopFn K mg "_law_gives" s__law_gives) (F_known_at : TopFn K mg "known_at" s_known_at) (F_Row_gives : MethB K C_Row "gives" "Row.gives" s_Row_gives ["self"]) (F_given_box : TopFn K mg "given_box" s_given_box) (F_Ask_gives : MethB K C_Ask "gives" "Ask.gives" s_Ask_gives ["self"]) (F_Why_gives : MethB K C_Why "gives" "Why.gives" s_Why_gives ["self"]) (F_Where_gives : MethB K C_Where "gives" "Where.gives" s_Where_gives ["self"]) (F_Pair_gives : MethB K C_Pair "gives" "Pair.gives" s_Pair_gives ["self"]) (F_Num_gives : MethB K C_Num "gives" "Num.gives" s_Num_gives ["self"]) (F_Plus_gives : MethB K C_Plus "gives" "Plus.gives" s_Plus_gives ["self"]) (F_Load_gives : MethB K C_Load "gives" "Load.gives" s_Load_gives ["self"]) (F_Link_gives : MethB K C_Link "gives" "Link.gives" s_Link_gives ["self"]) (F_Row_known : MethB K C_Row "known" "Row.known" s_Row_known ["self"]) (F_Ask_known : MethB K C_Ask "known" "Ask.known" s_Ask_known ["self"]) (F_Why_known : MethB K C_Why "known" "Why.known" s_Why_known ["self"]) (F_Where_known : MethB K C_Where "known" "Where.known" s_Where_known ["self"]) (F_Load_known : MethB K C_Load "known" "Load.known" s_Load_known ["self"]) (F__law_known : TopFn K mg "_law_known" s__law_known) (F__law_whole : TopFn K mg "_law_whole" s__law_whole) (F__law_gives_right : TopFn K mg "_law_gives_right" s__law_gives_right) (F_Row_long : MethB K C_Row "long" "Row.long" s_Row_long ["self"]) (F_Pair_long : MethB K C_Pair "long" "Pair.long" s_Pair_long ["self"]) (F_Aim_alone : MethB K C_Aim "alone" "Aim.alone" s_Aim_alone ["self"]) (F_Row_alone : MethB K C_Row "alone" "Row.alone" s_Row_alone ["self"]) (F_Why_alone : MethB K C_Why "alone" "Why.alone" s_Why_alone ["self"]) (F_Where_alone : MethB K C_Where "alone" "Where.alone" s_Where_alone ["self"]) (F_Home_alone : MethB K C_Home "alone" "Home.alone" s_Home_alone ["self"]) (F__law_right : TopFn K mg "_law_right" s__law_right) (F_law : TopFn K mg "law" s_law) : LawR P w K mg 6 :=
  all (γ := gm mg) (ρ := fun _ => 0) ⟨z_bool,
    z_int,
    z_isinstance,
    z_len,
    z_max,
    z_min,
    z_range,
    z_tuple,
    isiOk_of (by intro p hp; simp only [CTabA, List.mem_cons, List.not_mem_nil, or_false] at hp; rcases hp with rfl | rfl | rfl | rfl | rfl | rfl | rfl | rfl | rfl | rfl | rfl | rfl | rfl | rfl | rfl | rfl | rfl <;> (first | exact gm_of e_Aim | exact gm_of e_Ask | exact gm_of e_Go | exact gm_of e_Home | exact gm_of e_Jump | exact gm_of e_Link | exact gm_of e_Load | exact gm_of e_Num | exact gm_of e_Pair | exact gm_of e_Plus | exact gm_of e_Row | exact gm_of e_Stop | exact gm_of e_Store | exact gm_of e_Tell | exact gm_of e_Where | exact gm_of e_Why | exact gm_of e_Zero)) hi hb,
    (by rw [gm_of e_Aim]; exact cls_Aim),
    (by rw [gm_of e_Aim]; exact mk_Aim),
    (by rw [gm_of e_Go]; exact cls_Go),
    (by rw [gm_of e_Go]; exact mk_Go),
    (by rw [gm_of e_Ask]; exact cls_Ask),
    (by rw [gm_of e_Ask]; exact mk_Ask),
    (by rw [gm_of e_Tell]; exact cls_Tell),
    (by rw [gm_of e_Tell]; exact mk_Tell),
    (by rw [gm_of e_Why]; exact cls_Why),
    (by rw [gm_of e_Why]; exact mk_Why),
    (by rw [gm_of e_Where]; exact cls_Where),
    (by rw [gm_of e_Where]; exact mk_Where),
    (by rw [gm_of e_Pair]; exact cls_Pair),
    (by rw [gm_of e_Pair]; exact mk_Pair),
    (by rw [gm_of e_Num]; exact cls_Num),
    (by rw [gm_of e_Num]; exact mk_Num),
    (by rw [gm_of e_Plus]; exact cls_Plus),
    (by rw [gm_of e_Plus]; exact mk_Plus),
    (by rw [gm_of e_Load]; exact cls_Load),
    (by rw [gm_of e_Load]; exact mk_Load),
    (by rw [gm_of e_Store]; exact cls_Store),
    (by rw [gm_of e_Store]; exact mk_Store),
    (by rw [gm_of e_Jump]; exact cls_Jump),
    (by rw [gm_of e_Jump]; exact mk_Jump),
    (by rw [gm_of e_Zero]; exact cls_Zero),
    (by rw [gm_of e_Zero]; exact mk_Zero),
    (by rw [gm_of e_Link]; exact cls_Link),
    (by rw [gm_of e_Link]; exact mk_Link),
    (by rw [gm_of e_Stop]; exact cls_Stop),
    (by rw [gm_of e_Stop]; exact mk_Stop),
    (by rw [gm_of e_Home]; exact cls_Home),
    (by rw [gm_of e_Home]; exact mk_Home),
    (by rw [gm_of e_Row]; exact e_Row),
    (by rw [gm_of e_Aim, gm_of e_Row]; exact inh_Aim_gives),
    (by rw [gm_of e_Aim, gm_of e_Row]; exact inh_Aim_known),
    (by rw [gm_of e_Aim, gm_of e_Row]; exact inh_Aim_long),
    (by rw [gm_of e_Ask, gm_of e_Row]; exact inh_Ask_alone),
    (by rw [gm_of e_Ask, gm_of e_Row]; exact inh_Ask_long),
    (by rw [gm_of e_Ask, gm_of e_Row]; exact inh_Ask_reads),
    (by rw [gm_of e_Go, gm_of e_Row]; exact inh_Go_alone),
    (by rw [gm_of e_Go, gm_of e_Row]; exact inh_Go_gives),
    (by rw [gm_of e_Go, gm_of e_Row]; exact inh_Go_known),
    (by rw [gm_of e_Go, gm_of e_Row]; exact inh_Go_long),
    (by rw [gm_of e_Home, gm_of e_Row]; exact inh_Home_gives),
    (by rw [gm_of e_Home, gm_of e_Row]; exact inh_Home_known),
    (by rw [gm_of e_Home, gm_of e_Row]; exact inh_Home_long),
    (by rw [gm_of e_Home, gm_of e_Row]; exact inh_Home_reads),
    (by rw [gm_of e_Jump, gm_of e_Row]; exact inh_Jump_alone),
    (by rw [gm_of e_Jump, gm_of e_Row]; exact inh_Jump_gives),
    (by rw [gm_of e_Jump, gm_of e_Row]; exact inh_Jump_known),
    (by rw [gm_of e_Jump, gm_of e_Row]; exact inh_Jump_long),
    (by rw [gm_of e_Jump, gm_of e_Row]; exact inh_Jump_reads),
    (by rw [gm_of e_Link, gm_of e_Row]; exact inh_Link_alone),
    (by rw [gm_of e_Link, gm_of e_Row]; exact inh_Link_known),
    (by rw [gm_of e_Link, gm_of e_Row]; exact inh_Link_long),
    (by rw [gm_of e_Link, gm_of e_Row]; exact inh_Link_reads),
    (by rw [gm_of e_Load, gm_of e_Row]; exact inh_Load_alone),
    (by rw [gm_of e_Load, gm_of e_Row]; exact inh_Load_long),
    (by rw [gm_of e_Num, gm_of e_Row]; exact inh_Num_alone),
    (by rw [gm_of e_Num, gm_of e_Row]; exact inh_Num_known),
    (by rw [gm_of e_Num, gm_of e_Row]; exact inh_Num_long),
    (by rw [gm_of e_Num, gm_of e_Row]; exact inh_Num_reads),
    (by rw [gm_of e_Pair, gm_of e_Row]; exact inh_Pair_alone),
    (by rw [gm_of e_Pair, gm_of e_Row]; exact inh_Pair_known),
    (by rw [gm_of e_Plus, gm_of e_Row]; exact inh_Plus_alone),
    (by rw [gm_of e_Plus, gm_of e_Row]; exact inh_Plus_known),
    (by rw [gm_of e_Plus, gm_of e_Row]; exact inh_Plus_long),
    (by rw [gm_of e_Stop, gm_of e_Row]; exact inh_Stop_alone),
    (by rw [gm_of e_Stop, gm_of e_Row]; exact inh_Stop_gives),
    (by rw [gm_of e_Stop, gm_of e_Row]; exact inh_Stop_known),
    (by rw [gm_of e_Stop, gm_of e_Row]; exact inh_Stop_long),
    (by rw [gm_of e_Stop, gm_of e_Row]; exact inh_Stop_reads),
    (by rw [gm_of e_Store, gm_of e_Row]; exact inh_Store_alone),
    (by rw [gm_of e_Store, gm_of e_Row]; exact inh_Store_gives),
    (by rw [gm_of e_Store, gm_of e_Row]; exact inh_Store_known),
    (by rw [gm_of e_Store, gm_of e_Row]; exact inh_Store_long),
    (by rw [gm_of e_Tell, gm_of e_Row]; exact inh_Tell_alone),
    (by rw [gm_of e_Tell, gm_of e_Row]; exact inh_Tell_gives),
    (by rw [gm_of e_Tell, gm_of e_Row]; exact inh_Tell_known),
    (by rw [gm_of e_Tell, gm_of e_Row]; exact inh_Tell_long),
    (by rw [gm_of e_Where, gm_of e_Row]; exact inh_Where_long),
    (by rw [gm_of e_Where, gm_of e_Row]; exact inh_Where_reads),
    (by rw [gm_of e_Why, gm_of e_Row]; exact inh_Why_long),
    (by rw [gm_of e_Why, gm_of e_Row]; exact inh_Why_reads),
    (by rw [gm_of e_Zero, gm_of e_Row]; exact inh_Zero_alone),
    (by rw [gm_of e_Zero, gm_of e_Row]; exact inh_Zero_gives),
    (by rw [gm_of e_Zero, gm_of e_Row]; exact inh_Zero_known),
    (by rw [gm_of e_Zero, gm_of e_Row]; exact inh_Zero_long),
    (by intro c hc; simp only [List.mem_cons, List.not_mem_nil, or_false] at hc; rcases hc with rfl | rfl | rfl | rfl | rfl | rfl | rfl | rfl | rfl | rfl | rfl | rfl | rfl <;> first | (rw [gm_of e_Aim]; exact ⟨cls_Aim, na_Aim_a⟩) | (rw [gm_of e_Go]; exact ⟨cls_Go, na_Go_a⟩) | (rw [gm_of e_Ask]; exact ⟨cls_Ask, na_Ask_a⟩) | (rw [gm_of e_Tell]; exact ⟨cls_Tell, na_Tell_a⟩) | (rw [gm_of e_Why]; exact ⟨cls_Why, na_Why_a⟩) | (rw [gm_of e_Where]; exact ⟨cls_Where, na_Where_a⟩) | (rw [gm_of e_Pair]; exact ⟨cls_Pair, na_Pair_a⟩) | (rw [gm_of e_Num]; exact ⟨cls_Num, na_Num_a⟩) | (rw [gm_of e_Plus]; exact ⟨cls_Plus, na_Plus_a⟩) | (rw [gm_of e_Load]; exact ⟨cls_Load, na_Load_a⟩) | (rw [gm_of e_Store]; exact ⟨cls_Store, na_Store_a⟩) | (rw [gm_of e_Zero]; exact ⟨cls_Zero, na_Zero_a⟩) | (rw [gm_of e_Link]; exact ⟨cls_Link, na_Link_a⟩)),
    (by intro c hc; simp only [List.mem_cons, List.not_mem_nil, or_false] at hc; rcases hc with rfl | rfl | rfl | rfl <;> first | (rw [gm_of e_Pair]; exact ⟨cls_Pair, na_Pair_b⟩) | (rw [gm_of e_Plus]; exact ⟨cls_Plus, na_Plus_b⟩) | (rw [gm_of e_Load]; exact ⟨cls_Load, na_Load_b⟩) | (rw [gm_of e_Store]; exact ⟨cls_Store, na_Store_b⟩)),
    (by intro c hc; rw [List.mem_singleton.mp hc, gm_of e_Pair]; exact ⟨cls_Pair, na_Pair_c⟩),
    (by intro c hc; simp only [List.mem_cons, List.not_mem_nil, or_false] at hc; rcases hc with rfl | rfl | rfl | rfl | rfl | rfl | rfl <;> first | (rw [gm_of e_Num]; exact ⟨cls_Num, na_Num_n⟩) | (rw [gm_of e_Plus]; exact ⟨cls_Plus, na_Plus_n⟩) | (rw [gm_of e_Load]; exact ⟨cls_Load, na_Load_n⟩) | (rw [gm_of e_Store]; exact ⟨cls_Store, na_Store_n⟩) | (rw [gm_of e_Jump]; exact ⟨cls_Jump, na_Jump_n⟩) | (rw [gm_of e_Zero]; exact ⟨cls_Zero, na_Zero_n⟩) | (rw [gm_of e_Link]; exact ⟨cls_Link, na_Link_n⟩)),
    (by intro c hc; rw [List.mem_singleton.mp hc, gm_of e_Pair]; exact ⟨cls_Pair, na_Pair_word⟩),
    d_LONG⟩ ConsOk.nil F__law_pairs
    F__law_told_by
    F__law_cell
    (by rw [gm_of e_Pair]; exact F_Pair_init)
    (by rw [gm_of e_Num]; exact F_Num_init)
    (by rw [gm_of e_Plus]; exact F_Plus_init)
    (by rw [gm_of e_Load]; exact F_Load_init)
    (by rw [gm_of e_Store]; exact F_Store_init)
    (by rw [gm_of e_Jump]; exact F_Jump_init)
    (by rw [gm_of e_Zero]; exact F_Zero_init)
    (by rw [gm_of e_Link]; exact F_Link_init)
    (by rw [gm_of e_Go]; exact F_Go_init)
    (by rw [gm_of e_Ask]; exact F_Ask_init)
    (by rw [gm_of e_Tell]; exact F_Tell_init)
    (by rw [gm_of e_Why]; exact F_Why_init)
    (by rw [gm_of e_Where]; exact F_Where_init)
    (by rw [gm_of e_Aim]; exact F_Aim_init)
    F__law_box_row
    F__law_made
    F__law_same
    (by rw [gm_of e_Aim]; exact F_Aim_reads)
    (by rw [gm_of e_Go]; exact F_Go_reads)
    (by rw [gm_of e_Row]; exact F_Row_reads)
    (by rw [gm_of e_Tell]; exact F_Tell_reads)
    (by rw [gm_of e_Pair]; exact F_Pair_reads)
    (by rw [gm_of e_Plus]; exact F_Plus_reads)
    (by rw [gm_of e_Load]; exact F_Load_reads)
    (by rw [gm_of e_Store]; exact F_Store_reads)
    (by rw [gm_of e_Zero]; exact F_Zero_reads)
    F__law_reads
    F__law_fields
    (by rw [gm_of e_Aim]; exact F_Aim_told)
    (by rw [gm_of e_Go]; exact F_Go_told)
    (by rw [gm_of e_Ask]; exact F_Ask_told)
    (by rw [gm_of e_Tell]; exact F_Tell_told)
    (by rw [gm_of e_Why]; exact F_Why_told)
    (by rw [gm_of e_Where]; exact F_Where_told)
    (by rw [gm_of e_Pair]; exact F_Pair_told)
    (by rw [gm_of e_Num]; exact F_Num_told)
    (by rw [gm_of e_Plus]; exact F_Plus_told)
    (by rw [gm_of e_Load]; exact F_Load_told)
    (by rw [gm_of e_Store]; exact F_Store_told)
    (by rw [gm_of e_Jump]; exact F_Jump_told)
    (by rw [gm_of e_Zero]; exact F_Zero_told)
    (by rw [gm_of e_Link]; exact F_Link_told)
    (by rw [gm_of e_Stop]; exact F_Stop_told)
    (by rw [gm_of e_Home]; exact F_Home_told)
    F__law_gives
    F_known_at
    (by rw [gm_of e_Row]; exact F_Row_gives)
    F_given_box
    (by rw [gm_of e_Ask]; exact F_Ask_gives)
    (by rw [gm_of e_Why]; exact F_Why_gives)
    (by rw [gm_of e_Where]; exact F_Where_gives)
    (by rw [gm_of e_Pair]; exact F_Pair_gives)
    (by rw [gm_of e_Num]; exact F_Num_gives)
    (by rw [gm_of e_Plus]; exact F_Plus_gives)
    (by rw [gm_of e_Load]; exact F_Load_gives)
    (by rw [gm_of e_Link]; exact F_Link_gives)
    (by rw [gm_of e_Row]; exact F_Row_known)
    (by rw [gm_of e_Ask]; exact F_Ask_known)
    (by rw [gm_of e_Why]; exact F_Why_known)
    (by rw [gm_of e_Where]; exact F_Where_known)
    (by rw [gm_of e_Load]; exact F_Load_known)
    F__law_known
    F__law_whole
    F__law_gives_right
    (by rw [gm_of e_Row]; exact F_Row_long)
    (by rw [gm_of e_Pair]; exact F_Pair_long)
    (by rw [gm_of e_Aim]; exact F_Aim_alone)
    (by rw [gm_of e_Row]; exact F_Row_alone)
    (by rw [gm_of e_Why]; exact F_Why_alone)
    (by rw [gm_of e_Where]; exact F_Where_alone)
    (by rw [gm_of e_Home]; exact F_Home_alone)
    F__law_right
    F_law good
end K12
open PySem PySem.W PyProof.Rows
set_option maxRecDepth 100000 in
set_option maxHeartbeats 0 in
theorem PySem.Challenge.cw_rowmill_k12_rows_told_holds : PySem.Challenge.rw_rowmill_k12_rows_told.Holds := by
  w_on; o_law; k_head; (case hw => w_witness2)
  k_fill
  refine L2.walk_lawR (l := PySem.Challenge.rw_rowmill_k12_rows_told) (k := 6) rfl rfl ⟨rfl, by decide, by decide⟩ (fun w h Y => PySem.W.kIn_of Y) rfl ?F
  case F =>
    intro w mg h KX G
    refine' K12.all1 ?e_Aim ?e_Ask ?e_Go ?e_Home ?e_Jump ?e_Link ?e_Load ?e_Num ?e_Pair ?e_Plus ?e_Row ?e_Stop ?e_Store ?e_Tell ?e_Where ?e_Why ?e_Zero ?z_bool ?z_int ?z_isinstance ?z_len ?z_max ?z_min ?z_range ?z_tuple ?hi ?hb ?cls_Aim ?mk_Aim ?cls_Go ?mk_Go ?cls_Ask ?mk_Ask ?cls_Tell ?mk_Tell ?cls_Why ?mk_Why ?cls_Where ?mk_Where ?cls_Pair ?mk_Pair ?cls_Num ?mk_Num ?cls_Plus ?mk_Plus ?cls_Load ?mk_Load ?cls_Store ?mk_Store ?cls_Jump ?mk_Jump ?cls_Zero ?mk_Zero ?cls_Link ?mk_Link ?cls_Stop ?mk_Stop ?cls_Home ?mk_Home ?inh_Aim_gives ?inh_Aim_known ?inh_Aim_long ?inh_Ask_alone ?inh_Ask_long ?inh_Ask_reads ?inh_Go_alone ?inh_Go_gives ?inh_Go_known ?inh_Go_long ?inh_Home_gives ?inh_Home_known ?inh_Home_long ?inh_Home_reads ?inh_Jump_alone ?inh_Jump_gives ?inh_Jump_known ?inh_Jump_long ?inh_Jump_reads ?inh_Link_alone ?inh_Link_known ?inh_Link_long ?inh_Link_reads ?inh_Load_alone ?inh_Load_long ?inh_Num_alone ?inh_Num_known ?inh_Num_long ?inh_Num_reads ?inh_Pair_alone ?inh_Pair_known ?inh_Plus_alone ?inh_Plus_known ?inh_Plus_long ?inh_Stop_alone ?inh_Stop_gives ?inh_Stop_known ?inh_Stop_long ?inh_Stop_reads ?inh_Store_alone ?inh_Store_gives ?inh_Store_known ?inh_Store_long ?inh_Tell_alone ?inh_Tell_gives ?inh_Tell_known ?inh_Tell_long ?inh_Where_long ?inh_Where_reads ?inh_Why_long ?inh_Why_reads ?inh_Zero_alone ?inh_Zero_gives ?inh_Zero_known ?inh_Zero_long ?na_Aim_a ?na_Go_a ?na_Ask_a ?na_Tell_a ?na_Why_a ?na_Where_a ?na_Pair_a ?na_Num_a ?na_Plus_a ?na_Load_a ?na_Store_a ?na_Zero_a ?na_Link_a ?na_Pair_b ?na_Plus_b ?na_Load_b ?na_Store_b ?na_Pair_c ?na_Num_n ?na_Plus_n ?na_Load_n ?na_Store_n ?na_Jump_n ?na_Zero_n ?na_Link_n ?na_Pair_word ?d_LONG (L2.topFn_mk KX G ?a0 ?l0 ?c0 ?k0) (L2.topFn_mk KX G ?a1 ?l1 ?c1 ?k1) (L2.topFn_mk KX G ?a2 ?l2 ?c2 ?k2) (L2.methB_mk ?a3 ?l3 ?c3 ?k3 ?n3 ?b3) (L2.methB_mk ?a4 ?l4 ?c4 ?k4 ?n4 ?b4) (L2.methB_mk ?a5 ?l5 ?c5 ?k5 ?n5 ?b5) (L2.methB_mk ?a6 ?l6 ?c6 ?k6 ?n6 ?b6) (L2.methB_mk ?a7 ?l7 ?c7 ?k7 ?n7 ?b7) (L2.methB_mk ?a8 ?l8 ?c8 ?k8 ?n8 ?b8) (L2.methB_mk ?a9 ?l9 ?c9 ?k9 ?n9 ?b9) (L2.methB_mk ?a10 ?l10 ?c10 ?k10 ?n10 ?b10) (L2.methB_mk ?a11 ?l11 ?c11 ?k11 ?n11 ?b11) (L2.methB_mk ?a12 ?l12 ?c12 ?k12 ?n12 ?b12) (L2.methB_mk ?a13 ?l13 ?c13 ?k13 ?n13 ?b13) (L2.methB_mk ?a14 ?l14 ?c14 ?k14 ?n14 ?b14) (L2.methB_mk ?a15 ?l15 ?c15 ?k15 ?n15 ?b15) (L2.methB_mk ?a16 ?l16 ?c16 ?k16 ?n16 ?b16) (L2.topFn_mk KX G ?a17 ?l17 ?c17 ?k17) (L2.topFn_mk KX G ?a18 ?l18 ?c18 ?k18) (L2.topFn_mk KX G ?a19 ?l19 ?c19 ?k19) (L2.methB_mk ?a20 ?l20 ?c20 ?k20 ?n20 ?b20) (L2.methB_mk ?a21 ?l21 ?c21 ?k21 ?n21 ?b21) (L2.methB_mk ?a22 ?l22 ?c22 ?k22 ?n22 ?b22) (L2.methB_mk ?a23 ?l23 ?c23 ?k23 ?n23 ?b23) (L2.methB_mk ?a24 ?l24 ?c24 ?k24 ?n24 ?b24) (L2.methB_mk ?a25 ?l25 ?c25 ?k25 ?n25 ?b25) (L2.methB_mk ?a26 ?l26 ?c26 ?k26 ?n26 ?b26) (L2.methB_mk ?a27 ?l27 ?c27 ?k27 ?n27 ?b27) (L2.methB_mk ?a28 ?l28 ?c28 ?k28 ?n28 ?b28) (L2.topFn_mk KX G ?a29 ?l29 ?c29 ?k29) (L2.topFn_mk KX G ?a30 ?l30 ?c30 ?k30) (L2.methB_mk ?a31 ?l31 ?c31 ?k31 ?n31 ?b31) (L2.methB_mk ?a32 ?l32 ?c32 ?k32 ?n32 ?b32) (L2.methB_mk ?a33 ?l33 ?c33 ?k33 ?n33 ?b33) (L2.methB_mk ?a34 ?l34 ?c34 ?k34 ?n34 ?b34) (L2.methB_mk ?a35 ?l35 ?c35 ?k35 ?n35 ?b35) (L2.methB_mk ?a36 ?l36 ?c36 ?k36 ?n36 ?b36) (L2.methB_mk ?a37 ?l37 ?c37 ?k37 ?n37 ?b37) (L2.methB_mk ?a38 ?l38 ?c38 ?k38 ?n38 ?b38) (L2.methB_mk ?a39 ?l39 ?c39 ?k39 ?n39 ?b39) (L2.methB_mk ?a40 ?l40 ?c40 ?k40 ?n40 ?b40) (L2.methB_mk ?a41 ?l41 ?c41 ?k41 ?n41 ?b41) (L2.methB_mk ?a42 ?l42 ?c42 ?k42 ?n42 ?b42) (L2.methB_mk ?a43 ?l43 ?c43 ?k43 ?n43 ?b43) (L2.methB_mk ?a44 ?l44 ?c44 ?k44 ?n44 ?b44) (L2.methB_mk ?a45 ?l45 ?c45 ?k45 ?n45 ?b45) (L2.methB_mk ?a46 ?l46 ?c46 ?k46 ?n46 ?b46) (L2.topFn_mk KX G ?a47 ?l47 ?c47 ?k47) (L2.topFn_mk KX G ?a48 ?l48 ?c48 ?k48) (L2.methB_mk ?a49 ?l49 ?c49 ?k49 ?n49 ?b49) (L2.topFn_mk KX G ?a50 ?l50 ?c50 ?k50) (L2.methB_mk ?a51 ?l51 ?c51 ?k51 ?n51 ?b51) (L2.methB_mk ?a52 ?l52 ?c52 ?k52 ?n52 ?b52) (L2.methB_mk ?a53 ?l53 ?c53 ?k53 ?n53 ?b53) (L2.methB_mk ?a54 ?l54 ?c54 ?k54 ?n54 ?b54) (L2.methB_mk ?a55 ?l55 ?c55 ?k55 ?n55 ?b55) (L2.methB_mk ?a56 ?l56 ?c56 ?k56 ?n56 ?b56) (L2.methB_mk ?a57 ?l57 ?c57 ?k57 ?n57 ?b57) (L2.methB_mk ?a58 ?l58 ?c58 ?k58 ?n58 ?b58) (L2.methB_mk ?a59 ?l59 ?c59 ?k59 ?n59 ?b59) (L2.methB_mk ?a60 ?l60 ?c60 ?k60 ?n60 ?b60) (L2.methB_mk ?a61 ?l61 ?c61 ?k61 ?n61 ?b61) (L2.methB_mk ?a62 ?l62 ?c62 ?k62 ?n62 ?b62) (L2.methB_mk ?a63 ?l63 ?c63 ?k63 ?n63 ?b63) (L2.topFn_mk KX G ?a64 ?l64 ?c64 ?k64) (L2.topFn_mk KX G ?a65 ?l65 ?c65 ?k65) (L2.topFn_mk KX G ?a66 ?l66 ?c66 ?k66) (L2.methB_mk ?a67 ?l67 ?c67 ?k67 ?n67 ?b67) (L2.methB_mk ?a68 ?l68 ?c68 ?k68 ?n68 ?b68) (L2.methB_mk ?a69 ?l69 ?c69 ?k69 ?n69 ?b69) (L2.methB_mk ?a70 ?l70 ?c70 ?k70 ?n70 ?b70) (L2.methB_mk ?a71 ?l71 ?c71 ?k71 ?n71 ?b71) (L2.methB_mk ?a72 ?l72 ?c72 ?k72 ?n72 ?b72) (L2.methB_mk ?a73 ?l73 ?c73 ?k73 ?n73 ?b73) (L2.topFn_mk KX G ?a74 ?l74 ?c74 ?k74) (L2.topFn_mk KX G ?a75 ?l75 ?c75 ?k75)
    (case e_Aim => exact PySem.W.mg_of KX G (by k_is))
    (case e_Ask => exact PySem.W.mg_of KX G (by k_is))
    (case e_Go => exact PySem.W.mg_of KX G (by k_is))
    (case e_Home => exact PySem.W.mg_of KX G (by k_is))
    (case e_Jump => exact PySem.W.mg_of KX G (by k_is))
    (case e_Link => exact PySem.W.mg_of KX G (by k_is))
    (case e_Load => exact PySem.W.mg_of KX G (by k_is))
    (case e_Num => exact PySem.W.mg_of KX G (by k_is))
    (case e_Pair => exact PySem.W.mg_of KX G (by k_is))
    (case e_Plus => exact PySem.W.mg_of KX G (by k_is))
    (case e_Row => exact PySem.W.mg_of KX G (by k_is))
    (case e_Stop => exact PySem.W.mg_of KX G (by k_is))
    (case e_Store => exact PySem.W.mg_of KX G (by k_is))
    (case e_Tell => exact PySem.W.mg_of KX G (by k_is))
    (case e_Where => exact PySem.W.mg_of KX G (by k_is))
    (case e_Why => exact PySem.W.mg_of KX G (by k_is))
    (case e_Zero => exact PySem.W.mg_of KX G (by k_is))
    (case z_bool => exact PySem.W.mg_none_of KX G (by k_is))
    (case z_int => exact PySem.W.mg_none_of KX G (by k_is))
    (case z_isinstance => exact PySem.W.mg_none_of KX G (by k_is))
    (case z_len => exact PySem.W.mg_none_of KX G (by k_is))
    (case z_max => exact PySem.W.mg_none_of KX G (by k_is))
    (case z_min => exact PySem.W.mg_none_of KX G (by k_is))
    (case z_range => exact PySem.W.mg_none_of KX G (by k_is))
    (case z_tuple => exact PySem.W.mg_none_of KX G (by k_is))
    (case hi => intro p hp; simp only [K12.CTabA, List.mem_cons, List.not_mem_nil, or_false] at hp; rcases hp with rfl | rfl | rfl | rfl | rfl | rfl | rfl | rfl | rfl | rfl | rfl | rfl | rfl | rfl | rfl | rfl | rfl <;> exact ⟨⟨by k_is, by k_is, by k_is, by k_is⟩, by k_is, by k_is, by k_is, by k_is⟩)
    (case hb => kernel_rfl)
    (case cls_Aim => exact ⟨by k_is, by k_is, by k_is, by k_is⟩)
    (case mk_Aim => exact ⟨PySem.W.mg_of KX G (by k_is), by k_is, by k_is⟩)
    (case cls_Go => exact ⟨by k_is, by k_is, by k_is, by k_is⟩)
    (case mk_Go => exact ⟨PySem.W.mg_of KX G (by k_is), by k_is, by k_is⟩)
    (case cls_Ask => exact ⟨by k_is, by k_is, by k_is, by k_is⟩)
    (case mk_Ask => exact ⟨PySem.W.mg_of KX G (by k_is), by k_is, by k_is⟩)
    (case cls_Tell => exact ⟨by k_is, by k_is, by k_is, by k_is⟩)
    (case mk_Tell => exact ⟨PySem.W.mg_of KX G (by k_is), by k_is, by k_is⟩)
    (case cls_Why => exact ⟨by k_is, by k_is, by k_is, by k_is⟩)
    (case mk_Why => exact ⟨PySem.W.mg_of KX G (by k_is), by k_is, by k_is⟩)
    (case cls_Where => exact ⟨by k_is, by k_is, by k_is, by k_is⟩)
    (case mk_Where => exact ⟨PySem.W.mg_of KX G (by k_is), by k_is, by k_is⟩)
    (case cls_Pair => exact ⟨by k_is, by k_is, by k_is, by k_is⟩)
    (case mk_Pair => exact ⟨PySem.W.mg_of KX G (by k_is), by k_is, by k_is⟩)
    (case cls_Num => exact ⟨by k_is, by k_is, by k_is, by k_is⟩)
    (case mk_Num => exact ⟨PySem.W.mg_of KX G (by k_is), by k_is, by k_is⟩)
    (case cls_Plus => exact ⟨by k_is, by k_is, by k_is, by k_is⟩)
    (case mk_Plus => exact ⟨PySem.W.mg_of KX G (by k_is), by k_is, by k_is⟩)
    (case cls_Load => exact ⟨by k_is, by k_is, by k_is, by k_is⟩)
    (case mk_Load => exact ⟨PySem.W.mg_of KX G (by k_is), by k_is, by k_is⟩)
    (case cls_Store => exact ⟨by k_is, by k_is, by k_is, by k_is⟩)
    (case mk_Store => exact ⟨PySem.W.mg_of KX G (by k_is), by k_is, by k_is⟩)
    (case cls_Jump => exact ⟨by k_is, by k_is, by k_is, by k_is⟩)
    (case mk_Jump => exact ⟨PySem.W.mg_of KX G (by k_is), by k_is, by k_is⟩)
    (case cls_Zero => exact ⟨by k_is, by k_is, by k_is, by k_is⟩)
    (case mk_Zero => exact ⟨PySem.W.mg_of KX G (by k_is), by k_is, by k_is⟩)
    (case cls_Link => exact ⟨by k_is, by k_is, by k_is, by k_is⟩)
    (case mk_Link => exact ⟨PySem.W.mg_of KX G (by k_is), by k_is, by k_is⟩)
    (case cls_Stop => exact ⟨by k_is, by k_is, by k_is, by k_is⟩)
    (case mk_Stop => exact ⟨PySem.W.mg_of KX G (by k_is), by k_is, by k_is, by k_is⟩)
    (case cls_Home => exact ⟨by k_is, by k_is, by k_is, by k_is⟩)
    (case mk_Home => exact ⟨PySem.W.mg_of KX G (by k_is), by k_is, by k_is, by k_is⟩)
    (case inh_Aim_gives => kernel_rfl)
    (case inh_Aim_known => kernel_rfl)
    (case inh_Aim_long => kernel_rfl)
    (case inh_Ask_alone => kernel_rfl)
    (case inh_Ask_long => kernel_rfl)
    (case inh_Ask_reads => kernel_rfl)
    (case inh_Go_alone => kernel_rfl)
    (case inh_Go_gives => kernel_rfl)
    (case inh_Go_known => kernel_rfl)
    (case inh_Go_long => kernel_rfl)
    (case inh_Home_gives => kernel_rfl)
    (case inh_Home_known => kernel_rfl)
    (case inh_Home_long => kernel_rfl)
    (case inh_Home_reads => kernel_rfl)
    (case inh_Jump_alone => kernel_rfl)
    (case inh_Jump_gives => kernel_rfl)
    (case inh_Jump_known => kernel_rfl)
    (case inh_Jump_long => kernel_rfl)
    (case inh_Jump_reads => kernel_rfl)
    (case inh_Link_alone => kernel_rfl)
    (case inh_Link_known => kernel_rfl)
    (case inh_Link_long => kernel_rfl)
    (case inh_Link_reads => kernel_rfl)
    (case inh_Load_alone => kernel_rfl)
    (case inh_Load_long => kernel_rfl)
    (case inh_Num_alone => kernel_rfl)
    (case inh_Num_known => kernel_rfl)
    (case inh_Num_long => kernel_rfl)
    (case inh_Num_reads => kernel_rfl)
    (case inh_Pair_alone => kernel_rfl)
    (case inh_Pair_known => kernel_rfl)
    (case inh_Plus_alone => kernel_rfl)
    (case inh_Plus_known => kernel_rfl)
    (case inh_Plus_long => kernel_rfl)
    (case inh_Stop_alone => kernel_rfl)
    (case inh_Stop_gives => kernel_rfl)
    (case inh_Stop_known => kernel_rfl)
    (case inh_Stop_long => kernel_rfl)
    (case inh_Stop_reads => kernel_rfl)
    (case inh_Store_alone => kernel_rfl)
    (case inh_Store_gives => kernel_rfl)
    (case inh_Store_known => kernel_rfl)
    (case inh_Store_long => kernel_rfl)
    (case inh_Tell_alone => kernel_rfl)
    (case inh_Tell_gives => kernel_rfl)
    (case inh_Tell_known => kernel_rfl)
    (case inh_Tell_long => kernel_rfl)
    (case inh_Where_long => kernel_rfl)
    (case inh_Where_reads => kernel_rfl)
    (case inh_Why_long => kernel_rfl)
    (case inh_Why_reads => kernel_rfl)
    (case inh_Zero_alone => kernel_rfl)
    (case inh_Zero_gives => kernel_rfl)
    (case inh_Zero_known => kernel_rfl)
    (case inh_Zero_long => kernel_rfl)
    (case na_Aim_a => unfold L2.NoAttr; k_is)
    (case na_Go_a => unfold L2.NoAttr; k_is)
    (case na_Ask_a => unfold L2.NoAttr; k_is)
    (case na_Tell_a => unfold L2.NoAttr; k_is)
    (case na_Why_a => unfold L2.NoAttr; k_is)
    (case na_Where_a => unfold L2.NoAttr; k_is)
    (case na_Pair_a => unfold L2.NoAttr; k_is)
    (case na_Num_a => unfold L2.NoAttr; k_is)
    (case na_Plus_a => unfold L2.NoAttr; k_is)
    (case na_Load_a => unfold L2.NoAttr; k_is)
    (case na_Store_a => unfold L2.NoAttr; k_is)
    (case na_Zero_a => unfold L2.NoAttr; k_is)
    (case na_Link_a => unfold L2.NoAttr; k_is)
    (case na_Pair_b => unfold L2.NoAttr; k_is)
    (case na_Plus_b => unfold L2.NoAttr; k_is)
    (case na_Load_b => unfold L2.NoAttr; k_is)
    (case na_Store_b => unfold L2.NoAttr; k_is)
    (case na_Pair_c => unfold L2.NoAttr; k_is)
    (case na_Num_n => unfold L2.NoAttr; k_is)
    (case na_Plus_n => unfold L2.NoAttr; k_is)
    (case na_Load_n => unfold L2.NoAttr; k_is)
    (case na_Store_n => unfold L2.NoAttr; k_is)
    (case na_Jump_n => unfold L2.NoAttr; k_is)
    (case na_Zero_n => unfold L2.NoAttr; k_is)
    (case na_Link_n => unfold L2.NoAttr; k_is)
    (case na_Pair_word => unfold L2.NoAttr; k_is)
    (case d_LONG => refine ⟨_, _, _, PySem.W.mg_of KX G (by k_is), by k_is, ?_, ?_, ?_⟩; exact (L2.keys_cons ⟨_, _, rfl, rfl⟩ (L2.keys_cons ⟨_, _, rfl, rfl⟩ (L2.keys_cons ⟨_, _, rfl, rfl⟩ L2.keys_nil))); kernel_rfl; exact (L2.des_cons ⟨_, rfl⟩ ⟨_, rfl⟩ (L2.des_cons ⟨_, rfl⟩ ⟨_, rfl⟩ (L2.des_cons ⟨_, rfl⟩ ⟨_, rfl⟩ L2.des_nil))))
    (case a0 => k_is)
    (case l0 => k_is)
    (case c0 => k_is)
    (case k0 => k_is)
    (case a1 => k_is)
    (case l1 => k_is)
    (case c1 => k_is)
    (case k1 => k_is)
    (case a2 => k_is)
    (case l2 => k_is)
    (case c2 => k_is)
    (case k2 => k_is)
    (case a3 => k_is)
    (case l3 => k_is)
    (case c3 => k_is)
    (case k3 => k_is)
    (case n3 => k_is)
    (case b3 => exact fun s us X hl => match us, hl with | [_, _, _, _, _], _ => PySem.W.kp_binds X (fun S => by kernel_rfl))
    (case a4 => k_is)
    (case l4 => k_is)
    (case c4 => k_is)
    (case k4 => k_is)
    (case n4 => k_is)
    (case b4 => exact fun s us X hl => match us, hl with | [_, _, _], _ => PySem.W.kp_binds X (fun S => by kernel_rfl))
    (case a5 => k_is)
    (case l5 => k_is)
    (case c5 => k_is)
    (case k5 => k_is)
    (case n5 => k_is)
    (case b5 => exact fun s us X hl => match us, hl with | [_, _, _, _], _ => PySem.W.kp_binds X (fun S => by kernel_rfl))
    (case a6 => k_is)
    (case l6 => k_is)
    (case c6 => k_is)
    (case k6 => k_is)
    (case n6 => k_is)
    (case b6 => exact fun s us X hl => match us, hl with | [_, _, _, _], _ => PySem.W.kp_binds X (fun S => by kernel_rfl))
    (case a7 => k_is)
    (case l7 => k_is)
    (case c7 => k_is)
    (case k7 => k_is)
    (case n7 => k_is)
    (case b7 => exact fun s us X hl => match us, hl with | [_, _, _, _], _ => PySem.W.kp_binds X (fun S => by kernel_rfl))
    (case a8 => k_is)
    (case l8 => k_is)
    (case c8 => k_is)
    (case k8 => k_is)
    (case n8 => k_is)
    (case b8 => exact fun s us X hl => match us, hl with | [_, _], _ => PySem.W.kp_binds X (fun S => by kernel_rfl))
    (case a9 => k_is)
    (case l9 => k_is)
    (case c9 => k_is)
    (case k9 => k_is)
    (case n9 => k_is)
    (case b9 => exact fun s us X hl => match us, hl with | [_, _, _], _ => PySem.W.kp_binds X (fun S => by kernel_rfl))
    (case a10 => k_is)
    (case l10 => k_is)
    (case c10 => k_is)
    (case k10 => k_is)
    (case n10 => k_is)
    (case b10 => exact fun s us X hl => match us, hl with | [_, _, _], _ => PySem.W.kp_binds X (fun S => by kernel_rfl))
    (case a11 => k_is)
    (case l11 => k_is)
    (case c11 => k_is)
    (case k11 => k_is)
    (case n11 => k_is)
    (case b11 => exact fun s us X hl => match us, hl with | [_, _], _ => PySem.W.kp_binds X (fun S => by kernel_rfl))
    (case a12 => k_is)
    (case l12 => k_is)
    (case c12 => k_is)
    (case k12 => k_is)
    (case n12 => k_is)
    (case b12 => exact fun s us X hl => match us, hl with | [_, _], _ => PySem.W.kp_binds X (fun S => by kernel_rfl))
    (case a13 => k_is)
    (case l13 => k_is)
    (case c13 => k_is)
    (case k13 => k_is)
    (case n13 => k_is)
    (case b13 => exact fun s us X hl => match us, hl with | [_, _], _ => PySem.W.kp_binds X (fun S => by kernel_rfl))
    (case a14 => k_is)
    (case l14 => k_is)
    (case c14 => k_is)
    (case k14 => k_is)
    (case n14 => k_is)
    (case b14 => exact fun s us X hl => match us, hl with | [_, _], _ => PySem.W.kp_binds X (fun S => by kernel_rfl))
    (case a15 => k_is)
    (case l15 => k_is)
    (case c15 => k_is)
    (case k15 => k_is)
    (case n15 => k_is)
    (case b15 => exact fun s us X hl => match us, hl with | [_, _], _ => PySem.W.kp_binds X (fun S => by kernel_rfl))
    (case a16 => k_is)
    (case l16 => k_is)
    (case c16 => k_is)
    (case k16 => k_is)
    (case n16 => k_is)
    (case b16 => exact fun s us X hl => match us, hl with | [_, _], _ => PySem.W.kp_binds X (fun S => by kernel_rfl))
    (case a17 => k_is)
    (case l17 => k_is)
    (case c17 => k_is)
    (case k17 => k_is)
    (case a18 => k_is)
    (case l18 => k_is)
    (case c18 => k_is)
    (case k18 => k_is)
    (case a19 => k_is)
    (case l19 => k_is)
    (case c19 => k_is)
    (case k19 => k_is)
    (case a20 => k_is)
    (case l20 => k_is)
    (case c20 => k_is)
    (case k20 => k_is)
    (case n20 => k_is)
    (case b20 => exact fun s us X hl => match us, hl with | [_], _ => PySem.W.kp_binds X (fun S => by kernel_rfl))
    (case a21 => k_is)
    (case l21 => k_is)
    (case c21 => k_is)
    (case k21 => k_is)
    (case n21 => k_is)
    (case b21 => exact fun s us X hl => match us, hl with | [_], _ => PySem.W.kp_binds X (fun S => by kernel_rfl))
    (case a22 => k_is)
    (case l22 => k_is)
    (case c22 => k_is)
    (case k22 => k_is)
    (case n22 => k_is)
    (case b22 => exact fun s us X hl => match us, hl with | [_], _ => PySem.W.kp_binds X (fun S => by kernel_rfl))
    (case a23 => k_is)
    (case l23 => k_is)
    (case c23 => k_is)
    (case k23 => k_is)
    (case n23 => k_is)
    (case b23 => exact fun s us X hl => match us, hl with | [_], _ => PySem.W.kp_binds X (fun S => by kernel_rfl))
    (case a24 => k_is)
    (case l24 => k_is)
    (case c24 => k_is)
    (case k24 => k_is)
    (case n24 => k_is)
    (case b24 => exact fun s us X hl => match us, hl with | [_], _ => PySem.W.kp_binds X (fun S => by kernel_rfl))
    (case a25 => k_is)
    (case l25 => k_is)
    (case c25 => k_is)
    (case k25 => k_is)
    (case n25 => k_is)
    (case b25 => exact fun s us X hl => match us, hl with | [_], _ => PySem.W.kp_binds X (fun S => by kernel_rfl))
    (case a26 => k_is)
    (case l26 => k_is)
    (case c26 => k_is)
    (case k26 => k_is)
    (case n26 => k_is)
    (case b26 => exact fun s us X hl => match us, hl with | [_], _ => PySem.W.kp_binds X (fun S => by kernel_rfl))
    (case a27 => k_is)
    (case l27 => k_is)
    (case c27 => k_is)
    (case k27 => k_is)
    (case n27 => k_is)
    (case b27 => exact fun s us X hl => match us, hl with | [_], _ => PySem.W.kp_binds X (fun S => by kernel_rfl))
    (case a28 => k_is)
    (case l28 => k_is)
    (case c28 => k_is)
    (case k28 => k_is)
    (case n28 => k_is)
    (case b28 => exact fun s us X hl => match us, hl with | [_], _ => PySem.W.kp_binds X (fun S => by kernel_rfl))
    (case a29 => k_is)
    (case l29 => k_is)
    (case c29 => k_is)
    (case k29 => k_is)
    (case a30 => k_is)
    (case l30 => k_is)
    (case c30 => k_is)
    (case k30 => k_is)
    (case a31 => k_is)
    (case l31 => k_is)
    (case c31 => k_is)
    (case k31 => k_is)
    (case n31 => k_is)
    (case b31 => exact fun s us X hl => match us, hl with | [_], _ => PySem.W.kp_binds X (fun S => by kernel_rfl))
    (case a32 => k_is)
    (case l32 => k_is)
    (case c32 => k_is)
    (case k32 => k_is)
    (case n32 => k_is)
    (case b32 => exact fun s us X hl => match us, hl with | [_], _ => PySem.W.kp_binds X (fun S => by kernel_rfl))
    (case a33 => k_is)
    (case l33 => k_is)
    (case c33 => k_is)
    (case k33 => k_is)
    (case n33 => k_is)
    (case b33 => exact fun s us X hl => match us, hl with | [_], _ => PySem.W.kp_binds X (fun S => by kernel_rfl))
    (case a34 => k_is)
    (case l34 => k_is)
    (case c34 => k_is)
    (case k34 => k_is)
    (case n34 => k_is)
    (case b34 => exact fun s us X hl => match us, hl with | [_], _ => PySem.W.kp_binds X (fun S => by kernel_rfl))
    (case a35 => k_is)
    (case l35 => k_is)
    (case c35 => k_is)
    (case k35 => k_is)
    (case n35 => k_is)
    (case b35 => exact fun s us X hl => match us, hl with | [_], _ => PySem.W.kp_binds X (fun S => by kernel_rfl))
    (case a36 => k_is)
    (case l36 => k_is)
    (case c36 => k_is)
    (case k36 => k_is)
    (case n36 => k_is)
    (case b36 => exact fun s us X hl => match us, hl with | [_], _ => PySem.W.kp_binds X (fun S => by kernel_rfl))
    (case a37 => k_is)
    (case l37 => k_is)
    (case c37 => k_is)
    (case k37 => k_is)
    (case n37 => k_is)
    (case b37 => exact fun s us X hl => match us, hl with | [_], _ => PySem.W.kp_binds X (fun S => by kernel_rfl))
    (case a38 => k_is)
    (case l38 => k_is)
    (case c38 => k_is)
    (case k38 => k_is)
    (case n38 => k_is)
    (case b38 => exact fun s us X hl => match us, hl with | [_], _ => PySem.W.kp_binds X (fun S => by kernel_rfl))
    (case a39 => k_is)
    (case l39 => k_is)
    (case c39 => k_is)
    (case k39 => k_is)
    (case n39 => k_is)
    (case b39 => exact fun s us X hl => match us, hl with | [_], _ => PySem.W.kp_binds X (fun S => by kernel_rfl))
    (case a40 => k_is)
    (case l40 => k_is)
    (case c40 => k_is)
    (case k40 => k_is)
    (case n40 => k_is)
    (case b40 => exact fun s us X hl => match us, hl with | [_], _ => PySem.W.kp_binds X (fun S => by kernel_rfl))
    (case a41 => k_is)
    (case l41 => k_is)
    (case c41 => k_is)
    (case k41 => k_is)
    (case n41 => k_is)
    (case b41 => exact fun s us X hl => match us, hl with | [_], _ => PySem.W.kp_binds X (fun S => by kernel_rfl))
    (case a42 => k_is)
    (case l42 => k_is)
    (case c42 => k_is)
    (case k42 => k_is)
    (case n42 => k_is)
    (case b42 => exact fun s us X hl => match us, hl with | [_], _ => PySem.W.kp_binds X (fun S => by kernel_rfl))
    (case a43 => k_is)
    (case l43 => k_is)
    (case c43 => k_is)
    (case k43 => k_is)
    (case n43 => k_is)
    (case b43 => exact fun s us X hl => match us, hl with | [_], _ => PySem.W.kp_binds X (fun S => by kernel_rfl))
    (case a44 => k_is)
    (case l44 => k_is)
    (case c44 => k_is)
    (case k44 => k_is)
    (case n44 => k_is)
    (case b44 => exact fun s us X hl => match us, hl with | [_], _ => PySem.W.kp_binds X (fun S => by kernel_rfl))
    (case a45 => k_is)
    (case l45 => k_is)
    (case c45 => k_is)
    (case k45 => k_is)
    (case n45 => k_is)
    (case b45 => exact fun s us X hl => match us, hl with | [_], _ => PySem.W.kp_binds X (fun S => by kernel_rfl))
    (case a46 => k_is)
    (case l46 => k_is)
    (case c46 => k_is)
    (case k46 => k_is)
    (case n46 => k_is)
    (case b46 => exact fun s us X hl => match us, hl with | [_], _ => PySem.W.kp_binds X (fun S => by kernel_rfl))
    (case a47 => k_is)
    (case l47 => k_is)
    (case c47 => k_is)
    (case k47 => k_is)
    (case a48 => k_is)
    (case l48 => k_is)
    (case c48 => k_is)
    (case k48 => k_is)
    (case a49 => k_is)
    (case l49 => k_is)
    (case c49 => k_is)
    (case k49 => k_is)
    (case n49 => k_is)
    (case b49 => exact fun s us X hl => match us, hl with | [_], _ => PySem.W.kp_binds X (fun S => by kernel_rfl))
    (case a50 => k_is)
    (case l50 => k_is)
    (case c50 => k_is)
    (case k50 => k_is)
    (case a51 => k_is)
    (case l51 => k_is)
    (case c51 => k_is)
    (case k51 => k_is)
    (case n51 => k_is)
    (case b51 => exact fun s us X hl => match us, hl with | [_], _ => PySem.W.kp_binds X (fun S => by kernel_rfl))
    (case a52 => k_is)
    (case l52 => k_is)
    (case c52 => k_is)
    (case k52 => k_is)
    (case n52 => k_is)
    (case b52 => exact fun s us X hl => match us, hl with | [_], _ => PySem.W.kp_binds X (fun S => by kernel_rfl))
    (case a53 => k_is)
    (case l53 => k_is)
    (case c53 => k_is)
    (case k53 => k_is)
    (case n53 => k_is)
    (case b53 => exact fun s us X hl => match us, hl with | [_], _ => PySem.W.kp_binds X (fun S => by kernel_rfl))
    (case a54 => k_is)
    (case l54 => k_is)
    (case c54 => k_is)
    (case k54 => k_is)
    (case n54 => k_is)
    (case b54 => exact fun s us X hl => match us, hl with | [_], _ => PySem.W.kp_binds X (fun S => by kernel_rfl))
    (case a55 => k_is)
    (case l55 => k_is)
    (case c55 => k_is)
    (case k55 => k_is)
    (case n55 => k_is)
    (case b55 => exact fun s us X hl => match us, hl with | [_], _ => PySem.W.kp_binds X (fun S => by kernel_rfl))
    (case a56 => k_is)
    (case l56 => k_is)
    (case c56 => k_is)
    (case k56 => k_is)
    (case n56 => k_is)
    (case b56 => exact fun s us X hl => match us, hl with | [_], _ => PySem.W.kp_binds X (fun S => by kernel_rfl))
    (case a57 => k_is)
    (case l57 => k_is)
    (case c57 => k_is)
    (case k57 => k_is)
    (case n57 => k_is)
    (case b57 => exact fun s us X hl => match us, hl with | [_], _ => PySem.W.kp_binds X (fun S => by kernel_rfl))
    (case a58 => k_is)
    (case l58 => k_is)
    (case c58 => k_is)
    (case k58 => k_is)
    (case n58 => k_is)
    (case b58 => exact fun s us X hl => match us, hl with | [_], _ => PySem.W.kp_binds X (fun S => by kernel_rfl))
    (case a59 => k_is)
    (case l59 => k_is)
    (case c59 => k_is)
    (case k59 => k_is)
    (case n59 => k_is)
    (case b59 => exact fun s us X hl => match us, hl with | [_], _ => PySem.W.kp_binds X (fun S => by kernel_rfl))
    (case a60 => k_is)
    (case l60 => k_is)
    (case c60 => k_is)
    (case k60 => k_is)
    (case n60 => k_is)
    (case b60 => exact fun s us X hl => match us, hl with | [_], _ => PySem.W.kp_binds X (fun S => by kernel_rfl))
    (case a61 => k_is)
    (case l61 => k_is)
    (case c61 => k_is)
    (case k61 => k_is)
    (case n61 => k_is)
    (case b61 => exact fun s us X hl => match us, hl with | [_], _ => PySem.W.kp_binds X (fun S => by kernel_rfl))
    (case a62 => k_is)
    (case l62 => k_is)
    (case c62 => k_is)
    (case k62 => k_is)
    (case n62 => k_is)
    (case b62 => exact fun s us X hl => match us, hl with | [_], _ => PySem.W.kp_binds X (fun S => by kernel_rfl))
    (case a63 => k_is)
    (case l63 => k_is)
    (case c63 => k_is)
    (case k63 => k_is)
    (case n63 => k_is)
    (case b63 => exact fun s us X hl => match us, hl with | [_], _ => PySem.W.kp_binds X (fun S => by kernel_rfl))
    (case a64 => k_is)
    (case l64 => k_is)
    (case c64 => k_is)
    (case k64 => k_is)
    (case a65 => k_is)
    (case l65 => k_is)
    (case c65 => k_is)
    (case k65 => k_is)
    (case a66 => k_is)
    (case l66 => k_is)
    (case c66 => k_is)
    (case k66 => k_is)
    (case a67 => k_is)
    (case l67 => k_is)
    (case c67 => k_is)
    (case k67 => k_is)
    (case n67 => k_is)
    (case b67 => exact fun s us X hl => match us, hl with | [_], _ => PySem.W.kp_binds X (fun S => by kernel_rfl))
    (case a68 => k_is)
    (case l68 => k_is)
    (case c68 => k_is)
    (case k68 => k_is)
    (case n68 => k_is)
    (case b68 => exact fun s us X hl => match us, hl with | [_], _ => PySem.W.kp_binds X (fun S => by kernel_rfl))
    (case a69 => k_is)
    (case l69 => k_is)
    (case c69 => k_is)
    (case k69 => k_is)
    (case n69 => k_is)
    (case b69 => exact fun s us X hl => match us, hl with | [_], _ => PySem.W.kp_binds X (fun S => by kernel_rfl))
    (case a70 => k_is)
    (case l70 => k_is)
    (case c70 => k_is)
    (case k70 => k_is)
    (case n70 => k_is)
    (case b70 => exact fun s us X hl => match us, hl with | [_], _ => PySem.W.kp_binds X (fun S => by kernel_rfl))
    (case a71 => k_is)
    (case l71 => k_is)
    (case c71 => k_is)
    (case k71 => k_is)
    (case n71 => k_is)
    (case b71 => exact fun s us X hl => match us, hl with | [_], _ => PySem.W.kp_binds X (fun S => by kernel_rfl))
    (case a72 => k_is)
    (case l72 => k_is)
    (case c72 => k_is)
    (case k72 => k_is)
    (case n72 => k_is)
    (case b72 => exact fun s us X hl => match us, hl with | [_], _ => PySem.W.kp_binds X (fun S => by kernel_rfl))
    (case a73 => k_is)
    (case l73 => k_is)
    (case c73 => k_is)
    (case k73 => k_is)
    (case n73 => k_is)
    (case b73 => exact fun s us X hl => match us, hl with | [_], _ => PySem.W.kp_binds X (fun S => by kernel_rfl))
    (case a74 => k_is)
    (case l74 => k_is)
    (case c74 => k_is)
    (case k74 => k_is)
    (case a75 => k_is)
    (case l75 => k_is)
    (case c75 => k_is)
    (case k75 => k_is)

