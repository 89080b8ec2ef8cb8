import PyProof.Rows.All
import Wide.All
import OpenK.KLine
import OpenK.KOwn
import KE.KItem
import KE.KDictList
import KE.KRevIter
import Wide.FinOn
import Lean
import PyProof.EqAt
import PyProof.EqKinds
import PyProof.TupleCall
import PySem.Challenge.RW_meterhouse_k40_whole_price_and_rows
set_option Elab.async false
set_option linter.all false
set_option maxRecDepth 100000
set_option maxHeartbeats 4000000
namespace PySem.W.Fast
def tw17770664386849005233:=0
def tw3901322871298864594:=0
def tw11232444965961752418:=0
def tw12513786922805633314:=0
def tw7575080927093441794:=0
def tw2236410722560278754:=0
def tw4070018775696293538:=0
def tw8788253360393085602:=0
def tw12169933886852587618:=0
def tw14663146086367834178:=0
def tw6517738591185040450:=0
def tw9125131621023572482:=0
def tw17103148061605879298:=0
def tw15591276124279348130:=0
def tw5414802137816494402:=0
def tw14131731442954946274:=0
def tw7740625845153837218:=0
def tw154777749159289986:=0
def tw5540802883504282210:=0
def tw12774933000850457026:=0
def tw7832997475939092898:=0
def tw13439193074952860499:=0
def tw13442202045865054451:=0
def tw13885904238200263923:=0
def tw15614107324152281299:=0
def tw18398032476331695315:=0
def tw9766457971145230995:=0
def tw14747508003742665331:=0
def tw8219441410835127379:=0
def tw2488600416374638099:=0
def tw4826589958611517331:=0
def tw14314547915852576627:=0
def tw9051013559320899443:=0
def tw15377323864768234835:=0
def tw13186901185798510355:=0
def tw607394404761702099:=0
def tw6651226140281149619:=0
def tw15050419022186086547:=0
def tw1270381856004928051:=0
def tw14600775659754071027:=0
def tw17389272956477129683:=0
def tw16906256640266891104:=0
def tw7796736579176745248:=0
def tw11394051102079765792:=0
def tw14809544884504174336:=0
def tw3527513990174297824:=0
def tw3209061676593327264:=0
def tw14562119746837250048:=0
def tw9571989949890153888:=0
def tw12636721650527510784:=0
def tw4206594617280616704:=0
def tw15493164550396408032:=0
def tw16316094337303346400:=0
def tw11409519314822985376:=0
def tw16093946553540266048:=0
def tw5396521278247649312:=0
def tw1626993975420960:=0
def tw15340938725291857824:=0
def tw15548813750691961681:=0
def tw7863584250569635377:=0
def tw15068720688554866225:=0
def tw11336708513751041521:=0
def tw5010102347744241457:=0
def tw3530980929854941969:=0
def tw15858133568434704113:=0
def tw7009574083898546353:=0
def tw17565004905720755857:=0
def tw13426029115484696625:=0
def tw6712401951316443601:=0
def tw15002169839043519974:=0
def tw12717415490895470534:=0
def tw8059894726836688774:=0
def tw8901132667978297126:=0
def tw1846595557276019462:=0
def tw6190323033504298758:=0
def tw8230935654267254950:=0
def tw15432197224650448486:=0
def tw5865470522429548134:=0
def tw16479250009765302854:=0
def tw680127911456189862:=0
def tw12777017055591219046:=0
def tw662999058429258598:=0
def tw14446387083353799974:=0
def tw5984809397632062726:=0
def tw14424970790793675462:=0
def tw14958898353756013638:=0
def tw6260892010229981351:=0
def tw10042373489719951527:=0
def tw4478167942895760519:=0
def tw18230408802629418599:=0
def tw17417253959182796327:=0
def tw17352096114887284743:=0
def tw7937787972441090055:=0
def tw5932117528569009095:=0
def tw4610495605622489031:=0
def tw560626616126439815:=0
def tw9811620964137059111:=0
def tw4777544077020558119:=0
def tw1541518838360358695:=0
def tw14001779475474039463:=0
def tw1044760131168158375:=0
def tw14788682102628208263:=0
def tw2693239465657041959:=0
def tw11143830365567422983:=0
def tw9338818914801354183:=0
def tw5430404022496368071:=0
def tw17678149526659904967:=0
def tw8232629158876338055:=0
def tw6322268775528276327:=0
def tw18048245528397200743:=0
def tw3984896904970805575:=0
def tw11782954785374795079:=0
def tw13285077427607949607:=0
def tw8394544606430759460:=0
def tw17899406030391409060:=0
def tw2209429163126987108:=0
def tw8379943807032302404:=0
def tw8358964267692611332:=0
def tw450388582739639524:=0
def tw10380929331727016004:=0
def tw11055904009583124484:=0
def tw10532373349968402340:=0
def tw8139161471583306468:=0
def tw18205188833714565860:=0
def tw6171948485007534788:=0
def tw15169815824817206852:=0
def tw8936867744804787780:=0
def tw10632382108067646021:=0
def tw4416753009398180901:=0
def tw2904441991118324741:=0
def tw13240231429255539173:=0
def tw10532815056263392741:=0
def tw6853853414696574405:=0
def tw14205566257314355013:=0
def tw8222808828833236229:=0
def tw11181171362981863141:=0
def tw7627897277887127237:=0
def tw3944128354799156901:=0
def tw1427374198869669541:=0
def tw16203667821371356261:=0
def tw15641319370658506853:=0
def tw3149774666821750277:=0
def tw137439054403046373:=0
def tw5545596400006630341:=0
def tw2661222166514903429:=0
def tw16024459493157907813:=0
def tw823113052266373445:=0
def tw272684665633900325:=0
def tw1962277518743957253:=0
def tw14282992742837436282:=0
def tw14457773040441692410:=0
def tw7704264889967409370:=0
def tw1332315161130150586:=0
def tw4320374431657308858:=0
def tw8131917226600317594:=0
def tw2573457865322101882:=0
def tw2161667648283193434:=0
def tw13969750725534842938:=0
def tw13414869702789160474:=0
def tw12080089099160538266:=0
def tw16037535019465804954:=0
def tw18074755916458226842:=0
def tw11263882982492630618:=0
def tw13007787734159588922:=0
def tw2370988650988403738:=0
def tw11492767734845809626:=0
def tw14448675813458717658:=0
def tw8226665907730813370:=0
def tw16769579177500739403:=0
def tw7477950152844470091:=0
def tw13621759687192648491:=0
def tw5543878148664222955:=0
def tw10068778002258496139:=0
def tw16985524220585061003:=0
def tw9726315413515420715:=0
def tw1575634929959037451:=0
def tw15801976297657306571:=0
def tw112181398317744459:=0
def tw6642520440453920459:=0
def tw16845832701244806315:=0
def tw18346598280190150219:=0
def tw3677565769579291595:=0
def tw9548904075959924139:=0
def tw12592625503836573035:=0
def tw13172233312500695403:=0
def tw3788467393517745016:=0
def tw6787464150221149016:=0
def tw14160868834718816568:=0
def tw13082280863944656152:=0
def tw16970109336052097304:=0
def tw3394180429746633272:=0
def tw11784744300562089496:=0
def tw141473229369866232:=0
def tw14021902563632645080:=0
def tw821678531825390968:=0
def tw18135387301296534296:=0
def tw2081082558753920664:=0
def tw47078672589365848:=0
def tw13620267484845345848:=0
def tw16094210015517986264:=0
def tw3157185878418492312:=0
def tw1752084076127770441:=0
def tw17289635522872438505:=0
def tw6556740852597543049:=0
def tw9122470038774592585:=0
def tw5650988094350526377:=0
def tw2662543529692624681:=0
def tw15185531885888054473:=0
def tw11478862132295155913:=0
def tw9304065058089937929:=0
def tw10484412004675693993:=0
def tw554512187834821481:=0
def tw3238684848733818366:=0
def tw3099817716016160222:=0
def tw4419844058944783294:=0
def tw16446887961340830:=0
def tw6367065752201240958:=0
def tw7038216294560374110:=0
def tw5724139636428297854:=0
def tw17703002088018188286:=0
def tw14251416951539535870:=0
def tw14358031134251860958:=0
def tw507385890301952862:=0
def tw6750171738357786430:=0
def tw17724407265940538174:=0
def tw11088326485695434014:=0
def tw12196494050539925182:=0
def tw15007780676549334142:=0
def tw16575329364376129598:=0
def tw12465049092883772543:=0
def tw11508476065673677407:=0
def tw2417611992497263135:=0
def tw14399691529877814815:=0
def tw6545689810809276863:=0
def tw13332697108218025375:=0
def tw9558036495110818207:=0
def tw17230688030371468671:=0
def tw13819334026504224575:=0
def tw14228998376708888799:=0
def tw5237362664260348575:=0
def tw13682684638532180063:=0
def tw1014076628770056255:=0
def tw7024929542469109791:=0
def tw5992526354214517791:=0
def tw5228606578707478015:=0
def tw7993598344996944831:=0
def tw1163917405134388991:=0
def tw14597953302721358364:=0
def tw5766502478334960636:=0
def tw2402553128457638876:=0
def tw15985132587840843740:=0
def tw14874949160584542140:=0
def tw2958592408003189692:=0
def tw10028265899895198108:=0
def tw6165908471622410620:=0
def tw11665029803613626748:=0
def tw14139754218852026172:=0
def tw7873049563179743036:=0
def tw16985310882973448220:=0
def tw5896021303650326012:=0
def tw8932445039546437084:=0
def tw9578379067507380668:=0
def tw3070118058226148796:=0
def tw16225352834055825852:=0
def tw5124161845833032540:=0
def tw17789524056497286876:=0
def tw6084630366799507164:=0
def tw6103114058424217148:=0
def tw1043221373987627165:=0
def tw8186134180931995261:=0
def tw5165373888741233245:=0
def tw17759567602292708797:=0
def tw10956420058085868861:=0
def tw9336219221558253853:=0
def tw944681076731386429:=0
def tw1109181852934511517:=0
def tw17259130624961051005:=0
def tw8115103734691910013:=0
def tw9018823153319602525:=0
def tw3524754068642598770:=0
def tw8108588873192608562:=0
def tw1757046167301644562:=0
def tw13506811661296067858:=0
def tw3772832933138133682:=0
def tw12039944478954838674:=0
def tw14289717114275469426:=0
def tw9905707669473424914:=0
def tw13425016701495618066:=0
def tw4415453546454411218:=0
def tw6655047330403645394:=0
def tw16631819092575084466:=0
def tw13329571946807991186:=0
def tw8096452902646202258:=0
def tw2943771488707545458:=0
def tw13746533592808087890:=0
def tw11867185415813936466:=0
def tw6225149571516645714:=0
def tw9417735777089522898:=0
def tw12501498361444885650:=0
def tw3211001817998094962:=0
def tw12391027510044237426:=0
def tw12358450247584183890:=0
def tw14064870958839612978:=0
def tw5426163396026507282:=0
def tw15532798580616259602:=0
def tw4473822775112231954:=0
def tw6507042858238049682:=0
def tw8736813592893332882:=0
def tw18397799688660453778:=0
def tw6908536421735172498:=0
def tw991468789687736131:=0
def tw2875187092309136163:=0
def tw11303895878193252547:=0
def tw14820032862684204227:=0
def tw18009906799618708547:=0
def tw14221261000943667235:=0
def tw7527796042508847139:=0
def tw17630726990697680355:=0
def tw12881857986121571683:=0
def tw10323452210158420323:=0
def tw1797696940327196003:=0
def tw14129889450869558595:=0
def tw6925344386539046659:=0
def tw7333502537946587875:=0
def tw16318754320644486851:=0
def tw10693802217185652419:=0
def tw9906351449081129987:=0
def tw15504826151730739139:=0
def tw3958796656640444835:=0
def tw301805035193106288:=0
def tw4500018754698397552:=0
def tw18039592587505424720:=0
def tw15635505341061019952:=0
def tw1865834048879848176:=0
def tw987629070922744368:=0
def tw8071811883989479824:=0
def tw1596167388534543120:=0
def tw5841781319091534064:=0
def tw14564196133879679152:=0
def tw17963981360453954736:=0
def tw628885917502567504:=0
def tw6693112390748316752:=0
def tw6525118351073139120:=0
def tw5389566240965701040:=0
def tw4739911618655309712:=0
def tw1864260431988081552:=0
def tw6040694139411014465:=0
def tw6022905257440563457:=0
def tw17103941577242520289:=0
def tw6734926099138591457:=0
def tw7648091287605788769:=0
def tw9831713090237174849:=0
def tw30045845622091265:=0
def tw13926503320321297921:=0
def tw17232321336019025889:=0
def tw13775908384083489761:=0
def tw16855759408756457377:=0
def tw4103666617268761953:=0
def tw12055459022576746817:=0
def tw14713230563287251265:=0
def tw2002231638637356801:=0
def tw15745283238995398849:=0
def tw15530187679889952929:=0
def tw7678763480872411137:=0
def tw4511879508866661377:=0
def tw396044207847370753:=0
def tw16372979891590445537:=0
def tw9148210396929335745:=0
def tw6186235577872172449:=0
def tw4953090498261966689:=0
def tw16099049823074856854:=0
def tw17087630280587868886:=0
def tw4934612597043213302:=0
def tw12000204830292133878:=0
def tw1266743771888100790:=0
def tw3960697346367654742:=0
def tw14208253427345528630:=0
def tw6686327393339626742:=0
def tw12798068796214183606:=0
def tw10422313245137232566:=0
def tw1721369594293662358:=0
def tw9214549061489505398:=0
def tw7095677586785772663:=0
def tw6733604928436263927:=0
def tw15082876006236598231:=0
def tw9875231933275359671:=0
def tw9578591784608330135:=0
def tw2570705669011272055:=0
def tw4630273421990354295:=0
def tw8056686933012395799:=0
def tw9292251117883146007:=0
def tw5598472996655051543:=0
def tw7573388930176793367:=0
def tw12176122195674636375:=0
def tw11959288260107253783:=0
def tw2198720081504714775:=0
def tw16409033637993992215:=0
def tw14618567564543272215:=0
def tw17384806949873748695:=0
def tw11308700040309560852:=0
def tw5918003084605985300:=0
def tw14765097349056687092:=0
def tw11050215925531819956:=0
def tw6789793020400337844:=0
def tw11012651235164642676:=0
def tw1822230042325697364:=0
def tw4597385939304302772:=0
def tw14284654300504827988:=0
def tw8177648670324004884:=0
def tw7475742397080856052:=0
def tw303202763578661780:=0
def tw2770150510196428660:=0
def tw2901145234210539380:=0
def tw80965509293856468:=0
def tw1450336199868752468:=0
def tw3591612902561091156:=0
def tw6211144750063513172:=0
def tw15835149709796215445:=0
def tw15033977457907756661:=0
def tw6480564400222279669:=0
def tw18382199887283483061:=0
def tw15266911072353775925:=0
def tw5352080033561010421:=0
def tw6549717669082385557:=0
def tw7480243352977921173:=0
def tw6077852533003765909:=0
def tw13877684048826853525:=0
def tw12970785927995853365:=0
def tw15792574385253430197:=0
def tw15024185030058919733:=0
def tw8631473605430192341:=0
def tw8591134682585735349:=0
def tw16823112146811986101:=0
def tw13194766526512641898:=0
def tw10233887959869282570:=0
def tw430740293032091882:=0
def tw14221098332334098090:=0
def tw3583770312779919434:=0
def tw5091519266039903786:=0
def tw7595719534564425258:=0
def tw5130431250242804202:=0
def tw9006419341489718218:=0
def tw3144320782681086890:=0
def tw17542578841490446698:=0
def tw3339569847829019850:=0
def tw12523888879770187338:=0
def tw8780398529842575402:=0
def tw172313848026509738:=0
def tw7791480678095117531:=0
def tw5413102749053531355:=0
def tw10250753542050134651:=0
def tw11494242895450330747:=0
def tw1926908429389651003:=0
def tw1093803974401899579:=0
def tw9865114244263525403:=0
def tw13323414500574223835:=0
def tw12845925018619767547:=0
def tw10805080214787677915:=0
def tw14156684441227845339:=0
def tw12385752832492702427:=0
def tw472892534440001243:=0
def tw10268192332112551099:=0
def tw4643547246059509883:=0
def tw3845924198608743995:=0
def tw18118037317982200795:=0
def tw4036692760140560763:=0
def tw14402897669748181864:=0
def tw16613859863320491880:=0
def tw534877097504739048:=0
def tw1174389517080419016:=0
def tw3143530712697407176:=0
def tw13358095061879084200:=0
def tw10498944208186458696:=0
def tw11134978931827467848:=0
def tw2936370232486625864:=0
def tw1616495425901424584:=0
def tw1652429705239355816:=0
def tw10036725246825225608:=0
def tw15011358320666956168:=0
def tw18058880198235879176:=0
def tw10396995227677228264:=0
def tw15416734544347331208:=0
def tw3714828327834275880:=0
def tw1616948348970355001:=0
def tw13162714816558893177:=0
def tw16271304143341180025:=0
def tw15143172522487766137:=0
def tw4371627074580583993:=0
def tw6692497449959477625:=0
def tw4425768360995786521:=0
def tw4759905971642201305:=0
def tw7781131154759419481:=0
def tw17949140024830997561:=0
def tw17172570986352115737:=0
def tw14142708444016416761:=0
def tw8415228241292023641:=0
def tw13054198482976072537:=0
def tw3763951602127013390:=0
def tw10061346428329965070:=0
def tw14573747614446628814:=0
def tw286413920606065550:=0
def tw16957397206436803310:=0
def tw4739104373783650446:=0
def tw16536262631759691918:=0
def tw17566343346169407086:=0
def tw2100560452759159342:=0
def tw17335726939704214510:=0
def tw13421809708636979182:=0
def tw13992485588925139406:=0
def tw72908471806886318:=0
def tw11720751747156396878:=0
def tw15651471850986152750:=0
def tw17453786981399797006:=0
def tw17716401725535600334:=0
def tw1415594201161579566:=0
def tw15818792358083707023:=0
def tw12060804013643395183:=0
def tw15631761848976684143:=0
def tw3193860343204188559:=0
def tw18258622325734102703:=0
def tw10638676543333501455:=0
def tw7217802731758169007:=0
def tw9229263473425594255:=0
def tw783975798614474607:=0
def tw6760791176551528303:=0
def tw12360906760683501263:=0
def tw13146078623556784652:=0
def tw16840046471940294636:=0
def tw2279123502614293484:=0
def tw12372701884652800972:=0
def tw15133769495574879148:=0
def tw15095463776202405708:=0
def tw16867080661339101420:=0
def tw15778418630994706060:=0
def tw15124648424493637228:=0
def tw17281984595703061580:=0
def tw17424772735070868908:=0
def tw2143121446879274412:=0
def tw14294665927605917580:=0
def tw10989941825627870956:=0
def tw1016500770053493452:=0
def tw6126769847999380044:=0
def tw4803452915511581260:=0
def tw7558983074603800141:=0
def tw6309415972310085197:=0
def tw17001586862418447245:=0
def tw6994694452419219341:=0
def tw7818958825146346349:=0
def tw6603527702617265997:=0
def tw2405755316432795917:=0
def tw5228248582826169613:=0
def tw3111956242547129037:=0
def tw95126353854146221:=0
def tw1493882704246125709:=0
def tw16289367961193881741:=0
def tw17202847268716103181:=0
def tw5157605601591768557:=0
def tw6030770013936902637:=0
def tw9938702892776621869:=0
def tw15756498619890688749:=0
def tw1872671130233215725:=0
def tw4293253433470245069:=0
def tw5100612271042976941:=0
def tw15177334488394445997:=0
end PySem.W.Fast
section
open PySem PySem.W PyProof.Rows
set_option maxHeartbeats 0 in
open_top Qhd for PySem.Challenge.rw_meterhouse_k40_whole_price_and_rows
end
noncomputable section
namespace L2
open PySem PySem.Spec PyProof.Rows
abbrev Key:=Sum Int Str
noncomputable def keyIs:Key->Value->Bool
 | .inl k,v=>Value.isInt k v
 | .inr x,v=>Value.isStrOf x v
noncomputable def keyH (w:World):Key->Int
 | .inl k=>hashInt k
 | .inr x=>hashStr w x
theorem Zba:∀ {k:Key} {v:Value},keyIs k v=true->(∃ i t,k=Sum.inl i/\v=Value.int i t)\/(∃ x t,k=Sum.inr x/\v=Value.str x t)
 | .inl i,v,h=>by
  obtain ⟨t,e⟩:=Value.isInt_shape (k:=i) (v:=v) h
  exact .inl ⟨i,t,rfl,e⟩
 | .inr x,v,h=>by
  obtain ⟨t,e⟩:=Value.isStrOf_shape (x:=x) (v:=v) h
  exact .inr ⟨x,t,rfl,e⟩
theorem Zgt (i:Int) (t:Tok):keyIs (.inl i) (.int i t)=true:=by simp [keyIs,Value.isInt]
theorem Zdf (x:Str) (t:Tok):keyIs (.inr x) (.str x t)=true:=by simp [keyIs,Value.isStrOf]
theorem key_ll (a b:Int):decide ((Sum.inl a:Key)=Sum.inl b)=(a==b):=by
 by_cases e:a=b
 .subst e;simp
 .have h:¬ (Sum.inl a:Key)=Sum.inl b:=fun q=>e (Sum.inl.inj q)
  rw [decide_eq_false h]
  exact (beq_eq_false_iff_ne.mpr e).symm
theorem key_rr (a b:Str):decide ((Sum.inr a:Key)=Sum.inr b)=decide (a=b):=by
 by_cases e:a=b
 .subst e;simp
 .have h:¬ (Sum.inr a:Key)=Sum.inr b:=fun q=>e (Sum.inr.inj q)
  rw [decide_eq_false h,decide_eq_false e]
theorem key_lr (a:Int) (b:Str):decide ((Sum.inl a:Key)=Sum.inr b)=false:=decide_eq_false (fun q=>nomatch q)
theorem key_rl (a:Str) (b:Int):decide ((Sum.inr a:Key)=Sum.inl b)=false:=decide_eq_false (fun q=>nomatch q)
noncomputable def ZaY (prog:Program) (w:World):PySem.KeyKind prog w Key where
 is:=keyIs
 hash:=keyH w
 inj:=fun v a b ha hb=>by
  rcases Zba ha with ⟨i,t,rfl,rfl⟩|⟨x,t,rfl,rfl⟩
  .rcases Zba hb with ⟨j,u,rfl,e⟩|⟨y,u,rfl,e⟩
   .injection e with e1 _;rw [e1]
   .exact nomatch e
  .rcases Zba hb with ⟨j,u,rfl,e⟩|⟨y,u,rfl,e⟩
   .exact nomatch e
   .injection e with e1 _;rw [e1]
 byValue:=fun k v h=>by
  rcases Zba h with ⟨i,t,rfl,rfl⟩|⟨x,t,rfl,rfl⟩<;>rfl
 pyHash:=fun hv h=>by
  rcases Zba hv with ⟨i,t,rfl,rfl⟩|⟨x,t,rfl,rfl⟩
  .exact wpAny_pyHash_int h
  .exact wpAny_pyHash_str h
 eqBool:=fun hu hv h=>by
  rcases Zba hu with ⟨i,t,rfl,rfl⟩|⟨x,t,rfl,rfl⟩
  .rcases Zba hv with ⟨j,u,rfl,rfl⟩|⟨y,u,rfl,rfl⟩
   .rw [key_ll] at h;exact wpAny_eqBool_int h
   .rw [key_lr] at h;exact SeqAt.EqAt.int_str i t y u _ _ _ _ h
  .rcases Zba hv with ⟨j,u,rfl,rfl⟩|⟨y,u,rfl,rfl⟩
   .rw [key_rl] at h;exact SeqAt.EqAt.str_int x t j u _ _ _ _ h
   .rw [key_rr] at h;exact wpAny_eqBool_str h
 «strs»:=fun k x t v h=>by
  rcases Zba h with ⟨i,u,rfl,e⟩|⟨y,u,rfl,e⟩
  .exact nomatch e
  .injection e with e1 _
   subst e1
   cases v<;>rfl
theorem ZhB (prog:Program) (w:World) (i:Int) (t:Tok):(ZaY prog w).is (.inl i) (.int i t)=true:=Zgt i t
theorem ZhC (prog:Program) (w:World) (x:Str) (t:Tok):(ZaY prog w).is (.inr x) (.str x t)=true:=Zdf x t
inductive V where
 | non|bl (b:Bool)|int (i:Int)|str (x:Str)|byt (b:Array UInt8)|flt (b:UInt64)|ref (a:Addr)|ty (n:String)
 deriving DecidableEq
def RelV:V->Value->Prop
 | .non,u=>u=Value.none
 | .bl b,u=>u=Value.bool b
 | .int i,u=>∃ t,u=Value.int i t
 | .str x,u=>∃ t,u=Value.str x t
 | .byt b,u=>∃ t,u=Value.bytes b t
 | .flt b,u=>∃ t,u=Value.float b t
 | .ref a,u=>u=Value.ref a
 | .ty n,u=>u=Value.type n
abbrev Vals:List V->List Value->Prop:=Paired RelV
theorem Vals.length {xs:List V} {us:List Value} (r:Vals xs us):xs.length=us.length:=Paired.length r
theorem Vals.get:∀ {xs:List V} {us:List Value} {i:Nat} {x:V},Vals xs us->xs[i]?=some x->∃ u,us[i]?=some u/\RelV x u
 | _,_,_,_,.nil,e=>by simp at e
 | _,_,0,_,.cons r _,e=>by simp at e;subst e;exact ⟨_,rfl,r⟩
 | _,_,i+1,x,.cons _ t,e=>by
  obtain ⟨u,h1,h2⟩:=Vals.get (i:=i) (x:=x) t (by simpa using e)
  exact ⟨u,by simpa using h1,h2⟩
theorem Vals.set {x:V} {u:Value} (r:RelV x u):∀ {xs:List V} {us:List Value} (i:Nat),Vals xs us->Vals (xs.set i x) (us.set i u)
 | _,_,_,.nil=>.nil
 | _,_,0,.cons _ t=>.cons r t
 | _,_,i+1,.cons q t=>.cons q (Vals.set r i t)
theorem Vals.append:∀ {xs ys:List V} {us ws:List Value},Vals xs us->Vals ys ws->Vals (xs++ys) (us++ws)
 | _,_,_,_,.nil,s=>s
 | _,_,_,_,.cons r t,s=>.cons r (Vals.append t s)
theorem Vals.take:∀ {xs:List V} {us:List Value} (n:Nat),Vals xs us->Vals (xs.take n) (us.take n)
 | _,_,0,_=>.nil
 | _,_,_+1,.nil=>.nil
 | _,_,n+1,.cons r t=>.cons r (Vals.take n t)
theorem Vals.drop:∀ {xs:List V} {us:List Value} (n:Nat),Vals xs us->Vals (xs.drop n) (us.drop n)
 | _,_,0,r=>r
 | _,_,_+1,.nil=>.nil
 | _,_,n+1,.cons _ t=>Vals.drop n t
theorem Vals.none_of:∀ {xs:List V} {us:List Value} {i:Nat},Vals xs us->xs[i]?=none->us[i]?=none:=fun {xs us i} r e=>by
 have h1:=r.length
 have h2:xs.length<=i:=List.getElem?_eq_none_iff.mp e
 exact List.getElem?_eq_none_iff.mpr (by omega)
def RelO:Option V->Option Value->Prop
 | some v,some u=>RelV v u
 | none,none=>True
 | _,_=>False
def KV {κ:Type}:List (κ×V)->List (κ×Value)->Prop:=Paired fun (p:κ×V) (q:κ×Value)=>p.1=q.1/\RelV p.2 q.2
noncomputable def kV:Key->V
 | .inl i=>.int i
 | .inr x=>.str x
inductive HO where
 | lst (xs:List V)
 | tup (xs:List V)
 | dK (kvs:List (Key×V))|dT (kvs:List (List Key×V))
 | set (S:Int->Bool) (n:Nat)
 | ins (C dx:Addr) (fs:List (Str×V))
 | own (x:Addr)
 | xd (fs:List (Str×V))
 | met (f x:Addr)
 | rng (lo hi:Int)
 | frz (o:Obj) (u:HO)
 | tbl (ps:Array Value)
 | ext (φ:Heap->Prop)
abbrev Hp:=Addr->Option HO
noncomputable def upd (H:Hp) (a:Addr) (o:HO):Hp:=fun b=>if b=a then some o else H b
theorem Zag {H:Hp} {a:Addr} {o:HO}:upd H a o a=some o:=by unfold upd;rw [if_pos rfl]
theorem Zaj {H:Hp} {a b:Addr} {o:HO} (h:b≠a):upd H a o b=H b:=by unfold upd;rw [if_neg h]
theorem ZaT {H:Hp} {a:Addr} {o u:HO}:upd (upd H a o) a u=upd H a u:=by
 funext b;unfold upd;split<;>rfl
theorem Za6 {H:Hp} {a b:Addr} {o u:HO} (h:H a=some o) (h':H b=some u) (d:o≠u):a≠b:=by
 intro e;subst e;rw [h] at h';exact d (Option.some.inj h')
theorem Zam {H:Hp} {a b:Addr} {o:HO} (h:H a=some o) (h':H b=none):a≠b:=by
 intro e;subst e;rw [h] at h';cases h'
section
variable (P:Program) (w:World)
def ObjOk (H:Hp) (h:Heap) (a:Addr):HO->Prop
 | .lst xs=>xs.length<=sizeLine/\∃ (its:List Value) (n:Nat),Vals xs its/\h.get? a=some { cls:=.type "list", data:=.seq its.toArray n }
 | .tup xs=>xs.length<=sizeLine/\∃ its:List Value,Vals xs its/\IsTup h a its.toArray
 | .dK kvs=>kvs.length<=sizeLine/\(a==sysModules)=false/\∃ vs,KV kvs vs/\h.DictOf (ZaY P w) a vs
 | .dT kvs=>kvs.length<=sizeLine/\(a==sysModules)=false/\∃ xs:List (List Key×Addr×Value),
   Paired (fun (p:List Key×V) (q:List Key×Addr×Value)=>p.1=q.1/\H q.2.1=some (.tup (p.1.map kV))/\RelV p.2 q.2.2) kvs xs /\
   ∃ o es ep,h.get? a=some o/\o.ExactDict/\o.data=.dict es ep/\es.toList=xs.map (entryOfKey (tupleKind (ZaY P w)))/\(xs.map (·.1)).Nodup
 | .set S n=>h.SetOf (intKind P w) a S n
 | .ins C dx fs=>H dx=some (.own a)/\fs.length<=1000/\dx≠a/\h.get? a=some (PySem.W.instObj C dx) /\
   ∃ mA,h.Ns1 dx mA/\(∀ f,RelO (fs.lookup f) (mA f))/\PySem.Within mA (fs.map (·.1))
 | .own _=>∃ o,h.get? a=some o
 | .xd fs=>∃ mA,h.Ns1 a mA/\∀ f,RelO (fs.lookup f) (mA f)
 | .rng lo hi=>∃ t u v,h.get? a=some { cls:=.type "range", data:=.fields #[.int lo t,.int hi u,.int 1 v] }
 | .frz o u=>h.get? a=some o/\ObjOk H h a u
 | .tbl ps=>h.get? a=some { cls:=.none,data:=.fields ps }
 | .met f x=>h.get? a=some (PySem.W.methodObj (.ref f) (.ref x))
 | .ext φ=>φ h/\(∃ o,h.get? a=some o)/\∀ h1 h2:Heap,φ h1->(∀ o,h1.get? a=some o->h2.get? a=some o)->φ h2
def HOk (H:Hp) (h:Heap):Prop:=∀ a o,H a=some o->ObjOk P w H h a o
end
section
variable {P:Program} {w:World} {H H':Hp} {h h':Heap} {a:Addr} {o:HO}
theorem ObjOk.lt (x:ObjOk P w H h a o):a<h.objs.size:=by
 cases o with
 | lst xs=>obtain ⟨_,_,_,_,e⟩:=x;exact Heap.lt_size e
 | tup xs=>obtain ⟨_,_,_,p⟩:=x;exact p.lt
 | dK kvs=>obtain ⟨_,_,_,_,o,_,_,e,_⟩:=x;exact Heap.lt_size e
 | dT kvs=>obtain ⟨_,_,_,_,o,_,_,e,_⟩:=x;exact Heap.lt_size e
 | set S n=>obtain ⟨o,_,_,_,e,_⟩:=x;exact Heap.lt_size e
 | ins C dx fs=>obtain ⟨_,_,_,e,_⟩:=x;exact Heap.lt_size e
 | own y=>obtain ⟨_,e⟩:=x;exact Heap.lt_size e
 | xd fs=>obtain ⟨_,⟨_,_,_,e,_⟩,_⟩:=x;exact Heap.lt_size e
 | rng lo hi=>obtain ⟨_,_,_,e⟩:=x;exact Heap.lt_size e
 | frz ob u=>obtain ⟨e,_⟩:=x;exact Heap.lt_size e
 | tbl ps=>exact Heap.lt_size (show h.get? a=some _ from x)
 | met f y=>exact Heap.lt_size (show h.get? a=some _ from x)
 | ext φ=>obtain ⟨_,⟨_,e⟩,_⟩:=x;exact Heap.lt_size e
theorem Paired.mapP {α β:Type} {F G:α->β->Prop}:∀ {l₁:List α} {l₂:List β},Paired F l₁ l₂->(∀ a b,F a b->G a b)->Paired G l₁ l₂
 | _,_,.nil,_=>.nil
 | _,_,.cons r t,f=>.cons (f _ _ r) (Paired.mapP t f)
theorem ObjOk.stay (x:ObjOk P w H h a o) (k:∀ b u,(b=a\/H b=some (.own a))->h.get? b=some u->h'.get? b=some u)
  (ho:∀ b,H b=some (.own a)->H' b=some (.own a)) (ht:∀ b xs,H b=some (.tup xs)->H' b=some (.tup xs)):ObjOk P w H' h' a o:=by
 induction o with
 | lst xs=>obtain ⟨z,its,n,r,e⟩:=x;exact ⟨z,its,n,r,k _ _ (.inl rfl) e⟩
 | tup xs=>obtain ⟨z,its,r,ob,e,c⟩:=x;exact ⟨z,its,r,ob,k _ _ (.inl rfl) e,c⟩
 | dK kvs=>obtain ⟨z,y,vs,r,ob,es,ep,e,c⟩:=x;exact ⟨z,y,vs,r,ob,es,ep,k _ _ (.inl rfl) e,c⟩
 | dT kvs =>
  obtain ⟨z,y,xs,r,ob,es,ep,e,c⟩:=x
  exact ⟨z,y,xs,Paired.mapP r fun p q z=>⟨z.1,ht _ _ z.2.1,z.2.2⟩,ob,es,ep,k _ _ (.inl rfl) e,c⟩
 | set S n=>obtain ⟨ob,es,ep,t,e,c⟩:=x;exact ⟨ob,es,ep,t,k _ _ (.inl rfl) e,c⟩
 | ins C dx fs =>
  obtain ⟨d,z,ne,e,mA,⟨od,es,ep,e2,c⟩,r⟩:=x
  exact ⟨ho _ d,z,ne,k _ _ (.inl rfl) e,mA,⟨od,es,ep,k _ _ (.inr d) e2,c⟩,r⟩
 | own y=>obtain ⟨ob,e⟩:=x;exact ⟨ob,k _ _ (.inl rfl) e⟩
 | xd fs=>obtain ⟨mA,⟨od,es,ep,e,c⟩,r⟩:=x;exact ⟨mA,⟨od,es,ep,k _ _ (.inl rfl) e,c⟩,r⟩
 | rng lo hi=>obtain ⟨t,u,v,e⟩:=x;exact ⟨t,u,v,k _ _ (.inl rfl) e⟩
 | frz ob u ih=>obtain ⟨e,q⟩:=x;exact ⟨k _ _ (.inl rfl) e,ih q⟩
 | tbl ps =>
  have e:h.get? a=some { cls:=.none,data:=.fields ps }:=x
  show h'.get? a=some { cls:=.none,data:=.fields ps }
  exact k a _ (.inl rfl) e
 | met f y =>
  have e:h.get? a=some (PySem.W.methodObj (.ref f) (.ref y)):=x
  show h'.get? a=some (PySem.W.methodObj (.ref f) (.ref y))
  exact k a _ (.inl rfl) e
 | ext φ=>obtain ⟨p,⟨o,e⟩,st⟩:=x;exact ⟨st _ _ p fun o q=>k _ _ (.inl rfl) q,⟨o,k _ _ (.inl rfl) e⟩,st⟩
theorem HOk.lt (x:HOk P w H h) (e:H a=some o):a<h.objs.size:=(x a o e).lt
theorem HOk.fresh (x:HOk P w H h) (e:h.objs.size<=a):H a=none:=by
 cases q:H a with
 | none=>rfl
 | some u=>exact absurd (Nat.lt_of_lt_of_le (x.lt q) e) (Nat.lt_irrefl _)
theorem HOk.kept (x:HOk P w H h) (k:∀ b u,h.get? b=some u->h'.get? b=some u):HOk P w H h':=fun a o e =>
 (x a o e).stay (fun b u _ q=>k b u q) (fun _ q=>q) fun _ _ q=>q
theorem HOk.laid (x:HOk P w H h) (k:∀ b u,h.get? b=some u->h'.get? b=some u) (hp:h.objs.size<=a) (new:ObjOk P w (upd H a o) h' a o):HOk P w (upd H a o) h':=fun b u e=>by
 have hn:=x.fresh hp
 by_cases hb:b=a
 .subst hb;rw [Zag] at e;cases e;exact new
 .rw [Zaj hb] at e
  exact (x b u e).stay (fun c v _ q=>k c v q) (fun c q=>by rw [Zaj (Zam q hn)];exact q) fun c xs q=>by rw [Zaj (Zam q hn)];exact q
end
def Rd (H:Hp) (a:Addr) (u:HO):Prop:=H a=some u\/∃ o,H a=some (.frz o u)
theorem Rd.of {H:Hp} {a:Addr} {u:HO} (h:H a=some u):Rd H a u:=.inl h
theorem Rd.ok {P:Program} {w:World} {H:Hp} {h:Heap} {a:Addr} {u:HO} (r:Rd H a u) (x:HOk P w H h):ObjOk P w H h a u:=by
 rcases r with r|⟨o,r⟩
 .exact x a u r
 .obtain ⟨_,q⟩:=x a _ r
  exact q
def Mut:Option HO->Prop
 | some (.lst _)=>True
 | some (.dK _)=>True
 | some (.dT _)=>True
 | some (.set _ _)=>True
 | some (.ins _ _ _)=>True
 | some (.ext _)=>True
 | _=>False
section
variable {P:Program} {w:World} {H:Hp} {h h':Heap} {x e:Addr} {o':HO}
theorem HOk.write (ok:HOk P w H h) (mu:Mut (H x)) (he:e=x\/H e=some (.own x)) (k:∀ b u,b≠e->h.get? b=some u->h'.get? b=some u) (heo:∃ u,h'.get? e=some u)
  (new:ObjOk P w (upd H x o') h' x o'):HOk P w (upd H x o') h':=fun b u q=>by
 have nown:∀ c y,H c=some (.own y)->c≠x:=fun c y r z=>by subst z;rw [r] at mu;exact mu
 have ntup:∀ c xs,H c=some (.tup xs)->c≠x:=fun c xs r z=>by subst z;rw [r] at mu;exact mu
 by_cases hb:b=x
 .subst hb;rw [Zag] at q;cases q;exact new
 .rw [Zaj hb] at q
  by_cases hbe:b=e
  .have q':H b=some (.own x):=by
    rcases he with z|z
    .exact absurd (hbe.trans z) hb
    .rw [hbe];exact z
   rw [q] at q';cases q'
   obtain ⟨v,hv⟩:=heo
   exact ⟨v,by rw [hbe];exact hv⟩
  .refine (ok b u q).stay (fun c v hc r=>k c v ?_ r) (fun c r=>by rw [Zaj (nown c b r)];exact r) fun c xs r=>by rw [Zaj (ntup c xs r)];exact r
   rcases hc with rfl|hc
   .exact hbe
   .rintro rfl
    rcases he with z|z
    .exact nown c b hc z
    .rw [hc] at z;cases z;exact hb rfl
end
structure Un (fs ex:List Addr) (H H':Hp) (h h':Heap):Prop where
 keep:∀ b o,h.get? b=some o->H b=none->b∉fs->b∉ex->h'.get? b=some o
 slot:∀ b o,h.get? b=some o->H b=none->b∈fs->b∉ex->∃ sl,h'.get? b=some { o with slots:=sl }
 free:∀ b o,h.get? b=some o->H b=none->b∉ex->H' b=none
 there:∀ b o,h.get? b=some o->b∉ex->∃ o',h'.get? b=some o'
 tups:∀ b xs,H b=some (.tup xs)->H' b=some (.tup xs)
 frzs:∀ b o u,H b=some (.frz o u)->H' b=some (.frz o u)
 tbls:∀ b ps,H b=some (.tbl ps)->∃ more,H' b=some (.tbl (ps++more))
section
variable {fs fs' ex ex':List Addr} {H H1 H2:Hp} {h h1 h2 h':Heap} {a x e:Addr} {o:HO}
theorem Un.any (u:Un fs ex H H1 h h1) {b:Addr} {ob:Obj} (q:h.get? b=some ob) (n:H b=none) (hx:b∉ex):∃ sl,h1.get? b=some { ob with slots:=sl }:=by
 by_cases hb:b∈fs
 .exact u.slot b ob q n hb hx
 .exact ⟨ob.slots,u.keep b ob q n hb hx⟩
theorem Un.trans (a:Un fs ex H H1 h h1) (b:Un fs ex H1 H2 h1 h2):Un fs ex H H2 h h2 where
 keep:=fun c ob q n hc hx=>b.keep c ob (a.keep c ob q n hc hx) (a.free c ob q n hx) hc hx
 slot:=fun c ob q n hc hx=>by
  obtain ⟨sl,e1⟩:=a.slot c ob q n hc hx
  obtain ⟨sl',e2⟩:=b.slot c _ e1 (a.free c ob q n hx) hc hx
  exact ⟨sl',e2⟩
 free:=fun c ob q n hx=>by
  obtain ⟨o',e1⟩:=a.there c ob q hx
  exact b.free c o' e1 (a.free c ob q n hx) hx
 there:=fun c ob q hx=>by
  obtain ⟨o',e1⟩:=a.there c ob q hx
  exact b.there c o' e1 hx
 tups:=fun c xs q=>b.tups c xs (a.tups c xs q)
 frzs:=fun c ob xs q=>b.frzs c ob xs (a.frzs c ob xs q)
 tbls:=fun c ps q=>by
  obtain ⟨m1,e1⟩:=a.tbls c ps q
  obtain ⟨m2,e2⟩:=b.tbls c _ e1
  exact ⟨m1++m2,by rw [e2,Array.append_assoc]⟩
theorem Un.kept (k:∀ b u,h.get? b=some u->h'.get? b=some u):Un fs ex H H h h' :=
 ⟨fun b ob q _ _ _=>k b ob q,fun b ob q _ _ _=>⟨ob.slots,k b ob q⟩,fun _ _ _ n _=>n,fun b ob q _=>⟨ob,k b ob q⟩,fun _ _ q=>q,fun _ _ _ q=>q,fun _ ps q=>⟨#[],by rw [q];simp⟩⟩
theorem Un.refl:Un fs ex H H h h:=Un.kept fun _ _ q=>q
theorem Un.laid (k:∀ b u,h.get? b=some u->h'.get? b=some u) (hp:h.objs.size<=a) (hn:H a=none):Un fs ex H (upd H a o) h h' where
 keep:=fun b u q _ _ _=>k b u q
 slot:=fun b u q _ _ _=>⟨u.slots,k b u q⟩
 free:=fun b u q n _=>by rw [Zaj (Nat.ne_of_lt (Nat.lt_of_lt_of_le (Heap.lt_size q) hp))];exact n
 there:=fun b u q _=>⟨u,k b u q⟩
 tups:=fun b xs q=>by rw [Zaj (Zam q hn)];exact q
 frzs:=fun b u xs q=>by rw [Zaj (Zam q hn)];exact q
 tbls:=fun b ps q=>⟨#[],by rw [Zaj (Zam q hn),q];simp⟩
theorem Un.write (mu:Mut (H x)) (he:e=x\/H e=some (.own x)) (k:∀ b u,b≠e->h.get? b=some u->h'.get? b=some u) (heo:∃ u,h'.get? e=some u):Un fs ex H (upd H x o) h h':=by
 have hx:∀ b,H b=none->b≠x:=fun b n z=>by subst z;rw [n] at mu;exact mu
 have hb:∀ b,H b=none->b≠e:=fun b n z=>by
  subst z
  rcases he with r|r
  .exact hx b n r
  .rw [n] at r;cases r
 have hm:∀ b u,H b=some u->¬ Mut (some u)->b≠x:=fun b u q nm z=>by subst z;rw [q] at mu;exact nm mu
 refine ⟨fun b u q n _ _=>k b u (hb b n) q,fun b u q n _ _=>⟨u.slots,k b u (hb b n) q⟩,fun b u q n _=>by rw [Zaj (hx b n)];exact n,fun b u q _=>?_,
  fun b xs q=>by rw [Zaj (hm b _ q fun z=>z)];exact q,fun b u xs q=>by rw [Zaj (hm b _ q fun z=>z)];exact q,fun b ps q=>⟨#[],by rw [Zaj (hm b _ q fun z=>z),q];simp⟩⟩
 by_cases hbe:b=e
 .subst hbe;exact heo
 .exact ⟨u,k b u hbe q⟩
theorem Un.mono (u:Un fs ex H H1 h h1) (hs:∀ b∈fs,b∈fs') (hx:∀ b∈ex,b∈ex'):Un fs' ex' H H1 h h1 :=
 ⟨fun b ob q n hb he=>u.keep b ob q n (fun z=>hb (hs b z)) fun z=>he (hx b z),fun _ _ q n _ he=>u.any q n fun z=>he (hx _ z),fun b ob q n he=>u.free b ob q n fun z=>he (hx b z),fun b ob q he=>u.there b ob q fun z=>he (hx b z),u.tups,u.frzs,u.tbls⟩
end
noncomputable def trk (h:Heap) (H:Hp):List Addr:=(List.range h.objs.size).filter fun a=>(H a).isSome
noncomputable def hidT (h:Heap) (H:Hp):Heap:=PySem.W.hideAll h (trk h H)
theorem ZjW (h:Heap) (H:Hp):(hidT h H).objs.size=h.objs.size:=PySem.W.hideAll_size _ _
theorem Zl1 {h:Heap} {H:Hp} {b:Addr} {o:Obj} (e:h.get? b=some o) (n:H b=none):(hidT h H).get? b=some o :=
 PySem.W.hideAll_get _ e fun hm=>by
  have q:(H b).isSome=true:=(List.mem_filter.mp hm).2
  rw [n] at q;simp at q
theorem ZnH {h:Heap} {H:Hp} {b:Addr} {o:Obj} (e:(hidT h H).get? b=some o):h.get? b=some o/\H b=none:=by
 have e':h.get? b=some o:=PySem.W.of_hideAll (trk h H) e
 refine ⟨e',?_⟩
 cases q:H b with
 | none=>rfl
 | some x =>
  have hm:b∈trk h H:=List.mem_filter.mpr ⟨List.mem_range.mpr (Heap.lt_size e'),by simp [q]⟩
  have z:(hidT h H).get? b=none:=PySem.W.hideAll_none (trk h H) hm
  rw [z] at e;cases e
noncomputable def ZnI (g h:Heap) (L:Addr):List (Addr×Obj):=(List.range h.objs.size).filterMap fun a=>if a=L\/(g.get? a).isSome=true then none else (h.get? a).map fun o=>(a,o)
noncomputable def rest (g h:Heap) (L d:Addr):List (Addr×Obj):=(ZnI g h L).filter fun p=>decide (p.1≠d)
structure Mod (K:PySem.W.Frag) (mg:Str->Option Value) (base:Heap):Prop where
 kin:K.In base
 glob:base.Ns mainGlobals mg
 blt:∃ mb,base.Ns builtinsNs mb/\∀ x:Str,x ≠ "__name__" -> mb x=bootBuiltins x
 nolimit:base.NoLimit
structure Cx where
 prog:Program
 w:World
 K:PySem.W.Frag
 mg:Str->Option Value
 base:Heap
 A:Around
 N:List Str
 s₀:Shared
 H₀:Hp
 env:Env
 outer:List Env
 stack:List Env
 ex:List Addr
 fn:Str->Bool
 calm:Bool
 pn:List (Addr×Obj)
 xe:Value->Shared->Prop
noncomputable def frs (l:List Env):List Addr:=l.filterMap (·.frame)
noncomputable abbrev Cx.fs (X:Cx):List Addr:=frs X.outer
def Vis (sc:Scope) (x:Str):Prop:=sc.names.lookup x=some .local\/sc.names.lookup x=some .cell\/sc.names.lookup x=some .free
def Loc (sc:Scope) (x:Str):Prop:=sc.names.lookup x=some .local\/sc.names.lookup x=some .cell
def Look (env:Env) (h:Heap) (m:Str->Option Value) (x:Str) (u:Value):Prop :=
 (env.kindOf x=some .local/\m x=some u)\/((env.kindOf x=some .cell\/env.kindOf x=some .free)/\∃ c,env.cells.lookup x=some c/\h.IsCell c (some u))
structure Cx.Ok (X:Cx):Prop where
 mod:Mod X.K X.mg X.base
 kind:X.env.scope.kind=.function
 glob:X.env.globals=mainGlobals
 blt:X.env.builtins=builtinsNs
 above:X.s₀.heap.objs.size<=X.env.locals
 inj:∀ x y c,X.env.cells.lookup x=some c->X.env.cells.lookup y=some c->x=y
 has:∀ x,(X.env.kindOf x=some .cell\/X.env.kindOf x=some .free)->∃ c,X.env.cells.lookup x=some c
 cab:∀ x c,X.fn x=true->X.env.cells.lookup x=some c->X.s₀.heap.objs.size<=c
 hd:X.calm=true->X.A.handled=none
 frames:X.A.frames=some X.stack
 stk:X.stack=X.outer\/(X.stack=X.env::X.outer/\X.env.frame=some X.env.locals)
 exf:∀ b∈X.ex,b≠X.env.locals/\∀ x c,X.env.cells.lookup x=some c->c≠b
 bs:∀ b o,X.base.get? b=some o->X.s₀.heap.get? b=some o/\X.H₀ b=none
 bsz:X.base.objs.size<=X.s₀.heap.objs.size
 noex:∀ b o,X.base.get? b=some o->b∉X.ex
 exfs:∀ b∈X.ex,b∉X.fs
 funs:X.s₀.heap.FunFrames X.base X.outer
 frf:∀ b∈X.fs,X.H₀ b=none
structure Inv (X:Cx) (pins:List (Addr×Obj)) (σ:List (Option V)) (H:Hp) (s:Shared):Prop where
 ok:X.Ok
 os:s.os=X.s₀.os
 bare:AllBare s.gens
 base:Un X.fs X.ex X.H₀ H X.s₀.heap s.heap
 loc:∃ m,s.heap.Ns X.env.locals m/\∀ (i:Nat) (x:Str) (v:V),X.N[i]?=some x->σ[i]?=some (some v)->Vis X.env.scope x->∃ u,RelV v u/\Look X.env s.heap m x u
 cell:∀ x c,X.env.cells.lookup x=some c->∃ v,s.heap.IsCell c v
 free:H X.env.locals=none
 freeC:∀ x c,X.env.cells.lookup x=some c->H c=none
 pin:∀ p∈X.pn++pins,s.heap.get? p.1=some p.2/\H p.1=none/\p.1≠X.env.locals/\p.1∉X.fs/\∀ v,p.2.data≠.cell v
 hok:HOk X.prog X.w H s.heap
 len:σ.length=X.N.length
section
variable {X:Cx} {pins:List (Addr×Obj)} {σ:List (Option V)} {H H':Hp} {s:Shared} {h':Heap}
theorem Cx.Ok.nofr (ok:X.Ok) {b:Addr} {o:Obj} (e:X.base.get? b=some o):b∉X.fs:=fun hb=>by
 have:=(ok.funs.mem hb).1
 rw [e] at this;cases this
theorem Inv.bs (I:Inv X pins σ H s):∀ b o,X.base.get? b=some o->s.heap.get? b=some o/\H b=none:=fun b o e =>
 ⟨I.base.keep b o (I.ok.bs b o e).1 (I.ok.bs b o e).2 (I.ok.nofr e) (I.ok.noex b o e),I.base.free b o (I.ok.bs b o e).1 (I.ok.bs b o e).2 (I.ok.noex b o e)⟩
theorem Inv.bk (I:Inv X pins σ H s):∀ b o,X.base.get? b=some o->s.heap.get? b=some o:=fun b o e=>(I.bs b o e).1
theorem Inv.mod (I:Inv X pins σ H s):Mod X.K X.mg X.base:=I.ok.mod
theorem Inv.kIn (I:Inv X pins σ H s):X.K.In s.heap:=I.ok.mod.kin.keeps I.bk
theorem Inv.nolimit (I:Inv X pins σ H s):s.heap.NoLimit:=I.ok.mod.nolimit.keeps I.bk
theorem Inv.fr (I:Inv X pins σ H s):∃ m,Fr X.base X.env.locals s.heap m :=
 let ⟨m,hn,_⟩:=I.loc
 ⟨m,hn,I.bk,Nat.le_trans I.ok.bsz I.ok.above⟩
theorem Inv.lt (I:Inv X pins σ H s):X.env.locals<s.heap.objs.size:=let ⟨_,hn,_⟩:=I.loc;hn.lt
theorem Inv.sz (I:Inv X pins σ H s):X.s₀.heap.objs.size<=s.heap.objs.size:=Nat.le_trans I.ok.above (Nat.le_of_lt I.lt)
theorem Inv.nofs (I:Inv X pins σ H s) {a:Addr} (h:s.heap.objs.size<=a):a∉X.fs:=fun hb=>by
 obtain ⟨_,o,ho,_⟩:=I.ok.funs.mem hb
 exact absurd (Nat.lt_of_lt_of_le (Heap.lt_size ho) (Nat.le_trans I.sz h)) (Nat.lt_irrefl _)
theorem Inv.cne (I:Inv X pins σ H s):∀ x c,X.env.cells.lookup x=some c->c≠X.env.locals:=fun x c e z=>by
 obtain ⟨v,o,ho,hd⟩:=I.cell x c e
 obtain ⟨m,⟨o',es,ep,ho',hd',_⟩,_⟩:=I.loc
 rw [z,ho'] at ho;cases ho;rw [hd'] at hd;cases hd
theorem Inv.funs (I:Inv X pins σ H s):s.heap.FunFrames X.base X.outer:=by
 have all:∀ (l:List Env),(∀ b∈frs l,b∈X.fs)->X.s₀.heap.FunFrames X.base l->s.heap.FunFrames X.base l:=by
  intro l
  induction l with
  | nil=>intro _ _;trivial
  | cons env r ih =>
   intro hs hl
   obtain ⟨hk,⟨L,o,hf,hn,ho,hd⟩,hr⟩:=hl
   have hL:L∈X.fs:=hs L (by unfold frs;rw [List.filterMap_cons,hf];exact List.mem_cons_self)
   obtain ⟨sl,e⟩:=I.base.slot L o ho (I.ok.frf L hL) hL fun z=>I.ok.exfs L z hL
   exact ⟨hk,⟨L,_,hf,hn,e,hd⟩,ih (fun b hb=>hs b (by unfold frs;rw [List.filterMap_cons,hf];exact List.mem_cons_of_mem _ hb)) hr⟩
 exact all X.outer (fun _ hb=>hb) I.ok.funs
theorem Inv.stack (I:Inv X pins σ H s):s.heap.FunFrames X.base X.stack:=by
 rcases I.ok.stk with e|⟨e,hf⟩
 .rw [e];exact I.funs
 .rw [e]
  obtain ⟨m,hn,_⟩:=I.loc
  refine .cons (by rw [I.ok.kind];decide) hf hn ?_ I.funs
  exact Heap.get?_none_of_le (Nat.le_trans I.ok.bsz I.ok.above)
theorem Inv.stkSub (I:Inv X pins σ H s):∀ b∈frs X.stack,b∈X.env.locals::X.fs:=fun b hb=>by
 rcases I.ok.stk with e|⟨e,hf⟩
 .rw [e] at hb;exact List.mem_cons_of_mem _ hb
 .rw [e] at hb
  unfold frs at hb
  rw [List.filterMap_cons,hf] at hb
  exact hb
theorem Inv.stkFree (I:Inv X pins σ H s):∀ b∈frs X.stack,H b=none:=fun b hb=>by
 rcases List.mem_cons.mp (I.stkSub b hb) with e|hb
 .rw [e];exact I.free
 .obtain ⟨_,o,ho,_⟩:=I.ok.funs.mem hb
  exact I.base.free b o ho (I.ok.frf b hb) fun z=>I.ok.exfs b z hb
theorem Inv.step {g':Array GenState} {t':Nat} {d':Drawn} {ch:List Addr} (I:Inv X pins σ H s)
  (hch:∀ b∈ch,(b∈X.ex\/X.s₀.heap.objs.size<=b)/\b≠X.env.locals/\(∀ x c,X.env.cells.lookup x=some c->c≠b)/\∀ p∈X.pn++pins,p.1≠b)
  (keep:∀ b o,b≠X.env.locals->b∉X.fs->b∉ch->s.heap.get? b=some o->H b=none->h'.get? b=some o)
  (slot:∀ b o,b≠X.env.locals->b∈X.fs->b∉ch->s.heap.get? b=some o->H b=none->∃ sl,h'.get? b=some { o with slots:=sl }) (free:∀ b o,b∉ch->s.heap.get? b=some o->H b=none->H' b=none)
  (there:∀ b o,b∉ch->s.heap.get? b=some o->∃ o',h'.get? b=some o')
  (tups:∀ b xs,H b=some (.tup xs)->H' b=some (.tup xs)) (frzs:∀ b o u,H b=some (.frz o u)->H' b=some (.frz o u)) (tbls:∀ b ps,H b=some (.tbl ps)->∃ more,H' b=some (.tbl (ps++more)))
  (ns:∀ m,s.heap.Ns X.env.locals m->h'.Ns X.env.locals m) (hok:HOk X.prog X.w H' h') (hg:AllBare g') :
  Inv X pins σ H' { s with heap:=h',gens:=g',drawn:=d',toks:=t' }:=by
 have neL:∀ b o,X.s₀.heap.get? b=some o->b≠X.env.locals:=fun b o e=>Nat.ne_of_lt (Nat.lt_of_lt_of_le (Heap.lt_size e) I.ok.above)
 have neC:∀ b o,X.s₀.heap.get? b=some o->b∉X.ex->b∉ch:=fun b o e hx hb=>by
  rcases (hch b hb).1 with z|z
  .exact hx z
  .exact absurd (Nat.lt_of_lt_of_le (Heap.lt_size e) z) (Nat.lt_irrefl _)
 have cellK:∀ x c,X.env.cells.lookup x=some c->∀ v,s.heap.IsCell c v->h'.IsCell c v:=fun x c e v ⟨o,ho,hd⟩=>by
  have nch:c∉ch:=fun z=>(hch c z).2.2.1 x c e rfl
  by_cases hc:c∈X.fs
  .obtain ⟨sl,q⟩:=slot c o (I.cne x c e) hc nch ho (I.freeC x c e)
   exact ⟨_,q,hd⟩
  .exact ⟨o,keep c o (I.cne x c e) hc nch ho (I.freeC x c e),hd⟩
 refine ⟨I.ok,I.os,hg,⟨fun b o e n hb hx=>?_,fun b o e n hb hx=>?_,fun b o e n hx=>?_,fun b o e hx=>?_,fun b xs e=>tups b xs (I.base.tups b xs e),fun b o xs e=>frzs b o xs (I.base.frzs b o xs e),fun b ps e=>?_⟩,?_,fun x c e=>?_,?_,fun x c e=>?_,fun p hp=>?_,hok,I.len⟩
 .exact keep b o (neL b o e) hb (neC b o e hx) (I.base.keep b o e n hb hx) (I.base.free b o e n hx)
 .obtain ⟨sl,e1⟩:=I.base.slot b o e n hb hx
  obtain ⟨sl',e2⟩:=slot b _ (neL b o e) hb (neC b o e hx) e1 (I.base.free b o e n hx)
  exact ⟨sl',e2⟩
 .obtain ⟨o',e1⟩:=I.base.there b o e hx
  exact free b o' (neC b o e hx) e1 (I.base.free b o e n hx)
 .obtain ⟨o',e1⟩:=I.base.there b o e hx
  exact there b o' (neC b o e hx) e1
 .obtain ⟨m1,e1⟩:=I.base.tbls b ps e
  obtain ⟨m2,e2⟩:=tbls b _ e1
  exact ⟨m1++m2,by rw [e2,Array.append_assoc]⟩
 .obtain ⟨m,hn,hl⟩:=I.loc
  refine ⟨m,ns m hn,fun i x v e1 e2 e3=>?_⟩
  obtain ⟨u,r,l⟩:=hl i x v e1 e2 e3
  refine ⟨u,r,?_⟩
  rcases l with l|⟨k,c,e,z⟩
  .exact .inl l
  .exact .inr ⟨k,c,e,cellK x c e _ z⟩
 .obtain ⟨v,z⟩:=I.cell x c e
  exact ⟨v,cellK x c e v z⟩
 .obtain ⟨m,⟨o,_,_,ho,_⟩,_⟩:=I.loc
  exact free _ o (fun z=>(hch _ z).2.1 rfl) ho I.free
 .obtain ⟨v,o,ho,hd⟩:=I.cell x c e
  exact free c o (fun z=>(hch c z).2.2.1 x c e rfl) ho (I.freeC x c e)
 .obtain ⟨e,n,ne,nf,d⟩:=I.pin p hp
  have nch:p.1∉ch:=fun z=>(hch p.1 z).2.2.2 p hp rfl
  exact ⟨keep p.1 p.2 ne nf nch e n,free p.1 p.2 nch e n,ne,nf,d⟩
theorem Inv.un {t':Nat} (I:Inv X pins σ H s) (u:Un X.fs [] H H' s.heap h') (hok:HOk X.prog X.w H' h'):Inv X pins σ H' { s with heap:=h',toks:=t' }:=by
 obtain ⟨m,⟨o,es,ep,ho,r⟩,_⟩:=id I.loc
 obtain ⟨sl,hL⟩:=u.any ho I.free (by simp)
 exact I.step (g':=s.gens) (d':=s.drawn) (ch:=[]) (fun _ z=>nomatch z) (fun b o _ hb _ e n=>u.keep b o e n hb (by simp)) (fun b o _ hb _ e n=>u.slot b o e n hb (by simp)) (fun b o _ e n=>u.free b o e n (by simp)) (fun b o _ e=>u.there b o e (by simp)) u.tups u.frzs u.tbls (fun m' hm=>by
  obtain ⟨o',es',ep',ho',r'⟩:=hm
  rw [ho] at ho';cases ho'
  exact ⟨_,es',ep',hL,r'⟩) hok I.bare
theorem Inv.call {g':Array GenState} {t':Nat} {d':Drawn} {ch:List Addr} (I:Inv X pins σ H s) (u:Un (frs X.stack) ch H H' s.heap h') (hok:HOk X.prog X.w H' h') (hg:AllBare g')
  (hch:∀ b∈ch,(b∈X.ex\/X.s₀.heap.objs.size<=b)/\b≠X.env.locals/\(∀ x c,X.env.cells.lookup x=some c->c≠b)/\∀ p∈X.pn++pins,p.1≠b) :
  Inv X pins σ H' { s with heap:=h',gens:=g',drawn:=d',toks:=t' }:=by
 obtain ⟨m,⟨o,es,ep,ho,r⟩,_⟩:=id I.loc
 obtain ⟨sl,hL⟩:=u.any ho I.free fun z=>(hch _ z).2.1 rfl
 exact I.step (ch:=ch) hch (fun b o hL hb hc e n=>u.keep b o e n (fun z=>(List.mem_cons.mp (I.stkSub b z)).elim hL hb) hc) (fun b o _ _ hc e n=>u.any e n hc) (fun b o hc e n=>u.free b o e n hc) (fun b o hc e=>u.there b o e hc) u.tups u.frzs u.tbls (fun m' hm=>by
  obtain ⟨o',es',ep',ho',r'⟩:=hm
  rw [ho] at ho';cases ho'
  exact ⟨_,es',ep',hL,r'⟩) hok hg
theorem Inv.turned {t':Nat} {it:Addr} (I:Inv X pins σ H s) (k:∀ b o,b≠it->s.heap.get? b=some o->h'.get? b=some o) (hn:H it=none) (hL:it≠X.env.locals)
  (h1:it∈X.ex\/X.s₀.heap.objs.size<=it) (h2:∀ x c,X.env.cells.lookup x=some c->c≠it) (h3:∀ p∈X.pn++pins,p.1≠it):Inv X pins σ H { s with heap:=h',toks:=t' }:=by
 have nit:∀ b u,H b=some u->b≠it:=fun b u e z=>by rw [z,hn] at e;cases e
 refine I.step (g':=s.gens) (d':=s.drawn) (ch:=[it]) (fun b hb=>?_) (fun b o _ _ hc e _=>k b o (fun z=>hc (by simp [z])) e) (fun b o _ _ hc e _=>⟨o.slots,k b o (fun z=>hc (by simp [z])) e⟩) (fun _ _ _ _ n=>n)
  (fun b o hc e=>⟨o,k b o (fun z=>hc (by simp [z])) e⟩) (fun _ _ e=>e) (fun _ _ _ e=>e) (fun b ps e=>⟨#[],by rw [e];simp⟩) (fun m hm=>?_) (fun b u e=>?_) I.bare
 .have e:b=it:=by simpa using hb
  subst e
  exact ⟨h1,hL,h2,h3⟩
 .obtain ⟨o,es,ep,ho,r⟩:=hm
  exact ⟨o,es,ep,k _ o (Ne.symm hL) ho,r⟩
 .refine (I.hok b u e).stay (fun c v hc q=>k c v ?_ q) (fun _ q=>q) fun _ _ q=>q
  rcases hc with z|z
  .rw [z];exact nit b u e
  .exact nit c _ z
theorem Inv.tok (I:Inv X pins σ H s) (t:Nat):Inv X pins σ H { s with toks:=t }:=I.un (h':=s.heap) (t':=t) Un.refl I.hok
theorem Inv.kept {t':Nat} (I:Inv X pins σ H s) (k:∀ b u,s.heap.get? b=some u->h'.get? b=some u):Inv X pins σ H { s with heap:=h',toks:=t' }:=I.un (Un.kept k) (I.hok.kept k)
theorem Inv.laid {a:Addr} {o:HO} {t':Nat} (I:Inv X pins σ H s) (k:∀ b u,s.heap.get? b=some u->h'.get? b=some u) (hp:s.heap.objs.size<=a) (new:ObjOk X.prog X.w (upd H a o) h' a o) :
  Inv X pins σ (upd H a o) { s with heap:=h',toks:=t' }:=I.un (Un.laid k hp (I.hok.fresh hp)) (I.hok.laid k hp new)
theorem Inv.write {x e:Addr} {o:HO} {t':Nat} (I:Inv X pins σ H s) (mu:Mut (H x)) (he:e=x\/H e=some (.own x)) (k:∀ b u,b≠e->s.heap.get? b=some u->h'.get? b=some u) (heo:∃ u,h'.get? e=some u)
  (new:ObjOk X.prog X.w (upd H x o) h' x o):Inv X pins σ (upd H x o) { s with heap:=h',toks:=t' }:=I.un (Un.write mu he k heo) (I.hok.write mu he k heo new)
theorem Inv.pins_of {pins':List (Addr×Obj)} (I:Inv X pins σ H s) (h:∀ p∈pins',s.heap.get? p.1=some p.2/\H p.1=none/\p.1≠X.env.locals/\p.1∉X.fs/\∀ v,p.2.data≠.cell v):Inv X pins' σ H s :=
 ⟨I.ok,I.os,I.bare,I.base,I.loc,I.cell,I.free,I.freeC,fun p hp=>(List.mem_append.mp hp).elim (fun z=>I.pin p (List.mem_append_left _ z)) (h p),I.hok,I.len⟩
theorem ZiC {N:List Str} (hN:N.Nodup) {i j:Nat} {x:Str} (a:N[i]?=some x) (b:N[j]?=some x):i=j:=by
 obtain ⟨h1,e1⟩:=List.getElem?_eq_some_iff.mp a
 obtain ⟨h2,e2⟩:=List.getElem?_eq_some_iff.mp b
 exact (List.getElem_inj hN).mp (e1.trans e2.symm)
theorem Zgu {M:Model} {A:Around} {E:Value->Shared->Prop} {i:Nat} {x:Str} {v:V} {u:Value} {Q:Unit->Shared->Prop} (I:Inv X pins σ H s) (hN:X.N.Nodup) (hi:X.N[i]?=some x) (hx:Loc X.env.scope x) (r:RelV v u)
  (h:∀ s',Inv X pins (σ.set i (some v)) H s'->(∃ a,Heap.SameBut a s.heap s'.heap/\(a=X.env.locals\/X.env.cells.lookup x=some a))->Q () s') (hf:X.fn x=true\/X.env.scope.names.lookup x=some .local:=by first|exact .inl rfl|exact .inr rfl|assumption):wpAny M A (storeName X.env x u) Q E s:=by
 obtain ⟨m,hn,hl⟩:=id I.loc
 have hcls:(X.env.scope.kind==.class||(X.env.scope.kind==.module&&X.env.locals != X.env.globals))=false:=by rw [I.ok.kind];rfl
 have hiσ:i<σ.length:=by rw [I.len];exact (List.getElem?_eq_some_iff.mp hi).1
 have cne:=I.cne
 have tracked:∀ {a:Addr} {h':Heap},(∃ o,s.heap.get? a=some o/\H a=none)->Heap.SameBut a s.heap h'->HOk X.prog X.w H h':=fun {a h'} ha hs b ob e=>by
  obtain ⟨_,_,hfree⟩:=ha
  refine (I.hok b ob e).stay (fun c w' hc q=>(hs.2 c ?_).trans q) (fun _ q=>q) fun _ _ q=>q
  rintro rfl
  rcases hc with rfl|hc
  .rw [hfree] at e;cases e
  .rw [hfree] at hc;cases hc
 rcases hx with hk|hk
 .refine wpAny_storeName_local hk hn (fun h' hn' hs=>?_) hcls
  obtain ⟨oL,_,_,hoL,_⟩:=id hn
  refine h _ ⟨I.ok,I.os,I.bare,⟨fun b o e n hb hx=>?_,fun b o e n hb hx=>?_,I.base.free,fun b o e hx=>?_,I.base.tups,I.base.frzs,I.base.tbls⟩,⟨_,hn',fun j y v' e1 e2 e3=>?_⟩,fun y c e=>?_,I.free,I.freeC,fun p hp=>?_,tracked ⟨oL,hoL,I.free⟩ hs,by simpa using I.len⟩ ⟨_,hs,.inl rfl⟩
  .exact (hs.2 b (Nat.ne_of_lt (Nat.lt_of_lt_of_le (Heap.lt_size e) I.ok.above))).trans (I.base.keep b o e n hb hx)
  .obtain ⟨sl,e1⟩:=I.base.slot b o e n hb hx
   exact ⟨sl,(hs.2 b (Nat.ne_of_lt (Nat.lt_of_lt_of_le (Heap.lt_size e) I.ok.above))).trans e1⟩
  .obtain ⟨o',e1⟩:=I.base.there b o e hx
   exact ⟨o',(hs.2 b (Nat.ne_of_lt (Nat.lt_of_lt_of_le (Heap.lt_size e) I.ok.above))).trans e1⟩
  .by_cases hj:j=i
   .subst hj
    rw [hi] at e1;cases e1
    rw [List.getElem?_set_self hiσ] at e2
    cases e2
    exact ⟨u,r,.inl ⟨hk,by simp⟩⟩
   .rw [List.getElem?_set_ne (Ne.symm hj)] at e2
    obtain ⟨u',r',q⟩:=hl j y v' e1 e2 e3
    refine ⟨u',r',?_⟩
    rcases q with ⟨k,e⟩|⟨k,c,e,z⟩
    .refine .inl ⟨k,?_⟩
     have:y≠x:=fun e=>hj (ZiC hN e1 (e▸hi))
     simp [this,e]
    .exact .inr ⟨k,c,e,z.sameBut hs (cne y c e)⟩
  .obtain ⟨w',z⟩:=I.cell y c e
   exact ⟨w',z.sameBut hs (cne y c e)⟩
  .obtain ⟨e,n,ne,nf,d⟩:=I.pin p hp
   exact ⟨(hs.2 p.1 ne).trans e,n,ne,nf,d⟩
 .have hfn:X.fn x=true:=by
   rcases hf with z|z
   .exact z
   .rw [z] at hk;cases hk
  obtain ⟨c,hc⟩:=I.ok.has x (.inl hk)
  obtain ⟨w',z⟩:=I.cell x c hc
  refine wpAny_storeName_cell I.ok.kind hk hc z (fun h' hc' hs=>?_)
  obtain ⟨oc,hoc,hocd⟩:=id z
  refine h { s with heap:=h' } ⟨I.ok,I.os,I.bare,⟨fun b o e n hb hx=>?_,fun b o e n hb hx=>?_,I.base.free,fun b o e hx=>?_,I.base.tups,I.base.frzs,I.base.tbls⟩,⟨m,hn.sameBut hs (Ne.symm (cne x c hc)),fun j y v' e1 e2 e3=>?_⟩,fun y c' e=>?_,I.free,I.freeC,fun p hp=>?_,tracked ⟨oc,hoc,I.freeC x c hc⟩ hs,by simpa using I.len⟩ ⟨c,hs,.inr hc⟩
  .exact (hs.2 b (Nat.ne_of_lt (Nat.lt_of_lt_of_le (Heap.lt_size e) (I.ok.cab x c hfn hc)))).trans (I.base.keep b o e n hb hx)
  .obtain ⟨sl,e1⟩:=I.base.slot b o e n hb hx
   exact ⟨sl,(hs.2 b (Nat.ne_of_lt (Nat.lt_of_lt_of_le (Heap.lt_size e) (I.ok.cab x c hfn hc)))).trans e1⟩
  .obtain ⟨o',e1⟩:=I.base.there b o e hx
   exact ⟨o',(hs.2 b (Nat.ne_of_lt (Nat.lt_of_lt_of_le (Heap.lt_size e) (I.ok.cab x c hfn hc)))).trans e1⟩
  .by_cases hj:j=i
   .subst hj
    rw [hi] at e1;cases e1
    rw [List.getElem?_set_self hiσ] at e2
    cases e2
    exact ⟨u,r,.inr ⟨.inl hk,c,hc,hc'⟩⟩
   .rw [List.getElem?_set_ne (Ne.symm hj)] at e2
    obtain ⟨u',r',q⟩:=hl j y v' e1 e2 e3
    refine ⟨u',r',?_⟩
    rcases q with q|⟨k,c',e,z'⟩
    .exact .inl q
    .refine .inr ⟨k,c',e,z'.sameBut hs ?_⟩
     rintro rfl
     exact hj (ZiC hN e1 (I.ok.inj _ _ _ e hc▸hi))
  .by_cases hcc:c'=c
   .subst hcc;exact ⟨_,hc'⟩
   .obtain ⟨w2,z2⟩:=I.cell y c' e
    exact ⟨w2,z2.sameBut hs hcc⟩
  .obtain ⟨e,n,ne,nf,d⟩:=I.pin p hp
   refine ⟨(hs.2 p.1 ?_).trans e,n,ne,nf,d⟩
   intro q
   rw [q,hoc] at e
   have q':oc=p.2:=Option.some.inj e
   exact d w' (by rw [<- q'];exact hocd)
theorem ZiD {M:Model} {A:Around} {E:Value->Shared->Prop} {i:Nat} {x:Str} {v:V} {u:Value} {Q:Unit->Shared->Prop} (I:Inv X pins σ H s) (hN:X.N.Nodup) (hi:X.N[i]?=some x) (hx:Loc X.env.scope x) (r:RelV v u)
  (h:∀ s',Inv X pins (σ.set i (some v)) H s'->Q () s') (hf:X.fn x=true\/X.env.scope.names.lookup x=some .local:=by first|exact .inl rfl|exact .inr rfl|assumption):wpAny M A (storeName X.env x u) Q E s :=
 Zgu I hN hi hx r (fun s' I' _=>h s' I') hf
theorem Inv.call' {s':Shared} {ch:List Addr} (I:Inv X pins σ H s) (ho:s'.os=s.os) (u:Un (frs X.stack) ch H H' s.heap s'.heap) (hok:HOk X.prog X.w H' s'.heap) (hg:AllBare s'.gens)
  (hch:∀ b∈ch,(b∈X.ex\/X.s₀.heap.objs.size<=b)/\b≠X.env.locals/\(∀ x c,X.env.cells.lookup x=some c->c≠b)/\∀ p∈X.pn++pins,p.1≠b):Inv X pins σ H' s':=by
 obtain ⟨h',g',d',t',o'⟩:=s'
 have e:o'=s.os:=ho
 subst e
 exact I.call (g':=g') (t':=t') (d':=d') u hok hg hch
end
abbrev XK:=Value->Option Addr->Hp->Prop
abbrev St:=List (Option V)
abbrev VK:=V->Hp->Prop
abbrev TE:=St->Hp->VK->Prop
abbrev TT:=St->Hp->(Bool->Hp->Prop)->Prop
abbrev TA:=St->Hp->(List V->Hp->Prop)->Prop
structure Ends where
 nx:St->Hp->Prop
 rt:VK
 bk:St->Hp->Prop:=fun _ _=>False
 ct:St->Hp->Prop:=fun _ _=>False
abbrev TS:=Ends->St->Hp->Prop
def EP (X:Cx) (pins:List (Addr×Obj)) (σ:St) (Q:VK) (u:Value) (s':Shared):Prop:=∃ v H',Inv X pins σ H' s'/\RelV v u/\Q v H'
def TP (X:Cx) (pins:List (Addr×Obj)) (σ:St) (Q:Bool->Hp->Prop) (b:Bool) (s':Shared):Prop:=∃ H',Inv X pins σ H' s'/\Q b H'
def AP (X:Cx) (pins:List (Addr×Obj)) (σ:St) (Q:List V->Hp->Prop) (us:List Value) (s':Shared):Prop:=∃ vs H',Inv X pins σ H' s'/\Vals vs us/\Q vs H'
def SP (X:Cx) (pins:List (Addr×Obj)) (D:Ends) (f:Flow) (s':Shared):Prop :=
 match f with
 | .next=>∃ σ' H',Inv X pins σ' H' s'/\D.nx σ' H'
 | .brk=>∃ σ' H',Inv X pins σ' H' s'/\D.bk σ' H'
 | .cont=>∃ σ' H',Inv X pins σ' H' s'/\D.ct σ' H'
 | .ret u=>∃ v σ' H',Inv X pins σ' H' s'/\RelV v u/\D.rt v H'
def PE (X:Cx) (e:Expr) (t:TE):Prop :=
 ∀ (pins:List (Addr×Obj)) (s:Shared) (σ:St) (H:Hp) (Q:VK),Inv X pins σ H s->t σ H Q->wpAny (model X.prog X.w) X.A (eval e X.env) (EP X pins σ Q) X.xe s
def PT (X:Cx) (e:Expr) (t:TT):Prop :=
 ∀ (pins:List (Addr×Obj)) (s:Shared) (σ:St) (H:Hp) (Q:Bool->Hp->Prop),Inv X pins σ H s->t σ H Q->wpAny (model X.prog X.w) X.A (isTrue e X.env (eval e X.env)) (TP X pins σ Q) X.xe s
def PW (X:Cx) (e:Expr) (t:TT):Prop :=
 ∀ (whole:Sem Value) (pins:List (Addr×Obj)) (s:Shared) (σ:St) (H:Hp) (Q:Bool->Hp->Prop),Inv X pins σ H s->t σ H Q->wpAny (model X.prog X.w) X.A (isTrue e X.env whole) (TP X pins σ Q) X.xe s
theorem PW.pt {X:Cx} {e:Expr} {t:TT} (h:PW X e t):PT X e t:=h _
def PA (X:Cx) (es:List Expr) (t:TA):Prop :=
 ∀ (pos:Pos) (pins:List (Addr×Obj)) (s:Shared) (σ:St) (H:Hp) (Q:List V->Hp->Prop),Inv X pins σ H s->t σ H Q->wpAny (model X.prog X.w) X.A (spliced (backTo pos (starEach es X.env))) (AP X pins σ Q) X.xe s
def PS (X:Cx) (st:Stmt) (t:TS):Prop :=
 ∀ (pins:List (Addr×Obj)) (s:Shared) (σ:St) (H:Hp) (D:Ends),Inv X pins σ H s->t D σ H->wpAny (model X.prog X.w) X.A (exec st X.env) (SP X pins D) X.xe s
def PSs (X:Cx) (st:List Stmt) (t:TS):Prop :=
 ∀ (pins:List (Addr×Obj)) (s:Shared) (σ:St) (H:Hp) (D:Ends),Inv X pins σ H s->t D σ H->wpAny (model X.prog X.w) X.A (execs st X.env) (SP X pins D) X.xe s
theorem thn {α:Type} {t:Sem α} {Q Q':α->Shared->Prop} {M:Model} {A:Around} {E:Value->Shared->Prop} {s:Shared} (h:wpAny M A t Q E s) (hQ:∀ a s,Q a s->Q' a s):wpAny M A t Q' E s:=wpAny_mono h hQ fun _ _ x=>x
section
variable {X:Cx}
theorem bin {a b:Expr} {ta tb:TE} (ha:PE X a ta) (hb:PE X b tb) {pins:List (Addr×Obj)} {s:Shared} {σ:St} {H:Hp} {R:V->V->Hp->Prop} (I:Inv X pins σ H s) (h:ta σ H fun x H1=>tb σ H1 fun y H2=>R x y H2)
  {α:Type} {Q:α->Shared->Prop} {f:Value->Value->Sem α}
  (hf:∀ v u s2 x y H2,Inv X pins σ H2 s2->RelV x v->RelV y u->R x y H2->wpAny (model X.prog X.w) X.A (f v u) Q X.xe s2) :
  wpAny (model X.prog X.w) X.A (eval a X.env) (fun v s₁=>wpAny (model X.prog X.w) X.A (eval b X.env) (fun u s₂=>wpAny (model X.prog X.w) X.A (f v u) Q X.xe s₂) X.xe s₁) X.xe s:=by
 refine thn (ha pins s σ H _ I h) fun v s1 ⟨x,H1,I1,r1,q1⟩=>?_
 refine thn (hb pins s1 σ H1 _ I1 q1) fun u s2 ⟨y,H2,I2,r2,q2⟩=>?_
 exact hf v u s2 x y H2 I2 r1 r2 q2
def tVar (i:Nat):TE:=fun σ H Q=>∃ v,σ[i]?=some (some v)/\Q v H
def tC (v:V):TE:=fun _ H Q=>Q v H
theorem pe_var {i:Nat} {x:Str} {pos:Pos} (hN:X.N[i]?=some x) (hv:Vis X.env.scope x) (hd:(x==("__debug__" : Str))=false:=by decide) (hcd:(x==("__classdict__" : Str))=false:=by decide):PE X (.Name x pos) (tVar i):=by
 intro pins s σ H Q I h
 obtain ⟨v,e,h⟩:=h
 obtain ⟨m,hn,hl⟩:=I.loc
 obtain ⟨u,r,l⟩:=hl i x v hN e hv
 have fin:EP X pins σ Q u s:=⟨v,H,I,r,h⟩
 rcases l with ⟨hk,hm⟩|⟨hk,c,hc,hcell⟩
 .exact wpAny_Name (wpAny_loadName_local I.ok.kind hk hn hm fin) hd
 .rcases hk with hk|hk
  .exact wpAny_Name (wpAny_loadName_cell I.ok.kind hk hc hcell fin) hd
  .exact wpAny_Name (wpAny_loadName_free I.ok.kind hk hc hcell fin hcd) hd
theorem Zac {i j pos}:PE X (.Constant (.int i) j pos) (tC (.int i)):=fun _ _ _ H _ I h=>wpAny_Constant_int ⟨.int i,H,I.tok _,⟨_,rfl⟩,h⟩
theorem ZcQ {b j pos}:PE X (.Constant (.bool b) j pos) (tC (.bl b)):=fun _ _ _ H _ I h=>Constant_bool ⟨.bl b,H,I,rfl,h⟩
theorem Zca {j pos}:PE X (.Constant .none j pos) (tC .non):=fun _ _ _ H _ I h=>Constant_none ⟨.non,H,I,rfl,h⟩
theorem Zai {x j pos}:PE X (.Constant (.str x) j pos) (tC (.str x)):=fun _ _ _ H _ I h=>Calls.Constant_str ⟨.str x,H,I.tok _,⟨_,rfl⟩,h⟩
def Gl (X:Cx) (x:Str):Prop:=X.env.kindOf x=some .globalImplicit
theorem ZhD {E:Value->Shared->Prop} {pins:List (Addr×Obj)} {s:Shared} {σ:St} {H:Hp} {x:Str} {u:Value} {pos:Pos} {Q:Value->Shared->Prop} (I:Inv X pins σ H s) (hg:Gl X x) (hm:X.mg x=some u) (h:Q u s)
  (hd:(x==("__debug__" : Str))=false:=by decide):wpAny (model X.prog X.w) X.A (eval (.Name x pos) X.env) Q E s :=
 Calls.Name_function_global I.ok.kind hg (Calls.loadGlobal_global (by rw [I.ok.glob];exact I.mod.glob.keeps I.bk) hm h) hd
theorem Zfn {E:Value->Shared->Prop} {pins:List (Addr×Obj)} {s:Shared} {σ:St} {H:Hp} {x:Str} {u:Value} {pos:Pos} {Q:Value->Shared->Prop} (I:Inv X pins σ H s) (hg:Gl X x) (hm:X.mg x=none) (hv:bootBuiltins x=some u) (h:Q u s)
  (hn:x ≠ "__name__" := by decide) (hd:(x==("__debug__" : Str))=false:=by decide):wpAny (model X.prog X.w) X.A (eval (.Name x pos) X.env) Q E s:=by
 obtain ⟨mb,h1,h2⟩:=I.mod.blt
 exact Calls.Name_function_global I.ok.kind hg (Calls.loadGlobal_builtin (by rw [I.ok.glob];exact I.mod.glob.keeps I.bk) hm (by rw [I.ok.blt];exact h1.keeps I.bk) ((h2 x hn).trans hv) h) hd
theorem ZnJ {x:Str} {v:V} {u:Value} {pos:Pos} (hg:Gl X x) (hm:X.mg x=some u) (r:RelV v u) (hd:(x==("__debug__" : Str))=false:=by decide):PE X (.Name x pos) (tC v) :=
 fun _ _ _ H _ I h=>ZhD I hg hm ⟨v,H,I,r,h⟩ hd
theorem ZnK {x:Str} {v:V} {u:Value} {pos:Pos} (hg:Gl X x) (hm:X.mg x=none) (hv:bootBuiltins x=some u) (r:RelV v u) (hn:x ≠ "__name__" := by decide) (hd:(x==("__debug__" : Str))=false:=by decide):PE X (.Name x pos) (tC v) :=
 fun _ _ _ H _ I h=>Zfn I hg hm hv ⟨v,H,I,r,h⟩ hn hd
def t2I (ta tb:TE) (k:Int->Int->Hp->Prop):St->Hp->Prop:=fun σ H=>ta σ H fun x H1=>tb σ H1 fun y H2=>∃ i j,x=.int i/\y=.int j/\k i j H2
variable {a b:Expr} {ta tb:TE} {pos:Pos}
def PC (X:Cx) (op:CmpOp) (a b:Expr) (t:TE):Prop :=
 ∀ (pins:List (Addr×Obj)) (s:Shared) (σ:St) (H:Hp) (Q:VK),Inv X pins σ H s->t σ H Q ->
  wpAny (model X.prog X.w) X.A (eval a X.env) (fun v s₁=>wpAny (model X.prog X.w) X.A (eval b X.env) (fun u s₂=>wpAny (model X.prog X.w) X.A (compareOp op v u) (EP X pins σ Q) X.xe s₂) X.xe s₁) X.xe s
theorem ZiE (b:Expr) {op:CmpOp} (h:op≠.In) (h2:op≠.NotIn):behindInMarks op b=false:=by
 have e1:(op==CmpOp.In)=false:=by cases op<;>first|rfl|exact absurd rfl h
 have e2:(op==CmpOp.NotIn)=false:=by cases op<;>first|rfl|exact absurd rfl h2
 cases b<;>simp [behindInMarks,e1,e2]
def tCmp (p:Int->Int->Bool) (ta tb:TE):TE:=fun σ H Q=>t2I ta tb (fun i j H2=>Q (.bl (p i j)) H2) σ H
abbrev tLt:TE->TE->TE:=tCmp fun i j=>decide (i<j)
abbrev tLe:TE->TE->TE:=tCmp fun i j=>decide (i<=j)
abbrev tGt:TE->TE->TE:=tCmp fun i j=>decide (j<i)
abbrev tGe:TE->TE->TE:=tCmp fun i j=>decide (j<=i)
abbrev tEqI:TE->TE->TE:=tCmp fun i j=>decide (i=j)
abbrev tNeI:TE->TE->TE:=tCmp fun i j=>!decide (i=j)
def tB (t:TE):TT:=fun σ H Q=>t σ H fun x H1=>∃ c,x=.bl c/\Q c H1
theorem pe_cmp {op:CmpOp} {t:TE} (h:PC X op a b t) (h1:behindInMarks op b=false:=by first|exact ZiE _ (by decide) (by decide)|rfl):PE X (.Compare a [op] [b] pos) t:=fun pins s σ H Q I hw=>wpAny_Compare1 (h pins s σ H Q I hw) h1
theorem pt_cmp {op:CmpOp} {t:TE} (h:PC X op a b t) (h1:behindInMarks op b=false:=by first|exact ZiE _ (by decide) (by decide)|rfl):PT X (.Compare a [op] [b] pos) (tB t):=by
 intro pins s σ H Q I hw
 refine wpAny_isTrue_Compare1 (thn (h pins s σ H _ I hw) fun v s1 h1=>thn h1 fun u s2 h2=>thn h2 fun c s3 ⟨x,H1,I1,r1,q1⟩=>?_) h1
 obtain ⟨d,rfl,q⟩:=q1
 cases r1
 exact wpAny_truthy_bool ⟨H1,I1,q⟩
theorem ZbP {e:Expr} {t:TE} (h:PE X e t) (he:∀ whole,isTrue e X.env whole=(do let v <- whole;standAt e.pos;holding [v] (truthy v)):=by intro _;rfl):PT X e (tB t):=by
 intro pins s σ H Q I hw
 refine isTrue_plain (thn (h pins s σ H _ I hw) fun v s1 ⟨x,H1,I1,r1,q1⟩=>?_) (he _)
 obtain ⟨d,rfl,q⟩:=q1
 cases r1
 exact wpAny_truthy_bool ⟨H1,I1,q⟩
variable {tA tB':TT} {rest:List Expr}
def tAnd (t u:TT):TT:=fun σ H Q=>t σ H fun c H1=>if c=true then u σ H1 Q else Q false H1
def tOr (t u:TT):TT:=fun σ H Q=>t σ H fun c H1=>if c=true then Q true H1 else u σ H1 Q
def tNot (t:TT):TT:=fun σ H Q=>t σ H fun c H1=>Q (!c) H1
theorem ZfD (ha:PT X a tA):PW X (.BoolOp .And [a] pos) tA:=by
 intro wh pins s σ H Q I h
 refine isTrue_and (thn (ha pins s σ H Q I h) fun c s1 e=>?_)
 cases c with
 | true=>exact isTrue_and_nil e
 | false=>exact e
theorem Zgv (ha:PT X a tA):PW X (.BoolOp .Or [a] pos) tA:=by
 intro wh pins s σ H Q I h
 refine isTrue_or (thn (ha pins s σ H Q I h) fun c s1 e=>?_)
 cases c with
 | false=>exact isTrue_or_nil e
 | true=>exact e
theorem ZiF (ha:PT X a tA) (hb:PW X (.BoolOp .And (b::rest) pos) tB'):PW X (.BoolOp .And (a::b::rest) pos) (tAnd tA tB'):=by
 intro wh pins s σ H Q I h
 refine isTrue_and (thn (ha pins s σ H _ I h) fun c s1 ⟨H1,I1,q1⟩=>?_)
 cases c with
 | true=>exact hb wh pins s1 σ H1 Q I1 q1
 | false=>exact ⟨H1,I1,q1⟩
theorem ZfE (ha:PT X a tA) (hb:PW X (.BoolOp .Or (b::rest) pos) tB'):PW X (.BoolOp .Or (a::b::rest) pos) (tOr tA tB'):=by
 intro wh pins s σ H Q I h
 refine isTrue_or (thn (ha pins s σ H _ I h) fun c s1 ⟨H1,I1,q1⟩=>?_)
 cases c with
 | true=>exact ⟨H1,I1,q1⟩
 | false=>exact hb wh pins s1 σ H1 Q I1 q1
theorem Zdg (ha:PT X a tA):PT X (.UnaryOp .Not a pos) (tNot tA):=by
 intro pins s σ H Q I h
 exact isTrue_not (ha pins s σ H (fun c H1=>Q (!c) H1) I h)
def tAndV (ta tb:TE):TE:=fun σ H Q=>ta σ H fun x H1=>∃ c,x=.bl c/\if c=true then tb σ H1 Q else Q (.bl false) H1
def tOrV (ta tb:TE):TE:=fun σ H Q=>ta σ H fun x H1=>∃ c,x=.bl c/\if c=true then Q (.bl true) H1 else tb σ H1 Q
def tNotV (ta:TE):TE:=fun σ H Q=>ta σ H fun x H1=>∃ c,x=.bl c/\Q (.bl (!c)) H1
theorem Zbr {op} {t:TE} (h:PE X a t):PE X (.BoolOp op [a] pos) t:=fun pins s σ H Q I hw=>BoolOp_one (h pins s σ H Q I hw)
theorem Zbs (ha:PE X a ta) (hb:PE X (.BoolOp .And (b::rest) pos) tb):PE X (.BoolOp .And (a::b::rest) pos) (tAndV ta tb):=by
 intro pins s σ H Q I h
 refine BoolOp_and (thn (ha pins s σ H _ I h) fun v s1 ⟨x,H1,I1,r1,q1⟩=>?_)
 obtain ⟨c,rfl,q1⟩:=q1
 cases r1
 refine wpAny_truthy_bool ?_
 cases c with
 | true=>exact hb pins s1 σ H1 Q I1 q1
 | false=>exact ⟨.bl false,H1,I1,rfl,q1⟩
theorem ZjX (ha:PE X a ta) (hb:PE X (.BoolOp .Or (b::rest) pos) tb):PE X (.BoolOp .Or (a::b::rest) pos) (tOrV ta tb):=by
 intro pins s σ H Q I h
 refine BoolOp_or (thn (ha pins s σ H _ I h) fun v s1 ⟨x,H1,I1,r1,q1⟩=>?_)
 obtain ⟨c,rfl,q1⟩:=q1
 cases r1
 refine wpAny_truthy_bool ?_
 cases c with
 | false=>exact hb pins s1 σ H1 Q I1 q1
 | true=>exact ⟨.bl true,H1,I1,rfl,q1⟩
theorem pe_not (ha:PE X a ta):PE X (.UnaryOp .Not a pos) (tNotV ta):=by
 intro pins s σ H Q I h
 refine UnaryOp_ (thn (ha pins s σ H _ I h) fun v s1 ⟨x,H1,I1,r1,q1⟩=>?_)
 obtain ⟨c,rfl,q1⟩:=q1
 cases r1
 exact not_of (wpAny_truthy_bool ⟨.bl (!c),H1,I1,rfl,q1⟩)
def tIf (t:TT) (ta tb:TE):TE:=fun σ H Q=>t σ H fun c H1=>if c=true then ta σ H1 Q else tb σ H1 Q
theorem Zec {c:Expr} (hc:PT X c tA) (ha:PE X a ta) (hb:PE X b tb):PE X (.IfExp c a b pos) (tIf tA ta tb):=by
 intro pins s σ H Q I h
 refine wpAny_IfExp (thn (hc pins s σ H _ I h) fun d s1 ⟨H1,I1,q1⟩=>?_)
 cases d with
 | true=>exact ha pins s1 σ H1 Q I1 q1
 | false=>exact hb pins s1 σ H1 Q I1 q1
end
def SqL (K:PySem.W.Frag) (H:Hp) (a:Addr) (xs:List V):Prop :=
 Rd H a (.lst xs) \/
  ∃ (o:Obj) (its:Array Value) (n:Nat),K.lookup a=some o/\o.cls=.type "list" /\ o.dict=none/\o.data=.seq its n/\its.size<=sizeLine/\Vals xs its.toList
def SqT (K:PySem.W.Frag) (H:Hp) (a:Addr) (xs:List V):Prop :=
 Rd H a (.tup xs) \/
  ∃ (o:Obj) (its:Array Value) (n:Nat),K.lookup a=some o/\o.cls=.type "tuple" /\ o.data=.seq its n/\its.size<=sizeLine/\Vals xs its.toList
noncomputable def absV:Value->Option V
 | .none=>some .non
 | .bool b=>some (.bl b)
 | .int i _=>some (.int i)
 | .str x _=>some (.str x)
 | .bytes b _=>some (.byt b)
 | .float b _=>some (.flt b)
 | .ref a=>some (.ref a)
 | .type n=>some (.ty n)
 | _=>none
theorem RelV.abs {x:V} {u:Value} (r:RelV x u):absV u=some x:=by
 cases x with
 | non=>cases r;rfl
 | bl _=>cases r;rfl
 | int _=>obtain ⟨t,rfl⟩:=r;rfl
 | str _=>obtain ⟨t,rfl⟩:=r;rfl
 | byt _=>obtain ⟨t,rfl⟩:=r;rfl
 | flt _=>obtain ⟨t,rfl⟩:=r;rfl
 | ref _=>cases r;rfl
 | ty _=>cases r;rfl
theorem RelV.inj {x y:V} {u:Value} (r:RelV x u) (q:RelV y u):x=y:=Option.some.inj (r.abs.symm.trans q.abs)
theorem Vals.inj:∀ {xs ys:List V} {us:List Value},Vals xs us->Vals ys us->xs=ys
 | _,_,_,.nil,.nil=>rfl
 | _,_,_,.cons r t,.cons r' t'=>by rw [r.inj r',Vals.inj t t']
section
variable {X:Cx} {pins:List (Addr×Obj)} {σ:St} {H:Hp} {s:Shared} {a:Addr} {xs ys:List V}
theorem SqL.of {K:PySem.W.Frag} (h:H a=some (.lst xs)):SqL K H a xs:=.inl (.inl h)
theorem SqT.of {K:PySem.W.Frag} (h:H a=some (.tup xs)):SqT K H a xs:=.inl (.inl h)
theorem Inv.list (I:Inv X pins σ H s) (h:SqL X.K H a xs):∃ its:List Value,Vals xs its/\PlainL s.heap a its.toArray/\xs.length<=sizeLine:=by
 rcases h with h|⟨o,its,n,hk,hc,hd,hs,hz,r⟩
 .obtain ⟨z,its,n,r,e⟩:=h.ok I.hok
  exact ⟨its,r,⟨_,n,e,rfl,rfl,rfl⟩,z⟩
 .refine ⟨its.toList,r,⟨o,n,I.kIn a o hk,hc,hd,by simpa using hs⟩,?_⟩
  have e:=r.length
  simp only [Array.length_toList] at e
  omega
theorem Inv.tuple (I:Inv X pins σ H s) (h:SqT X.K H a xs):∃ its:List Value,Vals xs its/\IsTup s.heap a its.toArray/\xs.length<=sizeLine:=by
 rcases h with h|⟨o,its,n,hk,hc,hs,hz,r⟩
 .obtain ⟨z,its,r,p⟩:=h.ok I.hok
  exact ⟨its,r,p,z⟩
 .refine ⟨its.toList,r,⟨o,I.kIn a o hk,hc,n,by simpa using hs⟩,?_⟩
  have e:=r.length
  simp only [Array.length_toList] at e
  omega
theorem Inv.list_inj (I:Inv X pins σ H s) (h:SqL X.K H a xs) (h':SqL X.K H a ys):xs=ys:=by
 obtain ⟨its,r,⟨o,n,e,_,_,d⟩,_⟩:=I.list h
 obtain ⟨its',r',⟨o',n',e',_,_,d'⟩,_⟩:=I.list h'
 rw [e] at e';cases e'
 rw [d] at d'
 injection d' with d1 _
 have:its=its':=by simpa using congrArg Array.toList d1
 subst this
 exact r.inj r'
theorem Inv.tuple_inj (I:Inv X pins σ H s) (h:SqT X.K H a xs) (h':SqT X.K H a ys):xs=ys:=by
 obtain ⟨its,r,⟨o,e,_,n,d⟩,_⟩:=I.tuple h
 obtain ⟨its',r',⟨o',e',_,n',d'⟩,_⟩:=I.tuple h'
 rw [e] at e';cases e'
 rw [d] at d'
 injection d' with d1 _
 have:its=its':=by simpa using congrArg Array.toList d1
 subst this
 exact r.inj r'
end
noncomputable abbrev Cx.wish (X:Cx) (E:Value->Shared->Prop):Cx:={ X with xe:=E }
noncomputable abbrev Cx.nox (X:Cx):Cx:=X.wish fun _ _=>False
theorem Cx.Ok.wish {X:Cx} (ok:X.Ok) (E:Value->Shared->Prop):(X.wish E).Ok :=
 ⟨ok.mod,ok.kind,ok.glob,ok.blt,ok.above,ok.inj,ok.has,ok.cab,ok.hd,ok.frames,ok.stk,ok.exf,ok.bs,ok.bsz,ok.noex,ok.exfs,ok.funs,ok.frf⟩
theorem Cx.Ok.unwish {X:Cx} {E:Value->Shared->Prop} (ok:(X.wish E).Ok):X.Ok :=
 ⟨ok.mod,ok.kind,ok.glob,ok.blt,ok.above,ok.inj,ok.has,ok.cab,ok.hd,ok.frames,ok.stk,ok.exf,ok.bs,ok.bsz,ok.noex,ok.exfs,ok.funs,ok.frf⟩
section
variable {X:Cx} {pins:List (Addr×Obj)} {σ:St} {H:Hp} {s:Shared} {E:Value->Shared->Prop}
theorem Inv.wish (I:Inv X pins σ H s) (E:Value->Shared->Prop):Inv (X.wish E) pins σ H s:=⟨I.ok.wish E,I.os,I.bare,I.base,I.loc,I.cell,I.free,I.freeC,I.pin,I.hok,I.len⟩
theorem Inv.unwish (I:Inv (X.wish E) pins σ H s):Inv X pins σ H s:=⟨I.ok.unwish,I.os,I.bare,I.base,I.loc,I.cell,I.free,I.freeC,I.pin,I.hok,I.len⟩
theorem SP.unwish {D:Ends} {f:Flow} {s':Shared} (h:SP (X.wish E) pins D f s'):SP X pins D f s':=by
 cases f with
 | next=>obtain ⟨σ',H',I,q⟩:=h;exact ⟨σ',H',I.unwish,q⟩
 | brk=>obtain ⟨σ',H',I,q⟩:=h;exact ⟨σ',H',I.unwish,q⟩
 | cont=>obtain ⟨σ',H',I,q⟩:=h;exact ⟨σ',H',I.unwish,q⟩
 | ret u=>obtain ⟨v,σ',H',I,r,q⟩:=h;exact ⟨v,σ',H',I.unwish,r,q⟩
theorem PE.nox {e:Expr} {t:TE} (h:PE X.nox e t):PE X e t:=fun pins s σ H Q I hw =>
 wpAny_mono (h pins s σ H Q (I.wish _) hw) (fun _ _ ⟨v,H',I',r,q⟩=>⟨v,H',I'.unwish,r,q⟩) fun _ _ z=>False.elim z
theorem PT.nox {e:Expr} {t:TT} (h:PT X.nox e t):PT X e t:=fun pins s σ H Q I hw =>
 wpAny_mono (h pins s σ H Q (I.wish _) hw) (fun _ _ ⟨H',I',q⟩=>⟨H',I'.unwish,q⟩) fun _ _ z=>False.elim z
theorem PSs.nox {st:List Stmt} {t:TS} (h:PSs X.nox st t):PSs X st t:=fun pins s σ H D I hw =>
 wpAny_mono (h pins s σ H D (I.wish _) hw) (fun _ _ q=>q.unwish) fun _ _ z=>False.elim z
end
section
variable {X:Cx} {st:Stmt} {rest:List Stmt} {t u:TS} {e:Expr} {te:TE} {pos:Pos}
def tNext:TS:=fun D σ H=>D.nx σ H
def tSeq (t u:TS):TS:=fun D σ H=>t { D with nx:=u D } σ H
theorem Zap:PSs X [] tNext:=fun _ _ σ H _ I h=>wpAny_execs_nil ⟨σ,H,I,h⟩
theorem Zab (h1:PS X st t) (h2:PSs X rest u):PSs X (st::rest) (tSeq t u):=by
 intro pins s σ H D I h
 refine wpAny_execs_cons (thn (h1 pins s σ H { D with nx:=u D } I h) fun f s1 q=>?_)
 cases f with
 | next =>
  obtain ⟨σ',H',I',q⟩:=q
  exact h2 pins s1 σ' H' D I' q
 | ret v=>exact q
 | brk=>exact q
 | cont=>exact q
theorem Zae (h1:PS X st t):PSs X [st] t:=by
 intro pins s σ H D I h
 refine wpAny_execs_cons (thn (h1 pins s σ H D I h) fun f s1 q=>?_)
 cases f with
 | next=>exact wpAny_execs_nil q
 | ret v=>exact q
 | brk=>exact q
 | cont=>exact q
theorem ZjY:PS X (.Pass pos) tNext:=fun _ _ σ H _ I h=>wpAny_Pass ⟨σ,H,I,h⟩
theorem Inv.quiet {pins:List (Addr×Obj)} {σ:St} {H:Hp} {s:Shared} (I:Inv X pins σ H s):interactive X.env=false:=by simp [interactive,I.ok.kind]
def tDrop (te:TE):TS:=fun D σ H=>te σ H fun _ H1=>D.nx σ H1
theorem ZaF (he:PE X e te) (hs:swapsWith e none pos.line X.env=pure false:=by rfl):PS X (.Expr e pos) (tDrop te):=by
 intro pins s σ H D I h
 exact wpAny_Expr_any (thn (he pins s σ H _ I h) fun v s1 ⟨x,H1,I1,r1,q1⟩=>⟨σ,H1,I1,q1⟩) I.quiet hs
def tRet (te:TE):TS:=fun D σ H=>te σ H D.rt
theorem Zak (he:PE X e te):PS X (.Return (some e) pos) (tRet te):=by
 intro pins s σ H D I h
 exact wpAny_Return_some (thn (he pins s σ H _ I h) fun v s1 ⟨x,H1,I1,r1,q1⟩=>⟨x,σ,H1,I1,r1,q1⟩)
def tRetN:TS:=fun D _ H=>D.rt .non H
theorem ZnL:PS X (.Return none pos) tRetN:=fun _ _ σ H _ I h=>wpAny_Return_none ⟨.non,σ,H,I,rfl,h⟩
def tIfS (c:TT) (t u:TS):TS:=fun D σ H=>c σ H fun b H1=>if b=true then t D σ H1 else u D σ H1
theorem ZaK {c:Expr} {a b:List Stmt} {tc:TT} (hc:PT X c tc) (ha:PSs X a t) (hb:PSs X b u):PS X (.If c a b pos) (tIfS tc t u):=by
 intro pins s σ H D I h
 refine wpAny_If (thn (hc pins s σ H _ I h) fun d s1 ⟨H1,I1,q1⟩=>?_)
 cases d with
 | true=>exact ha pins s1 σ H1 D I1 q1
 | false=>exact hb pins s1 σ H1 D I1 q1
end
abbrev TG:=V->St->Hp->(St->Hp->Prop)->Prop
abbrev TGs:=List V->St->Hp->(St->Hp->Prop)->Prop
def PG (X:Cx) (target:Expr) (t:TG):Prop :=
 ∀ (pins:List (Addr×Obj)) (s:Shared) (σ:St) (H:Hp) (v:V) (u:Value) (Q:St->Hp->Prop),Inv X pins σ H s->RelV v u->t v σ H Q ->
  wpAny (model X.prog X.w) X.A (assign target X.env u) (fun _ s'=>∃ σ' H',Inv X pins σ' H' s'/\Q σ' H') X.xe s
abbrev TSet:=V->V->V->Hp->(Hp->Prop)->Prop
def PSet (X:Cx) (t:TSet):Prop :=
 ∀ (pins:List (Addr×Obj)) (s:Shared) (σ:St) (H:Hp) (o i v:V) (ov iv u:Value) (Q:Hp->Prop),Inv X pins σ H s->RelV o ov->RelV i iv->RelV v u->t o i v H Q ->
  wpAny (model X.prog X.w) X.A (setItem ov iv u) (fun _ s'=>∃ H',Inv X pins σ H' s'/\Q H') X.xe s
abbrev TIp:=V->V->Hp->VK->Prop
section
variable {X:Cx} {pos:Pos}
def gName (i:Nat):TG:=fun v σ H Q=>Q (σ.set i (some v)) H
theorem Zcd {i:Nat} {x:Str} (hN:X.N.Nodup) (hi:X.N[i]?=some x) (hx:Loc X.env.scope x) (hf:X.fn x=true\/X.env.scope.names.lookup x=some .local:=by first|exact .inl rfl|exact .inr rfl|assumption):PG X (.Name x pos) (gName i):=by
 intro pins s σ H v u Q I r h
 exact wpAny_assign_Name (ZiD I hN hi hx r (fun s' I'=>⟨_,H,I',h⟩) hf)
def gSub (to ti:TE) (t:TSet):TG:=fun v σ H Q=>to σ H fun o H1=>ti σ H1 fun i H2=>t o i v H2 fun H3=>Q σ H3
theorem ZiG {o i:Expr} {to ti:TE} {t:TSet} (ho:PE X o to) (hi:PE X i ti) (hs:PSet X t)
  (ha:∀ v,assign (.Subscript o i pos) X.env v=(do
   let ov <- holding [v] (eval o X.env)
   let iv <- holding [v,ov] (eval i X.env)
   standAt pos
   holding [v,ov,iv] (setItem ov iv v)
   release [v,ov,iv] []):=by intro _;rfl):PG X (.Subscript o i pos) (gSub to ti t):=by
 intro pins s σ H v u Q I r h
 rw [ha]
 refine wpAny_bind (wpAny_holding (thn (ho pins s σ H _ I h) fun ov s1 ⟨x,H1,I1,r1,q1⟩=>?_))
 refine wpAny_bind (wpAny_holding (thn (hi pins s1 σ H1 _ I1 q1) fun iv s2 ⟨y,H2,I2,r2,q2⟩=>?_))
 refine wpAny_bind (wpAny_standAt (wpAny_bind (wpAny_holding (thn (hs pins s2 σ H2 x y v ov iv u _ I2 r1 r2 r q2) fun _ s3 ⟨H3,I3,q3⟩=>?_))))
 exact wpAny_release ⟨σ,H3,I3,q3⟩
def tAsg (te:TE) (g:TG):TS:=fun D σ H=>te σ H fun x H1=>g x σ H1 D.nx
theorem ZiH {tg e:Expr} {te:TE} {g:TG} (he:PE X e te) (hg:PG X tg g) (hs:swapsWithSole [tg] e pos.line X.env=pure false:=by rfl) (hw:swappedStores [tg] e X.env=pure none:=by rfl)
  (h1:(assignEach [tg] X.env).map (·.2)=[assign tg X.env]:=by rfl):PS X (.Assign [tg] e pos) (tAsg te g):=by
 intro pins s σ H D I h
 refine wpAny_Assign_stores (thn (he pins s σ H _ I h) fun v s1 ⟨x,H1,I1,r1,q1⟩=>?_) hs hw
 rw [h1]
 exact thn (hg pins s1 σ H1 x v _ I1 r1 q1) fun _ s2 q=>q
theorem Zay {i:Nat} {x:Str} {e:Expr} {te:TE} {pos':Pos} (hN:X.N.Nodup) (hi:X.N[i]?=some x) (hx:Loc X.env.scope x) (he:PE X e te) (hs:swapsWith e (some (.Name x pos')) pos.line X.env=pure false:=by rfl) (hf:X.fn x=true\/X.env.scope.names.lookup x=some .local:=by first|exact .inl rfl|exact .inr rfl|assumption) :
  PS X (.Assign [.Name x pos'] e pos) (tAsg te (gName i)):=by
 intro pins s σ H D I h
 refine wpAny_Assign_Name (thn (he pins s σ H _ I h) fun v s1 ⟨y,H1,I1,r1,q1⟩=>?_) hs
 exact ZiD I1 hN hi hx r1 (fun s2 I2=>⟨_,H1,I2,q1⟩) hf
end
section
variable {X:Cx} {pos:Pos}
def tWhile (c:TT) (tb:TS):TS:=fun D σ H=>∃ W:Nat->St->Hp->Prop,(∃ m,W m σ H)/\∀ m σ H,W m σ H ->
 c σ H fun b H1=>if b=true then ∃ N:St->Hp->Prop,(∀ σ' H',N σ' H'->∃ m',m'<m/\W m' σ' H')/\tb { D with nx:=N,ct:=N,bk:=D.nx } σ H1 else D.nx σ H1
theorem ZfF {c:Expr} {body:List Stmt} {tc:TT} {tb:TS} (hp:PassesOwn (model X.prog X.w) X.A X.env X.xe) (hc:PT X c tc) (hb:PSs X body tb):PS X (.While c body [] pos) (tWhile tc tb):=by
 intro pins s σ H D I h
 obtain ⟨W,⟨m0,w0⟩,turn⟩:=h
 refine wpAny_While (codeAny_whileLoop (fun n s'=>∃ σ' H',Inv X pins σ' H' s'/\W n σ' H') ?_ m0 ⟨σ,H,I,w0⟩)
 rintro n s1 ⟨σ1,H1,I1,w1⟩
 refine wpAny_passesOwn hp (thn (hc pins s1 σ1 H1 _ I1 (turn n σ1 H1 w1)) fun b s2 ⟨H2,I2,q2⟩=>?_)
 cases b with
 | true =>
  obtain ⟨N,hN,q2⟩:=q2
  rw [if_pos rfl]
  refine wpAny_passesOwn hp (thn (hb pins s2 σ1 H2 _ I2 q2) fun f s3 q3=>?_)
  cases f with
  | next =>
   obtain ⟨σ3,H3,I3,n3⟩:=q3
   obtain ⟨m',hm,w3⟩:=hN σ3 H3 n3
   exact ⟨m',hm,σ3,H3,I3,w3⟩
  | cont =>
   obtain ⟨σ3,H3,I3,n3⟩:=q3
   obtain ⟨m',hm,w3⟩:=hN σ3 H3 n3
   exact ⟨m',hm,σ3,H3,I3,w3⟩
  | brk=>exact q3
  | ret v=>exact q3
 | false =>
  rw [if_neg Bool.false_ne_true]
  exact wpAny_execs_nil ⟨σ1,H2,I2,q2⟩
end
structure It where
 go:Nat->Hp->Prop
 yld:Nat->Hp->V->Hp->Prop
 stop:Nat->Hp->Prop
def FpOk (X:Cx) (pins:List (Addr×Obj)) (H:Hp) (b:Addr):Prop :=
 H b=none/\b≠X.env.locals/\b∉X.fs/\(b∈X.ex\/X.s₀.heap.objs.size<=b)/\(∀ x c,X.env.cells.lookup x=some c->c≠b)/\∀ p∈X.pn++pins,p.1≠b
theorem Inv.fpOk {X:Cx} {pins:List (Addr×Obj)} {σ:St} {H H':Hp} {s:Shared} {b:Addr} (I:Inv X pins σ H s) (hb:s.heap.objs.size<=b) (hn:H' b=none):FpOk X pins H' b:=by
 refine ⟨hn,Nat.ne_of_gt (Nat.lt_of_lt_of_le I.lt hb),I.nofs hb,.inr (Nat.le_trans I.sz hb),fun x c e z=>?_,fun p hp z=>?_⟩
 .obtain ⟨v,q⟩:=I.cell x c e
  exact absurd (Nat.lt_of_lt_of_le q.lt (by rw [z];exact hb)) (Nat.lt_irrefl _)
 .exact absurd (Nat.lt_of_lt_of_le (Heap.lt_size (I.pin p hp).1) (by rw [z];exact hb)) (Nat.lt_irrefl _)
structure Turn (P:Program) (w:World) (K:PySem.W.Frag) (tg:Expr) (J:It) (fp:List Addr) (it:Addr) (tn:Nat->Heap->Prop):Prop where
 mem:it∈fp
 obj:∀ i h,tn i h->∀ b∈fp,∃ o,h.get? b=some o/\∀ v,o.data≠.cell v
 keep:∀ i h h',tn i h->(∀ b∈fp,∀ o,h.get? b=some o->h'.get? b=some o)->tn i h'
 item:∀ (X:Cx),X.prog=P->X.w=w->X.K=K->X.calm=true->∀ (i:Nat) (pins:List (Addr×Obj)) (s:Shared) (σ:St) (H:Hp) (E:Value->Shared->Prop),Inv X pins σ H s->(∀ b∈fp,FpOk X pins H b)->tn i s.heap->J.go i H ->
  wpAny (model P w) X.A (pyNext (.ref it)) (fun r s1=>∃ u,r=some u /\
   wpAny (model P w) X.A (letOwnedTupleGo tg (.ref it) u) (fun _ s2=>∃ x H',Inv X pins σ H' s2/\RelV x u/\J.yld i H x H'/\tn (i+1) s2.heap/\∀ b∈fp,H' b=none) E s1) E s
 done:∀ (X:Cx),X.prog=P->X.w=w->X.K=K->X.calm=true->∀ (i:Nat) (pins:List (Addr×Obj)) (s:Shared) (σ:St) (H:Hp) (E:Value->Shared->Prop),Inv X pins σ H s->(∀ b∈fp,FpOk X pins H b)->tn i s.heap->J.stop i H ->
  wpAny (model P w) X.A (pyNext (.ref it)) (fun r s1=>r=none/\Inv X pins σ H s1) E s
 self:∀ (A:Around) (i:Nat) (s:Shared) (Q:Value->Shared->Prop) (E:Value->Shared->Prop),tn i s.heap->Q (.ref it) s->wpAny (model P w) A (pyIter (.ref it)) Q E s
abbrev TI:=St->Hp->(It->Hp->Prop)->Prop
def PIE (X:Cx) (pins:List (Addr×Obj)) (σ:St) (tg:Expr) (R:It->Hp->Prop) (itv:Value) (s2:Shared):Prop :=
 ∃ (it:Addr) (fp:List Addr) (tn:Nat->Heap->Prop) (J:It) (H':Hp),itv=.ref it/\Inv X pins σ H' s2/\Turn X.prog X.w X.K tg J fp it tn/\tn 0 s2.heap/\(∀ b∈fp,FpOk X pins H' b)/\R J H'
def PI (X:Cx) (tg iter:Expr) (wi:TI):Prop :=
 ∀ (pins:List (Addr×Obj)) (s:Shared) (σ:St) (H:Hp) (R:It->Hp->Prop),Inv X pins σ H s->wi σ H R ->
  wpAny (model X.prog X.w) X.A (eval iter X.env) (fun v s1=>wpAny (model X.prog X.w) X.A (pyIter v) (PIE X pins σ tg R) X.xe s1) X.xe s
theorem go_of {M:Model} {A:Around} {E:Value->Shared->Prop} {s:Shared} {tg:Expr} {it:Addr} {u:Value} {o:Obj} {n:String} {vs:Array Value} {Q:Unit->Shared->Prop} (ho:s.heap.get? it=some o) (hc:o.cls=.type n) (hd:o.data=.fields vs)
  (hn:["enumerate", "zip", "dict_itemiterator", "dict_reverseitemiterator", "odict_iterator", "itertools.zip_longest", "itertools.pairwise"].contains n=false) (hQ:Q () s):wpAny M A (letOwnedTupleGo tg (.ref it) u) Q E s:=by
 unfold letOwnedTupleGo
 cases tg<;>first
  | exact wpAny_pure hQ
  | (cases u<;>first
    | exact wpAny_pure hQ
    | (refine wpAny_bind (wpAny_load ho ?_)
       rw [hc,hd]
       show wpAny M A (if (["enumerate", "zip", "dict_itemiterator", "dict_reverseitemiterator", "odict_iterator", "itertools.zip_longest", "itertools.pairwise"].contains n&&vs[0]?==some (rawInt _))=true then _ else _) Q E s
       rw [if_neg (by intro h;rw [hn,Bool.false_and] at h;cases h)]
       exact wpAny_pure hQ))
noncomputable def Itl (K:PySem.W.Frag) (a:Addr):It :=
 ⟨fun i H=>∃ xs x,SqL K H a xs/\xs[i]?=some x,fun i H x H'=>H'=H/\∀ xs,SqL K H a xs->xs[i]?=some x,fun i H=>∃ xs,SqL K H a xs/\xs.length<=i⟩
noncomputable def Itr (lo:Int) (n:Nat):It:=⟨fun i _=>i<n,fun i H x H'=>H'=H/\x=.int (lo+i),fun i _=>n<=i⟩
theorem ZjZ {P:Program} {w:World} {K:PySem.W.Frag} {tg:Expr} (a it:Addr):Turn P w K tg (Itl K a) [it] it (fun i h=>h.IsListIter it a i) where
 mem:=by simp
 obj:=fun i h st b hb=>by
  have e:b=it:=by simpa using hb
  subst e
  obtain ⟨o,e,c,d⟩:=st
  exact ⟨o,e,fun v z=>by rw [d] at z;cases z⟩
 keep:=fun i h h' st k=>st.at fun o e=>k it (by simp) o e
 item:=by
  intro X hP hw hK hc i pins s σ H E I hf st hg
  subst hP hw hK
  obtain ⟨xs,x,hq,hx⟩:=hg
  obtain ⟨its,rv,p,hz⟩:=I.list hq
  obtain ⟨u,hu,ru⟩:=rv.get hx
  obtain ⟨f0,f1,f2,f3,f4,f5⟩:=hf it (by simp)
  refine wpAny_pyNext_list_item st p.isList (x:=u) (by simpa using hu) fun h' st' sb=>?_
  have I1:Inv X pins σ H { s with heap:=h' }:=I.turned (t':=s.toks) (fun b o hb e=>(sb.2 b hb).trans e) f0 f1 f3 f4 f5
  obtain ⟨o,e,c,d⟩:=id st'
  exact ⟨u,rfl,go_of (s:={ s with heap:=h' }) e c d (by decide) ⟨x,H,I1,ru,⟨rfl,fun ys hy=>by rw [I.list_inj hy hq];exact hx⟩,st',fun b hb=>(hf b hb).1⟩⟩
 done:=by
  intro X hP hw hK hc i pins s σ H E I hf st hg
  subst hP hw hK
  obtain ⟨xs,hq,hx⟩:=hg
  obtain ⟨its,rv,p,hz⟩:=I.list hq
  obtain ⟨f0,f1,f2,f3,f4,f5⟩:=hf it (by simp)
  have hl:=rv.length
  exact wpAny_pyNext_list_end (I.ok.hd hc) st p.isList (by simp;omega) fun h' eb=>⟨rfl,I.turned (t':=s.toks) (fun b o hb e=>eb b o hb e) f0 f1 f3 f4 f5⟩
 self:=fun _ _ _ _ _ st h=>wpAny_pyIter_listiter st h
theorem Zjk {P:Program} {w:World} {K:PySem.W.Frag} {tg:Expr} (it:Addr) (lo:Int) (n:Nat):Turn P w K tg (Itr lo n) [it] it (fun i h=>IsRangeIter h it (lo+(i:Nat)*1) ((n:Int)-(i:Nat)) 1) where
 mem:=by simp
 obj:=fun i h st b hb=>by
  have e:b=it:=by simpa using hb
  subst e
  exact ⟨_,st,fun v z=>by
   have z':Data.fields _=Data.cell v:=z
   cases z'⟩
 keep:=fun i h h' st k=>k it (by simp) _ st
 item:=by
  intro X hP hw hK hc i pins s σ H E I hf st hg
  subst hP hw hK
  obtain ⟨f0,f1,f2,f3,f4,f5⟩:=hf it (by simp)
  have W:=Walks.range (prog:=X.prog) (w:=X.w) (I.ok.hd hc) it lo 1 n
  refine W.item i s _ _ hg st fun v h' tk hv st' kk=>?_
  obtain ⟨t,rfl⟩:=hv
  have I1:Inv X pins σ H { s with heap:=h',toks:=tk }:=I.turned (fun b o hb e=>kk b o (by simpa using hb) e) f0 f1 f3 f4 f5
  refine ⟨_,rfl,go_of (s:={ s with heap:=h',toks:=tk }) (n := "range_iterator") st' rfl rfl (by decide) ⟨.int (lo+i),H,I1,⟨t,?_⟩,⟨rfl,rfl⟩,st',fun b hb=>(hf b hb).1⟩⟩
  rw [Int.mul_one]
 done:=by
  intro X hP hw hK hc i pins s σ H E I hf st hg
  subst hP hw hK
  obtain ⟨f0,f1,f2,f3,f4,f5⟩:=hf it (by simp)
  exact wpAny_pyNext_range_end (I.ok.hd hc) st (by have:n<=i:=hg;omega) fun h' eb=>⟨rfl,I.turned (t':=s.toks) (fun b o hb e=>eb b o hb e) f0 f1 f3 f4 f5⟩
 self:=fun _ _ _ _ _ st h=>wpAny_pyIter_rangeiter st h
section
variable {X:Cx} {tg:Expr}
def iList (K:PySem.W.Frag) (tl:TE):TI:=fun σ H R=>tl σ H fun x H1=>∃ a,x=.ref a/\(∃ xs,SqL K H1 a xs)/\R (Itl K a) H1
theorem ZhE {l:Expr} {tl:TE} (hl:PE X l tl):PI X tg l (iList X.K tl):=by
 intro pins s σ H R I h
 refine thn (hl pins s σ H _ I h) fun v s1 ⟨x,H1,I1,r1,q1⟩=>?_
 obtain ⟨a,e,⟨xs,hq⟩,q⟩:=q1
 subst e
 cases r1
 obtain ⟨its,rv,p,hz⟩:=I1.list hq
 refine wpAny_pyIter_list p.isList ?_
 refine ⟨s1.heap.objs.size,[s1.heap.objs.size],_,_,H1,rfl,I1.kept (t':=s1.toks) fun b o e=>Heap.get?_push_of_some _ e,ZjZ a _,⟨_,Heap.get?_push_size _ rfl,rfl,rfl⟩,fun b hb=>?_,q⟩
 have e:b=s1.heap.objs.size:=by simpa using hb
 subst e
 exact I1.fpOk (Nat.le_refl _) (I1.hok.fresh (Nat.le_refl _))
theorem Zl2 {pins:List (Addr×Obj)} {σ:St} {H:Hp} {s:Shared} {R:It->Hp->Prop} {E:Value->Shared->Prop} {lo hi:Int} {t u v:Tok} {tk:Nat} (I:Inv X pins σ H s) (h1:-(2 ^ 62)<=lo) (h2:lo<2 ^ 62) (h3:-(2 ^ 62)<=hi) (h4:hi<2 ^ 62)
  (q:R (Itr lo (hi-lo).toNat) H):wpAny (model X.prog X.w) X.A (pyIter (.ref s.heap.objs.size)) (PIE X pins σ tg R) E { s with heap:=s.heap.push { cls:=.type "range", data:=.fields #[.int lo t,.int hi u,.int 1 v] },toks:=tk }:=by
 refine wpAny_pyIter_range (IsRange.new ..) (small_one h1 h2 h3 h4) ?_
 have I1:Inv X pins σ H { s with heap:=s.heap.push { cls:=.type "range", data:=.fields #[.int lo t,.int hi u,.int 1 v] },toks:=tk }:=I.kept fun b o e=>Heap.get?_push_of_some _ e
 refine ⟨(s.heap.push { cls:=.type "range", data:=.fields #[.int lo t,.int hi u,.int 1 v] }).objs.size,[(s.heap.push { cls:=.type "range", data:=.fields #[.int lo t,.int hi u,.int 1 v] }).objs.size],_,_,H,rfl,
  I1.kept (t':=tk) fun b o e=>Heap.get?_push_of_some _ e,Zjk _ lo (hi-lo).toNat,?_,fun b hb=>?_,q⟩
 .have e1:lo+((0:Nat):Int)*1=lo:=by simp
  have e2:(((hi-lo).toNat:Nat):Int)-((0:Nat):Int)=Builtin.Range.rangeSize lo hi 1:=by rw [rangeSize_one];split<;>omega
  show IsRangeIter _ _ (lo+((0:Nat):Int)*1) ((((hi-lo).toNat:Nat):Int)-((0:Nat):Int)) 1
  rw [e1,e2]
  exact Heap.get?_push_size _ rfl
 .have e:b=(s.heap.push { cls:=.type "range", data:=.fields #[.int lo t,.int hi u,.int 1 v] }).objs.size:=by simpa using hb
  subst e
  exact I1.fpOk (Nat.le_refl _) (I1.hok.fresh (Nat.le_refl _))
def iRng1 (ta:TA):TI:=fun σ H R=>ta σ H fun vs H1=>∃ j:Int,vs=[.int j]/\-(2 ^ 62)<=j/\j<2 ^ 62/\R (Itr 0 j.toNat) H1
theorem Zce {a:Expr} {ta:TA} {p pos:Pos} (hg:Gl X "range") (hm:X.mg "range" = none) (ha:PA X [a] ta) (hs:starEach [a] X.env=[(false,eval a X.env)]:=by rfl):PI X tg (.Call (.Name "range" p) [a] [] pos) (iRng1 ta):=by
 intro pins s σ H R I h
 refine Call_ (Zfn I hg hm boot_range (PyProof.Rows.callWith_type1 (thn (ha pos pins s σ H _ I h) fun us s1 ⟨vs,H1,I1,r1,q1⟩=>?_) hs rfl))
 obtain ⟨j,e,q1,q2,q⟩:=q1
 subst e
 cases r1 with
 | cons r rr =>
  cases rr
  obtain ⟨t,rfl⟩:=r
  exact call_range_1 (Zl2 I1 (by omega) (by omega) q1 q2 (by simpa using q))
def tFor (wi:TI) (g:TG) (tb:TS):TS:=fun D σ H=>wi σ H fun J H1=>∃ W:Nat->Nat->St->Hp->Prop,(∃ m,W 0 m σ H1)/\∀ i m σ H,W i m σ H ->
 (J.stop i H/\D.nx σ H)\/(J.go i H/\∃ N:St->Hp->Prop,(∀ σ' H',N σ' H'->∃ m',m'<m/\W (i+1) m' σ' H')/\∀ x H',J.yld i H x H'->g x σ H' fun σ2 H2=>tb { D with nx:=N,ct:=N,bk:=D.nx } σ2 H2)
noncomputable def pinsAt (fp:List Addr) (h:Heap):List (Addr×Obj):=fp.filterMap fun b=>(h.get? b).map fun o=>(b,o)
theorem ZcB {fp:List Addr} {h:Heap} {b:Addr} {o:Obj} (hb:b∈fp) (e:h.get? b=some o):(b,o)∈pinsAt fp h:=List.mem_filterMap.mpr ⟨b,hb,by rw [e];rfl⟩
theorem Zj0 {fp:List Addr} {h:Heap} {p:Addr×Obj} (hp:p∈pinsAt fp h):p.1∈fp/\h.get? p.1=some p.2:=by
 obtain ⟨b,hb,e⟩:=List.mem_filterMap.mp hp
 cases q:h.get? b with
 | none=>rw [q] at e;cases e
 | some o =>
  rw [q] at e
  have e':(b,o)=p:=Option.some.inj e
  subst e'
  exact ⟨hb,q⟩
theorem Inv.pinned {pins:List (Addr×Obj)} {σ:St} {H:Hp} {s:Shared} {fp:List Addr} (I:Inv X pins σ H s) (hf:∀ b∈fp,FpOk X pins H b) (ho:∀ b∈fp,∃ o,s.heap.get? b=some o/\∀ v,o.data≠.cell v):Inv X (pins++pinsAt fp s.heap) σ H s :=
 I.pins_of fun p hp=>(List.mem_append.mp hp).elim (fun z=>I.pin p (List.mem_append_right _ z)) fun z=>by
  obtain ⟨hb,e⟩:=Zj0 z
  obtain ⟨f0,f1,f2,_⟩:=hf p.1 hb
  obtain ⟨o,e',d⟩:=ho p.1 hb
  rw [e] at e';cases e'
  exact ⟨e,f0,f1,f2,d⟩
theorem Inv.unpinned {pins pl:List (Addr×Obj)} {σ:St} {H:Hp} {s:Shared} (I:Inv X (pins++pl) σ H s):Inv X pins σ H s:=I.pins_of fun p hp=>I.pin p (List.mem_append_right _ (List.mem_append_left _ hp))
theorem ZiI {iter:Expr} {body:List Stmt} {wi:TI} {g:TG} {tb:TS} {pos:Pos} (hp:PassesOwn (model X.prog X.w) X.A X.env X.xe) (hc:X.calm=true) (hi:PI X tg iter wi) (hg:PG X tg g) (hb:PSs X body tb)
  (hs:∀ x,foldedSetIterable iter X.env x=pure x:=by intro _;rfl):PS X (.For tg iter body [] pos) (tFor wi g tb):=by
 intro pins s σ H D I h
 refine wpAny_For (thn (hi pins s σ H _ I h) fun v s1 h1=>thn h1 fun itv s2 h2=>?_) hs
 obtain ⟨it,fp,tn,J,H2,e,I2,T,st2,f2,W,⟨m0,w0⟩,turn⟩:=h2
 subst e
 have stat:∀ {H':Hp},(∀ b∈fp,H' b=none)->∀ b∈fp,FpOk X pins H' b:=fun hn b hb=>⟨hn b hb,(f2 b hb).2⟩
 refine codeAny_forLoop_any (fun n s'=>∃ i σ' H',Inv X pins σ' H' s'/\tn i s'.heap/\(∀ b∈fp,H' b=none)/\W i n σ' H') ?_ m0 ⟨0,σ,H2,I2,st2,fun b hb=>(f2 b hb).1,w0⟩
 rintro n s3 ⟨i,σ3,H3,I3,st3,fr3,w3⟩
 rcases turn i n σ3 H3 w3 with ⟨stop,qn⟩|⟨go,N,hN,step⟩
 .refine wpAny_passesOwn hp (thn (T.done X rfl rfl rfl hc i pins s3 σ3 H3 X.xe I3 (stat fr3) st3 stop) fun r s4 ⟨hr,I4⟩=>?_)
  subst hr
  exact wpAny_execs_nil ⟨σ3,H3,I4,qn⟩
 .refine wpAny_passesOwn hp (thn (T.item X rfl rfl rfl hc i pins s3 σ3 H3 X.xe I3 (stat fr3) st3 go) fun r s4 ⟨u,hr,h4⟩=>?_)
  subst hr
  refine wpAny_passesOwn hp (thn h4 fun _ s5 ⟨x,H5,I5,r5,y5,st5,fr5⟩=>?_)
  have I5':=I5.pinned (stat fr5) (T.obj _ _ st5)
  refine wpAny_passesOwn hp (thn (hg _ s5 σ3 H5 x u _ I5' r5 (step x H5 y5)) fun _ s6 ⟨σ6,H6,I6,q6⟩=>?_)
  refine wpAny_passesOwn hp (thn (hb _ s6 σ6 H6 _ I6 q6) fun f s7 q7=>?_)
  have again:∀ {σ7:St} {H7:Hp},Inv X (pins++pinsAt fp s5.heap) σ7 H7 s7->N σ7 H7->∃ m,m<n/\∃ i σ' H',Inv X pins σ' H' s7/\tn i s7.heap/\(∀ b∈fp,H' b=none)/\W i m σ' H':=fun {σ7 H7} I7 n7=>by
   obtain ⟨m',hm,w7⟩:=hN σ7 H7 n7
   refine ⟨m',hm,i+1,σ7,H7,I7.unpinned,T.keep _ _ _ st5 fun b hb o e=>(I7.pin (b,o) (List.mem_append_right _ (List.mem_append_right _ (ZcB hb e)))).1,fun b hb=>?_,w7⟩
   obtain ⟨o,e,d⟩:=T.obj _ _ st5 b hb
   exact (I7.pin (b,o) (List.mem_append_right _ (List.mem_append_right _ (ZcB hb e)))).2.1
  cases f with
  | next=>obtain ⟨σ7,H7,I7,n7⟩:=q7;exact again I7 n7
  | cont=>obtain ⟨σ7,H7,I7,n7⟩:=q7;exact again I7 n7
  | brk=>obtain ⟨σ7,H7,I7,q7⟩:=q7;exact ⟨σ7,H7,I7.unpinned,q7⟩
  | ret v=>obtain ⟨x7,σ7,H7,I7,r7,q7⟩:=q7;exact ⟨x7,σ7,H7,I7.unpinned,r7,q7⟩
end
theorem Zl3 {K:PySem.W.Frag} {a:Addr} {xs:List V} {g:TG} {tb:TS} {D:Ends} {σ:St} {H:Hp} (Pv:Nat->St->Hp->Prop) (h0:Pv 0 σ H) (hl:∀ i σ H,i<=xs.length->Pv i σ H->SqL K H a xs)
  (hs:∀ i x σ H,xs[i]?=some x->Pv i σ H->g x σ H fun σ2 H2=>tb { D with nx:=Pv (i+1),ct:=Pv (i+1),bk:=D.nx } σ2 H2) (hd:∀ σ H,Pv xs.length σ H->D.nx σ H) :
  ∃ W:Nat->Nat->St->Hp->Prop,(∃ m,W 0 m σ H)/\∀ i m σ H,W i m σ H ->
   ((Itl K a).stop i H/\D.nx σ H)\/((Itl K a).go i H/\∃ N:St->Hp->Prop,(∀ σ' H',N σ' H'->∃ m',m'<m/\W (i+1) m' σ' H')/\∀ x H',(Itl K a).yld i H x H'->g x σ H' fun σ2 H2=>tb { D with nx:=N,ct:=N,bk:=D.nx } σ2 H2):=by
 refine ⟨fun i m σ H=>m=xs.length-i/\i<=xs.length/\Pv i σ H,⟨xs.length,by simp,Nat.zero_le _,h0⟩,?_⟩
 rintro i m σ H ⟨rfl,hi,p⟩
 have q:=hl i σ H hi p
 by_cases hlt:i<xs.length
 .refine .inr ⟨⟨xs,xs[i],q,by simp [hlt]⟩,Pv (i+1),fun σ' H' p'=>⟨xs.length-(i+1),by omega,rfl,hlt,p'⟩,fun x H' y=>?_⟩
  obtain ⟨e,y⟩:=y
  subst e
  exact hs i x σ _ (y xs q) p
 .have e:i=xs.length:=by omega
  subst e
  exact .inl ⟨⟨xs,q,Nat.le_refl _⟩,hd σ H p⟩
theorem Zeo {lo:Int} {n:Nat} {g:TG} {tb:TS} {D:Ends} {σ:St} {H:Hp} (Pv:Nat->St->Hp->Prop) (h0:Pv 0 σ H)
  (hs:∀ i σ H,i<n->Pv i σ H->g (.int (lo+i)) σ H fun σ2 H2=>tb { D with nx:=Pv (i+1),ct:=Pv (i+1),bk:=D.nx } σ2 H2) (hd:∀ σ H,Pv n σ H->D.nx σ H) :
  ∃ W:Nat->Nat->St->Hp->Prop,(∃ m,W 0 m σ H)/\∀ i m σ H,W i m σ H ->
   ((Itr lo n).stop i H/\D.nx σ H)\/((Itr lo n).go i H/\∃ N:St->Hp->Prop,(∀ σ' H',N σ' H'->∃ m',m'<m/\W (i+1) m' σ' H')/\∀ x H',(Itr lo n).yld i H x H'->g x σ H' fun σ2 H2=>tb { D with nx:=N,ct:=N,bk:=D.nx } σ2 H2):=by
 refine ⟨fun i m σ H=>m=n-i/\i<=n/\Pv i σ H,⟨n,by simp,Nat.zero_le _,h0⟩,?_⟩
 rintro i m σ H ⟨rfl,hi,p⟩
 by_cases hlt:i<n
 .refine .inr ⟨hlt,Pv (i+1),fun σ' H' p'=>⟨n-(i+1),by omega,rfl,hlt,p'⟩,fun x H' y=>?_⟩
  obtain ⟨e,y⟩:=y
  subst e y
  exact hs i σ _ hlt p
 .have e:i=n:=by omega
  subst e
  exact .inl ⟨Nat.le_refl _,hd σ H p⟩
abbrev R2:=V->V->Hp->VK->Prop
def OpR (X:Cx) (f:Value->Value->Sem Value) (r:R2):Prop :=
 ∀ (pins:List (Addr×Obj)) (s:Shared) (σ:St) (H:Hp) (x y:V) (v u:Value) (Q:VK),Inv X pins σ H s->RelV x v->RelV y u->r x y H Q ->
  wpAny (model X.prog X.w) X.A (f v u) (EP X pins σ Q) X.xe s
def UnR (X:Cx) (f:Value->Sem Value) (r:V->Hp->VK->Prop):Prop :=
 ∀ (pins:List (Addr×Obj)) (s:Shared) (σ:St) (H:Hp) (x:V) (v:Value) (Q:VK),Inv X pins σ H s->RelV x v->r x H Q ->
  wpAny (model X.prog X.w) X.A (f v) (EP X pins σ Q) X.xe s
def CallR (X:Cx) (f:Value) (r:List V->Hp->VK->Prop):Prop :=
 ∀ (pins:List (Addr×Obj)) (s:Shared) (σ:St) (H:Hp) (xs:List V) (us:List Value) (Q:VK),Inv X pins σ H s->Vals xs us->r xs H Q ->
  wpAny (model X.prog X.w) X.A (call f us) (EP X pins σ Q) X.xe s
def tOp (r:R2) (ta tb:TE):TE:=fun σ H Q=>ta σ H fun x H1=>tb σ H1 fun y H2=>r x y H2 Q
def tUn (r:V->Hp->VK->Prop) (ta:TE):TE:=fun σ H Q=>ta σ H fun x H1=>r x H1 Q
def rI (C:Int->Int->Prop) (g:Int->Int->V):R2:=fun x y H Q=>∃ i j,x=.int i/\y=.int j/\C i j/\Q (g i j) H
def rI0 (g:Int->Int->V):R2:=fun x y H Q=>∃ i j,x=.int i/\y=.int j/\Q (g i j) H
def rU (g:Int->V):V->Hp->VK->Prop:=fun x H Q=>∃ i,x=.int i/\Q (g i) H
section
variable {X:Cx} {a b c:Expr} {ta tb tc:TE} {pos:Pos}
theorem binT (ha:PE X a ta) (hb:PE X b tb) {pins:List (Addr×Obj)} {s:Shared} {σ:St} {H:Hp} {R:V->V->Hp->Prop} (I:Inv X pins σ H s)
  (h:ta σ H fun x H1=>tb σ H1 fun y H2=>R x y H2) {Q:Value->Shared->Prop} {f:Value->Value->Sem Value}
  (hf:∀ v u s2 x y H2,Inv X pins σ H2 s2->RelV x v->RelV y u->R x y H2->wpAny (model X.prog X.w) X.A (f v u) Q X.xe s2) :
  wpAny (model X.prog X.w) X.A (eval a X.env) (fun v s₁=>wpAny (model X.prog X.w) X.A (eval b X.env) (fun u s₂=>wpAny (model X.prog X.w) X.A (f v u) Q X.xe s₂) X.xe s₁) X.xe s:=by
 refine thn (ha pins s σ H _ I h) fun v s1 ⟨x,H1,I1,r1,q1⟩=>?_
 refine thn (hb pins s1 σ H1 _ I1 q1) fun u s2 ⟨y,H2,I2,r2,q2⟩=>?_
 exact hf v u s2 x y H2 I2 r1 r2 q2
theorem Zax {op:Operator} {r:R2} (ho:OpR X (binaryOp op) r) (ha:PE X a ta) (hb:PE X b tb):PE X (.BinOp a op b pos) (tOp r ta tb):=by
 intro pins s σ H Q I h
 exact wpAny_BinOp (binT ha hb I h fun v u s2 x y H2 I2 rx ry q=>ho pins s2 σ H2 x y v u Q I2 rx ry q)
theorem Zgw {op:UnaryOp} {r:V->Hp->VK->Prop} (ho:UnR X (unaryOp op) r) (ha:PE X a ta):PE X (.UnaryOp op a pos) (tUn r ta):=by
 intro pins s σ H Q I h
 exact UnaryOp_ (thn (ha pins s σ H _ I h) fun v s1 ⟨x,H1,I1,r1,q1⟩=>ho pins s1 σ H1 x v Q I1 r1 q1)
theorem opI {f:Value->Value->Sem Value} {C:Int->Int->Prop} {g:Int->Int->Int}
  (rule:∀ (i j:Int) (t u:Tok) (s:Shared) (Q:Value->Shared->Prop) (E:Value->Shared->Prop),C i j->Q (.int (g i j) s.toks) { s with toks:=s.toks+1 }->wpAny (model X.prog X.w) X.A (f (.int i t) (.int j u)) Q E s) :
  OpR X f (rI C fun i j=>.int (g i j)):=by
 intro pins s σ H x y v u Q I rx ry h
 obtain ⟨i,j,rfl,rfl,hc,q⟩:=h
 obtain ⟨t,rfl⟩:=rx
 obtain ⟨t',rfl⟩:=ry
 exact rule i j t t' s _ _ hc ⟨.int (g i j),H,I.tok _,⟨_,rfl⟩,q⟩
theorem opI0 {f:Value->Value->Sem Value} {g:Int->Int->Int}
  (rule:∀ (i j:Int) (t u:Tok) (s:Shared) (Q:Value->Shared->Prop) (E:Value->Shared->Prop),Q (.int (g i j) s.toks) { s with toks:=s.toks+1 }->wpAny (model X.prog X.w) X.A (f (.int i t) (.int j u)) Q E s) :
  OpR X f (rI0 fun i j=>.int (g i j)):=by
 intro pins s σ H x y v u Q I rx ry h
 obtain ⟨i,j,rfl,rfl,q⟩:=h
 obtain ⟨t,rfl⟩:=rx
 obtain ⟨t',rfl⟩:=ry
 exact rule i j t t' s _ _ ⟨.int (g i j),H,I.tok _,⟨_,rfl⟩,q⟩
theorem opB0 {f:Value->Value->Sem Value} {g:Int->Int->Bool}
  (rule:∀ (i j:Int) (t u:Tok) (s:Shared) (Q:Value->Shared->Prop) (E:Value->Shared->Prop),Q (.bool (g i j)) s->wpAny (model X.prog X.w) X.A (f (.int i t) (.int j u)) Q E s) :
  OpR X f (rI0 fun i j=>.bl (g i j)):=by
 intro pins s σ H x y v u Q I rx ry h
 obtain ⟨i,j,rfl,rfl,q⟩:=h
 obtain ⟨t,rfl⟩:=rx
 obtain ⟨t',rfl⟩:=ry
 exact rule i j t t' s _ _ ⟨.bl (g i j),H,I,rfl,q⟩
def CPow (i j:Int):Prop:=0<=j/\j<=1000000/\i.natAbs<2 ^ 64
def CMul (i j:Int):Prop:=(-(2 ^ 64)<i/\i<2 ^ 64)\/(-(2 ^ 64)<j/\j<2 ^ 64)
theorem CMul.ok {i j:Int} (h:CMul i j):IntMulOk i j:=by
 rcases h with ⟨h1,h2⟩|⟨h1,h2⟩
 .exact .of_left (intBits_le_64 h1 h2)
 .exact .of_right (intBits_le_64 h1 h2)
theorem Zjl (k:Nat):(0:Int)<=2 ^ k:=by
 rw [two_pow_cast]
 exact Int.natCast_nonneg _
theorem Zbc:OpR X (binaryOp .Add) (rI0 fun i j=>.int (i+j)):=opI0 fun _ _ _ _ _ _ _ q=>add_int q
theorem Zcb:OpR X (binaryOp .Sub) (rI0 fun i j=>.int (i-j)):=opI0 fun _ _ _ _ _ _ _ q=>sub_int q
theorem Zep:OpR X (binaryOp .Mult) (rI CMul fun i j=>.int (i*j)):=opI fun _ _ _ _ _ _ _ hc q=>mul_int q hc.ok
theorem ZaV:OpR X (binaryOp .Mod) (rI (fun _ j=>0<j) fun i j=>.int (i % j)):=opI fun i j _ _ _ _ _ hc q=>by
 have h1:(0:Int)<j:=hc
 exact mod_int' (by omega) (by rw [Int.fmod_eq_emod_of_nonneg i (by omega)];exact q)
theorem Zeq:OpR X (binaryOp .Pow) (rI CPow fun i j=>.int (i ^ j.toNat)):=opI fun _ _ _ _ _ _ _ hc q=>pow_int_small hc.1 hc.2.1 hc.2.2 q
theorem op_shl:OpR X (binaryOp .LShift) (rI CPow fun i j=>.int (i*2 ^ j.toNat)):=opI fun _ _ _ _ _ _ _ hc q=>lshift_int_small hc.1 hc.2.1 hc.2.2 q
theorem op_shr:OpR X (binaryOp .RShift) (rI (fun _ j=>0<=j) fun i j=>.int (i / 2 ^ j.toNat)):=opI fun i j _ _ _ _ _ hc q =>
 rshift_int hc (by rw [Int.fdiv_eq_ediv_of_nonneg i (Zjl _)];exact q)
theorem op_and:OpR X (binaryOp .BitAnd) (rI0 fun i j=>.int (Builtin.bitAnd i j)):=opI0 fun _ _ _ _ _ _ _ q=>and_int q
theorem op_or:OpR X (binaryOp .BitOr) (rI0 fun i j=>.int (Builtin.bitOr i j)):=opI0 fun _ _ _ _ _ _ _ q=>or_int q
theorem op_xor:OpR X (binaryOp .BitXor) (rI0 fun i j=>.int (Builtin.bitXor i j)):=opI0 fun _ _ _ _ _ _ _ q=>xor_int q
theorem unI {f:Value->Sem Value} {g:Int->Int}
  (rule:∀ (i:Int) (t:Tok) (s:Shared) (Q:Value->Shared->Prop) (E:Value->Shared->Prop),Q (.int (g i) s.toks) { s with toks:=s.toks+1 }->wpAny (model X.prog X.w) X.A (f (.int i t)) Q E s) :
  UnR X f (rU fun i=>.int (g i)):=by
 intro pins s σ H x v Q I rx h
 obtain ⟨i,rfl,q⟩:=h
 obtain ⟨t,rfl⟩:=rx
 exact rule i t s _ _ ⟨.int (g i),H,I.tok _,⟨_,rfl⟩,q⟩
theorem ZdX:UnR X (unaryOp .USub) (rU fun i=>.int (-i)):=unI fun _ _ _ _ _ q=>neg_int q
end
noncomputable def scal:V->V->Bool
 | .non,.non=>true|.non,.int _=>true|.int _,.non=>true|.non,.bl _=>true|.bl _,.non=>true|.non,.str _=>true|.str _,.non=>true
 | .int _,.int _=>true|.bl _,.bl _=>true|.str _,.str _=>true|.byt _,.byt _=>true
 | .int _,.str _=>true|.str _,.int _=>true|.bl _,.str _=>true|.str _,.bl _=>true
 | _,_=>false
def rEq:R2:=fun x y H Q=>scal x y=true/\Q (.bl (decide (x=y))) H
def rNe:R2:=fun x y H Q=>scal x y=true/\Q (.bl (!decide (x=y))) H
theorem Zj1 {i j:Int}:decide (V.int i=V.int j)=(i==j):=by
 rw [Bool.eq_iff_iff]
 simp
theorem Znl {i j:Bool}:decide (V.bl i=V.bl j)=(i==j):=by
 rw [Bool.eq_iff_iff]
 simp
theorem Zj2 {i j:Str}:decide (V.str i=V.str j)=(i==j):=by
 rw [Bool.eq_iff_iff]
 simp
theorem Zj3 {i j:Array UInt8}:decide (V.byt i=V.byt j)=(i.toList==j.toList):=by
 rw [Bool.eq_iff_iff]
 cases i
 cases j
 simp
section
variable {X:Cx} {a b c:Expr} {ta tb tc:TE} {pos:Pos}
theorem Za1 {pins:List (Addr×Obj)} {σ:St} {H:Hp} {s:Shared} {Q:VK} {k k':Bool} (I:Inv X pins σ H s) (q:Q (.bl k) H) (e:k=k'):EP X pins σ Q (.bool k') s:=by
 subst e
 exact ⟨.bl k,H,I,rfl,q⟩
theorem ZaX:OpR X (compareOp .Eq) rEq:=by
 intro pins s σ H x y v u Q I rx ry h
 obtain ⟨hs,q⟩:=h
 cases x with
 | non =>
  cases rx
  cases y with
  | non=>cases ry;exact PySem.EqNone.eq_none_none (Za1 I q (by simp))
  | bl j=>cases ry;exact PySem.EqNone.eq_none_bool (Za1 I q (by simp))
  | int j=>obtain ⟨t',rfl⟩:=ry;exact PySem.EqNone.eq_none_int (Za1 I q (by simp))
  | str j=>obtain ⟨t',rfl⟩:=ry;exact PySem.EqNone.eq_none_str (Za1 I q (by simp))
  | _=>exact absurd (show false=true from hs) Bool.false_ne_true
 | bl i =>
  cases rx
  cases y with
  | non=>cases ry;exact PySem.EqNone.eq_bool_none (Za1 I q (by simp))
  | bl j=>cases ry;exact eq_bool (Za1 I q Znl)
  | str j=>obtain ⟨t',rfl⟩:=ry;exact PySem.EqMixed.eq_bool_str (Za1 I q (by simp))
  | _=>exact absurd (show false=true from hs) Bool.false_ne_true
 | int i =>
  obtain ⟨t,rfl⟩:=rx
  cases y with
  | non=>cases ry;exact PySem.EqNone.eq_int_none (Za1 I q (by simp))
  | int j=>obtain ⟨t',rfl⟩:=ry;exact eq_int (Za1 I q Zj1)
  | str j=>obtain ⟨t',rfl⟩:=ry;exact PySem.EqMixed.eq_int_str (Za1 I q (by simp))
  | _=>exact absurd (show false=true from hs) Bool.false_ne_true
 | str i =>
  obtain ⟨t,rfl⟩:=rx
  cases y with
  | non=>cases ry;exact PySem.EqNone.eq_str_none (Za1 I q (by simp))
  | bl j=>cases ry;exact PySem.EqMixed.eq_str_bool (Za1 I q (by simp))
  | int j=>obtain ⟨t',rfl⟩:=ry;exact PySem.EqMixed.eq_str_int (Za1 I q (by simp))
  | str j=>obtain ⟨t',rfl⟩:=ry;exact eq_str (Za1 I q Zj2)
  | _=>exact absurd (show false=true from hs) Bool.false_ne_true
 | byt i =>
  obtain ⟨t,rfl⟩:=rx
  cases y with
  | byt j=>obtain ⟨t',rfl⟩:=ry;exact PySem.W.eq_bytes (Za1 I q Zj3)
  | _=>exact absurd (show false=true from hs) Bool.false_ne_true
 | _=>cases y<;>exact absurd (show false=true from hs) Bool.false_ne_true
theorem ZfG:OpR X (compareOp .NotEq) rNe:=by
 intro pins s σ H x y v u Q I rx ry h
 obtain ⟨hs,q⟩:=h
 cases x with
 | non =>
  cases rx
  cases y with
  | non=>cases ry;exact PySem.EqNone.ne_none_none (Za1 I q (by simp))
  | bl j=>cases ry;exact PySem.EqNone.ne_none_bool (Za1 I q (by simp))
  | int j=>obtain ⟨t',rfl⟩:=ry;exact PySem.EqNone.ne_none_int (Za1 I q (by simp))
  | str j=>obtain ⟨t',rfl⟩:=ry;exact PySem.EqNone.ne_none_str (Za1 I q (by simp))
  | _=>exact absurd (show false=true from hs) Bool.false_ne_true
 | bl i =>
  cases rx
  cases y with
  | non=>cases ry;exact PySem.EqNone.ne_bool_none (Za1 I q (by simp))
  | bl j=>cases ry;exact ne_bool (Za1 I q (congrArg not Znl))
  | str j=>obtain ⟨t',rfl⟩:=ry;exact PySem.EqMixed.ne_bool_str (Za1 I q (by simp))
  | _=>exact absurd (show false=true from hs) Bool.false_ne_true
 | int i =>
  obtain ⟨t,rfl⟩:=rx
  cases y with
  | non=>cases ry;exact PySem.EqNone.ne_int_none (Za1 I q (by simp))
  | int j=>obtain ⟨t',rfl⟩:=ry;exact ne_int (Za1 I q (congrArg not Zj1))
  | str j=>obtain ⟨t',rfl⟩:=ry;exact PySem.EqMixed.ne_int_str (Za1 I q (by simp))
  | _=>exact absurd (show false=true from hs) Bool.false_ne_true
 | str i =>
  obtain ⟨t,rfl⟩:=rx
  cases y with
  | non=>cases ry;exact PySem.EqNone.ne_str_none (Za1 I q (by simp))
  | bl j=>cases ry;exact PySem.EqMixed.ne_str_bool (Za1 I q (by simp))
  | int j=>obtain ⟨t',rfl⟩:=ry;exact PySem.EqMixed.ne_str_int (Za1 I q (by simp))
  | str j=>obtain ⟨t',rfl⟩:=ry;exact ne_str (Za1 I q (congrArg not Zj2))
  | _=>exact absurd (show false=true from hs) Bool.false_ne_true
 | byt i =>
  obtain ⟨t,rfl⟩:=rx
  cases y with
  | byt j=>obtain ⟨t',rfl⟩:=ry;exact PySem.W.ne_bytes (Za1 I q (congrArg not Zj3))
  | _=>exact absurd (show false=true from hs) Bool.false_ne_true
 | _=>cases y<;>exact absurd (show false=true from hs) Bool.false_ne_true
theorem ZdZ:OpR X (compareOp .Lt) (rI0 fun i j=>.bl (decide (i<j))):=opB0 fun _ _ _ _ _ _ _ q=>lt_int q
theorem ZnM:OpR X (compareOp .LtE) (rI0 fun i j=>.bl (decide (i<=j))):=opB0 fun _ _ _ _ _ _ _ q=>le_int q
theorem Zer:OpR X (compareOp .Gt) (rI0 fun i j=>.bl (decide (j<i))):=opB0 fun _ _ _ _ _ _ _ q=>gt_int q
theorem Zl4:OpR X (compareOp .GtE) (rI0 fun i j=>.bl (decide (j<=i))):=opB0 fun _ _ _ _ _ _ _ q=>ge_int q
theorem op_isN:OpR X (compareOp .Is) (fun x y H Q=>y=.non/\Q (.bl (decide (x=.non))) H):=by
 intro pins s σ H x y v u Q I rx ry h
 obtain ⟨rfl,q⟩:=h
 cases ry
 refine is_none_gen (Za1 I q ?_)
 cases x<;>first
  | (cases rx;rfl)
  | (obtain ⟨t,rfl⟩:=rx;rfl)
theorem OpR.or {f:Value->Value->Sem Value} {r r':R2} (h:OpR X f r) (h':OpR X f r'):OpR X f (fun x y H Q=>r x y H Q\/r' x y H Q):=by
 intro pins s σ H x y v u Q I rx ry q
 rcases q with q|q
 .exact h pins s σ H x y v u Q I rx ry q
 .exact h' pins s σ H x y v u Q I rx ry q
theorem nomark (b:Expr) {op:CmpOp} (h:op≠.In:=by decide) (h2:op≠.NotIn:=by decide):behindInMarks op b=false:=by
 have e1:(op==CmpOp.In)=false:=by cases op<;>first|rfl|exact absurd rfl h
 have e2:(op==CmpOp.NotIn)=false:=by cases op<;>first|rfl|exact absurd rfl h2
 cases b<;>simp [behindInMarks,e1,e2]
theorem ZaJ {op:CmpOp} {r:R2} (ho:OpR X (compareOp op) r) (ha:PE X a ta) (hb:PE X b tb) (hm:behindInMarks op b=false):PE X (.Compare a [op] [b] pos) (tOp r ta tb):=by
 intro pins s σ H Q I h
 exact wpAny_Compare1 (binT ha hb I h fun v u s2 x y H2 I2 rx ry q=>ho pins s2 σ H2 x y v u Q I2 rx ry q) hm
def tTest (t:TE):TT:=fun σ H Q=>t σ H fun x H'=>∃ k,x=.bl k/\Q k H'
theorem Zal {op:CmpOp} {r:R2} (ho:OpR X (compareOp op) r) (ha:PE X a ta) (hb:PE X b tb) (hm:behindInMarks op b=false):PT X (.Compare a [op] [b] pos) (tTest (tOp r ta tb)):=by
 intro pins s σ H Q I h
 refine wpAny_isTrue_Compare1 (thn (ha pins s σ H _ I h) fun v s1 ⟨x,H1,I1,r1,q1⟩=>thn (hb pins s1 σ H1 _ I1 q1) fun u s2 ⟨y,H2,I2,r2,q2⟩ =>
  thn (ho pins s2 σ H2 x y v u _ I2 r1 r2 q2) fun c s3 ⟨z,H3,I3,r3,k,e,q3⟩=>?_) hm
 subst e
 cases r3
 exact wpAny_truthy_bool ⟨H3,I3,q3⟩
def tChain (r r':R2) (ta tb tc:TE):TE:=fun σ H Q=>ta σ H fun x H1=>tb σ H1 fun y H2=>r x y H2 fun z H3=>∃ k,z=.bl k /\
 (if k=true then tc σ H3 fun w' H4=>r' y w' H4 Q else Q (.bl false) H3)
theorem Zl5 {op op':CmpOp} {r r':R2} (ho:OpR X (compareOp op) r) (ho':OpR X (compareOp op') r') (ha:PE X a ta) (hb:PE X b tb) (hc:PE X c tc)
  (hm:lastMarks [op,op'] [b,c]=false:=by with_unfolding_all rfl):PT X (.Compare a [op,op'] [b,c] pos) (tTest (tChain r r' ta tb tc)):=by
 intro pins s σ H Q I h
 refine isTrue_chain (thn (ha pins s σ H _ I h) fun v s1 ⟨x,H1,I1,r1,q1⟩=>test_link (thn (hb pins s1 σ H1 _ I1 q1) fun u s2 ⟨y,H2,I2,r2,q2⟩ =>
  thn (ho pins s2 σ H2 x y v u _ I2 r1 r2 q2) fun d s3 ⟨z,H3,I3,r3,k,e,q3⟩=>?_)) hm
 subst e
 cases r3
 refine wpAny_truthy_bool ?_
 cases k with
 | false =>
  obtain ⟨k',e',q'⟩:=q3
  cases e'
  exact ite_ff ⟨H3,I3,q'⟩
 | true =>
  refine ite_tt (test_last (thn (hc pins s3 σ H3 _ I3 q3) fun w' s4 ⟨z',H4,I4,r4,q4⟩=>thn (ho' pins s4 σ H4 y z' u w' _ I4 r2 r4 q4) fun d' s5 ⟨z2,H5,I5,r5,k2,e2,q5⟩=>?_))
  subst e2
  cases r5
  exact wpAny_truthy_bool ⟨H5,I5,q5⟩
theorem line63:(sizeLine:Nat)<2 ^ 63:=by rw [sizeLine_eq];decide
theorem vals1 {x:V} {us:List Value} (r:Vals [x] us):∃ u,us=[u]/\RelV x u:=by
 cases r with
 | cons r1 r2=>cases r2;exact ⟨_,rfl,r1⟩
theorem vals2 {x y:V} {us:List Value} (r:Vals [x,y] us):∃ u w',us=[u,w']/\RelV x u/\RelV y w':=by
 cases r with
 | cons r1 r2 =>
  cases r2 with
  | cons r3 r4=>cases r4;exact ⟨_,_,rfl,r1,r3⟩
theorem Zj4 (hc:X.calm=true):CallR X (.builtin "max") (fun xs H Q=>∃ i j,xs=[.int i,.int j]/\Q (.int (if j>i then j else i)) H):=by
 intro pins s σ H xs us Q I r h
 obtain ⟨i,j,rfl,q⟩:=h
 obtain ⟨u,w',rfl,⟨t,rfl⟩,⟨t',rfl⟩⟩:=vals2 r
 refine max_two_ints (I.ok.hd hc) fun h' tk k=>⟨_,H,I.kept k,?_,q⟩
 by_cases hj:j>i
 .rw [if_pos hj,if_pos hj];exact ⟨_,rfl⟩
 .rw [if_neg hj,if_neg hj];exact ⟨_,rfl⟩
theorem Zj5 (hc:X.calm=true):CallR X (.builtin "min") (fun xs H Q=>∃ i j,xs=[.int i,.int j]/\Q (.int (if j<i then j else i)) H):=by
 intro pins s σ H xs us Q I r h
 obtain ⟨i,j,rfl,q⟩:=h
 obtain ⟨u,w',rfl,⟨t,rfl⟩,⟨t',rfl⟩⟩:=vals2 r
 refine min_two_ints (I.ok.hd hc) fun h' tk k=>⟨_,H,I.kept k,?_,q⟩
 by_cases hj:j<i
 .rw [if_pos hj,if_pos hj];exact ⟨_,rfl⟩
 .rw [if_neg hj,if_neg hj];exact ⟨_,rfl⟩
theorem Zes:CallR X (.type "int") (fun xs H Q=>(∃ i,xs=[.int i]/\Q (.int i) H)\/∃ k,xs=[.bl k]/\Q (.int (if k then 1 else 0)) H):=by
 intro pins s σ H xs us Q I r h
 rcases h with ⟨i,rfl,q⟩|⟨k,rfl,q⟩
 .obtain ⟨u,rfl,t,rfl⟩:=vals1 r
  exact call_int_int ⟨.int i,H,I,⟨_,rfl⟩,q⟩
 .obtain ⟨u,rfl,r1⟩:=vals1 r
  cases r1
  exact call_int_bool ⟨.int (if k then 1 else 0),H,I.tok _,⟨_,rfl⟩,q⟩
end
structure ObjM (h:Heap) (x dx C:Addr) (mA:Str->Option Value):Prop where
 obj:h.get? x=some (PySem.W.instObj C dx)
 ns:h.Ns1 dx mA
 ne:dx≠x
theorem Zj6 {h:Heap} {dx:Addr} {mA:Str->Option Value} (n:h.Ns1 dx mA):∃ od,h.get? dx=some od/\∀ name,PySem.W.lookIn name od=some (mA name):=by
 obtain ⟨o,es,ep,ho,hd,hk,_,hm⟩:=n
 refine ⟨o,ho,fun name=>?_⟩
 have e:=hm name
 unfold nsFind findBy at e
 rw [<- Array.find?_toList] at e
 unfold PySem.W.lookIn
 rw [hd]
 dsimp only
 split
 .rename_i y q
  rw [q] at e
  exact congrArg some e
 .rename_i q
  rw [q] at e
  have a:es.toList.any (·.refKey)=false:=by
   rw [List.any_eq_false]
   intro y hy
   obtain ⟨z,t,hkey⟩:=hk y (Array.mem_toList_iff.mp hy)
   simp [DictEntry.refKey,hkey]
  have a':¬ es.toList.any (·.refKey)=true:=by rw [a];exact Bool.false_ne_true
  rw [if_neg a']
  exact congrArg some e
theorem ObjM.look {h:Heap} {x dx C:Addr} {mA:Str->Option Value} (I:ObjM h x dx C mA):∃ od,PySem.W.InstAt h x (PySem.W.instObj C dx) C (some od)/\∀ name,PySem.W.lookIn name od=some (mA name) :=
 let ⟨od,ho,hl⟩:=Zj6 I.ns
 ⟨od,⟨I.obj,rfl,rfl,ho⟩,hl⟩
section
variable {prog:Program} {w:World} {A:Around} {E:Value->Shared->Prop} {s:Shared} {K:PySem.W.Frag} {x dx C f:Addr} {mA:Str->Option Value} {name:Str} {v:Value}
theorem ZnN {expr:Bool} {Q:Value->Shared->Prop} (X:K.In s.heap) (I:ObjM s.heap x dx C mA) (hg:PySem.W.plainGet K C name=true) (hh:PySem.W.hasDictIn K C=true)
  (ha:PySem.W.findIn K (.ref C) name=some none) (hv:mA name=some v) (hv':PySem.W.handedIn v=true) (h:Q v { s with toks:=s.toks+1 }) :
  wpAny (model prog w) A (getAttr (.ref x) name expr) Q E s:=by
 obtain ⟨od,J,hl⟩:=I.look
 exact PySem.W.get_value X J (PySem.W.plainGet_of hg).1 (PySem.W.findObj_own hh ha rfl (by rw [hl,hv])) hv' h
theorem Zl6 {pl:Sem Bool} {Q:Value×List Value->Shared->Prop} (X:K.In s.heap) (I:ObjM s.heap x dx C mA) (hg:PySem.W.plainGet K C name=true)
  (hf:PySem.W.findIn K (.ref C) name=some (some (.ref f))) (ht:PySem.W.isFn K (.ref f)=true) (hv:mA name=none) (h:Q (.ref f,[.ref x]) s) :
  wpAny (model prog w) A (getMethod (.ref x) name pl) Q E s:=by
 obtain ⟨od,J,hl⟩:=I.look
 exact PySem.W.method_fn X J (PySem.W.plainGet_of hg).1 (PySem.W.plainGet_of hg).2 hf (beq_iff_eq.mp ht) (by show (PySem.W.lookIn name od).map (·.isSome)=some false;rw [hl,hv];rfl) h
theorem ZnO {ns:List Str} {Q:Unit->Shared->Prop} (X:K.In s.heap) (I:ObjM s.heap x dx C mA)
  (hs:PySem.W.findIn K (.ref C) "__setattr__" = some (some (.builtin "object.__setattr__"))) (hp:PySem.W.plainOver K C=true) (ht:PySem.W.takerIn K C name=some none) (hh:PySem.W.hasDictIn K C=true)
  (hw:PySem.Within mA ns) (hsz:ns.length<=sizeLine)
  (h:∀ h',ObjM h' x dx C (fun y=>if y=name then some v else mA y)->Heap.SameBut dx s.heap h'->Q () { s with heap:=h',toks:=s.toks+2 }) :
  wpAny (model prog w) A (setAttr (.ref x) name v) Q E s:=by
 obtain ⟨od,J,hl⟩:=I.look
 refine PySem.W.set_plain X J hs (PySem.W.osa_open (s:={ s with toks:=s.toks+1 }) (r:=none) X J hp ht fun b=>?_)
 obtain ⟨cd,hc,hd'⟩:=PySem.W.any_some hh
 have hx:s.heap.get? x=some ⟨.ref C,some dx,.plain,#[]⟩:=I.obj
 refine wpAny_bind (wpAny_pure (wpAny_bind (wpAny_bind (wpAny_loadPart hx (wpAny_bind (PySem.W.Looks.here (s:={ s with toks:=s.toks+1 }) (PySem.W.looks_clsIn X hc) ?_))))))
 rw [hd']
 refine wpAny_pure (a:=some dx) (wpAny_bind (wpAny_pure (wpAny_bind ?_)))
 refine wpAny_nsSet1 (s:={ s with toks:=s.toks+1 }) I.ns fun h' hn2 hs2=>?_
 obtain ⟨oD,esD,epD,hoD,hdD,hcD⟩:=hn2.count (PySem.Within.cons name v hw)
 refine wpAny_bind (wpAny_lookBehind hoD (by rw [hdD];exact pastItsLine_dict (Nat.le_trans hcD (by rw [List.length_cons];omega))) ?_)
 exact wpAny_pure (h _ ⟨(hs2.2 _ (Ne.symm I.ne)).trans I.obj,hn2,I.ne⟩ hs2)
theorem Zl7 {R:Result->Shared->Prop} {vs:List Value} {kw:List (Str×Value)} (X:K.In s.heap) (hm:PySem.W.makesIn K C=true)
  (hi:PySem.W.findIn K (.ref C) "__init__" = some (some (.ref f))) (hf:PySem.W.typeIn K (.ref f)=some (.type "function"))
  (h:codeAny (model prog w) (A.under (.builtin "type.__call__" ⟨.ref C::vs,kw⟩)) (.call (.ref f) ⟨.ref (s.heap.objs.size+1)::vs,kw⟩) (PySem.W.InitBack (s.heap.objs.size+1) R)
   { s with heap:=(s.heap.push PySem.W.emptyDict).push (PySem.W.instObj C s.heap.objs.size) }) :
  codeAny (model prog w) A (.call (.ref C) ⟨vs,kw⟩) R s:=by
 obtain ⟨hh,g,d,t,os⟩:=s
 exact PySem.W.make_core (PySem.W.makes_of X hm) (PySem.W.looks_findIn X hi) (fun self=>PySem.W.bind_fn X self hf) (.inl rfl) h
end
noncomputable def putF (f:Str) (v:V):List (Str×V)->List (Str×V)
 | []=>[(f,v)]
 | (g,x)::r=>if g=f then (g,v)::r else (g,x)::putF f v r
theorem Zet (f g:Str) (v:V):∀ fs:List (Str×V),(putF f v fs).lookup g=if g=f then some v else fs.lookup g
 | []=>by
  show List.lookup g [(f,v)]=_
  by_cases h:g=f
  .have hb:(g==f)=true:=beq_iff_eq.mpr h
   simp only [List.lookup,hb,if_pos h]
  .have hb:(g==f)=false:=beq_eq_false_iff_ne.mpr h
   simp only [List.lookup,hb,if_neg h]
 | (k,x)::r=>by
  have ih:=Zet f g v r
  rw [show putF f v ((k,x)::r)=(if k=f then (k,v)::r else (k,x)::putF f v r) from rfl]
  by_cases hk:k=f
  .rw [if_pos hk]
   by_cases h:g=k
   .have hb:(g==k)=true:=beq_iff_eq.mpr h
    simp only [List.lookup,hb,if_pos (h.trans hk)]
   .have hb:(g==k)=false:=beq_eq_false_iff_ne.mpr h
    simp only [List.lookup,hb,if_neg (fun e:g=f=>h (e.trans hk.symm))]
  .rw [if_neg hk]
   by_cases h:g=k
   .have hb:(g==k)=true:=beq_iff_eq.mpr h
    simp only [List.lookup,hb,if_neg (fun e:g=f=>hk (h.symm.trans e))]
   .have hb:(g==k)=false:=beq_eq_false_iff_ne.mpr h
    simp only [List.lookup,hb]
    exact ih
theorem Zeu (f:Str) (v:V):∀ fs:List (Str×V),f∈(putF f v fs).map (·.1)/\∀ g,g∈fs.map (·.1)->g∈(putF f v fs).map (·.1)
 | []=>⟨by simp [putF],fun g h=>by simp at h⟩
 | (k,x)::r=>by
  obtain ⟨i1,i2⟩:=Zeu f v r
  rw [show putF f v ((k,x)::r)=(if k=f then (k,v)::r else (k,x)::putF f v r) from rfl]
  by_cases hk:k=f
  .rw [if_pos hk]
   subst hk
   exact ⟨by simp,fun g h=>by simpa using h⟩
  .rw [if_neg hk]
   refine ⟨?_,fun g h=>?_⟩
   .rw [List.map_cons]
    exact List.mem_cons_of_mem _ i1
   .rw [List.map_cons] at h |-
    rcases List.mem_cons.mp h with e|e
    .exact List.mem_cons.mpr (.inl e)
    .exact List.mem_cons_of_mem _ (i2 g e)
theorem Zev (f:Str) (v:V):∀ fs:List (Str×V),(putF f v fs).length<=fs.length+1
 | []=>by simp [putF]
 | (k,x)::r=>by
  have ih:=Zev f v r
  rw [show putF f v ((k,x)::r)=(if k=f then (k,v)::r else (k,x)::putF f v r) from rfl]
  by_cases hk:k=f
  .rw [if_pos hk,List.length_cons,List.length_cons];omega
  .rw [if_neg hk,List.length_cons,List.length_cons];omega
theorem RelO.some_of {v:V} {o:Option Value} (r:RelO (some v) o):∃ u,o=some u/\RelV v u:=by
 cases o with
 | none=>exact (show False from r).elim
 | some u=>exact ⟨u,rfl,r⟩
theorem RelO.none_of {o:Option Value} (r:RelO none o):o=none:=by
 cases o with
 | none=>rfl
 | some u=>exact (show False from r).elim
theorem Zj7 {v:V} {u:Value} (r:RelV v u):PySem.W.handedIn u=true:=by
 cases v with
 | non=>cases (show u=Value.none from r);rfl
 | bl b=>cases (show u=Value.bool b from r);rfl
 | int i=>obtain ⟨t,e⟩:=(show ∃ t,u=Value.int i t from r);cases e;rfl
 | str x=>obtain ⟨t,e⟩:=(show ∃ t,u=Value.str x t from r);cases e;rfl
 | byt b=>obtain ⟨t,e⟩:=(show ∃ t,u=Value.bytes b t from r);cases e;rfl
 | flt b=>obtain ⟨t,e⟩:=(show ∃ t,u=Value.float b t from r);cases e;rfl
 | ref a=>cases (show u=Value.ref a from r);rfl
 | ty n=>cases (show u=Value.type n from r);rfl
section
variable {P:Program} {w:World} {H H':Hp} {h h':Heap} {a C dx:Addr} {fs fs':List (Str×V)}
theorem ZhF (hok:HOk P w H h) (e:H a=some (.ins C dx fs)):∃ mA,ObjM h a dx C mA/\(∀ f,RelO (fs.lookup f) (mA f))/\PySem.Within mA (fs.map (·.1))/\fs.length<=1000/\H dx=some (.own a):=by
 obtain ⟨d,z,ne,ob,mA,n,r,q⟩:=(show ObjOk P w H h a (.ins C dx fs) from hok a _ e)
 exact ⟨mA,⟨ob,n,ne⟩,r,q,z,d⟩
end
structure Cls (K:PySem.W.Frag) (C:Addr):Prop where
 pg:PySem.W.plainGet K C Str.empty=true
 hd:PySem.W.hasDictIn K C=true
 po:PySem.W.plainOver K C=true
 sa:PySem.W.findIn K (.ref C) "__setattr__" = some (some (.builtin "object.__setattr__"))
theorem Cls.get {K:PySem.W.Frag} {C:Addr} (c:Cls K C) (f:Str):PySem.W.plainGet K C f=true:=c.pg
def NoAttr (K:PySem.W.Frag) (C:Addr) (f:Str):Prop:=PySem.W.findIn K (.ref C) f=some none
theorem NoAttr.taker {K:PySem.W.Frag} {C:Addr} {f:Str} (n:NoAttr K C f):PySem.W.takerIn K C f=some none:=by
 unfold PySem.W.takerIn
 rw [show PySem.W.findIn K (.ref C) f=some none from n]
 rfl
structure Con (K:PySem.W.Frag) (C:Addr) (f:Str) (v:V) (u:Value):Prop where
 at_:PySem.W.findIn K (.ref C) f=some (some u)
 rel:RelV v u
 get:PySem.W.specialIn K u "__get__" = some none
 cp:PySem.W.copiedNames.contains f=false
structure Meth (K:PySem.W.Frag) (C:Addr) (m:Str) (f:Addr):Prop where
 at_:PySem.W.findIn K (.ref C) m=some (some (.ref f))
 fn:PySem.W.isFn K (.ref f)=true
 kp:PySem.W.keepIn K (.ref f)=true
section
variable {X:Cx} {pins:List (Addr×Obj)} {σ:St} {H:Hp} {s:Shared} {a C dx:Addr} {fs:List (Str×V)} {f:Str} {v:V} {A:Around} {E:Value->Shared->Prop}
theorem Zfo {b:Bool} {Q:Value->Shared->Prop} (I:Inv X pins σ H s) (e:H a=some (.ins C dx fs)) (c:Cls X.K C) (n:NoAttr X.K C f) (l:fs.lookup f=some v)
  (h:∀ u s',Inv X pins σ H s'->RelV v u->Q u s'):wpAny (model X.prog X.w) A (getAttr (.ref a) f b) Q E s:=by
 obtain ⟨mA,O,r,_,_,_⟩:=ZhF I.hok e
 obtain ⟨u,hu,ru⟩:=RelO.some_of (v:=v) (o:=mA f) (by rw [<- l];exact r f)
 exact ZnN I.kIn O (c.get f) c.hd n hu (Zj7 ru) (h u _ (I.tok _) ru)
theorem ZbX {m:Str} {g:Addr} {pl:Sem Bool} {Q:Value×List Value->Shared->Prop} (I:Inv X pins σ H s) (e:H a=some (.ins C dx fs)) (c:Cls X.K C) (k:Meth X.K C m g) (l:fs.lookup m=none)
  (h:Q (.ref g,[.ref a]) s):wpAny (model X.prog X.w) A (getMethod (.ref a) m pl) Q E s:=by
 obtain ⟨mA,O,r,_,_,_⟩:=ZhF I.hok e
 have hn:mA m=none:=RelO.none_of (by rw [<- l];exact r m)
 exact Zl6 I.kIn O (c.get m) k.at_ k.fn hn h
theorem Zfp {y:V} {u:Value} {Q:Unit->Shared->Prop} (I:Inv X pins σ H s) (e:H a=some (.ins C dx fs)) (c:Cls X.K C) (n:NoAttr X.K C f) (hl:fs.length<1000) (ry:RelV y u)
  (h:∀ s',Inv X pins σ (upd H a (.ins C dx (putF f y fs))) s'->Q () s'):wpAny (model X.prog X.w) A (setAttr (.ref a) f u) Q E s:=by
 obtain ⟨mA,O,r,wi,_,ho⟩:=ZhF I.hok e
 have hz:(fs.map (·.1)).length<=sizeLine:=by rw [List.length_map,sizeLine_eq];omega
 refine ZnO I.kIn O c.sa c.po n.taker c.hd wi hz fun h' O' sb=>h _ ?_
 have hd:∃ o,h'.get? dx=some o:=let ⟨o,_,_,e',_⟩:=O'.ns;⟨o,e'⟩
 refine I.write (x:=a) (e:=dx) (by rw [e];exact True.intro) (.inr ho) (fun b q hb z=>(sb.2 b hb).trans z) hd ?_
 refine ⟨by rw [Zaj O.ne];exact ho,?_,O.ne,O'.obj,_,O'.ns,fun g=>?_,fun g hg=>?_⟩
 .have:=Zev f y fs;omega
 .show RelO ((putF f y fs).lookup g) (if g=f then some u else mA g)
  rw [Zet]
  by_cases q:g=f
  .rw [if_pos q,if_pos q];exact ry
  .rw [if_neg q,if_neg q];exact r g
 .by_cases q:g=f
  .rw [q];exact (Zeu f y fs).1
  .refine (Zeu f y fs).2 g (wi g fun z=>hg ?_)
   show (if g=f then some u else mA g)=none
   rw [if_neg q];exact z
theorem Inv.made (I:Inv X pins σ H s):Inv X pins σ (upd (upd H s.heap.objs.size (.own (s.heap.objs.size+1))) (s.heap.objs.size+1) (.ins C s.heap.objs.size []))
  { s with heap:=(s.heap.push PySem.W.emptyDict).push (PySem.W.instObj C s.heap.objs.size) }:=by
 have e1:(s.heap.push PySem.W.emptyDict).get? s.heap.objs.size=some PySem.W.emptyDict:=Heap.get?_push_size s.heap rfl
 have e2:((s.heap.push PySem.W.emptyDict).push (PySem.W.instObj C s.heap.objs.size)).get? (s.heap.objs.size+1)=some (PySem.W.instObj C s.heap.objs.size):=by
  have:=Heap.get?_push_size (s.heap.push PySem.W.emptyDict) (o:=PySem.W.instObj C s.heap.objs.size) rfl
  rwa [Heap.size_push] at this
 have e3:(s.heap.push PySem.W.emptyDict).Ns s.heap.objs.size (fun _=>none):=⟨PySem.W.emptyDict,#[],_,e1,rfl,(fun e he=>absurd he (by simp)),fun _=>rfl⟩
 have I1:=I.laid (a:=s.heap.objs.size) (o:=.own (s.heap.objs.size+1)) (h':=s.heap.push PySem.W.emptyDict) (t':=s.toks) (fun b u q=>Heap.get?_push_of_some _ q) (Nat.le_refl _) ⟨_,e1⟩
 refine I1.laid (a:=s.heap.objs.size+1) (o:=.ins C s.heap.objs.size []) (t':=s.toks) (fun b u q=>Heap.get?_push_of_some _ q) (Nat.le_of_eq (Heap.size_push _ _)) ?_
 have ne:s.heap.objs.size≠s.heap.objs.size+1:=Nat.ne_of_lt (Nat.lt_succ_self _)
 refine ⟨by rw [Zaj ne,Zag],Nat.zero_le _,ne,e2,fun _=>none,(Heap.Ns1.of_empty e3).at fun o q=>Heap.get?_push_of_some _ q,fun _=>True.intro,fun y hy=>absurd rfl hy⟩
theorem ZnP {prog:Program} {w:World} {env:Env} {e:Expr} {f:Str} {pos:Pos} {s:Shared} {Q:Value->Shared->Prop} (hb:attributeBase e f env (eval e env)=eval e env)
  (h:wpAny (model prog w) A (eval e env) (fun o s₁=>wpAny (model prog w) A (getAttr o f true) Q E s₁) E s):wpAny (model prog w) A (eval (.Attribute e f pos) env) Q E s :=
 Attribute_any_ h (by rw [arm_eval_Attribute,hb])
end
def tFld (K:PySem.W.Frag) (ta:TE) (f:Str):TE:=fun σ H Q=>ta σ H fun x H1=>∃ a C dx fs v,x=.ref a/\H1 a=some (.ins C dx fs)/\Cls K C/\NoAttr K C f/\fs.lookup f=some v/\Q v H1
def sFld (K:PySem.W.Frag) (ta tv:TE) (f:Str):TS:=fun D σ H=>tv σ H fun y H1=>ta σ H1 fun x H2=>∃ a C dx fs,x=.ref a/\H2 a=some (.ins C dx fs)/\Cls K C/\NoAttr K C f/\fs.length<1000 /\
 D.nx σ (upd H2 a (.ins C dx (putF f y fs)))
def InOp (X:Cx) (op:Operator) (rd:V->V->Hp->VK->Prop):Prop :=
 ∀ (pins:List (Addr×Obj)) (s:Shared) (σ:St) (H:Hp) (x y:V) (u v:Value) (Q:VK),Inv X pins σ H s->RelV x u->RelV y v->rd x y H Q->wpAny (model X.prog X.w) X.A (inplaceOp op u v) (EP X pins σ Q) X.xe s
def Zj8 (K:PySem.W.Frag) (ta tv:TE) (rd:V->V->Hp->VK->Prop) (f:Str):TS:=fun D σ H=>ta σ H fun x H1=>∃ a C dx fs v,x=.ref a/\H1 a=some (.ins C dx fs)/\Cls K C/\NoAttr K C f/\fs.lookup f=some v /\
 tv σ H1 fun y H2=>rd v y H2 fun z H3=>∃ dx' fs',H3 a=some (.ins C dx' fs')/\fs'.length<1000/\D.nx σ (upd H3 a (.ins C dx' (putF f z fs')))
section
variable {X:Cx} {o e value:Expr} {f:Str} {pos pos' tpos:Pos} {ta tv:TE}
theorem Zao (he:PE X e ta) (hb:attributeBase e f X.env (eval e X.env)=eval e X.env):PE X (.Attribute e f pos) (tFld X.K ta f):=by
 intro pins s σ H Q I h
 refine ZnP hb (thn (he pins s σ H _ I h) fun u s1 ⟨x,H1,I1,rx,a,C,dx,fs,v,ex,ea,c,n,l,q⟩=>?_)
 subst ex
 obtain rfl:u=Value.ref a:=rx
 exact Zfo I1 ea c n l fun u' s2 I2 ru=>⟨v,H1,I2,ru,q⟩
theorem ZaS (ha:PE X o ta) (hv:PE X value tv) (hs:swapsWith value (some (.Attribute o f pos')) pos.line X.env=pure false):PS X (.Assign [.Attribute o f pos'] value pos) (sFld X.K ta tv f):=by
 intro pins s σ H D I h
 refine plainObj_wpAny_Assign_Attribute (thn (hv pins s σ H _ I h) fun u s1 ⟨y,H1,I1,ry,q⟩=>thn (ha pins s1 σ H1 _ I1 q) fun ov s2 ⟨x,H2,I2,rx,a,C,dx,fs,ex,ea,c,n,l,q2⟩=>?_) hs
 subst ex
 obtain rfl:ov=Value.ref a:=rx
 exact Zfp I2 ea c n l ry fun s3 I3=>⟨σ,_,I3,q2⟩
theorem Zcf {op:Operator} {rd:V->V->Hp->VK->Prop} (ha:PE X o ta) (hv:PE X value tv) (hop:InOp X op rd):PS X (.AugAssign (.Attribute o f tpos) op value pos) (Zj8 X.K ta tv rd f):=by
 intro pins s σ H D I h
 refine wpAny_AugAssign_AttributeAny (thn (ha pins s σ H _ I h) fun ov s1 ⟨x,H1,I1,rx,a,C,dx,fs,v,ex,ea,c,n,l,q⟩=>?_)
 subst ex
 obtain rfl:ov=Value.ref a:=rx
 refine Zfo I1 ea c n l fun u s2 I2 ru=>thn (hv pins s2 σ H1 _ I2 q) fun w3 s3 ⟨y,H2,I3,ry,q3⟩=>thn (hop pins s3 σ H2 v y u w3 _ I3 ru ry q3) fun w4 s4 ⟨z,H3,I4,rz,dx',fs',ea',l',q4⟩=>?_
 exact Zfp I4 ea' c n l' rz fun s5 I5=>⟨σ,_,I5,q4⟩
def rAdd:V->V->Hp->VK->Prop:=fun x y H Q=>∃ i j,x=.int i/\y=.int j/\Q (.int (i+j)) H
def rSub:V->V->Hp->VK->Prop:=fun x y H Q=>∃ i j,x=.int i/\y=.int j/\Q (.int (i-j)) H
theorem ZiJ:InOp X .Add rAdd:=by
 rintro pins s σ H x y u v Q I rx ry ⟨i,j,rfl,rfl,q⟩
 obtain ⟨t,rfl⟩:=(show ∃ t,u=Value.int i t from rx)
 obtain ⟨t',rfl⟩:=(show ∃ t',v=Value.int j t' from ry)
 exact PyProof.Rows.iadd_int ⟨.int (i+j),H,I.tok _,⟨_,rfl⟩,q⟩
theorem in_sub:InOp X .Sub rSub:=by
 rintro pins s σ H x y u v Q I rx ry ⟨i,j,rfl,rfl,q⟩
 obtain ⟨t,rfl⟩:=(show ∃ t,u=Value.int i t from rx)
 obtain ⟨t',rfl⟩:=(show ∃ t',v=Value.int j t' from ry)
 exact PyProof.Rows.isub_int ⟨.int (i-j),H,I.tok _,⟨_,rfl⟩,q⟩
theorem ZnQ {pl:Sem Bool} {m:Str} {apos:Pos} {args:List Expr} {pins:List (Addr×Obj)} {s:Shared} {σ:St} {H:Hp} {Q:Value->Shared->Prop} {te:TE} (he:PE X e te) (I:Inv X pins σ H s)
  (h:te σ H fun x H1=>∃ a C dx fs g,x=.ref a/\H1 a=some (.ins C dx fs)/\Cls X.K C/\Meth X.K C m g/\fs.lookup m=none /\
   ∀ s1,Inv X pins σ H1 s1->wpAny (model X.prog X.w) X.A (callWith pos (.ref g) [.ref a] (backTo pos (starEach args X.env)) (backToKw pos (keywordEach [] X.env))) Q X.xe s1)
  (ht:eval (.Call (.Attribute e m apos) args [] pos) X.env=(do
   let ov <- eval e X.env
   standAt apos.atName
   let (f,first) <- holding [ov] (getMethod ov m pl)
   callWith pos f first (backTo pos (starEach args X.env)) (backToKw pos (keywordEach [] X.env)))) :
  wpAny (model X.prog X.w) X.A (eval (.Call (.Attribute e m apos) args [] pos) X.env) Q X.xe s:=by
 refine PySem.W.methodCall_KW (pl:=pl) (thn (he pins s σ H _ I h) fun u s1 ⟨x,H1,I1,rx,a,C,dx,fs,g,ex,ea,c,k,l,q⟩=>?_) ht
 subst ex
 obtain rfl:u=Value.ref a:=rx
 exact ZbX I1 ea c k l (q s1 I1)
end
section
variable {X:Cx} {pins:List (Addr×Obj)} {σ:St} {H:Hp} {s:Shared} {A:Around} {E:Value->Shared->Prop} {Q:Value->Shared->Prop} {c:Value} {b:Bool}
inductive TyOf (K:PySem.W.Frag) (H:Hp):V->Value->Prop where
 | non:TyOf K H .non (.type "NoneType")
 | bl (x:Bool):TyOf K H (.bl x) (.type "bool")
 | int (i:Int):TyOf K H (.int i) (.type "int")
 | str (x:Str):TyOf K H (.str x) (.type "str")
 | flt (x:UInt64):TyOf K H (.flt x) (.type "float")
 | lst {a:Addr} {xs:List V} (e:H a=some (.lst xs)):TyOf K H (.ref a) (.type "list")
 | frz {a:Addr} {o:Obj} {xs:List V} (e:H a=some (.frz o (.lst xs))):TyOf K H (.ref a) (.type "list")
 | tup {a:Addr} {xs:List V} (e:H a=some (.tup xs)):TyOf K H (.ref a) (.type "tuple")
 | dK {a:Addr} {kvs:List (Key×V)} (e:H a=some (.dK kvs)):TyOf K H (.ref a) (.type "dict")
 | dT {a:Addr} {kvs:List (List Key×V)} (e:H a=some (.dT kvs)):TyOf K H (.ref a) (.type "dict")
 | ins {a C dx:Addr} {fs:List (Str×V)} (e:H a=some (.ins C dx fs)) (cl:Cls K C) (ha:PySem.W.findIn K (.ref C) "__class__" = some (some (.builtin "object.__class__")))
   (hn:PySem.W.specialIn K (.builtin "object.__class__") "__get__" = some (some (.builtin "getset_descriptor.__get__"))) (htk:PySem.W.takesIn K (.builtin "object.__class__")=some true)
   (hm:PySem.W.mroIn K C (.type "object")=some true):TyOf K H (.ref a) (.ref C)
end
structure Room (k:Nat) (A:Around):Prop where
 hd:A.handled=none
 dp:A.depth+3*k+5<recursionLimit
 un:A.units+16*k+200<cLine
theorem Room.mono {j k:Nat} {A:Around} (r:Room k A) (h:j<=k):Room j A:=⟨r.hd,by have:=r.dp;omega,by have:=r.un;omega⟩
theorem Room.deeper {k:Nat} {A:Around} (r:Room (k+1) A) (env:Env):Room k (A.deeper env) :=
 ⟨r.hd,by have:=r.dp;show A.depth+1+3*k+5<_;omega,by have:=r.un;show A.units+3+16*k+200<_;omega⟩
theorem Room.in1 {k:Nat} {A:Around} (r:Room (k+1) A):Room k A.in1 :=
 ⟨r.hd,by have:=r.dp;show A.depth+3*k+5<_;omega,by have:=r.un;show A.units+1+16*k+200<_;omega⟩
theorem Zjm {A:Around} {C:Addr} {us:List Value} {kw:List (Str×Value)}:(A.under (.builtin "type.__call__" ⟨.ref C::us,kw⟩)).depth=A.depth+1:=by
 first|rfl|simp [Around.under,Code.weight,Code.isCreation,Code.isGuard,Code.isCaller,Code.frames,Code.isFrame,guardIds]
theorem Zjn {A:Around} {C:Addr} {us:List Value} {kw:List (Str×Value)}:(A.under (.builtin "type.__call__" ⟨.ref C::us,kw⟩)).units=A.units+1:=by
 first|rfl|simp [Around.under,Code.cUnits,Code.frames,Code.isFrame]
theorem Room.make {k:Nat} {A:Around} (r:Room (k+1) A) (C:Addr) (us:List Value) (kw:List (Str×Value)):Room k (A.under (.builtin "type.__call__" ⟨.ref C::us,kw⟩)) :=
 ⟨r.hd,by have:=r.dp;rw [Zjm];omega,by have:=r.un;rw [Zjn];omega⟩
theorem Room.depth {k:Nat} {A:Around} (r:Room k A):A.depth<recursionLimit:=by have:=r.dp;omega
theorem Room.units {k:Nat} {A:Around} (r:Room k A):A.units+64<cLine:=by have:=r.un;omega
def tNil:TA:=fun _ H Q=>Q [] H
def tCons (ta:TE) (tr:TA):TA:=fun σ H Q=>ta σ H fun x H1=>tr σ H1 fun xs H2=>Q (x::xs) H2
section
variable {X:Cx} {e:Expr} {es:List Expr} {te:TE} {t:TA} {pos:Pos}
theorem Zad:PA X [] tNil:=fun _ _ _ _ H Q I h=>Calls.spliced_nil ⟨[],H,I,.nil,h⟩
theorem Zaa (ha:PE X e te) (hr:PA X es t) (hs:starEach (e::es) X.env=(false,eval e X.env)::starEach es X.env:=by rfl):PA X (e::es) (tCons te t):=by
 intro pos pins s σ H Q I h
 rw [hs]
 show wpAny _ _ (spliced ((false,eval e X.env)::backTo pos (starEach es X.env))) _ _ s
 refine Calls.spliced_cons (thn (ha pins s σ H _ I h) fun u s1 ⟨x,H1,I1,r1,q1⟩=>?_)
 exact thn (hr pos pins s1 σ H1 _ I1 q1) fun us s2 ⟨xs,H2,I2,r2,q2⟩=>⟨x::xs,H2,I2,.cons r1 r2,q2⟩
def tTup (t:TA):TE:=fun σ H Q=>t σ H fun xs H1=>xs.length<=sizeLine/\∀ p,H1 p=none->Q (.ref p) (upd H1 p (.tup xs))
def tLst (t:TA):TE:=fun σ H Q=>t σ H fun xs H1=>xs.length<=sizeLine/\∀ p,H1 p=none->Q (.ref p) (upd H1 p (.lst xs))
theorem Zaz {x1} (h:PA X es t):PE X (.Tuple es x1 pos) (tTup t):=by
 intro pins s σ H Q I hq
 refine wpAny_Tuple_spliced (thn (h pos pins s σ H _ I hq) fun us s1 ⟨xs,H1,I1,r,z,q⟩=>⟨by rw [<- r.length];exact z,?_⟩)
 have hf:H1 s1.heap.objs.size=none:=I1.hok.fresh (Nat.le_refl _)
 refine ⟨.ref s1.heap.objs.size,upd H1 s1.heap.objs.size (.tup xs),I1.laid (t':=s1.toks) (fun b u e=>Heap.get?_push_of_some _ e) (Nat.le_refl _) ?_,rfl,q _ hf⟩
 exact ⟨z,us,r,⟨_,Heap.get?_push_size _ rfl,rfl,_,rfl⟩⟩
theorem ZaM (h:PA X es t):PE X (.List es pos) (tLst t):=by
 intro pins s σ H Q I hq
 refine wpAny_List_spliced (thn (h pos pins s σ H _ I hq) fun us s1 ⟨xs,H1,I1,r,z,q⟩=>⟨by rw [<- r.length];exact z,?_⟩)
 have hf:H1 s1.heap.objs.size=none:=I1.hok.fresh (Nat.le_refl _)
 refine ⟨.ref s1.heap.objs.size,upd H1 s1.heap.objs.size (.lst xs),I1.laid (t':=s1.toks) (fun b u e=>Heap.get?_push_of_some _ e) (Nat.le_refl _) ?_,rfl,q _ hf⟩
 exact ⟨z,us,0,r,Heap.get?_push_size _ rfl⟩
end
abbrev Sp:=List V->Hp->VK->XK->Prop
abbrev CXT:=List Env->Hp->Shared->XK->Value->Shared->Prop
structure Env0 (P:Program) (w:World) (K:PySem.W.Frag) (mg:Str->Option Value) (base:Heap) (A:Around) (outer:List Env) (s:Shared) (H:Hp):Prop where
 frames:A.frames=some outer
 mod:Mod K mg base
 bs:∀ b o,base.get? b=some o->s.heap.get? b=some o/\H b=none
 bsz:base.objs.size<=s.heap.objs.size
 funs:s.heap.FunFrames base outer
 frf:∀ b∈frs outer,H b=none
 hok:HOk P w H s.heap
 bare:AllBare s.gens
def CE (outer:List Env) (P:Program) (w:World) (H:Hp) (s:Shared) (Q:VK) (u:Value) (s':Shared):Prop :=
 ∃ v H',s'.os=s.os/\AllBare s'.gens/\Un (frs outer) [] H H' s.heap s'.heap/\HOk P w H' s'.heap/\RelV v u/\Q v H'
def CR (CX:CXT) (outer:List Env) (P:Program) (w:World) (H:Hp) (s:Shared) (Q:VK) (E:XK) (r:Result) (s':Shared):Prop :=
 match r with
 | .ok (.ret u)=>CE outer P w H s Q u s'
 | .ok _=>False
 | .error e=>CX outer H s E e s'
structure FnOk (P:Program) (w:World) (K:PySem.W.Frag) (mg:Str->Option Value) (base:Heap) (CX:CXT) (k:Nat) (f:Addr) (fd:FuncData) (ps:List Str) (sp:Sp):Prop where
 len:∀ vs H Q E,sp vs H Q E->vs.length=ps.length
 run:∀ (A:Around) (outer:List Env) (s:Shared) (H:Hp) (args:Args) (us:List Value) (vs:List V) (Q:VK) (E:XK),Room k A->Env0 P w K mg base A outer s H->BindsTo s fd args (ps.zip us)->Vals vs us->sp vs H Q E ->
  codeAny (model P w) A (.call (.ref f) args) (CR CX outer P w H s Q E) s
theorem FnOk.mono {P:Program} {w:World} {K:PySem.W.Frag} {mg:Str->Option Value} {base:Heap} {CX:CXT} {j k:Nat} {f:Addr} {fd:FuncData} {ps:List Str} {sp:Sp} (F:FnOk P w K mg base CX j f fd ps sp) (h:j<=k) :
  FnOk P w K mg base CX k f fd ps sp:=⟨F.len,fun A outer s H args us vs Q E hr=>F.run A outer s H args us vs Q E (hr.mono h)⟩
theorem FnOk.imp {P:Program} {w:World} {K:PySem.W.Frag} {mg:Str->Option Value} {base:Heap} {CX:CXT} {k:Nat} {f:Addr} {fd:FuncData} {ps:List Str} {sp sp':Sp} (F:FnOk P w K mg base CX k f fd ps sp)
  (h:∀ vs H Q E,sp' vs H Q E->sp vs H Q E):FnOk P w K mg base CX k f fd ps sp' :=
 ⟨fun vs H Q E q=>F.len vs H Q E (h _ _ _ _ q),fun A outer s H args us vs Q E hr he hb hv hs=>F.run A outer s H args us vs Q E hr he hb hv (h _ _ _ _ hs)⟩
theorem Env0.make {P:Program} {w:World} {K:PySem.W.Frag} {mg:Str->Option Value} {base:Heap} {A:Around} {outer:List Env} {s:Shared} {H:Hp} (e:Env0 P w K mg base A outer s H) (C:Addr) (us:List Value) (kw:List (Str×Value)) :
  Env0 P w K mg base (A.under (.builtin "type.__call__" ⟨.ref C::us,kw⟩)) outer s H:=⟨by first|exact e.frames|(simpa [Around.under,Code.envs,Code.isFrame,pushEnvs] using e.frames),e.mod,e.bs,e.bsz,e.funs,e.frf,e.hok,e.bare⟩
theorem Env0.in1 {P:Program} {w:World} {K:PySem.W.Frag} {mg:Str->Option Value} {base:Heap} {A:Around} {outer:List Env} {s:Shared} {H:Hp} (e:Env0 P w K mg base A outer s H) :
  Env0 P w K mg base A.in1 outer s H:=⟨e.frames,e.mod,e.bs,e.bsz,e.funs,e.frf,e.hok,e.bare⟩
section
variable {X:Cx} {pins:List (Addr×Obj)} {σ:St} {H:Hp} {s s':Shared}
theorem Inv.env0 (I:Inv X pins σ H s):Env0 X.prog X.w X.K X.mg X.base X.A X.stack s H :=
 ⟨I.ok.frames,I.ok.mod,I.bs,Nat.le_trans I.ok.bsz I.sz,I.stack,I.stkFree,I.hok,I.bare⟩
theorem Inv.after {Q:VK} {u:Value} (I:Inv X pins σ H s) (h:CE X.stack X.prog X.w H s Q u s'):EP X pins σ Q u s':=by
 obtain ⟨v,H',os,bare,un,hok,r,q⟩:=h
 obtain ⟨hh,g,d,t,os'⟩:=s'
 obtain rfl:os'=s.os:=os
 exact ⟨v,H',I.call (h':=hh) (g':=g) (d':=d) (t':=t) (ch:=[]) un hok bare (fun b z=>absurd z (by simp)),r,q⟩
end
def tCall (sp:Sp) (dvs:List V) (E:XK) (t:TA):TE:=fun σ H Q=>t σ H fun vs H1=>sp (vs++dvs) H1 Q E
def tMeth (C:Addr) (m:Str) (sp:Sp) (dvs:List V) (E:XK) (ta:TE) (t:TA):TE:=fun σ H Q=>ta σ H fun x H1=>∃ a dx fs,x=.ref a/\H1 a=some (.ins C dx fs)/\fs.lookup m=none /\
 t σ H1 fun vs H2=>sp (x::(vs++dvs)) H2 Q E
def tMake (C:Addr) (sp:Sp) (dvs:List V) (E:XK) (t:TA):TE:=fun σ H Q=>t σ H fun vs H1=>∀ x dx,H1 x=none->H1 dx=none->dx≠x ->
 sp (.ref x::(vs++dvs)) (upd (upd H1 dx (.own x)) x (.ins C dx [])) (fun v H2=>v=.non/\Q (.ref x) H2) E
def Binds (K:PySem.W.Frag) (fd:FuncData) (ps:List Str) (ds:List Value):Prop :=
 ∀ (s:Shared) (us:List Value),K.In s.heap->(us++ds).length=ps.length->BindsTo s fd ⟨us,[]⟩ (ps.zip (us++ds))
theorem Binds.all {K:PySem.W.Frag} {fd:FuncData} {ps:List Str} (h:∀ us:List Value,us.length=ps.length->bindArgs fd ⟨us,[]⟩=pure (ps.zip us)):Binds K fd ps []:=fun s us _ hl=>by
 rw [List.append_nil] at hl |-
 exact .of_eq (h us hl)
def Zew (CX:CXT) (X:Cx) (E:XK):Prop:=∀ (pins:List (Addr×Obj)) (σ:St) (H:Hp) (s:Shared) (e:Value) (s':Shared),Inv X pins σ H s->CX X.stack H s E e s'->X.xe e s'
section
variable {X:Cx} {CX:CXT} {k:Nat} {f C:Addr} {fd:FuncData} {ps:List Str} {sp:Sp} {dvs:List V} {ds:List Value} {E:XK} {x m:Str} {p pos apos:Pos} {e o:Expr} {es:List Expr} {ta:TE} {t:TA}
theorem Zfq {pins:List (Addr×Obj)} {σ:St} {H:Hp} {s:Shared} {Q:VK} {us:List Value} {vs:List V} (F:FnOk X.prog X.w X.K X.mg X.base CX k f fd ps sp) (hr:Room k X.A) (hb:Binds X.K fd ps ds) (hd:Vals dvs ds) (hx:Zew CX X E)
  (I:Inv X pins σ H s) (r:Vals vs us) (h:sp (vs++dvs) H Q E):wpAny (model X.prog X.w) X.A (call (.ref f) us) (EP X pins σ Q) X.xe s:=by
 have r2:Vals (vs++dvs) (us++ds):=r.append hd
 have hl:(us++ds).length=ps.length:=by rw [<- r2.length];exact F.len _ _ _ _ h
 refine wpAny_call (codeAny_mono (F.run X.A X.stack s H ⟨us,[]⟩ (us++ds) (vs++dvs) Q E hr I.env0 (hb s us I.kIn hl) r2 h) fun r s' hq=>?_)
 cases r with
 | error e=>exact hx pins σ H s e s' I hq
 | ok fl =>
  cases fl with
  | ret u=>exact I.after hq
  | next=>exact False.elim hq
  | brk=>exact False.elim hq
  | cont=>exact False.elim hq
theorem Zj9 (F:FnOk X.prog X.w X.K X.mg X.base CX k f fd ps sp) (hr:Room k X.A) (hg:Gl X x) (hm:X.mg x=some (.ref f)) (hk:PySem.W.keepIn X.K (.ref f)=true) (hb:Binds X.K fd ps ds) (hd:Vals dvs ds) (hx:Zew CX X E)
  (ha:PA X (e::es) t) (hdb:(x==("__debug__" : Str))=false:=by decide) (he:starEach (e::es) X.env=(false,eval e X.env)::starEach es X.env:=by rfl) (hpl:(backTo pos (starEach es X.env)).any (·.1)=false:=by rfl) :
  PE X (.Call (.Name x p) (e::es) [] pos) (tCall sp dvs E t):=by
 intro pins s σ H Q I h
 refine wpAny_Call_Name_kw (ZhD I hg hm ?_ hdb)
 refine PySem.W.callWith_K (h₀:=X.base) I.ok.mod.kin hk (thn (ha pos pins s σ H _ I h) fun us s1 ⟨vs,H1,I1,r,q⟩=>⟨I1.kIn,?_⟩) he hpl
 exact Zfq F hr hb hd hx I1 r q
theorem ZnR {pl:Sem Bool} (he:PE X o ta) (c:Cls X.K C) (hm:Meth X.K C m f) (F:FnOk X.prog X.w X.K X.mg X.base CX k f fd ps sp) (hr:Room k X.A) (hb:Binds X.K fd ps ds) (hd:Vals dvs ds) (hx:Zew CX X E) (ha:PA X (e::es) t)
  (hst:starEach (e::es) X.env=(false,eval e X.env)::starEach es X.env:=by rfl) (hpl:(backTo pos (starEach es X.env)).any (·.1)=false:=by rfl)
  (ht:eval (.Call (.Attribute o m apos) (e::es) [] pos) X.env=(do
   let ov <- eval o X.env
   standAt apos.atName
   let (f,first) <- holding [ov] (getMethod ov m pl)
   callWith pos f first (backTo pos (starEach (e::es) X.env)) (backToKw pos (keywordEach [] X.env))):=by rfl) :
  PE X (.Call (.Attribute o m apos) (e::es) [] pos) (tMeth C m sp dvs E ta t):=by
 intro pins s σ H Q I h
 refine PySem.W.methodCall_KW (pl:=pl) (thn (he pins s σ H _ I h) fun u s1 ⟨x,H1,I1,rx,a,dx,fs,ex,ea,l,q⟩=>?_) ht
 subst ex
 obtain rfl:u=Value.ref a:=rx
 refine ZbX I1 ea c hm l ?_
 refine PySem.W.callWith_K (first:=[.ref a]) (h₀:=X.base) I.ok.mod.kin hm.kp (thn (ha pos pins s1 σ H1 _ I1 q) fun us s2 ⟨vs,H2,I2,r,q2⟩=>⟨I2.kIn,?_⟩) hst hpl
 exact Zfq (us:=.ref a::us) (vs:=.ref a::vs) F hr hb hd hx I2 (.cons rfl r) q2
theorem Zl8 {pl:Sem Bool} (he:PE X o ta) (c:Cls X.K C) (hm:Meth X.K C m f) (F:FnOk X.prog X.w X.K X.mg X.base CX k f fd ps sp) (hr:Room k X.A) (hb:Binds X.K fd ps ds) (hd:Vals dvs ds) (hx:Zew CX X E)
  (ht:eval (.Call (.Attribute o m apos) [] [] pos) X.env=(do
   let ov <- eval o X.env
   standAt apos.atName
   let (f,first) <- holding [ov] (getMethod ov m pl)
   callWith pos f first (backTo pos (starEach [] X.env)) (backToKw pos (keywordEach [] X.env))):=by rfl) :
  PE X (.Call (.Attribute o m apos) [] [] pos) (tMeth C m sp dvs E ta tNil):=by
 intro pins s σ H Q I h
 refine PySem.W.methodCall_KW (pl:=pl) (thn (he pins s σ H _ I h) fun u s1 ⟨x,H1,I1,rx,a,dx,fs,ex,ea,l,q⟩=>?_) ht
 subst ex
 obtain rfl:u=Value.ref a:=rx
 refine ZbX I1 ea c hm l ?_
 exact PySem.W.callWith_K0 (first:=[.ref a]) I1.kIn hm.kp (Zfq (us:=[.ref a]) (vs:=[.ref a]) F hr hb hd hx I1 (.cons rfl .nil) q)
structure Mk (K:PySem.W.Frag) (C f:Addr):Prop where
 makes:PySem.W.makesIn K C=true
 init:PySem.W.findIn K (.ref C) "__init__" = some (some (.ref f))
 fn:PySem.W.isFn K (.ref f)=true
 kp:PySem.W.keepIn K (.ref C)=true
theorem Zl9 {pins:List (Addr×Obj)} {σ:St} {H:Hp} {s:Shared} {Q:VK} {us:List Value} {vs:List V} (M:Mk X.K C f) (F:FnOk X.prog X.w X.K X.mg X.base CX k f fd ps sp) (hr:Room (k+1) X.A) (hb:Binds X.K fd ps ds) (hd:Vals dvs ds)
  (hx:Zew CX X E) (I:Inv X pins σ H s) (r:Vals vs us)
  (h:∀ x dx,H x=none->H dx=none->dx≠x->sp (.ref x::(vs++dvs)) (upd (upd H dx (.own x)) x (.ins C dx [])) (fun v H2=>v=.non/\Q (.ref x) H2) E) :
  wpAny (model X.prog X.w) X.A (call (.ref C) us) (EP X pins σ Q) X.xe s:=by
 have hq:=h (s.heap.objs.size+1) s.heap.objs.size (I.hok.fresh (Nat.le_succ _)) (I.hok.fresh (Nat.le_refl _)) (Nat.ne_of_lt (Nat.lt_succ_self _))
 have I2:=Inv.made (C:=C) I
 have r2:Vals (V.ref (s.heap.objs.size+1)::(vs++dvs)) (Value.ref (s.heap.objs.size+1)::(us++ds)):=.cons rfl (r.append hd)
 have hl:(Value.ref (s.heap.objs.size+1)::us++ds).length=ps.length:=by
  have e:=r2.length
  rw [F.len _ _ _ _ hq] at e
  exact e.symm
 refine wpAny_call (Zl7 (f:=f) I.kIn M.makes M.init (beq_iff_eq.mp M.fn) (codeAny_mono (F.run _ X.stack _ _ ⟨Value.ref (s.heap.objs.size+1)::us,[]⟩ (Value.ref (s.heap.objs.size+1)::(us++ds)) _ _ E (hr.make C us [])
  (I2.env0.make C us []) (hb _ (Value.ref (s.heap.objs.size+1)::us) I2.kIn hl) r2 hq) fun r s' hq'=>?_))
 cases r with
 | error e=>exact hx pins σ _ _ e s' I2 hq'
 | ok fl =>
  cases fl with
  | ret u =>
   obtain ⟨v,H',I3,rv,ev,q3⟩:=I2.after hq'
   subst ev
   exact ⟨rv,⟨V.ref (s.heap.objs.size+1),H',I3,rfl,q3⟩⟩
  | next=>exact False.elim hq'
  | brk=>exact False.elim hq'
  | cont=>exact False.elim hq'
theorem Zka (M:Mk X.K C f) (F:FnOk X.prog X.w X.K X.mg X.base CX k f fd ps sp) (hr:Room (k+1) X.A) (hg:Gl X x) (hm:X.mg x=some (.ref C)) (hb:Binds X.K fd ps ds) (hd:Vals dvs ds) (hx:Zew CX X E)
  (ha:PA X (e::es) t) (hdb:(x==("__debug__" : Str))=false:=by decide) (he:starEach (e::es) X.env=(false,eval e X.env)::starEach es X.env:=by rfl) (hpl:(backTo pos (starEach es X.env)).any (·.1)=false:=by rfl) :
  PE X (.Call (.Name x p) (e::es) [] pos) (tMake C sp dvs E t):=by
 intro pins s σ H Q I h
 refine wpAny_Call_Name_kw (ZhD I hg hm ?_ hdb)
 refine PySem.W.callWith_K (h₀:=X.base) I.ok.mod.kin M.kp (thn (ha pos pins s σ H _ I h) fun us s1 ⟨vs,H1,I1,r,q⟩=>⟨I1.kIn,?_⟩) he hpl
 exact Zl9 M F hr hb hd hx I1 r q
end
section
variable {X:Cx} {CX:CXT} {k:Nat} {f C:Addr} {fd:FuncData} {ps ks:List Str} {sp:Sp} {E:XK} {x m:Str} {p pos apos kpos:Pos} {e o:Expr} {es:List Expr} {kws:List Keyword} {te ta:TE} {t tk:TA} {nm:Option Str}
structure KBinds (K:PySem.W.Frag) (fd:FuncData) (ps ks:List Str) (g:List Value->List Value->List Value) (gV:List V->List V->List V):Prop where
 to:∀ (s:Shared) (us ws:List Value),K.In s.heap->(g us ws).length=ps.length->BindsTo s fd ⟨us,ks.zip ws⟩ (ps.zip (g us ws))
 rel:∀ {vs:List V} {us:List Value} {zs:List V} {ws:List Value},Vals vs us->Vals zs ws->Vals (gV vs zs) (g us ws)
variable {g:List Value->List Value->List Value} {gV:List V->List V->List V}
end
structure FnScope (N P:List Str) (sc:Scope):Prop where
 kind:sc.kind=.function
 co:sc.isCoroutine=false
 gen:sc.isGenerator=false
 nd:N.Nodup
 pre:N.take P.length=P
 par:∀ x∈P,sc.names.lookup x=some .local\/sc.names.lookup x=some .cell
 nofree:∀ y∈sc.names,y.2≠.free
theorem Zgx {kindOf:Str->Option NameKind} {x:Str}:∀ {binds:List (Str×Value)} {m:Str->Option Value},(∀ v,(x,v)∉binds)->bindL kindOf binds m x=m x
 | [],_,_=>rfl
 | (n,v)::r,m,h=>by
  unfold bindL
  rw [Zgx fun w hw=>h w (List.mem_cons_of_mem _ hw)]
  split
  .have:x≠n:=by rintro rfl;exact h v List.mem_cons_self
   simp [this]
  .rfl
theorem Zgy {kindOf:Str->Option NameKind} {x:Str}:∀ {binds:List (Str×Value)} {m:Str->Option Value},(∀ v,(x,v)∉binds)->bindC kindOf binds m x=m x
 | [],_,_=>rfl
 | (n,v)::r,m,h=>by
  unfold bindC
  rw [Zgy fun w hw=>h w (List.mem_cons_of_mem _ hw)]
  split
  .rfl
  .have:x≠n:=by rintro rfl;exact h v List.mem_cons_self
   simp [this]
theorem Zgz {kindOf:Str->Option NameKind} {x:Str} {v:Value}:∀ {P:List Str} {vs:List Value} {i:Nat} {m:Str->Option Value},P.Nodup->P[i]?=some x->vs[i]?=some v->kindOf x=some .local ->
  bindL kindOf (P.zip vs) m x=some v
 | [],_,_,_,_,h,_,_=>by simp at h
 | _::_,[],_,_,_,_,h,_=>by simp at h
 | p::P,w::vs,0,m,nd,h1,h2,hk=>by
  simp at h1 h2;subst h1;subst h2
  show bindL kindOf ((p,w)::P.zip vs) m p=_
  unfold bindL
  rw [Zgx fun v hv=>(List.nodup_cons.mp nd).1 (List.of_mem_zip hv).1,if_pos hk]
  simp
 | p::P,w::vs,i+1,m,nd,h1,h2,hk=>by
  show bindL kindOf ((p,w)::P.zip vs) m x=_
  unfold bindL
  exact Zgz (i:=i) (List.nodup_cons.mp nd).2 (by simpa using h1) (by simpa using h2) hk
theorem ZgA {kindOf:Str->Option NameKind} {x:Str} {v:Value}:∀ {P:List Str} {vs:List Value} {i:Nat} {m:Str->Option Value},P.Nodup->P[i]?=some x->vs[i]?=some v->kindOf x≠some .local ->
  bindC kindOf (P.zip vs) m x=some v
 | [],_,_,_,_,h,_,_=>by simp at h
 | _::_,[],_,_,_,_,h,_=>by simp at h
 | p::P,w::vs,0,m,nd,h1,h2,hk=>by
  simp at h1 h2;subst h1;subst h2
  show bindC kindOf ((p,w)::P.zip vs) m p=_
  unfold bindC
  rw [Zgy fun v hv=>(List.nodup_cons.mp nd).1 (List.of_mem_zip hv).1,if_neg hk]
  simp
 | p::P,w::vs,i+1,m,nd,h1,h2,hk=>by
  show bindC kindOf ((p,w)::P.zip vs) m x=_
  unfold bindC
  exact ZgA (i:=i) (List.nodup_cons.mp nd).2 (by simpa using h1) (by simpa using h2) hk
noncomputable def start (N:List Str) (vs:List V):St:=vs.map some++List.replicate (N.length-vs.length) none
noncomputable def cxOf (CX:CXT) (P:Program) (w:World) (K:PySem.W.Frag) (mg:Str->Option Value) (base:Heap) (N:List Str) (qual:Str) (scope:Scope) (f:Addr) (cd:Value) (A:Around) (outer:List Env) (s:Shared) (H:Hp) (E:XK):Cx where
 prog:=P
 w:=w
 K:=K
 mg:=mg
 base:=base
 A:=A.deeper (envOfC qual scope s.heap.objs.size f cd)
 N:=N
 s₀:=s
 H₀:=H
 env:=envOfC qual scope s.heap.objs.size f cd
 outer:=outer
 stack:=envOfC qual scope s.heap.objs.size f cd::outer
 ex:=[]
 calm:=true
 fn:=fun _=>true
 pn:=[]
 xe:=fun e s'=>wpAny (model P w) (A.deeper (envOfC qual scope s.heap.objs.size f cd)) (leaving (envOfC qual scope s.heap.objs.size f cd) e) (fun _ s''=>CX outer H s E e s'') (fun e' s''=>CX outer H s E e' s'') s'
theorem ZiK {sc:Scope} {n:Nat} {x:Str} (h:sc.names.lookup x=some .cell):∃ c,(cellsFrom n sc.names []).lookup x=some c:=by
 have q:=PySem.W.cellsFrom_some sc.names n [] (.inl h)
 exact Option.isSome_iff_exists.mp q
theorem Zkb {CX:CXT} {P:Program} {w:World} {K:PySem.W.Frag} {mg:Str->Option Value} {base:Heap} {N ps:List Str} {qual:Str} {scope:Scope} {f:Addr} {cd:Value} {A:Around} {outer:List Env} {s s1:Shared} {H:Hp} {E:XK} {us:List Value} {vs:List V}
  (S:FnScope N ps scope) (hd:A.handled=none) (e0:Env0 P w K mg base A outer s H) (hl:vs.length=ps.length) (r:Vals vs us)
  (x:InCallC s s.heap.objs.size (bindL (envOfC qual scope s.heap.objs.size f cd).kindOf (ps.zip us) fun _=>none) (cellsFrom (s.heap.objs.size+1) scope.names []) (bindC (envOfC qual scope s.heap.objs.size f cd).kindOf (ps.zip us) fun _=>none) s1) :
  Inv (cxOf CX P w K mg base N qual scope f cd A outer s H E) [] (start N vs) H s1:=by
 have hpl:ps.length<=N.length:=by have:=congrArg List.length S.pre;rw [List.length_take] at this;omega
 obtain ⟨h1,tk,rfl,hk⟩:=x.done
 have noA:∀ b:Addr,b∉(cxOf CX P w K mg base N qual scope f cd A outer s H E).ex:=fun b z=>absurd (show b∈([]:List Addr) from z) (by simp)
 refine ⟨⟨e0.mod,S.kind,rfl,rfl,Nat.le_refl _,fun y z c h1 h2=>?_,fun y hy=>?_,fun y c _ h=>?_,fun _=>hd,Around.frames_deeper e0.frames,.inr ⟨rfl,rfl⟩,fun b z=>absurd z (noA b),e0.bs,e0.bsz,fun b _ _=>noA b,fun b z=>absurd z (noA b),e0.funs,e0.frf⟩,
  rfl,e0.bare,Un.kept hk,⟨_,x.toInCall.ns,fun i y v h1 h2 h3=>?_⟩,fun y c h=>⟨_,x.cell y c h⟩,e0.hok.fresh (Nat.le_refl _),fun y c h=>?_,fun p hp=>absurd (show p∈([]:List (Addr×Obj)) from hp) (by simp),e0.hok.kept hk,?_⟩
 .exact name_of_addr x.apart (PySem.mem_of_lookup h1) (PySem.mem_of_lookup h2)
 .have hy:scope.names.lookup y=some .cell\/scope.names.lookup y=some .free:=hy
  rcases hy with hy|hy
  .exact ZiK hy
  .exact absurd rfl (S.nofree _ (PySem.mem_of_lookup hy))
 .exact Nat.le_of_lt (x.above y c (PySem.mem_of_lookup h))
 .have hi:i<vs.length:=by
   unfold start at h2
   by_cases hi:i<vs.length
   .exact hi
   .rw [List.getElem?_append_right (by simpa using hi)] at h2
    rw [List.getElem?_replicate] at h2
    split at h2<;>cases h2
  have ha:vs[i]?=some v:=by
   unfold start at h2
   rw [List.getElem?_append_left (by simpa using hi),List.getElem?_map] at h2
   cases e:vs[i]? with
   | none=>rw [e] at h2;cases h2
   | some a=>rw [e] at h2;cases h2;rfl
  obtain ⟨u,hu,rv⟩:=r.get ha
  have hp:ps[i]?=some y:=by
   rw [<- S.pre,List.getElem?_take_of_lt (by omega)];exact h1
  have ndP:ps.Nodup:=by rw [<- S.pre];exact S.nd.sublist (List.take_sublist _ _)
  refine ⟨u,rv,?_⟩
  rcases S.par y (List.mem_of_getElem? hp) with k|k
  .exact .inl ⟨k,Zgz ndP hp hu k⟩
  .obtain ⟨c,e⟩:=ZiK (n:=s.heap.objs.size+1) k
   refine .inr ⟨.inl k,c,e,?_⟩
   have q:=x.cell y c e
   rw [ZgA ndP hp hu (by show scope.names.lookup y≠_;rw [k];decide)] at q
   exact q
 .exact e0.hok.fresh (Nat.le_of_lt (x.above y c (PySem.mem_of_lookup h)))
 .unfold start
  show _=N.length
  rw [List.length_append,List.length_map,List.length_replicate]
  omega
theorem fn_of {CX:CXT} {P:Program} {w:World} {K:PySem.W.Frag} {mg:Str->Option Value} {base:Heap} {k:Nat} {f:Addr} {name qual:Str} {params:Arguments} {body:List Stmt} {scope:Scope} {dV kV doc pm cdv ct oc:Value} {an od:Option Addr}
  {osl:Array (Option Value)} {N ps:List Str} {sp:Sp} (lk:K.lookup f=some ⟨oc,od,.func (PySem.W.fnOf name qual params body scope dV kV doc pm an cdv ct),osl⟩) (hcd:PySem.W.codeIn K cdv qual=true) (S:FnScope N ps scope)
  (len:∀ vs H Q E,sp vs H Q E->vs.length=ps.length)
  (hbody:∀ (A:Around) (outer:List Env) (s:Shared) (H:Hp) (vs:List V) (Q:VK) (E:XK),Room k (A.deeper (envOfC qual scope s.heap.objs.size f cdv))->sp vs H Q E ->
   ∃ t,PSs (cxOf CX P w K mg base N qual scope f cdv A outer s H E) body t/\t { nx:=fun _ H'=>Q .non H',rt:=Q } (start N vs) H) :
  FnOk P w K mg base CX (k+1) f (PySem.W.fnOf name qual params body scope dV kV doc pm an cdv ct) ps sp:=by
 refine ⟨len,fun A outer s H args us vs Q E hr e0 hb r hsp=>?_⟩
 have hl:=len _ _ _ _ hsp
 have KX:K.In s.heap:=e0.mod.kin.keeps fun b o e=>(e0.bs b o e).1
 have lim:s.heap.NoLimit:=e0.mod.nolimit.keeps fun b o e=>(e0.bs b o e).1
 have hkind:∀ y∈ps.zip us,scope.names.lookup y.1=some .local\/(scope.names.lookup y.1=some .cell/\((cellsFrom (s.heap.objs.size+1) scope.names []).lookup y.1).isSome=true):=fun ⟨n,v⟩ hy=>by
  rcases S.par n (List.of_mem_zip hy).1 with q|q
  .exact .inl q
  .exact .inr ⟨q,PySem.W.cellsFrom_some _ _ _ (.inl q)⟩
 refine codeAny_call_function hr.depth (KX _ _ lk) rfl S.co S.gen rfl (PySem.W.codeRec_of KX hcd) (hb _ _ _ _ ?_)
 refine wpAny_newFunctionEnv_cells S.kind hkind fun env he s1 x=>?_
 subst he
 refine ⟨lim.keeps x.toInCall.keep,codeAny_func ?_⟩
 obtain ⟨t,ht,hq⟩:=hbody A outer s H vs Q E (hr.deeper _) hsp
 have I:Inv (cxOf CX P w K mg base N qual scope f cdv A outer s H E) [] (start N vs) H s1:=Zkb S hr.hd e0 hl r x
 refine wpAny_mono (ht [] s1 (start N vs) H _ I hq) (fun fl s' hs=>?_) fun e s' hs=>hs
 have fin:∀ {σ':St} {H':Hp} {v:V} {u:Value},Inv (cxOf CX P w K mg base N qual scope f cdv A outer s H E) [] σ' H' s'->RelV v u->Q v H'->CE outer P w H s Q u s' :=
  fun {σ' H' v u} J rv q=>⟨v,H',J.os,J.bare,J.base,J.hok,rv,q⟩
 cases fl with
 | ret u =>
  obtain ⟨v,σ',H',J,rv,q⟩:=hs
  exact fin J rv q
 | next =>
  obtain ⟨σ',H',J,q⟩:=hs
  exact fin (v:=V.non) (u:=Value.none) J rfl q
 | brk =>
  obtain ⟨_,_,_,q⟩:=hs
  exact False.elim q
 | cont =>
  obtain ⟨_,_,_,q⟩:=hs
  exact False.elim q
section
variable {X:Cx} {x:Str} {p pos:Pos} {e:Expr} {es:List Expr} {t:TA} {id T:String} {r:List V->Hp->VK->Prop}
def tCB (r:List V->Hp->VK->Prop) (t:TA):TE:=fun σ H Q=>t σ H fun vs H1=>r vs H1 Q
theorem ZaO (hc:CallR X (.builtin id) r) (hg:Gl X x) (hm:X.mg x=none) (hv:bootBuiltins x=some (.builtin id)) (ha:PA X (e::es) t) (hn:x ≠ "__name__" := by decide) (hdb:(x==("__debug__" : Str))=false:=by decide)
  (he:starEach (e::es) X.env=(false,eval e X.env)::starEach es X.env:=by rfl) (hpl:(backTo pos (starEach es X.env)).any (·.1)=false:=by rfl):PE X (.Call (.Name x p) (e::es) [] pos) (tCB r t):=by
 intro pins s σ H Q I h
 refine wpAny_Call_Name_kw (Zfn I hg hm hv ?_ hn hdb)
 exact PyProof.Rows.callWith_builtin1 (thn (ha pos pins s σ H _ I h) fun us s1 ⟨vs,H1,I1,r1,q1⟩=>hc pins s1 σ H1 vs us Q I1 r1 q1) he hpl
theorem Zcg (hc:CallR X (.type T) r) (hg:Gl X x) (hm:X.mg x=none) (hv:bootBuiltins x=some (.type T)) (ha:PA X (e::es) t) (hn:x ≠ "__name__" := by decide) (hdb:(x==("__debug__" : Str))=false:=by decide)
  (he:starEach (e::es) X.env=(false,eval e X.env)::starEach es X.env:=by rfl) (hpl:(backTo pos (starEach es X.env)).any (·.1)=false:=by rfl):PE X (.Call (.Name x p) (e::es) [] pos) (tCB r t):=by
 intro pins s σ H Q I h
 refine wpAny_Call_Name_kw (Zfn I hg hm hv ?_ hn hdb)
 exact PyProof.Rows.callWith_type1 (thn (ha pos pins s σ H _ I h) fun us s1 ⟨vs,H1,I1,r1,q1⟩=>hc pins s1 σ H1 vs us Q I1 r1 q1) he hpl
end
end L2
namespace HT
open PySem PyProof.Rows
section
open PySem.SeqAt
open PySem.AutoSeq1 (wpAny_loadPart')
open PySem.MeetsSeq PySem.MeetsSeq2 PySem.MeetsSeq3
end
section
variable {prog:Program} {w:World} {A:Around} {E:Value->Shared->Prop} {s:Shared}
noncomputable def sIx (n d:Nat):Option Int->Nat
 | none=>d
 | some v=>if v<0 then (v+(n:Int)).toNat else min v.toNat n
theorem sIx_le (n d:Nat) (hd:d<=n) (o:Option Int):sIx n d o<=n:=by
 cases o with
 | none=>exact hd
 | some v =>
  show (if v<0 then (v+(n:Int)).toNat else min v.toNat n)<=n
  by_cases hv:v<0
  .rw [if_pos hv];omega
  .rw [if_neg hv];exact Nat.min_le_right _ _
theorem Zkc (v:Int) (n d:Nat):(if v<0 then max (v+(n:Int)) 0 else min v (n:Int))=((sIx n d (some v):Nat):Int):=by
 show (if v<0 then max (v+(n:Int)) 0 else min v (n:Int))=(((if v<0 then (v+(n:Int)).toNat else min v.toNat n):Nat):Int)
 by_cases hv:v<0
 .simp only [if_pos hv];omega
 .simp only [if_neg hv];omega
theorem Zjo (lo hi:Option Int) (n:Nat):Builtin.Slice.sliceAdjust lo hi 1 (n:Int)=(((sIx n 0 lo:Nat):Int),((sIx n n hi:Nat):Int)):=by
 have h1:¬ ((1:Int)<0):=by omega
 unfold Builtin.Slice.sliceAdjust
 simp only [h1,if_false]
 refine Prod.ext ?_ ?_
 .cases lo with
  | none=>rfl
  | some v=>exact Zkc v n 0
 .cases hi with
  | none=>rfl
  | some v=>exact Zkc v n n
theorem Zjp (i j:Nat):Builtin.Slice.slicePlaces (i:Int) (j:Int) 1=j-i:=by
 unfold Builtin.Slice.slicePlaces
 have h1:(1:Int)>0:=by omega
 simp only [h1,if_true,Int.ediv_one]
 split<;>omega
theorem Zfr {v:Value} {o:Option Int} {Q:Option Int->Shared->Prop} (p:IsPart v o) (h:Q o s):wpAny (model prog w) A (Builtin.Slice.slicePartIndex v) Q E s:=by
 cases p with
 | none=>exact slicePart_none h
 | int i t=>exact slicePart_int h
theorem Zd0 {sl:Addr} {vl vu:Value} {lo hi:Option Int} {n:Nat} {Q:Int×Int×Nat->Shared->Prop} (hs:s.heap.IsSliceOf sl vl vu .none) (pl:IsPart vl lo) (pu:IsPart vu hi)
  (h:Q (((sIx n 0 lo:Nat):Int),1,sIx n n hi-sIx n 0 lo) s):wpAny (model prog w) A (Builtin.Slice.sliceApplied (.ref sl) (pure (n:Int))) Q E s:=by
 obtain ⟨os,hos,hcs,hds⟩:=id hs
 unfold Builtin.Slice.sliceApplied Builtin.Slice.sliceFields
 refine wpAny_bind (wpAny_bind (wpAny_field hos hds (x:=vl) rfl (wpAny_bind (wpAny_field hos hds (x:=vu) rfl (wpAny_bind (wpAny_field hos hds (x:=.none) rfl (wpAny_pure ?_)))))))
 refine wpAny_bind (slicePart_none ?_)
 show wpAny _ _ (if ((1:Int)==0)=true then _ else _) _ _ s
 rw [if_neg (by decide)]
 refine wpAny_bind (Zfr pl (wpAny_bind (Zfr pu (wpAny_bind (wpAny_pure ?_)))))
 show wpAny _ _ (match Builtin.Slice.sliceAdjust lo hi 1 (n:Int) with|(lo,hi)=>pure (lo,(1:Int),Builtin.Slice.slicePlaces lo hi 1)) _ _ s
 rw [Zjo lo hi n]
 show wpAny _ _ (pure (((sIx n 0 lo:Nat):Int),(1:Int),Builtin.Slice.slicePlaces ((sIx n 0 lo:Nat):Int) ((sIx n n hi:Nat):Int) 1)) _ _ s
 rw [Zjp]
 exact wpAny_pure h
theorem Zma (xs:Array Value) (i k:Nat):((List.range k).filterMap fun (m:Nat)=>xs[((i:Int)+(m:Int)*1).toNat]?).toArray=((xs.toList.drop i).take k).toArray:=by
 have e:(fun (m:Nat)=>xs[((i:Int)+(m:Int)*1).toNat]?)=fun m=>xs[i+m]?:=by
  funext m
  have:((i:Int)+(m:Int)*1).toNat=i+m:=by omega
  rw [this]
 rw [e]
 have:=pick_run xs i k
 rw [List.filterMap_map] at this
 have e2:((fun x=>xs[x]?) ∘ fun x=>i+x)=fun m=>xs[i+m]?:=rfl
 rw [e2] at this
 rw [this]
theorem Zdx {t sl:Addr} {items:Array Value} {vl vu:Value} {lo hi:Option Int} {Q:Value->Shared->Prop} (ht:IsTup s.heap t items) (hs:s.heap.IsSliceOf sl vl vu .none) (pl:IsPart vl lo) (pu:IsPart vu hi)
  (hw:¬ (sIx items.size 0 lo=0/\sIx items.size items.size hi=items.size))
  (h:Q (.ref s.heap.objs.size) { s with heap:=s.heap.push { cls:=.type "tuple", data:=.seq ((items.toList.drop (sIx items.size 0 lo)).take (sIx items.size items.size hi-sIx items.size 0 lo)).toArray } })
  (hsz:items.size<=sizeLine):wpAny (model prog w) A (getItem (.ref t) (.ref sl)) Q E s:=by
 have htake:sizeOk (.seq ((items.toList.drop (sIx items.size 0 lo)).take (sIx items.size items.size hi-sIx items.size 0 lo)).toArray):=by
  show ((items.toList.drop (sIx items.size 0 lo)).take (sIx items.size items.size hi-sIx items.size 0 lo)).toArray.size<=sizeLine
  rw [List.size_toArray,List.length_take,List.length_drop,Array.length_toList]
  omega
 have hj:sIx items.size items.size hi<=items.size:=sIx_le _ _ (Nat.le_refl _) hi
 obtain ⟨os,hos,hcs,hds⟩:=id hs
 have hTs:s.TypeIs (.ref sl) "slice" := ⟨os,hos,hcs⟩
 unfold getItem
 try with_reducible refine wpAny_holding ?_
 first|refine wpAny_bind (wpAny_pure ?_)|skip
 refine wpAny_bind (wpAny_sequenceKey ht.typeIs (by decide) ?_)
 refine wpAny_bind (wpAny_callSpecial?_slot (name:=Str.ofString "__getitem__") ht.typeIs PyProof.Rows.slot_tuple_getitem
  (wpAny_call_entry PyProof.Rows.slot_tuple_getitem ht.typeIs entry_tuple_getitem ?_ (args_tuple_getitem _ _)))
 show wpAny _ _ (Builtin.Tuple.tupleItemsOf (.ref t) >>= _) _ _ s
 refine wpAny_bind (tupleItemsOf_ ht ?_)
 refine wpAny_bind (wpAny_typeOf hTs ?_)
 rw [if_pos (by decide)]
 refine wpAny_bind (Zd0 hs pl pu ?_)
 have hno:¬ ((((sIx items.size 0 lo:Nat):Int)==0&&(1:Int)==1&&(sIx items.size items.size hi-sIx items.size 0 lo)==items.size)=true):=by
  intro q
  rw [Bool.and_eq_true,Bool.and_eq_true] at q
  have q1:((sIx items.size 0 lo:Nat):Int)=0:=eq_of_beq q.1.1
  have q2:sIx items.size items.size hi-sIx items.size 0 lo=items.size:=eq_of_beq q.2
  exact hw ⟨by omega,by omega⟩
 show wpAny _ _ (if (((sIx items.size 0 lo:Nat):Int)==0&&(1:Int)==1&&(sIx items.size items.size hi-sIx items.size 0 lo)==items.size)=true then _ else _) _ _ s
 rw [if_neg hno,Zma]
 first
  | exact wpAny_bind (m:=Builtin.Tuple.tupleExact _) (wpAny_newObj_type (wpAny_pure ⟨_,rfl,wpAny_pure h⟩) htake)
  | exact wpAny_bind (m:=Builtin.Tuple.tupleExact _) (wpAny_newObj_type (wpAny_bind (wpAny_pure (wpAny_pure ⟨_,rfl,wpAny_pure h⟩))) htake)
  | exact wpAny_bind (wpAny_bind (m:=Builtin.Tuple.tupleExact _) (wpAny_newObj_type (wpAny_pure (wpAny_pure ⟨_,rfl,wpAny_pure h⟩)) htake))
  | exact wpAny_bind (wpAny_bind (m:=Builtin.Tuple.tupleExact _) (wpAny_newObj_type (wpAny_pure ⟨_,rfl,wpAny_pure h⟩) htake))
end
end HT
namespace L2
open PySem PySem.Spec PyProof.Rows
abbrev TO:=St->Hp->(Option Int->Hp->Prop)->Prop
def PO (X:Cx) (e:Option Expr) (t:TO):Prop :=
 ∀ (pins:List (Addr×Obj)) (s:Shared) (σ:St) (H:Hp) (Q:Option Int->Hp->Prop),Inv X pins σ H s->t σ H Q ->
  wpAny (model X.prog X.w) X.A (evalPart e X.env) (fun u s'=>∃ o H',Inv X pins σ H' s'/\IsPart u o/\Q o H') X.xe s
def Zkd:TO:=fun _ H Q=>Q none H
def tPart (t:TE):TO:=fun σ H Q=>t σ H fun x H1=>∃ i,x=.int i/\Q (some i) H1
section
variable {X:Cx} {e:Expr} {te:TE} {lo hi:Option Expr} {tl th:TO} {pos p2:Pos}
theorem ZnS:PO X none Zkd:=by
 intro pins s σ H Q I h
 rw [evalPart_none]
 exact wpAny_pure ⟨none,H,I,.none,h⟩
theorem Zb0 (h:PE X e te):PO X (some e) (tPart te):=by
 intro pins s σ H Q I hw
 rw [evalPart_some]
 refine thn (h pins s σ H _ I hw) fun u s1 ⟨x,H1,I1,r1,q1⟩=>?_
 obtain ⟨i,rfl,q⟩:=q1
 obtain ⟨t,rfl⟩:=r1
 exact ⟨some i,H1,I1,.int i t,q⟩
def SlR (X:Cx) (r:V->Option Int->Option Int->Hp->VK->Prop):Prop :=
 ∀ (pins:List (Addr×Obj)) (s:Shared) (σ:St) (H:Hp) (x:V) (v vl vu:Value) (lo hi:Option Int) (sl:Addr) (Q:VK),Inv X pins σ H s->RelV x v->s.heap.IsSliceOf sl vl vu .none->IsPart vl lo->IsPart vu hi->r x lo hi H Q ->
  ∃ T id,typeLookup (.type T) "__getitem__" = pure (some (.builtin id))/\s.TypeIs v T/\wpAny (model X.prog X.w) X.A (getItem v (.ref sl)) (EP X pins σ Q) X.xe s
theorem SlR.or {r r':V->Option Int->Option Int->Hp->VK->Prop} (h:SlR X r) (h':SlR X r'):SlR X (fun x lo hi H Q=>r x lo hi H Q\/r' x lo hi H Q):=by
 intro pins s σ H x v vl vu lo hi sl Q I rx hs pl pu q
 rcases q with q|q
 .exact h pins s σ H x v vl vu lo hi sl Q I rx hs pl pu q
 .exact h' pins s σ H x v vl vu lo hi sl Q I rx hs pl pu q
def tSl (r:V->Option Int->Option Int->Hp->VK->Prop) (te:TE) (tl th:TO):TE:=fun σ H Q=>te σ H fun x H1=>tl σ H1 fun l H2=>th σ H2 fun u H3=>r x l u H3 Q
theorem Zdh {r:V->Option Int->Option Int->Hp->VK->Prop} (hr:SlR X r) (he:PE X e te) (hl:PO X lo tl) (hu:PO X hi th):PE X (.Subscript e (.Slice lo hi none p2) pos) (tSl r te tl th):=by
 intro pins s σ H Q I h
 refine Subscript_ (thn (he pins s σ H _ I h) fun v s1 ⟨x,H1,I1,r1,q1⟩=>?_)
 refine wpAny_Slice (thn (hl pins s1 σ H1 _ I1 q1) fun vl s2 ⟨l,H2,I2,pl,q2⟩=>thn (hu pins s2 σ H2 _ I2 q2) fun vu s3 ⟨u,H3,I3,pu,q3⟩=>?_)
 rw [evalPart_none]
 refine wpAny_pure ?_
 have I4:Inv X pins σ H3 { s3 with heap:=s3.heap.push { cls:=.type "slice", data:=.fields #[vl,vu,.none] } }:=I3.kept (t':=s3.toks) fun b ob q=>Heap.get?_push_of_some _ q
 obtain ⟨T,id,hT,ht,hg⟩:=hr pins { s3 with heap:=s3.heap.push { cls:=.type "slice", data:=.fields #[vl,vu,.none] } } σ H3 x v vl vu l u s3.heap.objs.size Q I4 r1 (Heap.IsSliceOf.new ..) pl pu q3
 show wpAny (model X.prog X.w) X.A (subscriptTail e (.Slice lo hi none p2) v (.ref s3.heap.objs.size)) (EP X pins σ Q) X.xe { s3 with heap:=s3.heap.push { cls:=.type "slice", data:=.fields #[vl,vu,.none] } }
 exact tail_any (ops:=[.ref s3.heap.objs.size,v]) ht hT hg (by with_unfolding_all rfl)
noncomputable def cutV (xs:List V) (lo hi:Option Int):List V:=(xs.drop (HT.sIx xs.length 0 lo)).take (HT.sIx xs.length xs.length hi-HT.sIx xs.length 0 lo)
theorem Zex (xs:List V) (lo hi:Option Int):(cutV xs lo hi).length<=xs.length:=by
 unfold cutV
 rw [List.length_take,List.length_drop]
 omega
def rSlT (K:PySem.W.Frag):V->Option Int->Option Int->Hp->VK->Prop:=fun x lo hi H Q=>∃ a xs,x=.ref a/\SqT K H a xs /\
 ¬ (HT.sIx xs.length 0 lo=0/\HT.sIx xs.length xs.length hi=xs.length)/\∀ p,H p=none->Q (.ref p) (upd H p (.tup (cutV xs lo hi)))
theorem Zke:SlR X (rSlT X.K):=by
 intro pins s σ H x v vl vu lo hi sl Q I rx hs pl pu h
 obtain ⟨a,xs,rfl,hx,hw,q⟩:=h
 cases rx
 obtain ⟨its,r,ht,hz⟩:=I.tuple hx
 have hlen:its.toArray.size=xs.length:=by rw [List.size_toArray];exact r.length.symm
 refine ⟨"tuple", _,PyProof.Rows.slot_tuple_getitem.lookup,ht.typeIs,?_⟩
 refine HT.Zdx ht hs pl pu (by rw [hlen];exact hw) ?_ (by rw [hlen];exact hz)
 rw [hlen]
 refine ⟨.ref s.heap.objs.size,_,I.laid (t':=s.toks) (o:=.tup (cutV xs lo hi)) (fun b ob q=>Heap.get?_push_of_some _ q) (Nat.le_refl _) ?_,rfl,q _ (I.hok.fresh (Nat.le_refl _))⟩
 exact ⟨Nat.le_trans (Zex xs lo hi) hz,_,(r.drop (HT.sIx xs.length 0 lo)).take (HT.sIx xs.length xs.length hi-HT.sIx xs.length 0 lo),IsTup.new _ _⟩
end
noncomputable def ixN (n:Nat) (i:Int):Option Nat:=if 0<=i then (if i<n then some i.toNat else none) else if -(n:Int)<=i then some (i+n).toNat else none
noncomputable def atI {α:Type} (xs:List α) (i:Int):Option α:=(ixN xs.length i).bind fun j=>xs[j]?
theorem Zkf {n:Nat} {i:Int} {j:Nat} (h:ixN n i=some j):seqIndex? i n=some j/\j<n/\-(n:Int)<=i/\i<n:=by
 unfold ixN at h
 by_cases h0:0<=i
 .rw [if_pos h0] at h
  by_cases h1:i<n
  .rw [if_pos h1] at h
   have e:i.toNat=j:=Option.some.inj h
   exact ⟨by rw [seqIndex_of h0 h1,e],by omega,by omega,h1⟩
  .rw [if_neg h1] at h;cases h
 .rw [if_neg h0] at h
  by_cases h1:-(n:Int)<=i
  .rw [if_pos h1] at h
   have e:(i+n).toNat=j:=Option.some.inj h
   exact ⟨by rw [seqIndex_neg (by omega) h1,e],by omega,h1,by omega⟩
  .rw [if_neg h1] at h;cases h
theorem Zkg {α:Type} {xs:List α} {i:Int} {v:α} (h:atI xs i=some v):∃ j,seqIndex? i xs.length=some j/\xs[j]?=some v/\j<xs.length/\-(xs.length:Int)<=i/\i<xs.length:=by
 unfold atI at h
 cases e:ixN xs.length i with
 | none=>rw [e] at h;cases h
 | some j =>
  rw [e] at h
  obtain ⟨h1,h2,h3,h4⟩:=Zkf e
  exact ⟨j,h1,h,h2,h3,h4⟩
theorem Zch {α:Type} {xs:List α} {j:Nat} {v:α} (h:xs[j]?=some v):atI xs (j:Int)=some v:=by
 have hj:j<xs.length:=(List.getElem?_eq_some_iff.mp h).1
 have e:ixN xs.length (j:Int)=some j:=by
  unfold ixN
  rw [if_pos (by omega),if_pos (by omega)];simp
 unfold atI;rw [e];exact h
theorem Zmb {α:Type} (xs:List α) (v:α):atI (xs++[v]) (-1)=some v:=by
 have hl:(xs++[v]).length=xs.length+1:=by simp
 have e:ixN (xs++[v]).length (-1)=some xs.length:=by
  unfold ixN
  rw [hl,if_neg (by decide),if_pos (by omega)]
  congr 1
  omega
 unfold atI
 rw [e]
 show (xs++[v])[xs.length]?=some v
 simp
def ZnT (b:Expr):Prop:=∀ o i,subscripted b false o i=operate [o,i] (getItem o i)
def IxR (X:Cx) (r:R2):Prop :=
 ∀ (value slice:Expr) (pins:List (Addr×Obj)) (s:Shared) (σ:St) (H:Hp) (x y:V) (v u:Value) (Q:VK),Inv X pins σ H s->RelV x v->RelV y u->r x y H Q ->
  subscripted slice false v u=operate [v,u] (getItem v u)->wpAny (model X.prog X.w) X.A (subscriptTail value slice v u) (EP X pins σ Q) X.xe s
def MtR (X:Cx) (id:String) (r:V->List V->Hp->VK->Prop):Prop :=
 ∀ (pins:List (Addr×Obj)) (s:Shared) (σ:St) (H:Hp) (x:V) (xs:List V) (v:Value) (us:List Value) (Q:VK),Inv X pins σ H s->RelV x v->Vals xs us->r x xs H Q ->
  wpAny (model X.prog X.w) X.A (call (.builtin id) (v::us)) (EP X pins σ Q) X.xe s
section
variable {X:Cx} {a b:Expr} {ta tb:TE} {pos:Pos}
theorem IxR.or {r r':R2} (h:IxR X r) (h':IxR X r'):IxR X (fun x y H Q=>r x y H Q\/r' x y H Q):=by
 intro value slice pins s σ H x y v u Q I rx ry q hs
 rcases q with q|q
 .exact h value slice pins s σ H x y v u Q I rx ry q hs
 .exact h' value slice pins s σ H x y v u Q I rx ry q hs
theorem MtR.or {id:String} {r r':V->List V->Hp->VK->Prop} (h:MtR X id r) (h':MtR X id r'):MtR X id (fun x xs H Q=>r x xs H Q\/r' x xs H Q):=by
 intro pins s σ H x xs v us Q I rx rs q
 rcases q with q|q
 .exact h pins s σ H x xs v us Q I rx rs q
 .exact h' pins s σ H x xs v us Q I rx rs q
theorem Zan {r:R2} (hr:IxR X r) (ha:PE X a ta) (hb:PE X b tb) (hs:ZnT b):PE X (.Subscript a b pos) (tOp r ta tb):=by
 intro pins s σ H Q I h
 exact Subscript_ (binT ha hb I h fun v u s2 x y H2 I2 rx ry q=>hr a b pins s2 σ H2 x y v u Q I2 rx ry q (hs _ _))
def rIxL (K:PySem.W.Frag):R2:=fun x y H Q=>∃ p xs i v,x=.ref p/\y=.int i/\SqL K H p xs/\atI xs i=some v/\Q v H
def rIxT (K:PySem.W.Frag):R2:=fun x y H Q=>∃ p xs i v,x=.ref p/\y=.int i/\SqT K H p xs/\atI xs i=some v/\Q v H
theorem Zas:IxR X (rIxL X.K):=by
 intro value slice pins s σ H x y v u Q I rx ry h hs
 obtain ⟨p,xs,i,z,rfl,rfl,hq,he,q⟩:=h
 cases rx
 obtain ⟨t,rfl⟩:=ry
 obtain ⟨its,r,pl,hz⟩:=I.list hq
 obtain ⟨j,h1,h2,h3,h4,h5⟩:=Zkg he
 obtain ⟨w,ew,rw'⟩:=r.get h2
 have hl:=r.length
 have hn:=line63
 have fin:EP X pins σ Q w s:=⟨z,H,I,rw',q⟩
 by_cases h0:0<=i
 .have hj:i.toNat=j:=by
   rw [seqIndex_of h0 h5] at h1
   exact Option.some.inj h1
  exact item_listR pl.isList h0 (by omega) (by rw [hj];simpa using ew) fin hs
 .have hj:(i+(its.toArray.size:Int)).toNat=j:=by
   rw [seqIndex_neg (by omega) h4] at h1
   rw [List.size_toArray,<- hl]
   exact Option.some.inj h1
  exact subscriptTail_builtinR (x:=w) pl.isList.typeIs slot_list_getitem.lookup
   (wpAny_getItem_list_neg (Q:=fun r s'=>r=w/\EP X pins σ Q r s') pl.isList (by omega) (by rw [List.size_toArray]<;>omega) (by omega) (by rw [hj];simpa using ew) ⟨rfl,fin⟩) hs
theorem Zau:IxR X (rIxT X.K):=by
 intro value slice pins s σ H x y v u Q I rx ry h hs
 obtain ⟨p,xs,i,z,rfl,rfl,hq,he,q⟩:=h
 cases rx
 obtain ⟨t,rfl⟩:=ry
 obtain ⟨its,r,pl,hz⟩:=I.tuple hq
 obtain ⟨j,h1,h2,h3,h4,h5⟩:=Zkg he
 obtain ⟨w,ew,rw'⟩:=r.get h2
 have hl:=r.length
 have hn:=line63
 have fin:EP X pins σ Q w s:=⟨z,H,I,rw',q⟩
 exact subscriptTail_builtinR (x:=w) pl.typeIs slot_tuple_getitem.lookup
  (getItem_tuple (j:=j) (Q:=fun r s'=>r=w/\EP X pins σ Q r s') pl (by omega) (by omega) (by rw [List.size_toArray,<- hl];exact h1) (by simpa using ew) ⟨rfl,fin⟩) hs
theorem Zjq (its:List Value) (n j:Nat) (u:Value):Obj.mapSeq (·.setIfInBounds j u) { cls:=.type "list", data:=.seq its.toArray n }={ cls:=.type "list", data:=.seq (its.set j u).toArray n }:=by
 simp [Obj.mapSeq]
theorem Inv.lst {pins:List (Addr×Obj)} {σ:St} {H:Hp} {s:Shared} {p:Addr} {xs:List V} (I:Inv X pins σ H s) (h:H p=some (.lst xs)) :
  ∃ (its:List Value) (n:Nat),Vals xs its/\s.heap.get? p=some { cls:=.type "list", data:=.seq its.toArray n }/\xs.length<=sizeLine:=by
 obtain ⟨z,its,n,r,e⟩:=I.hok p _ h
 exact ⟨its,n,r,e,z⟩
theorem Inv.lstUpd {pins:List (Addr×Obj)} {σ:St} {H:Hp} {s:Shared} {p:Addr} {xs ys:List V} {its its':List Value} {n n':Nat} {f:Obj->Obj} (I:Inv X pins σ H s) (h:H p=some (.lst xs))
  (ho:s.heap.get? p=some { cls:=.type "list", data:=.seq its.toArray n }) (hf:f { cls:=.type "list", data:=.seq its.toArray n }={ cls:=.type "list", data:=.seq its'.toArray n' }) (r:Vals ys its') (hz:ys.length<=sizeLine) (t:Nat) :
  Inv X pins σ (upd H p (.lst ys)) { s with heap:=s.heap.update p f,toks:=t }:=by
 have e:(s.heap.update p f).get? p=some { cls:=.type "list", data:=.seq its'.toArray n' }:=by
  rw [Heap.get?_update_self f ho (by rw [hf]<;>rfl),hf]
 refine I.write (x:=p) (e:=p) (by rw [h];trivial) (.inl rfl) (fun b u hb q=>(Heap.get?_update_other _ _ (Ne.symm hb)).trans q) ⟨_,e⟩ ?_
 exact ⟨hz,its',n',r,e⟩
def rSetL:V->V->V->Hp->(Hp->Prop)->Prop:=fun o i v H Q=>∃ p xs k j,o=.ref p/\i=.int k/\H p=some (.lst xs)/\ixN xs.length k=some j/\Q (upd H p (.lst (xs.set j v)))
theorem Zed:PSet X rSetL:=by
 intro pins s σ H o i v ov iv u Q I ro ri rv h
 obtain ⟨p,xs,k,j,rfl,rfl,hp,hj,q⟩:=h
 cases ro
 obtain ⟨t,rfl⟩:=ri
 obtain ⟨its,n,r,ho,hz⟩:=I.lst hp
 obtain ⟨h1,h2,h3,h4⟩:=Zkf hj
 have hl:=r.length
 have hn:=line63
 have I':Inv X pins σ (upd H p (.lst (xs.set j v))) { s with heap:=s.heap.update p (Obj.mapSeq (·.setIfInBounds j u)) } :=
  I.lstUpd hp ho (Zjq its n j u) (r.set rv j) (by rw [List.length_set];exact hz) s.toks
 by_cases h0:0<=k
 .have hk:k.toNat=j:=by
   rw [seqIndex_of h0 h4] at h1
   exact Option.some.inj h1
  exact PySem.W.ki_setAt ho h0 (by omega) (by rw [List.size_toArray,<- hl];exact h4) (by rw [hk];exact ⟨_,I',q⟩)
 .have hk:(k+(its.toArray.size:Int)).toNat=j:=by
   rw [seqIndex_neg (by omega) h3] at h1
   rw [List.size_toArray,<- hl]
   exact Option.some.inj h1
  exact PySem.W.ki_setBack ho (by omega) (by rw [List.size_toArray,<- hl];exact h3) (by omega) (by rw [hk];exact ⟨_,I',q⟩)
theorem ZgB (lo hi:Option Int) (n:Nat):(sliceBounds lo hi none n).1=((HT.sIx n 0 lo:Nat):Int)/\(sliceBounds lo hi none n).2.1=((HT.sIx n n hi:Nat):Int)/\(sliceBounds lo hi none n).2.2=1:=by
 refine ⟨?_,?_,rfl⟩
 .cases lo with
  | none=>simp [sliceBounds,HT.sIx]
  | some i =>
   simp only [sliceBounds,HT.sIx,Option.getD_none,show (1:Int)>0 by decide,if_true]
   by_cases h:i<0
   .simp only [h,if_true]<;>omega
   .simp only [h,if_false]<;>omega
 .cases hi with
  | none=>simp [sliceBounds,HT.sIx]
  | some i =>
   simp only [sliceBounds,HT.sIx,Option.getD_none,show (1:Int)>0 by decide,if_true]
   by_cases h:i<0
   .simp only [h,if_true]<;>omega
   .simp only [h,if_false]<;>omega
theorem ZfH (its:List Value) (lo hi:Option Int):slicePick its.toArray lo hi none=((its.drop (HT.sIx its.length 0 lo)).take (HT.sIx its.length its.length hi-HT.sIx its.length 0 lo)).toArray:=by
 obtain ⟨h1,h2,h3⟩:=ZgB lo hi its.toArray.size
 unfold slicePick
 rw [h1,h2,h3]
 simp only [sliceRange_one,pick_run,List.size_toArray]<;>rfl
def rSlL (K:PySem.W.Frag):V->Option Int->Option Int->Hp->VK->Prop:=fun x lo hi H Q=>∃ a xs,x=.ref a/\SqL K H a xs/\∀ p,H p=none->Q (.ref p) (upd H p (.lst (cutV xs lo hi)))
theorem Zkh:SlR X (rSlL X.K):=by
 intro pins s σ H x v vl vu lo hi sl Q I rx hs pl pu h
 obtain ⟨a,xs,rfl,hx,q⟩:=h
 cases rx
 obtain ⟨its,r,ht,hz⟩:=I.list hx
 have hlen:=r.length
 refine ⟨"list", _,slot_list_getitem.lookup,ht.isList.typeIs,?_⟩
 refine wpAny_getItem_list_slice ht.isList hs pl pu .none (by simp) ?_ (by rw [List.size_toArray]<;>omega)
 rw [ZfH,<- hlen]
 refine ⟨.ref s.heap.objs.size,_,I.laid (t':=s.toks) (o:=.lst (cutV xs lo hi)) (fun b ob q=>Heap.get?_push_of_some _ q) (Nat.le_refl _) ?_,rfl,q _ (I.hok.fresh (Nat.le_refl _))⟩
 exact ⟨Nat.le_trans (Zex xs lo hi) hz,_,0,(r.drop (HT.sIx xs.length 0 lo)).take (HT.sIx xs.length xs.length hi-HT.sIx xs.length 0 lo),Heap.get?_push_size _ rfl⟩
noncomputable def flatV:V->Bool
 | .non=>true
 | .bl _=>true
 | .int _=>true
 | .str _=>true
 | _=>false
noncomputable def eqV:V->V->Bool
 | .non,.non=>true
 | .bl a,.bl b=>a==b
 | .bl a,.int b=>(if a then 1 else 0)==b
 | .int a,.bl b=>a==(if b then 1 else 0)
 | .int a,.int b=>a==b
 | .str a,.str b=>a==b
 | _,_=>false
theorem eqAt_V {A:Around} {s:Shared} {y x:V} {u v:Value} (ry:RelV y u) (rx:RelV x v) (fy:flatV y=true) (fx:flatV x=true):SeqAt.EqAt A s u v (eqV y x):=by
 cases y with
 | non =>
  cases ry
  cases x with
  | non=>cases rx;exact SeqAt.EqAt.same _
  | bl b=>cases rx;exact SeqAt.EqAt.none_bool b
  | int b=>obtain ⟨t,rfl⟩:=rx;exact SeqAt.EqAt.none_int b t
  | str b=>obtain ⟨t,rfl⟩:=rx;exact SeqAt.EqAt.none_str b t
  | _=>exact absurd (show false=true from fx) Bool.false_ne_true
 | bl a =>
  cases ry
  cases x with
  | non=>cases rx;exact SeqAt.EqAt.bool_none a
  | bl b=>cases rx;exact SeqAt.EqAt.bool_bool a b
  | int b=>obtain ⟨t,rfl⟩:=rx;exact SeqAt.EqAt.bool_int a b t
  | str b=>obtain ⟨t,rfl⟩:=rx;exact SeqAt.EqAt.bool_str a b t
  | _=>exact absurd (show false=true from fx) Bool.false_ne_true
 | int a =>
  obtain ⟨t',rfl⟩:=ry
  cases x with
  | non=>cases rx;exact SeqAt.EqAt.int_none a t'
  | bl b=>cases rx;exact SeqAt.EqAt.int_bool a t' b
  | int b=>obtain ⟨t,rfl⟩:=rx;exact SeqAt.EqAt.int_int a t' b t
  | str b=>obtain ⟨t,rfl⟩:=rx;exact SeqAt.EqAt.int_str a t' b t
  | _=>exact absurd (show false=true from fx) Bool.false_ne_true
 | str a =>
  obtain ⟨t',rfl⟩:=ry
  cases x with
  | non=>cases rx;exact SeqAt.EqAt.str_none a t'
  | bl b=>cases rx;exact SeqAt.EqAt.str_bool a t' b
  | int b=>obtain ⟨t,rfl⟩:=rx;exact SeqAt.EqAt.str_int a t' b t
  | str b=>obtain ⟨t,rfl⟩:=rx;exact SeqAt.EqAt.str_str a t' b t
  | _=>exact absurd (show false=true from fx) Bool.false_ne_true
 | _=>exact absurd (show false=true from fy) Bool.false_ne_true
noncomputable def eqU (x:V) (u:Value):Bool:=match u with
 | .none=>eqV .non x
 | .bool b=>eqV (.bl b) x
 | .int i _=>eqV (.int i) x
 | .str z _=>eqV (.str z) x
 | _=>false
theorem Znm {x y:V} {u:Value} (r:RelV y u) (f:flatV y=true):eqU x u=eqV y x:=by
 cases y with
 | non=>cases r;rfl
 | bl b=>cases r;rfl
 | int i=>obtain ⟨t,rfl⟩:=r;rfl
 | str z=>obtain ⟨t,rfl⟩:=r;rfl
 | _=>exact absurd (show false=true from f) Bool.false_ne_true
theorem Zey {x:V}:∀ {xs:List V} {us:List Value},Vals xs us->xs.all flatV=true->us.any (eqU x)=xs.any fun y=>eqV y x
 | _,_,.nil,_=>rfl
 | y::xs,u::us,.cons r t,f=>by
  rw [List.all_cons,Bool.and_eq_true] at f
  rw [List.any_cons,List.any_cons,Znm r f.1,Zey t f.2]
theorem Zdi {A:Around} {s:Shared} {x:V} {v:Value} (rx:RelV x v) (fx:flatV x=true):∀ {xs:List V} {us:List Value},Vals xs us->xs.all flatV=true->∀ u∈us,SeqAt.EqAt A s u v (eqU x u)
 | _,_,.nil,_=>fun u hu=>by cases hu
 | y::xs,u::us,.cons r t,f=>fun u' hu=>by
  rw [List.all_cons,Bool.and_eq_true] at f
  rcases List.mem_cons.mp hu with rfl|hu
  .rw [Znm r f.1];exact eqAt_V r rx f.1 fx
  .exact Zdi rx fx t f.2 u' hu
noncomputable def inV (x:V) (xs:List V):Bool:=xs.any fun y=>eqV y x
def rIn (K:PySem.W.Frag) (neg:Bool):R2:=fun x y H Q=>∃ p xs,y=.ref p/\(SqL K H p xs\/SqT K H p xs)/\flatV x=true/\xs.all flatV=true/\Q (.bl (if neg then !inV x xs else inV x xs)) H
theorem ZaQ:OpR X (compareOp .In) (rIn X.K false):=by
 intro pins s σ H x y v u Q I rx ry h
 obtain ⟨p,xs,rfl,hq,fx,fs,q⟩:=h
 cases ry
 rcases hq with hq|hq
 .obtain ⟨its,r,pl,hz⟩:=I.list hq
  refine SeqAt.in_listAt (eqU x) pl.isList (fun w hw=>Zdi rx fx r fs w (by simpa using hw)) ⟨.bl _,H,I,rfl,?_⟩
  rw [show its.toArray.any (eqU x)=its.any (eqU x) by simp,Zey r fs]
  exact q
 .obtain ⟨its,r,pl,hz⟩:=I.tuple hq
  refine SeqAt.in_tupleAt (eqU x) pl (fun w hw=>Zdi rx fx r fs w (by simpa using hw)) ⟨.bl _,H,I,rfl,?_⟩
  rw [show its.toArray.any (eqU x)=its.any (eqU x) by simp,Zey r fs]
  exact q
theorem ZgC:OpR X (compareOp .NotIn) (rIn X.K true):=by
 intro pins s σ H x y v u Q I rx ry h
 obtain ⟨p,xs,rfl,hq,fx,fs,q⟩:=h
 cases ry
 rcases hq with hq|hq
 .obtain ⟨its,r,pl,hz⟩:=I.list hq
  refine SeqAt.notIn_listAt (eqU x) pl.isList (fun w hw=>Zdi rx fx r fs w (by simpa using hw)) ⟨.bl _,H,I,rfl,?_⟩
  rw [show its.toArray.any (eqU x)=its.any (eqU x) by simp,Zey r fs]
  exact q
 .obtain ⟨its,r,pl,hz⟩:=I.tuple hq
  refine SeqAt.notIn_tupleAt (eqU x) pl (fun w hw=>Zdi rx fx r fs w (by simpa using hw)) ⟨.bl _,H,I,rfl,?_⟩
  rw [show its.toArray.any (eqU x)=its.any (eqU x) by simp,Zey r fs]
  exact q
theorem ZgD:CallR X (.builtin "len") (fun xs H Q=>∃ p ys,xs=[.ref p]/\(SqL X.K H p ys\/SqT X.K H p ys)/\Q (.int ys.length) H):=by
 intro pins s σ H xs us Q I r h
 obtain ⟨p,ys,rfl,hq,q⟩:=h
 obtain ⟨u,rfl,rx⟩:=vals1 r
 cases rx
 have hn:=line63
 rcases hq with hq|hq
 .obtain ⟨its,r',pl,hz⟩:=I.list hq
  have hlen:=r'.length
  exact Calls.call_len_list pl.isList (by simp only [List.size_toArray]<;>omega) ⟨.int ys.length,H,I.tok _,⟨s.toks+1,by rw [List.size_toArray,hlen]⟩,q⟩
 .obtain ⟨its,r',pl,hz⟩:=I.tuple hq
  have hlen:=r'.length
  exact len_tuple pl (by simp only [List.size_toArray]<;>omega) ⟨.int ys.length,H,I.tok _,⟨s.toks+1,by rw [List.size_toArray,hlen]⟩,q⟩
theorem CallR.or {f:Value} {r r':List V->Hp->VK->Prop} (h:CallR X f r) (h':CallR X f r'):CallR X f (fun xs H Q=>r xs H Q\/r' xs H Q):=by
 intro pins s σ H xs us Q I rs q
 rcases q with q|q
 .exact h pins s σ H xs us Q I rs q
 .exact h' pins s σ H xs us Q I rs q
theorem ZgE:CallR X (.type "list") (fun xs H Q=>∃ p ys,xs=[.ref p]/\(SqL X.K H p ys\/SqT X.K H p ys)/\∀ l,H l=none->Q (.ref l) (upd H l (.lst ys))):=by
 intro pins s σ H xs us Q I r h
 obtain ⟨p,ys,rfl,hq,q⟩:=h
 obtain ⟨u,rfl,rx⟩:=vals1 r
 cases rx
 have fin:∀ (its:List Value),Vals ys its->ys.length<=sizeLine->∀ (h':Heap) (c':Nat),(∀ b o',s.heap.get? b=some o'->h'.get? b=some o') ->
   h'.get? s.heap.objs.size=some { cls:=.type "list", dict:=none,data:=.seq its.toArray c',slots:=#[] }->EP X pins σ Q (.ref s.heap.objs.size) { s with heap:=h' }:=fun its r' hz h' c' kp e =>
  ⟨.ref s.heap.objs.size,_,I.laid (t':=s.toks) kp (Nat.le_refl _) (show ObjOk X.prog X.w _ h' _ (.lst ys) from ⟨hz,its,c',r',e⟩),rfl,q _ (I.hok.fresh (Nat.le_refl _))⟩
 rcases hq with hq|hq
 .obtain ⟨its,r',pl,hz⟩:=I.list hq
  have hlen:=r'.length
  obtain ⟨o,ho,hc,n,hd⟩:=pl.isList
  exact call_list_seq p (.inl rfl) ho hc hd (fun h' c' kp e=>fin its r' hz h' c' kp e) (by simp only [List.size_toArray]<;>omega)
 .obtain ⟨its,r',pl,hz⟩:=I.tuple hq
  have hlen:=r'.length
  obtain ⟨o,ho,hc,n,hd⟩:=pl
  exact call_list_seq p (.inr rfl) ho hc hd (fun h' c' kp e=>fin its r' hz h' c' kp e) (by simp only [List.size_toArray]<;>omega)
def tyV (K:PySem.W.Frag) (T:String) (x:V) (H:Hp):Prop:=match x with
 | .str _=>T = "str"
 | .int _=>T = "int"
 | .ref p=>(T = "list" /\ ∃ xs,SqL K H p xs)\/(T = "tuple" /\ ∃ o,K.lookup p=some o/\o.cls=.type "tuple" /\ o.dict=none) \/
   (T = "dict" /\ ((∃ kvs,H p=some (.dK kvs))\/∃ kvs,H p=some (.dT kvs)))\/(T = "set" /\ ∃ S n,H p=some (.set S n))
 | _=>False
theorem Znn {pins:List (Addr×Obj)} {σ:St} {H:Hp} {s:Shared} {T:String} {x:V} {v:Value} (I:Inv X pins σ H s) (r:RelV x v) (ty:tyV X.K T x H) :
  s.TypeIs v T/\∀ a,v=.ref a->∃ ob,s.heap.get? a=some ob/\ob.dict=none:=by
 cases x with
 | str z =>
  obtain ⟨t,rfl⟩:=r
  cases (show T = "str" from ty)
  exact ⟨typeIs_str s z t,fun _ e=>nomatch e⟩
 | int i =>
  obtain ⟨t,rfl⟩:=r
  cases (show T = "int" from ty)
  exact ⟨typeIs_int s i t,fun _ e=>nomatch e⟩
 | ref p =>
  cases r
  rcases ty with ⟨rfl,xs,hq⟩|⟨rfl,o,hk,hc,hd⟩|⟨rfl,hk⟩|⟨rfl,S,n,hk⟩
  .obtain ⟨its,_,pl,_⟩:=I.list hq
   refine ⟨pl.isList.typeIs,fun a e=>?_⟩
   cases e
   obtain ⟨o,n,e,c,hd,_⟩:=pl
   exact ⟨o,e,hd⟩
  .refine ⟨⟨o,I.kIn p o hk,hc⟩,fun a e=>?_⟩
   cases e
   exact ⟨o,I.kIn _ o hk,hd⟩
  .have z:∃ o,s.heap.get? p=some o/\o.ExactDict:=by
    rcases hk with ⟨kvs,hk⟩|⟨kvs,hk⟩
    .obtain ⟨_,_,_,_,o,_,_,e,ex,_⟩:=I.hok p _ hk
     exact ⟨o,e,ex⟩
    .obtain ⟨_,_,_,_,o,_,_,e,ex,_⟩:=I.hok p _ hk
     exact ⟨o,e,ex⟩
   obtain ⟨o,e,ex⟩:=z
   refine ⟨⟨o,e,ex.1⟩,fun a e2=>?_⟩
   cases e2
   exact ⟨o,e,ex.2.1⟩
  .obtain ⟨o,_,_,_,e,ex,_⟩:=I.hok p _ hk
   refine ⟨⟨o,e,ex.1⟩,fun a e2=>?_⟩
   cases e2
   exact ⟨o,e,ex.2.1⟩
 | _=>exact False.elim ty
def tBM0 (K:PySem.W.Frag) (T:String) (r:V->List V->Hp->VK->Prop) (to:TE):TE:=fun σ H Q=>to σ H fun x H1=>tyV K T x H1/\r x [] H1 Q
def tBM (K:PySem.W.Frag) (T:String) (r:V->List V->Hp->VK->Prop) (to:TE) (t:TA):TE:=fun σ H Q=>to σ H fun x H1=>tyV K T x H1/\t σ H1 fun xs H2=>r x xs H2 Q
variable {o e:Expr} {es:List Expr} {to:TE} {t:TA} {name:Str} {apos cpos:Pos} {T id:String} {r:V->List V->Hp->VK->Prop}
theorem Zno (pa:PlainAttrs T) (slot:Slot T name id) (hty:typeOf (.builtin id)=pure (.type "method_descriptor")) (hm:MtR X id r) (ho:PE X o to)
  (hbase:attributeBase o name X.env (eval o X.env)=eval o X.env:=by rfl) (hline:(apos.endLine==cpos.line)=true:=by rfl):PE X (.Call (.Attribute o name apos) [] [] cpos) (tBM0 X.K T r to):=by
 intro pins s σ H Q I h
 refine wpAny_Call_method0_late hbase hline (thn (ho pins s σ H _ I h) fun v s1 ⟨x,H1,I1,r1,ty,q1⟩=>?_)
 obtain ⟨h1,h2⟩:=Znn I1 r1 ty
 exact ⟨T,id,pa,slot,hty,h1,h2,Calls.callWith_builtin rfl (PySem.evalArgs_none (hm pins s1 σ H1 x [] v [] Q I1 r1 .nil q1))⟩
theorem Zjr (pa:PlainAttrs T) (slot:Slot T name id) (hty:typeOf (.builtin id)=pure (.type "method_descriptor")) (hm:MtR X id r) (ho:PE X o to) (ha:PA X (e::es) t)
  (hbase:attributeBase o name X.env (eval o X.env)=eval o X.env:=by rfl)
  (hfew:((backTo cpos (starEach (e::es) X.env)).all (fun x=>!x.1)&&(backToKw cpos (keywordEach [] X.env)).all (fun x=>x.1.isSome)
   && decide ((e::es).length+([]:List Keyword).length+(if ([]:List Keyword).isEmpty then 0 else 1)<30))=true:=by rfl)
  (hline:(apos.endLine==cpos.line)=true:=by rfl) (hs:starEach (e::es) X.env=(false,eval e X.env)::starEach es X.env:=by rfl) (hplain:(backTo cpos (starEach es X.env)).any (·.1)=false:=by rfl) :
  PE X (.Call (.Attribute o name apos) (e::es) [] cpos) (tBM X.K T r to t):=by
 intro pins s σ H Q I h
 refine wpAny_Call_method_late hbase hfew hline rfl (thn (ho pins s σ H _ I h) fun v s1 ⟨x,H1,I1,r1,ty,q1⟩=>?_)
 obtain ⟨h1,h2⟩:=Znn I1 r1 ty
 refine ⟨T,id,pa,slot,hty,h1,h2,?_⟩
 have hA:=ha cpos pins s1 σ H1 _ I1 q1
 rw [hs] at hA |-
 refine Calls.callWith_builtin (by show (false||(backTo cpos (starEach es X.env)).any (·.1))=false;rw [hplain]<;>rfl) (Calls.evalArgs_plain ?_)
 exact thn hA fun us s2 ⟨vs,H2,I2,r2,q2⟩=>hm pins s2 σ H2 x vs v us Q I2 r1 r2 q2
end
def MtM (X:Cx) (id:String) (r:V->List V->Hp->VK->Prop):Prop :=
 ∀ (pins:List (Addr×Obj)) (s:Shared) (σ:St) (H:Hp) (x:V) (xs:List V) (v:Value) (us:List Value) (Q:VK),Inv X pins σ H s->RelV x v->Vals xs us->r x xs H Q ->
  wpAny (model X.prog X.w) X.A (call (.builtin id) (v::us)) (EP X pins σ Q) X.xe s
theorem Vals.one:∀ {x:V} {us:List Value},Vals [x] us->∃ u,us=[u]/\RelV x u
 | _,_,.cons r .nil=>⟨_,rfl,r⟩
theorem Vals.two:∀ {x y:V} {us:List Value},Vals [x,y] us->∃ u v,us=[u,v]/\RelV x u/\RelV y v
 | _,_,_,.cons r (.cons q .nil)=>⟨_,_,rfl,r,q⟩
theorem Vals.zero:∀ {us:List Value},Vals [] us->us=[]
 | _,.nil=>rfl
theorem Vals.dropLast {xs:List V} {us:List Value} (h:Vals xs us):Vals xs.dropLast us.dropLast:=by
 induction h with
 | nil=>exact .nil
 | cons r t ih =>
  cases t with
  | nil=>exact .nil
  | cons q t'=>exact .cons r ih
theorem Vals.eraseIdx:∀ {xs:List V} {us:List Value} (i:Nat),Vals xs us->Vals (xs.eraseIdx i) (us.eraseIdx i)
 | _,_,_,.nil=>.nil
 | _,_,0,.cons _ t=>t
 | _,_,i+1,.cons r t=>.cons r (Vals.eraseIdx i t)
theorem Vals.reverse {xs:List V} {us:List Value} (h:Vals xs us):Vals xs.reverse us.reverse:=by
 induction h with
 | nil=>exact .nil
 | cons r t ih=>rw [List.reverse_cons,List.reverse_cons];exact Vals.append ih (.cons r .nil)
theorem Vals.rep {xs:List V} {us:List Value} (h:Vals xs us):∀ k:Nat,Vals (List.replicate k xs).flatten (List.replicate k us).flatten
 | 0=>.nil
 | k+1=>by
  rw [List.replicate_succ,List.replicate_succ,List.flatten_cons,List.flatten_cons]
  exact Vals.append h (Vals.rep h k)
theorem Zjs {α:Type} (l:List α):l.eraseIdx (l.length-1)=l.dropLast:=by
 induction l with
 | nil=>rfl
 | cons a r ih =>
  cases r with
  | nil=>rfl
  | cons b r =>
   have e:(a::b::r).length-1=((b::r).length-1)+1:=by
    have h1:(a::b::r).length=r.length+2:=rfl
    have h2:(b::r).length=r.length+1:=rfl
    omega
   rw [e,List.eraseIdx_cons_succ,ih]
   all_goals rfl
theorem ZgF (its:List Value):∀ (k:Nat) (acc:List Value),
  List.foldl (fun x1 x2=>x1++x2) acc.toArray (List.replicate k its.toArray)=(acc++(List.replicate k its).flatten).toArray
 | 0,acc=>by simp
 | k+1,acc=>by
  have e:acc.toArray++its.toArray=(acc++its).toArray:=by simp
  have e2:(acc++its)++(List.replicate k its).flatten=acc++(List.replicate (k+1) its).flatten:=by
   rw [List.replicate_succ,List.flatten_cons,List.append_assoc]
  rw [<- e2,<- ZgF its k (acc++its),<- e,List.replicate_succ,List.foldl_cons]
section
variable {X:Cx} {pins:List (Addr×Obj)} {σ:St} {H:Hp} {s:Shared} {l b:Addr} {xs ys zs:List V}
theorem Inv.lset {its its':List Value} {n:Nat} {f:Array Value->Array Value} {t':Nat} (I:Inv X pins σ H s) (hH:H l=some (.lst xs))
  (e:s.heap.get? l=some { cls:=.type "list", data:=.seq its.toArray n }) (hf:f its.toArray=its'.toArray) (hv:Vals ys its') (hz:ys.length<=sizeLine) :
  Inv X pins σ (upd H l (.lst ys)) { s with heap:=s.heap.update l (Obj.mapSeq f),toks:=t' }:=by
 have q:=PySem.IsL.update e f
 rw [hf] at q
 refine I.write (x:=l) (e:=l) (by rw [hH];exact trivial) (.inl rfl) (fun b' u hb hu=>(Heap.get?_update_other s.heap (Obj.mapSeq f) (Ne.symm hb)).trans hu) ⟨_,q⟩ ?_
 exact ⟨hz,its',_,hv,q⟩
theorem Inv.lnew {its:List Value} {t':Nat} (I:Inv X pins σ H s) (hv:Vals ys its) (hz:ys.length<=sizeLine) :
  Inv X pins σ (upd H s.heap.objs.size (.lst ys)) { s with heap:=s.heap.push { cls:=.type "list", data:=.seq its.toArray },toks:=t' } :=
 I.laid (fun _ _ q=>Heap.get?_push_of_some _ q) (Nat.le_refl _) ⟨hz,its,0,hv,Heap.get?_push_size _ rfl⟩
theorem Inv.fresh (I:Inv X pins σ H s):H s.heap.objs.size=none:=I.hok.fresh (Nat.le_refl _)
theorem Inv.lstM (I:Inv X pins σ H s) (hH:H l=some (.lst xs)):xs.length<=sizeLine/\∃ (its:List Value) (n:Nat),Vals xs its/\xs.length=its.length/\s.heap.get? l=some { cls:=.type "list", data:=.seq its.toArray n }:=by
 obtain ⟨z,its,n,r,e⟩:=I.hok l _ hH
 exact ⟨z,its,n,r,r.length,e⟩
theorem ZiL {n:Nat} (h:n<=sizeLine):Builtin.List.listTooLong n=false:=by
 unfold Builtin.List.listTooLong
 exact decide_eq_false (by omega)
end
section
variable {X:Cx}
def Zki:V->List V->Hp->VK->Prop:=fun x vs H Q=>∃ l xs y,x=.ref l/\vs=[y]/\H l=some (.lst xs)/\xs.length<sizeLine/\Q .non (upd H l (.lst (xs++[y])))
theorem ZbF:MtM X "list.append" Zki:=by
 intro pins s σ H x vs v us Q I rx rv h
 obtain ⟨l,xs,y,rfl,rfl,hH,hz,q⟩:=h
 cases rx
 obtain ⟨u,rfl,ru⟩:=rv.one
 obtain ⟨z,its,n,r,hl,e⟩:=I.lstM hH
 refine call_meets F.slot_list_append ⟨_,e,rfl⟩ F.entry_list_append (F.args_list_append_2 _ _) (PySem.list_append l its.toArray n u (by rw [List.size_toArray];omega)) ⟨e,?_⟩
 refine ⟨.non,_,I.lset (its':=its++[u]) hH e (by simp) (r.append (.cons ru .nil)) ?_,rfl,q⟩
 rw [List.length_append,List.length_singleton]
 omega
def ZnU:V->List V->Hp->VK->Prop:=fun x vs H Q=>∃ l b xs zs,x=.ref l/\vs=[.ref b]/\H l=some (.lst xs)/\H b=some (.lst zs)/\xs.length+zs.length<=sizeLine/\Q .non (upd H l (.lst (xs++zs)))
theorem mt_extend:MtM X "list.extend" ZnU:=by
 intro pins s σ H x vs v us Q I rx rv h
 obtain ⟨l,b,xs,zs,rfl,rfl,hH,hB,hz,q⟩:=h
 cases rx
 obtain ⟨u,rfl,ru⟩:=rv.one
 cases ru
 obtain ⟨z,its,n,r,hl,e⟩:=I.lstM hH
 obtain ⟨z2,its2,n2,r2,hl2,e2⟩:=I.lstM hB
 have hsz:its.toArray.size+its2.toArray.size<=sizeLine:=by rw [List.size_toArray,List.size_toArray];omega
 have hlong:¬ (!its.toArray.isEmpty&&Builtin.List.listTooLong (its.toArray.size+its2.toArray.size))=true:=by
  rw [ZiL hsz,Bool.and_false]
  exact Bool.false_ne_true
 refine call_meets F.slot_list_extend ⟨_,e,rfl⟩ F.entry_list_extend (F.args_list_extend_2 _ _)
  (AutoSeq1.list_extend_list_list_0 l its.toArray n b its2.toArray n2 hlong (by rw [List.size_toArray];omega) (by omega)) ⟨e,e2,?_⟩
 refine ⟨.non,_,I.lset (its':=its++its2) hH e (by simp) (r.append r2) ?_,rfl,q⟩
 rw [List.length_append]
 omega
def rPop:V->List V->Hp->VK->Prop:=fun x vs H Q=>∃ l xs y,x=.ref l/\vs=[]/\H l=some (.lst xs)/\xs[xs.length-1]?=some y/\Q y (upd H l (.lst xs.dropLast))
theorem Znp:MtM X "list.pop" rPop:=by
 intro pins s σ H x vs v us Q I rx rv h
 obtain ⟨l,xs,y,rfl,rfl,hH,hy,q⟩:=h
 cases rx
 have hus:=rv.zero
 subst hus
 obtain ⟨z,its,n,r,hl,e⟩:=I.lstM hH
 obtain ⟨u,hu,ru⟩:=r.get hy
 have hy':its.toArray[its.toArray.size-1]?=some u:=by
  show its.toArray[its.length-1]?=some u
  rw [<- Array.getElem?_toList,<- hl]
  exact hu
 refine call_meets F.slot_list_pop ⟨_,e,rfl⟩ F.entry_list_pop (F.args_list_pop_1 _) (MeetsSeq.list_pop_last l its.toArray n u hy' (by rw [List.size_toArray];omega)) ⟨e,?_⟩
 refine ⟨y,_,I.lset (its':=its.dropLast) hH e ?_ r.dropLast ?_,ru,q⟩
 .show its.toArray.eraseIdxIfInBounds (its.toArray.size-1)=its.dropLast.toArray
  rw [List.size_toArray,List.eraseIdxIfInBounds_toArray,Zjs]
 .rw [List.length_dropLast]
  omega
def rCat:R2:=fun x y H Q=>∃ l b xs zs,x=.ref l/\y=.ref b/\H l=some (.lst xs)/\H b=some (.lst zs)/\xs.length+zs.length<=sizeLine/\∀ p,H p=none->Q (.ref p) (upd H p (.lst (xs++zs)))
theorem Zfs:OpR X (binaryOp .Add) rCat:=by
 intro pins s σ H x y v u Q I rx ry h
 obtain ⟨l,b,xs,zs,rfl,rfl,hH,hB,hz,q⟩:=h
 cases rx
 cases ry
 obtain ⟨z,its,n,r,hl,e⟩:=I.lstM hH
 obtain ⟨z2,its2,n2,r2,hl2,e2⟩:=I.lstM hB
 refine PySem.P.add_list e e2 ?_ (by rw [List.size_toArray,List.size_toArray];omega)
 have ea:its.toArray++its2.toArray=(its++its2).toArray:=by simp
 rw [ea]
 exact ⟨.ref _,_,I.lnew (t':=s.toks) (r.append r2) (by rw [List.length_append];omega),rfl,q _ I.fresh⟩
def rRep:R2:=fun x y H Q=>∃ l k xs,x=.ref l/\y=.int k/\H l=some (.lst xs)/\-(2 ^ 63)<=k/\k<2 ^ 63/\xs.length*k.toNat<=sizeLine /\
 ∀ p,H p=none->Q (.ref p) (upd H p (.lst (List.replicate k.toNat xs).flatten))
theorem ZnV {α:Type} (xs:List α) (k:Nat):(List.replicate k xs).flatten.length=k*xs.length:=by
 induction k with
 | zero=>simp
 | succ k ih=>rw [List.replicate_succ,List.flatten_cons,List.length_append,ih,Nat.succ_mul,Nat.add_comm]
theorem op_rep:OpR X (binaryOp .Mult) rRep:=by
 intro pins s σ H x y v u Q I rx ry h
 obtain ⟨l,k,xs,rfl,rfl,hH,h1,h2,hz,q⟩:=h
 cases rx
 obtain ⟨t,rfl⟩:=ry
 obtain ⟨z,its,n,r,hl,e⟩:=I.lstM hH
 have hlen:its.toArray.size*k.toNat<=sizeLine:=by rw [List.size_toArray,<- hl];exact hz
 have hcap:¬ its.toArray.size*k.toNat>(2 ^ 63-1) / 8:=by
  have:(sizeLine:Nat)<=(2 ^ 63-1) / 8:=by decide
  omega
 have hfit:¬ (!Builtin.List.listFitsIndex k)=true:=by
  rw [fitsIndex_both h1 h2]
  exact Bool.false_ne_true
 have hlong:¬ Builtin.List.listTooLong (its.toArray.size*k.toNat)=true:=by
  rw [ZiL hlen]
  exact Bool.false_ne_true
 have hnew:List.foldl (fun x1 x2=>x1++x2) #[] (List.replicate (if its.toArray.isEmpty=true then 0 else k.toNat) its.toArray)=(List.replicate k.toNat its).flatten.toArray:=by
  have f0:∀ m:Nat,List.foldl (fun x1 x2=>x1++x2) #[] (List.replicate m its.toArray)=(List.replicate m its).flatten.toArray:=fun m=>by
   have:=ZgF its m []
   rw [List.nil_append] at this
   exact this
  rw [f0]
  cases its with
  | nil=>simp
  | cons a r'=>rw [if_neg (by simp)]
 refine wpAny_binaryOp_repeat_ref (T := "list") (U := "int") (by decide) ⟨_,e,rfl⟩ (fun s'=>typeIs_int s' k t) noFill_list_mul F.fills_int_mul F.slot_int_rmul repeat_list F.slot_int_index.lookup
  (call_meets F.slot_int_rmul (typeIs_int s k t) F.entry_int_rmul (F.args_int_rmul_2 _ _) (int___rmul___int_list k t l its.toArray n)
   ⟨e,rfl,⟨_,e,rfl⟩,call_meets F.slot_list_mul ⟨_,e,rfl⟩ F.entry_list_mul (F.args_list_mul_2 _ _) (AutoListH.list___mul___list_int_3 l its.toArray n k t hfit hcap hlong) ⟨e,?_⟩⟩)
 rw [hnew]
 exact ⟨.ref _,_,I.lnew (t':=s.toks) (r.rep k.toNat) (by rw [ZnV,Nat.mul_comm];exact hz),rfl,q _ I.fresh⟩
end
section
variable {prog:Program} {w:World} {A:Around} {E:Value->Shared->Prop} {s:Shared}
end
section
variable {X:Cx}
end
section
variable {κ:Type} [DecidableEq κ]
noncomputable def valV (kvs:List (κ×V)) (k:κ):Option V:=(kvs.find? fun kv=>decide (kv.1=k)).map (·.2)
noncomputable def putK (kvs:List (κ×V)) (k:κ) (v:V):List (κ×V) :=
 if (kvs.any fun kv=>decide (kv.1=k))=true then kvs.map (fun kv=>if kv.1=k then (kv.1,v) else kv) else kvs++[(k,v)]
noncomputable def dropK (kvs:List (κ×V)) (k:κ):List (κ×V):=kvs.filter fun kv=>decide (kv.1≠k)
theorem Zmc {k:κ}:valV ([]:List (κ×V)) k=none:=rfl
theorem Zbg {p:κ×V} {r:List (κ×V)} {k:κ} (e:p.1=k):valV (p::r) k=some p.2:=by simp [valV,List.find?_cons,e]
theorem Zbe {p:κ×V} {r:List (κ×V)} {k:κ} (e:¬ p.1=k):valV (p::r) k=valV r k:=by simp [valV,List.find?_cons,e]
theorem Zb1 (k:κ):∀ kvs:List (κ×V),(kvs.any fun kv=>decide (kv.1=k))=(valV kvs k).isSome
 | []=>rfl
 | p::r=>by
  rw [List.any_cons]
  by_cases e:p.1=k
  .simp only [Zbg e,decide_eq_true e,Bool.true_or,Option.isSome_some]
  .rw [Zbe e,decide_eq_false e,Bool.false_or];exact Zb1 k r
theorem ZiM (k j:κ) (y:V):∀ kvs:List (κ×V),valV (kvs.map fun kv=>if kv.1=k then (kv.1,y) else kv) j=(valV kvs j).map fun x=>if j=k then y else x
 | []=>rfl
 | p::r=>by
  have ih:=ZiM k j y r
  rw [List.map_cons]
  by_cases h:p.1=k
  .rw [if_pos h]
   by_cases e:p.1=j
   .rw [Zbg (p:=(p.1,y)) e,Zbg e,Option.map_some,if_pos (e.symm.trans h)]
   .rw [Zbe (p:=(p.1,y)) e,Zbe e,ih]
  .rw [if_neg h]
   by_cases e:p.1=j
   .rw [Zbg (p:=p) e,Zbg e,Option.map_some,if_neg (fun z=>h (e.trans z))]
   .rw [Zbe (p:=p) e,Zbe e,ih]
theorem ZgG (k j:κ) (y:V):∀ kvs:List (κ×V),valV kvs k=none->valV (kvs++[(k,y)]) j=if j=k then some y else valV kvs j
 | [],_=>by
  by_cases e:k=j
  .rw [if_pos e.symm];exact Zbg (p:=(k,y)) e
  .rw [if_neg (fun z=>e z.symm)];exact Zbe (p:=(k,y)) e
 | p::r,hn=>by
  rw [List.cons_append]
  have hk:¬ p.1=k:=fun z=>by rw [Zbg z] at hn;cases hn
  rw [Zbe hk] at hn
  have ih:=ZgG k j y r hn
  by_cases e:p.1=j
  .rw [Zbg e,Zbg e,if_neg (fun z=>hk (e.trans z))]
  .rw [Zbe e,Zbe e,ih]
theorem ZfI (kvs:List (κ×V)) (k j:κ) (y:V):valV (putK kvs k y) j=if j=k then some y else valV kvs j:=by
 unfold putK
 by_cases a:(kvs.any fun kv=>decide (kv.1=k))=true
 .rw [if_pos a,ZiM]
  rw [Zb1] at a
  by_cases e:j=k
  .obtain ⟨x,hx⟩:=Option.isSome_iff_exists.mp a
   rw [if_pos e,e,hx,Option.map_some,if_pos rfl]
  .rw [if_neg e]
   cases valV kvs j with
   | none=>rfl
   | some x=>rw [Option.map_some,if_neg e]
 .rw [if_neg a]
  refine ZgG k j y kvs ?_
  rw [Zb1] at a
  cases q:valV kvs k with
  | none=>rfl
  | some x=>rw [q] at a;exact (a rfl).elim
theorem ZbG (kvs:List (κ×V)) (k:κ) (v:V):(putK kvs k v).length<=kvs.length+1:=by
 unfold putK
 split
 .rw [List.length_map];omega
 .rw [List.length_append,List.length_cons,List.length_nil];omega
theorem Zmd {kvs:List (κ×V)} {k:κ} (v:V) (h:valV kvs k=none):putK kvs k v=kvs++[(k,v)]:=by
 unfold putK
 rw [Zb1,h]
 exact if_neg (by decide)
theorem RelO.isSome_eq {o:Option V} {u:Option Value} (r:RelO o u):o.isSome=u.isSome:=by
 cases o with
 | none=>cases u with
  | none=>rfl
  | some _=>exact (show False from r).elim
 | some _=>cases u with
  | none=>exact (show False from r).elim
  | some _=>rfl
theorem RelO.getD {o:Option V} {u:Option Value} {d:V} {d':Value} (r:RelO o u) (rd:RelV d d'):RelV (o.getD d) (u.getD d'):=by
 cases o with
 | none=>cases u with
  | none=>exact rd
  | some _=>exact (show False from r).elim
 | some _=>cases u with
  | none=>exact (show False from r).elim
  | some _=>exact r
theorem KV.val {kvs:List (κ×V)} {vs:List (κ×Value)} (r:KV kvs vs) (k:κ):RelO (valV kvs k) (valueAt vs k):=by
 unfold KV at r
 induction r with
 | nil=>exact True.intro
 | @cons p q ps qs h t ih =>
  obtain ⟨h1,h2⟩:=h
  by_cases e:p.1=k
  .have e':q.1=k:=h1.symm.trans e
   have b:valueAt (q::qs) k=some q.2:=by simp [valueAt,List.find?_cons,e']
   rw [Zbg e,b];exact h2
  .have e':¬ q.1=k:=fun z=>e (h1.trans z)
   have b:valueAt (q::qs) k=valueAt qs k:=by simp [valueAt,List.find?_cons,e']
   rw [Zbe e,b];exact ih
theorem KV.any {kvs:List (κ×V)} {vs:List (κ×Value)} (r:KV kvs vs) (k:κ):(kvs.any fun kv=>decide (kv.1=k))=vs.any fun kv=>decide (kv.1=k):=by
 unfold KV at r
 induction r with
 | nil=>rfl
 | cons h t ih=>rw [List.any_cons,List.any_cons,ih,h.1]
theorem KV.repl {kvs:List (κ×V)} {vs:List (κ×Value)} (r:KV kvs vs) (k:κ) {y:V} {u:Value} (ry:RelV y u) :
  KV (kvs.map fun kv=>if kv.1=k then (kv.1,y) else kv) (vs.map fun kv=>if kv.1=k then (kv.1,u) else kv):=by
 unfold KV at r |-
 induction r with
 | nil=>exact .nil
 | @cons p q ps qs h t ih =>
  rw [List.map_cons,List.map_cons]
  refine .cons ?_ ih
  obtain ⟨h1,h2⟩:=h
  by_cases e:p.1=k
  .rw [if_pos e,if_pos (h1.symm.trans e)];exact ⟨h1,ry⟩
  .rw [if_neg e,if_neg (fun z=>e (h1.trans z))];exact ⟨h1,h2⟩
theorem KV.put {kvs:List (κ×V)} {vs:List (κ×Value)} (r:KV kvs vs) (k:κ) {y:V} {u:Value} (ry:RelV y u):KV (putK kvs k y) (stored vs k u):=by
 unfold putK stored
 rw [r.any k]
 by_cases e:(vs.any fun kv=>decide (kv.1=k))=true
 .rw [if_pos e,if_pos e];exact r.repl k ry
 .rw [if_neg e,if_neg e];exact Paired.snoc r ⟨rfl,ry⟩
theorem KV.drop {kvs:List (κ×V)} {vs:List (κ×Value)} (r:KV kvs vs) (k:κ):KV (dropK kvs k) (without vs k):=by
 unfold KV at r |-
 unfold dropK without
 induction r with
 | nil=>exact .nil
 | @cons p q ps qs h t ih =>
  obtain ⟨h1,h2⟩:=h
  rw [List.filter_cons,List.filter_cons]
  by_cases e:p.1=k
  .have a:¬ decide (p.1≠k)=true:=by simp [e]
   have b:¬ decide (q.1≠k)=true:=by simp [h1.symm.trans e]
   rw [if_neg a,if_neg b];exact ih
  .have e':¬ q.1=k:=fun z=>e (h1.trans z)
   have a:decide (p.1≠k)=true:=by simp [e]
   have b:decide (q.1≠k)=true:=by simp [e']
   rw [if_pos a,if_pos b];exact .cons ⟨h1,h2⟩ ih
theorem KV.keys {kvs:List (κ×V)} {vs:List (κ×Value)} (r:KV kvs vs):kvs.map (·.1)=vs.map (·.1):=by
 unfold KV at r
 induction r with
 | nil=>rfl
 | cons h t ih=>rw [List.map_cons,List.map_cons,ih,h.1]
theorem KV.length {kvs:List (κ×V)} {vs:List (κ×Value)} (r:KV kvs vs):kvs.length=vs.length:=Paired.length r
theorem ZfJ (kvs:List (κ×V)) (k:κ):(dropK kvs k).length<=kvs.length:=List.length_filter_le _ _
end
theorem Zff {P:Program} {w:World} {k:Key} {u:Value} (r:RelV (kV k) u):(ZaY P w).is k u=true:=by
 cases k with
 | inl i=>obtain ⟨t,e⟩:=(show ∃ t,u=Value.int i t from r);subst e;exact ZhB P w i t
 | inr x=>obtain ⟨t,e⟩:=(show ∃ t,u=Value.str x t from r);subst e;exact ZhC P w x t
theorem ZgH {P:Program} {w:World}:∀ {ks:List Key} {us:List Value},Vals (ks.map kV) us->ItemsAre (ZaY P w) ks us
 | [],_,r=>by rw [List.map_nil] at r;cases r;exact .nil
 | k::ks,_,r=>by
  rw [List.map_cons] at r
  cases r with
  | cons h t=>exact .cons (Zff h) (ZgH t)
abbrev KT (H:Hp):List (List Key×V)->List (List Key×Addr×Value)->Prop:=Paired fun p q=>p.1=q.1/\H q.2.1=some (.tup (p.1.map kV))/\RelV p.2 q.2.2
theorem KT.val {H:Hp} {kvs:List (List Key×V)} {xs:List (List Key×Addr×Value)} (r:KT H kvs xs) (k:List Key):RelO (valV kvs k) ((atKey xs k).map (·.2)):=by
 induction r with
 | nil=>exact True.intro
 | @cons p q ps qs h t ih =>
  obtain ⟨h1,_,h2⟩:=h
  by_cases e:p.1=k
  .have e':q.1=k:=h1.symm.trans e
   have b:atKey (q::qs) k=some q.2:=by simp [atKey,List.find?_cons,e']
   rw [Zbg e,b];exact h2
  .have e':¬ q.1=k:=fun z=>e (h1.trans z)
   have b:atKey (q::qs) k=atKey qs k:=by simp [atKey,List.find?_cons,e']
   rw [Zbe e,b];exact ih
theorem KT.repl {H:Hp} {kvs:List (List Key×V)} {xs:List (List Key×Addr×Value)} (r:KT H kvs xs) (k:List Key) {y:V} {u:Value} (ry:RelV y u) :
  KT H (kvs.map fun kv=>if kv.1=k then (kv.1,y) else kv) (xs.map (putAt k u)):=by
 induction r with
 | nil=>exact .nil
 | @cons p q ps qs h t ih =>
  rw [List.map_cons,List.map_cons]
  refine .cons ?_ ih
  obtain ⟨h1,h2,h3⟩:=h
  unfold putAt
  by_cases e:p.1=k
  .rw [if_pos e,if_pos (h1.symm.trans e)];exact ⟨h1,h2,ry⟩
  .rw [if_neg e,if_neg (fun z=>e (h1.trans z))];exact ⟨h1,h2,h3⟩
theorem KT.put {H:Hp} {kvs:List (List Key×V)} {xs:List (List Key×Addr×Value)} (r:KT H kvs xs) (k:List Key) {b:Addr} {y:V} {u:Value} (hb:H b=some (.tup (k.map kV))) (ry:RelV y u) :
  KT H (putK kvs k y) (storedH xs k b u):=by
 have e:(kvs.any fun kv=>decide (kv.1=k))=(atKey xs k).isSome:=by
  rw [Zb1,(r.val k).isSome_eq,Option.isSome_map]
 unfold putK storedH
 rw [e]
 by_cases q:(atKey xs k).isSome=true
 .rw [if_pos q,if_pos q];exact r.repl k ry
 .rw [if_neg q,if_neg q];exact Paired.snoc r ⟨rfl,hb,ry⟩
theorem KT.keeps {H H':Hp} {kvs:List (List Key×V)} {xs:List (List Key×Addr×Value)} (r:KT H kvs xs) (ht:∀ b ys,H b=some (.tup ys)->H' b=some (.tup ys)):KT H' kvs xs :=
 Paired.mapP r fun _ _ z=>⟨z.1,ht _ _ z.2.1,z.2.2⟩
section
variable {P:Program} {w:World} {H:Hp} {h:Heap} {a:Addr}
theorem rd_of {u:HO} (ok:HOk P w H h) (e:Rd H a u):ObjOk P w H h a u:=e.ok ok
theorem ZhG {kvs:List (Key×V)} (ok:HOk P w H h) (e:Rd H a (.dK kvs)):kvs.length<=sizeLine/\(a==sysModules)=false/\∃ vs,KV kvs vs/\h.DictOf (ZaY P w) a vs :=
 show ObjOk P w H h a (.dK kvs) from rd_of ok e
theorem Zkj {kvs:List (Key×V)} (ok:HOk P w H h) (e:H a=some (.dK kvs)):kvs.length<=sizeLine/\(a==sysModules)=false/\∃ vs,KV kvs vs/\h.DictOf (ZaY P w) a vs:=ZhG ok (.inl e)
theorem Zft {ks:List Key} (ok:HOk P w H h) (e:H a=some (.tup (ks.map kV))):(tupleKind (ZaY P w)).is h ks a:=by
 obtain ⟨_,its,r,o,h1,h2,n,h3⟩:=(show ObjOk P w H h a (.tup (ks.map kV)) from ok a _ e)
 exact ⟨o,its.toArray,n,h1,h2,h3,by simpa using ZgH r⟩
theorem ZhH {kvs:List (List Key×V)} (ok:HOk P w H h) (e:Rd H a (.dT kvs)):kvs.length<=sizeLine/\(a==sysModules)=false /\
  ∃ xs,KT H kvs xs/\h.DictOfH (tupleKind (ZaY P w)) a xs:=by
 obtain ⟨z,y,xs,r,o,es,ep,h1,h2,h3,h4,h5⟩:=(show ObjOk P w H h a (.dT kvs) from rd_of ok e)
 refine ⟨z,y,xs,r,o,es,ep,h1,h2,h3,h4,fun x hx=>?_,h5⟩
 have all:∀ {l:List (List Key×V)} {m:List (List Key×Addr×Value)},KT H l m->∀ x∈m,(tupleKind (ZaY P w)).is h x.1 x.2.1:=by
  intro l m q
  induction q with
  | nil=>intro x hx;exact nomatch hx
  | @cons p q ps qs hq t ih =>
   intro x hx
   rcases List.mem_cons.mp hx with e|hx
   .subst e
    exact Zft ok (by rw [<- hq.1];exact hq.2.1)
   .exact ih x hx
 exact all r x hx
theorem dt_of {kvs:List (List Key×V)} (ok:HOk P w H h) (e:H a=some (.dT kvs)):kvs.length<=sizeLine/\(a==sysModules)=false /\
  ∃ xs,KT H kvs xs/\h.DictOfH (tupleKind (ZaY P w)) a xs:=ZhH ok (.inl e)
end
def DGet (H:Hp) (a:Addr) (y:V) (r:Option V):Prop :=
 (∃ kvs k,Rd H a (.dK kvs)/\y=kV k/\r=valV kvs k)\/∃ kvs k b,Rd H a (.dT kvs)/\y=.ref b/\H b=some (.tup (k.map kV))/\r=valV kvs k
def DPut (H:Hp) (a:Addr) (y v:V) (H':Hp):Prop :=
 (∃ kvs k,H a=some (.dK kvs)/\y=kV k/\kvs.length<sizeLine/\H'=upd H a (.dK (putK kvs k v))) \/
 ∃ kvs k b,H a=some (.dT kvs)/\y=.ref b/\H b=some (.tup (k.map kV))/\kvs.length<sizeLine/\H'=upd H a (.dT (putK kvs k v))
theorem DGet.k {H:Hp} {a:Addr} {kvs:List (Key×V)} {k:Key} (e:H a=some (.dK kvs)):DGet H a (kV k) (valV kvs k):=.inl ⟨kvs,k,.inl e,rfl,rfl⟩
theorem DGet.t {H:Hp} {a b:Addr} {kvs:List (List Key×V)} {k:List Key} (e:H a=some (.dT kvs)) (eb:H b=some (.tup (k.map kV))):DGet H a (.ref b) (valV kvs k):=.inr ⟨kvs,k,b,.inl e,rfl,eb,rfl⟩
theorem DPut.k {H:Hp} {a:Addr} {kvs:List (Key×V)} {k:Key} {v:V} (e:H a=some (.dK kvs)) (hl:kvs.length<sizeLine):DPut H a (kV k) v (upd H a (.dK (putK kvs k v))):=.inl ⟨kvs,k,e,rfl,hl,rfl⟩
theorem DPut.t {H:Hp} {a b:Addr} {kvs:List (List Key×V)} {k:List Key} {v:V} (e:H a=some (.dT kvs)) (eb:H b=some (.tup (k.map kV))) (hl:kvs.length<sizeLine) :
  DPut H a (.ref b) v (upd H a (.dT (putK kvs k v))):=.inr ⟨kvs,k,b,e,rfl,eb,hl,rfl⟩
section
variable {X:Cx} {pins:List (Addr×Obj)} {σ:St} {H:Hp} {s:Shared} {a:Addr} {y v:V} {u r:Value} {o:Option V} {A:Around} {E:Value->Shared->Prop}
theorem Inv.big (I:Inv X pins σ H s):sysModules<s.heap.objs.size:=by
 have h:mainGlobals<s.heap.objs.size:=(I.mod.glob.keeps I.bk).lt
 exact Nat.lt_trans (by decide) h
theorem Zkk {Q:Value->Shared->Prop} (hu:A.units+1<cLine) (I:Inv X pins σ H s) (g:DGet H a y (some v)) (ry:RelV y u) (h:∀ w' s',Inv X pins σ H s'->RelV v w'->Q w' s') :
  wpAny (model X.prog X.w) A (getItem (.ref a) u) Q E s:=by
 rcases g with ⟨kvs,k,e,ey,l⟩|⟨kvs,k,b,e,ey,eb,l⟩
 .subst ey
  obtain ⟨z,hd,vs,rel,dd⟩:=ZhG I.hok e
  obtain ⟨w',hw,rw'⟩:=RelO.some_of (v:=v) (o:=valueAt vs k) (by rw [l];exact rel.val k)
  exact wpAny_getItem_of (Zff ry) dd.mapOf hw (h w' _ (I.tok _) rw')
 .subst ey
  cases (show u=Value.ref b from ry)
  obtain ⟨z,hd,xs,rel,dd⟩:=ZhH I.hok e
  obtain ⟨w',hw,rw'⟩:=RelO.some_of (v:=v) (o:=(atKey xs k).map (·.2)) (by rw [l];exact rel.val k)
  obtain ⟨p,hp,hp2⟩:=Option.map_eq_some_iff.mp hw
  refine wpAny_getItem_heap (tupleKind_room_in1 hu) (Zft I.hok eb) dd hp ?_
  rw [hp2]
  exact h w' _ (I.tok _) rw'
theorem d_in {Q:Value->Shared->Prop} (hu:A.units+1<cLine) (I:Inv X pins σ H s) (g:DGet H a y o) (ry:RelV y u) (h:∀ s',Inv X pins σ H s'->Q (.bool o.isSome) s') :
  wpAny (model X.prog X.w) A (compareOp .In u (.ref a)) Q E s:=by
 rcases g with ⟨kvs,k,e,ey,l⟩|⟨kvs,k,b,e,ey,eb,l⟩
 .subst ey
  obtain ⟨z,hd,vs,rel,dd⟩:=ZhG I.hok e
  refine wpAny_in_of (Zff ry) hd dd.mapOf ?_
  rw [<- (rel.val k).isSome_eq,<- l]
  exact h _ (I.tok _)
 .subst ey
  cases (show u=Value.ref b from ry)
  obtain ⟨z,hd,xs,rel,dd⟩:=ZhH I.hok e
  refine wpAny_in_heap (tupleKind_room_in1 hu) (Zft I.hok eb) hd dd ?_
  have q:=(rel.val k).isSome_eq
  rw [Option.isSome_map] at q
  rw [<- q,<- l]
  exact h _ (I.tok _)
theorem ZnW {Q:Value->Shared->Prop} (hu:A.units+1<cLine) (I:Inv X pins σ H s) (g:DGet H a y o) (ry:RelV y u) (h:∀ s',Inv X pins σ H s'->Q (.bool (!o.isSome)) s') :
  wpAny (model X.prog X.w) A (compareOp .NotIn u (.ref a)) Q E s:=by
 rcases g with ⟨kvs,k,e,ey,l⟩|⟨kvs,k,b,e,ey,eb,l⟩
 .subst ey
  obtain ⟨z,hd,vs,rel,dd⟩:=ZhG I.hok e
  refine wpAny_notIn_of (Zff ry) hd dd.mapOf ?_
  rw [<- (rel.val k).isSome_eq,<- l]
  exact h _ (I.tok _)
 .subst ey
  cases (show u=Value.ref b from ry)
  obtain ⟨z,hd,xs,rel,dd⟩:=ZhH I.hok e
  refine wpAny_notIn_heap (tupleKind_room_in1 hu) (Zft I.hok eb) hd dd ?_
  have q:=(rel.val k).isSome_eq
  rw [Option.isSome_map] at q
  rw [<- q,<- l]
  exact h _ (I.tok _)
theorem Zez {h':Heap} {t':Nat} {ob:HO} (I:Inv X pins σ H s) (mu:Mut (H a)) (hs:Heap.SameBut a s.heap h') (he:∃ q,h'.get? a=some q) (new:ObjOk X.prog X.w (upd H a ob) h' a ob) :
  Inv X pins σ (upd H a ob) { s with heap:=h',toks:=t' } :=
 I.write (x:=a) (e:=a) mu (.inl rfl) (fun b q hb z=>(hs.2 b hb).trans z) he new
theorem ZiN {P:Program} {w:World} {H':Hp} {h':Heap} {kvs:List (Key×V)} {vs:List (Key×Value)} (z:kvs.length<=sizeLine) (hd:(a==sysModules)=false) (rel:KV kvs vs) (dd:h'.DictOf (ZaY P w) a vs) :
  ObjOk P w H' h' a (.dK kvs):=⟨z,hd,vs,rel,dd⟩
theorem Zkl {H':Hp} {Q:Unit->Shared->Prop} (hu:A.units+1<cLine) (I:Inv X pins σ H s) (g:DPut H a y v H') (ry:RelV y u) (rv:RelV v r) (h:∀ s',Inv X pins σ H' s'->Q () s') :
  wpAny (model X.prog X.w) A (setItem (.ref a) u r) Q E s:=by
 rcases g with ⟨kvs,k,e,ey,l,eH⟩|⟨kvs,k,b,e,ey,eb,l,eH⟩
 .subst ey eH
  obtain ⟨z,hd,vs,rel,dd⟩:=Zkj I.hok e
  have hz:vs.length<=sizeLine:=by rw [<- rel.length];exact z
  have hl:(putK kvs k v).length<=sizeLine:=by have:=ZbG kvs k v;omega
  refine wpAny_setItem_pairs (hsz:=hz) (Zff ry) dd fun h' dd' hs=>h _ ?_
  have he:∃ q,h'.get? a=some q:=let ⟨q,_,_,hq,_⟩:=dd';⟨q,hq⟩
  exact Zez I (by rw [e];exact True.intro) hs he (ZiN hl hd (rel.put k rv) dd')
 .subst ey eH
  cases (show u=Value.ref b from ry)
  obtain ⟨z,hd,xs,rel,dd⟩:=dt_of I.hok e
  have hz:xs.length<=sizeLine:=by rw [<- Paired.length rel];exact z
  have hl:(putK kvs k v).length<=sizeLine:=by have:=ZbG kvs k v;omega
  refine wpAny_setItem_heap (hsz:=hz) (tupleKind_room_in1 hu) (Zft I.hok eb) dd fun h' dd' hs=>h _ ?_
  obtain ⟨q,es,ep,hq,h2,h3,h4,_,h5⟩:=dd'
  refine Zez I (by rw [e];exact True.intro) hs ⟨q,hq⟩ ⟨hl,hd,_,(rel.put k eb rv).keeps fun c ys ec=>?_,q,es,ep,hq,h2,h3,h4,h5⟩
  rw [Zaj (Za6 ec e (fun z=>nomatch z))]
  exact ec
end
section
variable {X:Cx} {pins:List (Addr×Obj)} {σ:St} {H:Hp} {s:Shared} {a:Addr} {kvs:List (Key×V)} {k:Key} {u:Value} {A:Around} {E:Value->Shared->Prop}
theorem d_delItem {Q:Unit->Shared->Prop} (I:Inv X pins σ H s) (e:H a=some (.dK kvs)) (ry:RelV (kV k) u) (l:(valV kvs k).isSome=true) (h:∀ s',Inv X pins σ (upd H a (.dK (dropK kvs k))) s'->Q () s') :
  wpAny (model X.prog X.w) A (delItem (.ref a) u) Q E s:=by
 obtain ⟨z,hd,vs,rel,dd⟩:=Zkj I.hok e
 refine wpAny_delItem_slot dd.typeIs (by decide) PySem.F.slot_dict_delitem
  (call_meetsIn PySem.F.slot_dict_delitem dd.typeIs PySem.F.entry_dict_delitem (PySem.F.args_dict_delitem_2 _ _) (meets_dict_delitem_pairs (ZaY X.prog X.w) a (Zff ry)) ⟨vs,dd,by rw [<- rel.length];exact z,by rw [<- (rel.val k).isSome_eq];exact l,fun h' dd' hs=>h _ ?_⟩)
 have he:∃ q,h'.get? a=some q:=let ⟨q,_,_,hq,_⟩:=dd';⟨q,hq⟩
 exact Zez I (by rw [e];exact True.intro) hs he (ZiN (Nat.le_trans (ZfJ kvs k) z) hd (rel.drop k) dd')
theorem d_pop {v:V} {more:List Value} {Q:Value->Shared->Prop} (I:Inv X pins σ H s) (e:H a=some (.dK kvs)) (ry:RelV (kV k) u) (l:valV kvs k=some v) (hm:more=[]\/∃ x,more=[x])
  (h:∀ w' s',Inv X pins σ (upd H a (.dK (dropK kvs k))) s'->RelV v w'->Q w' s'):wpAny (model X.prog X.w) A (call (.builtin "dict.pop") (.ref a::u::more)) Q E s:=by
 obtain ⟨z,hd,vs,rel,dd⟩:=Zkj I.hok e
 obtain ⟨w',hw,rw'⟩:=RelO.some_of (v:=v) (o:=valueAt vs k) (by rw [<- l];exact rel.val k)
 have hp:(keyPart u).isSome=true:=by
  cases k with
  | inl i=>obtain ⟨t,q⟩:=(show ∃ t,u=Value.int i t from ry);subst q;rfl
  | inr x=>obtain ⟨t,q⟩:=(show ∃ t,u=Value.str x t from ry);subst q;rfl
 have ha:argsOk "dict.pop" ⟨.ref a::u::more,[]⟩:=by
  rcases hm with q|⟨x,q⟩
  .subst q;exact PySem.F.args_dict_pop_2 _ _
  .subst q;exact PySem.F.args_dict_pop_3 _ _ _
 refine call_meetsIn PySem.F.slot_dict_pop dd.typeIs PySem.F.entry_dict_pop ha (meets_dict_pop_there (ZaY X.prog X.w) a (Zff ry) more hm hp)
  ⟨vs,w',dd,by rw [<- rel.length];exact z,hw,fun h' dd' hs=>h w' _ ?_ rw'⟩
 have he:∃ q,h'.get? a=some q:=let ⟨q,_,_,hq,_⟩:=dd';⟨q,hq⟩
 exact Zez I (by rw [e];exact True.intro) hs he (ZiN (Nat.le_trans (ZfJ kvs k) z) hd (rel.drop k) dd')
theorem d_popD {r:Value} {Q:Value->Shared->Prop} (I:Inv X pins σ H s) (e:H a=some (.dK kvs)) (ry:RelV (kV k) u) (l:valV kvs k=none) (h:∀ s',Inv X pins σ H s'->Q r s') :
  wpAny (model X.prog X.w) A (call (.builtin "dict.pop") [.ref a,u,r]) Q E s:=by
 obtain ⟨z,hd,vs,rel,dd⟩:=Zkj I.hok e
 have hn:valueAt vs k=none:=RelO.none_of (by rw [<- l];exact rel.val k)
 have hp:(keyPart u).isSome=true:=by
  cases k with
  | inl i=>obtain ⟨t,q⟩:=(show ∃ t,u=Value.int i t from ry);subst q;rfl
  | inr x=>obtain ⟨t,q⟩:=(show ∃ t,u=Value.str x t from ry);subst q;rfl
 exact call_meetsIn PySem.F.slot_dict_pop dd.typeIs PySem.F.entry_dict_pop (PySem.F.args_dict_pop_3 _ _ _) (meets_dict_pop_default (ZaY X.prog X.w) a (Zff ry) hd hp r) ⟨vs,dd,hn,h _ (I.tok _)⟩
end
def NoSl (i:Expr):Prop:=∀ ov iv,subscripted i false ov iv=operate [ov,iv] (getItem ov iv)
theorem Zkm {prog:Program} {w:World} {A:Around} {E:Value->Shared->Prop} {s:Shared} {env:Env} {value slice:Expr} {pos:Pos} {T id:String} {Q:Value->Shared->Prop}
  (hl:typeLookup (.type T) "__getitem__" = pure (some (.builtin id))) (hs:NoSl slice)
  (h:wpAny (model prog w) A (eval value env) (fun o s₁=>wpAny (model prog w) A (eval slice env) (fun i s₂=>s₂.TypeIs o T/\wpAny (model prog w) A (getItem o i) Q E s₂) E s₁) E s) :
  wpAny (model prog w) A (eval (.Subscript value slice pos) env) Q E s:=by
 refine Subscript_ (wpAny_mono h (fun o s₁ h₁=>wpAny_mono h₁ (fun i s₂ h₂=>?_) fun _ _ x=>x) fun _ _ x=>x)
 obtain ⟨hT,h₂⟩:=h₂
 unfold subscriptTail
 refine wpAny_bind ?_
 rw [getitemInPython_of_ne hT.not_modules]
 refine wpAny_bind (wpAny_specialOf hT hl ?_)
 have fin:wpAny (model prog w) A (subscripted slice false o i) (fun r s₃=>wpAny (model prog w) A (letTemporaryGo value o r >>= fun _=>pure r) Q E s₃) E s₂:=by
  rw [hs o i]
  exact wpAny_operating (wpAny_mono h₂ (fun r s₃ h₃=>wpAny_bind (wpAny_letTemporaryGo (wpAny_pure h₃))) fun _ _ x=>x)
 first
  | exact wpAny_pure (wpAny_bind fin)
  | exact wpAny_bind (wpAny_pure (wpAny_bind fin))
  | exact wpAny_bind fin
theorem ZhI {X:Cx} {pins:List (Addr×Obj)} {σ:St} {H:Hp} {s:Shared} {a:Addr} {y:V} {o:Option V} (I:Inv X pins σ H s) (g:DGet H a y o):s.TypeIs (.ref a) "dict" := by
 rcases g with ⟨kvs,k,e,_,_⟩|⟨kvs,k,b,e,_,_,_⟩
 .obtain ⟨_,_,vs,_,dd⟩:=ZhG I.hok e
  exact dd.typeIs
 .obtain ⟨_,_,xs,_,dd⟩:=ZhH I.hok e
  exact dd.typeIs
def tDGet (td ty:TE):TE:=fun σ H Q=>td σ H fun x H1=>ty σ H1 fun y H2=>∃ a v,x=.ref a/\DGet H2 a y (some v)/\Q v H2
def tDIn (ty td:TE):TE:=fun σ H Q=>ty σ H fun y H1=>td σ H1 fun x H2=>∃ a o,x=.ref a/\DGet H2 a y o/\Q (.bl o.isSome) H2
def Zkn (ty td:TE):TE:=fun σ H Q=>ty σ H fun y H1=>td σ H1 fun x H2=>∃ a o,x=.ref a/\DGet H2 a y o/\Q (.bl (!o.isSome)) H2
def sDPut (td ty tv:TE):TS:=fun D σ H=>tv σ H fun v H1=>td σ H1 fun x H2=>ty σ H2 fun y H3=>∃ a H4,x=.ref a/\DPut H3 a y v H4/\D.nx σ H4
section
variable {X:Cx} {o i e value:Expr} {pos pos' tpos:Pos} {td ty tv:TE}
theorem Zko (hu:X.A.units+1<cLine) (ho:PE X o td) (hi:PE X i ty) (hs:NoSl i):PE X (.Subscript o i pos) (tDGet td ty):=by
 intro pins s σ H Q I h
 refine Zkm PySem.F.slot_dict_getitem.lookup hs (thn (ho pins s σ H _ I h) fun u s1 ⟨x,H1,I1,rx,q1⟩=>thn (hi pins s1 σ H1 _ I1 q1) fun iv s2 ⟨y,H2,I2,ry,a,v,ex,g,q2⟩=>?_)
 subst ex
 obtain rfl:u=Value.ref a:=rx
 exact ⟨ZhI I2 g,Zkk hu I2 g ry fun w' s3 I3 rw'=>⟨v,H2,I3,rw',q2⟩⟩
theorem pc_din (hu:X.A.units+1<cLine) (hi:PE X i ty) (ho:PE X o td):PC X .In i o (tDIn ty td):=by
 intro pins s σ H Q I h
 refine thn (hi pins s σ H _ I h) fun iv s1 ⟨y,H1,I1,ry,q1⟩=>thn (ho pins s1 σ H1 _ I1 q1) fun u s2 ⟨x,H2,I2,rx,a,ov,ex,g,q2⟩=>?_
 subst ex
 obtain rfl:u=Value.ref a:=rx
 exact d_in hu I2 g ry fun s3 I3=>⟨.bl ov.isSome,H2,I3,rfl,q2⟩
theorem Zkp (hu:X.A.units+1<cLine) (hi:PE X i ty) (ho:PE X o td):PC X .NotIn i o (Zkn ty td):=by
 intro pins s σ H Q I h
 refine thn (hi pins s σ H _ I h) fun iv s1 ⟨y,H1,I1,ry,q1⟩=>thn (ho pins s1 σ H1 _ I1 q1) fun u s2 ⟨x,H2,I2,rx,a,ov,ex,g,q2⟩=>?_
 subst ex
 obtain rfl:u=Value.ref a:=rx
 exact ZnW hu I2 g ry fun s3 I3=>⟨.bl (!ov.isSome),H2,I3,rfl,q2⟩
theorem Zkq (hu:X.A.units+1<cLine) (ho:PE X o td) (hi:PE X i ty) (hv:PE X value tv) (hs:swapsWith value (some (.Subscript o i pos')) pos.line X.env=pure false) :
  PS X (.Assign [.Subscript o i pos'] value pos) (sDPut td ty tv):=by
 intro pins s σ H D I h
 refine wpAny_Assign_Subscript (thn (hv pins s σ H _ I h) fun r s1 ⟨v,H1,I1,rv,q1⟩=>thn (ho pins s1 σ H1 _ I1 q1) fun u s2 ⟨x,H2,I2,rx,q2⟩=>thn (hi pins s2 σ H2 _ I2 q2) fun iv s3 ⟨y,H3,I3,ry,a,H4,ex,g,q3⟩=>?_) hs
 subst ex
 obtain rfl:u=Value.ref a:=rx
 exact Zkl hu I3 g ry rv fun s4 I4=>⟨σ,H4,I4,q3⟩
end
theorem ZiO {P:Program} {w:World} {H:Hp} (h:Heap) (hb:sysModules<h.objs.size):ObjOk P w H (h.push { cls:=.type "dict", data:=.dict #[] }) h.objs.size (.dK []) :=
 ⟨Nat.zero_le _,beq_eq_false_iff_ne.mpr (Ne.symm (Nat.ne_of_lt hb)),[],.nil,Heap.DictOf.new h⟩
def tDNewK:TE:=fun _ H Q=>∀ p,H p=none->Q (.ref p) (upd H p (.dK []))
section
variable {X:Cx} {pos:Pos}
theorem ZiP:PE X (.Dict [] [] pos) tDNewK:=fun pins s σ H Q I h =>
 wpAny_Dict_empty ⟨.ref s.heap.objs.size,_,I.laid (a:=s.heap.objs.size) (o:=.dK []) (t':=s.toks) (fun _ _ q=>Heap.get?_push_of_some _ q) (Nat.le_refl _) (ZiO s.heap I.big),rfl,h _ (I.hok.fresh (Nat.le_refl _))⟩
end
def tPairs:List (TE×TE)->St->Hp->(List (V×V)->Hp->Prop)->Prop
 | [],_,H,Q=>Q [] H
 | (tk,tv)::r,σ,H,Q=>tk σ H fun x H1=>tv σ H1 fun y H2=>tPairs r σ H2 fun ps H3=>Q ((x,y)::ps) H3
abbrev VV:List (V×V)->List (Value×Value)->Prop:=Paired fun p q=>RelV p.1 q.1/\RelV p.2 q.2
def PPs (X:Cx) (pos:Pos) (keys:List (Option Expr)) (values:List Expr) (trs:List (TE×TE)):Prop :=
 ∀ (pins:List (Addr×Obj)) (s:Shared) (σ:St) (H:Hp) (Q:List (V×V)->Hp->Prop),Inv X pins σ H s->tPairs trs σ H Q ->
  wpAny (model X.prog X.w) X.A (evalPairs (pairTrees keys values X.env pos)) (fun vs s'=>∃ ps H',Inv X pins σ H' s'/\VV ps vs/\Q ps H') X.xe s
theorem ZnX {X:Cx} {pos:Pos}:PPs X pos [] [] []:=fun pins s σ H Q I h=>pairTrees_nil_walk ⟨[],H,I,.nil,h⟩
theorem Zdj {X:Cx} {pos:Pos} {k v:Expr} {ks:List (Option Expr)} {vs:List Expr} {tk tv:TE} {trs:List (TE×TE)} (hk:PE X k tk) (hv:PE X v tv) (hr:PPs X pos ks vs trs) :
  PPs X pos (some k::ks) (v::vs) ((tk,tv)::trs):=fun pins s σ H Q I h =>
 pairTrees_cons_walk (thn (hk pins s σ H _ I h) fun u s1 ⟨x,H1,I1,rx,q1⟩=>thn (hv pins s1 σ H1 _ I1 q1) fun w2 s2 ⟨y,H2,I2,ry,q2⟩ =>
  thn (hr pins s2 σ H2 _ I2 q2) fun ws s3 ⟨ps,H3,I3,rel,q3⟩=>⟨(x,y)::ps,H3,I3,.cons ⟨rx,ry⟩ rel,q3⟩)
noncomputable def mergeK (kvs more:List (Key×V)):List (Key×V):=more.foldl (fun acc kv=>putK acc kv.1 kv.2) kvs
theorem KV.merge:∀ {more:List (Key×V)} {rs:List (Key×Value)} {kvs:List (Key×V)} {vs:List (Key×Value)},KV more rs->KV kvs vs->KV (mergeK kvs more) (merged vs rs):=by
 intro more rs kvs vs r
 unfold KV at r
 induction r generalizing kvs vs with
 | nil=>intro q;exact q
 | @cons p q ps qs h t ih =>
  intro r0
  have e:KV (putK kvs p.1 p.2) (stored vs q.1 q.2):=by
   have:=r0.put p.1 h.2
   rw [<- h.1];exact this
  exact ih e
theorem Zdk:∀ (more kvs:List (Key×V)),(mergeK kvs more).length<=kvs.length+more.length
 | [],kvs=>by show kvs.length<=kvs.length+0;omega
 | p::r,kvs=>by
  have h1:=Zdk r (putK kvs p.1 p.2)
  have h2:=ZbG kvs p.1 p.2
  show (mergeK (putK kvs p.1 p.2) r).length<=_
  rw [List.length_cons];omega
theorem Zfu {P:Program} {w:World}:∀ {kvs:List (Key×V)} {ws:List (Value×Value)},VV (kvs.map fun kv=>(kV kv.1,kv.2)) ws->∃ rs,Carries (ZaY P w) ws rs/\KV kvs rs
 | [],_,r=>by rw [List.map_nil] at r;cases r;exact ⟨[],True.intro,.nil⟩
 | p::kvs,_,r=>by
  rw [List.map_cons] at r
  cases r with
  | @cons a b as bs h t =>
   obtain ⟨rs,c,q⟩:=Zfu (P:=P) (w:=w) t
   obtain ⟨b1,b2⟩:=b
   exact ⟨(p.1,b2)::rs,⟨Zff h.1,rfl,c⟩,.cons ⟨rfl,h.2⟩ q⟩
def tDisp (trs:List (TE×TE)):TE:=fun σ H Q=>∀ p,H p=none->tPairs trs σ (upd H p (.dK [])) fun ps H2=>H2 p=some (.dK [])/\∃ kvs:List (Key×V),ps=kvs.map (fun kv=>(kV kv.1,kv.2))/\kvs.length<=15/\Q (.ref p) (upd H2 p (.dK (mergeK [] kvs)))
theorem ZnY {X:Cx} {pos:Pos} {keys:List (Option Expr)} {values:List Expr} {trs:List (TE×TE)} (h:PPs X pos keys values trs) (hall:keys.all (·.isSome)=true) (hl:keys.length=values.length) (h0:keys≠[])
  (h15:keys.length<=15):PE X (.Dict keys values pos) (tDisp trs):=by
 intro pins s σ H Q I q
 have hn:=I.hok.fresh (Nat.le_refl s.heap.objs.size)
 have I1:=I.laid (a:=s.heap.objs.size) (o:=.dK []) (h':=s.heap.push { cls:=.type "dict", data:=.dict #[] }) (t':=s.toks) (fun _ _ q=>Heap.get?_push_of_some _ q) (Nat.le_refl _) (ZiO s.heap I.big)
 refine wpAny_Dict_walk (knd:=ZaY X.prog X.w) hall hl h0 h15 (thn (h pins _ σ _ _ I1 (q _ hn)) fun ws s2 ⟨ps,H2,I2,rel,e,kvs,ep,lk,q2⟩=>?_)
 subst ep
 obtain ⟨rs,c,rk⟩:=Zfu (P:=X.prog) (w:=X.w) rel
 obtain ⟨z,hd,vs0,r0,dd⟩:=Zkj I2.hok e
 cases r0
 refine ⟨rs,c,dd,fun h' dd' hs=>⟨.ref s.heap.objs.size,_,?_,rfl,q2⟩⟩
 have hz:(mergeK [] kvs).length<=sizeLine:=by
  have h1:=Zdk kvs []
  rw [List.length_nil] at h1
  rw [sizeLine_eq];omega
 have he:∃ q,h'.get? s.heap.objs.size=some q:=let ⟨q,_,_,hq,_⟩:=dd';⟨q,hq⟩
 exact Zez I2 (by rw [e];exact True.intro) hs he (ZiN hz hd (rk.merge .nil) dd')
structure M1 (X:Cx) (o:Expr) (m:Str) (apos:Pos) (e:Expr) (cpos:Pos):Prop where
 base:attributeBase o m X.env (eval o X.env)=eval o X.env
 few:((backTo cpos (starEach [e] X.env)).all (fun x=>!x.1)&&(backToKw cpos (keywordEach [] X.env)).all (fun x=>x.1.isSome)
  && decide (([e]:List Expr).length+([]:List Keyword).length+(if ([]:List Keyword).isEmpty then 0 else 1)<30))=true
 line:(apos.endLine==cpos.line)=true
 trees:backTo cpos (starEach [e] X.env)=[(false,eval e X.env)]
structure M2 (X:Cx) (o:Expr) (m:Str) (apos:Pos) (e f:Expr) (cpos:Pos):Prop where
 base:attributeBase o m X.env (eval o X.env)=eval o X.env
 few:((backTo cpos (starEach [e,f] X.env)).all (fun x=>!x.1)&&(backToKw cpos (keywordEach [] X.env)).all (fun x=>x.1.isSome)
  && decide (([e,f]:List Expr).length+([]:List Keyword).length+(if ([]:List Keyword).isEmpty then 0 else 1)<30))=true
 line:(apos.endLine==cpos.line)=true
 trees:backTo cpos (starEach [e,f] X.env)=[(false,eval e X.env),(false,eval f X.env)]
def IsD (H:Hp) (a:Addr):Prop:=(∃ kvs,Rd H a (.dK kvs))\/∃ kvs,Rd H a (.dT kvs)
theorem Znq {X:Cx} {pins:List (Addr×Obj)} {σ:St} {H:Hp} {s:Shared} {a:Addr} (I:Inv X pins σ H s) (d:IsD H a) :
  s.TypeIs (.ref a) "dict" /\ (∀ b,Value.ref a=.ref b->∃ ob,s.heap.get? b=some ob/\ob.dict=none)/\(a==sysModules)=false:=by
 rcases d with ⟨kvs,e⟩|⟨kvs,e⟩
 .obtain ⟨_,hd,vs,_,dd⟩:=ZhG I.hok e
  refine ⟨dd.typeIs,fun b q=>?_,hd⟩
  cases q
  obtain ⟨ob,_,_,h1,h2,_⟩:=dd
  exact ⟨ob,h1,h2.2.1⟩
 .obtain ⟨_,hd,xs,_,dd⟩:=ZhH I.hok e
  refine ⟨dd.typeIs,fun b q=>?_,hd⟩
  cases q
  obtain ⟨ob,_,_,h1,h2,_⟩:=dd
  exact ⟨ob,h1,h2.2.1⟩
section
variable {X:Cx} {pins:List (Addr×Obj)} {σ:St} {H:Hp} {s:Shared} {a:Addr} {y d:V} {u r:Value} {o:Option V} {A:Around} {E:Value->Shared->Prop}
theorem d_get2 {Q:Value->Shared->Prop} (hu:A.units+1<cLine) (I:Inv X pins σ H s) (g:DGet H a y o) (ry:RelV y u) (rd:RelV d r) (h:∀ w' s',Inv X pins σ H s'->RelV (o.getD d) w'->Q w' s') :
  wpAny (model X.prog X.w) A (call (.builtin "dict.get") [.ref a,u,r]) Q E s:=by
 rcases g with ⟨kvs,k,e,ey,l⟩|⟨kvs,k,b,e,ey,eb,l⟩
 .subst ey
  obtain ⟨z,hd,vs,rel,dd⟩:=ZhG I.hok e
  refine call_meetsIn PySem.F.slot_dict_get dd.typeIs PySem.F.entry_dict_get (PySem.F.args_dict_get_3 _ _ _) (meets_dict_get_default (ZaY X.prog X.w) a (Zff ry) hd r) ⟨_,dd.mapOf,h _ _ (I.tok _) ?_⟩
  rw [l]
  exact (rel.val k).getD rd
 .subst ey
  cases (show u=Value.ref b from ry)
  obtain ⟨z,hd,xs,rel,dd⟩:=ZhH I.hok e
  refine call_meetsIn PySem.F.slot_dict_get dd.typeIs PySem.F.entry_dict_get (PySem.F.args_dict_get_3 _ _ _) (meetsH_dict_get_default (tupleKind (ZaY X.prog X.w)) a b hd r) ⟨tupleKind_room_in1 hu,k,xs,Zft I.hok eb,dd,h _ _ (I.tok _) ?_⟩
  rw [l]
  exact (rel.val k).getD rd
end
def tDGet2 (td ty tx:TE):TE:=fun σ H Q=>td σ H fun x H1=>∃ a,x=.ref a/\IsD H1 a/\ty σ H1 fun y H2=>tx σ H2 fun z H3=>∃ o,DGet H3 a y o/\Q (o.getD z) H3
def tDPop2 (td ty tx:TE):TE:=fun σ H Q=>td σ H fun x H1=>∃ a,x=.ref a/\IsD H1 a/\ty σ H1 fun y H2=>tx σ H2 fun z H3=>∃ kvs k,H3 a=some (.dK kvs)/\y=kV k /\
 (∀ v,valV kvs k=some v->Q v (upd H3 a (.dK (dropK kvs k))))/\(valV kvs k=none->Q z H3)
section
variable {X:Cx} {o e f:Expr} {apos cpos:Pos} {td ty tx:TE}
theorem Zme (hu:X.A.units+1<cLine) (ho:PE X o td) (he:PE X e ty) (hf:PE X f tx) (m:M2 X o "get" apos e f cpos):PE X (.Call (.Attribute o "get" apos) [e,f] [] cpos) (tDGet2 td ty tx):=by
 intro pins s σ H Q I h
 refine wpAny_Call_method m.base m.few m.line PySem.F.plainAttrs_dict PySem.F.slot_dict_get PySem.F.type_dict_get (thn (ho pins s σ H _ I h) fun u s1 ⟨x,H1,I1,rx,a,ex,d,q1⟩=>?_)
 subst ex
 obtain rfl:u=Value.ref a:=rx
 obtain ⟨t1,t2,_⟩:=Znq I1 d
 refine ⟨t1,t2,?_⟩
 rw [m.trees]
 refine Calls.callWith_builtin rfl (Calls.evalArgs_plain (Calls.spliced_cons (thn (he pins s1 σ H1 _ I1 q1) fun iv s2 ⟨y,H2,I2,ry,q2⟩ =>
  Calls.spliced_cons (thn (hf pins s2 σ H2 _ I2 q2) fun fv s3 ⟨z,H3,I3,rz,ov,g,q3⟩=>Calls.spliced_nil ?_))))
 exact d_get2 hu I3 g ry rz fun w' s4 I4 rw'=>⟨_,H3,I4,rw',q3⟩
theorem Zmf (ho:PE X o td) (he:PE X e ty) (hf:PE X f tx) (m:M2 X o "pop" apos e f cpos):PE X (.Call (.Attribute o "pop" apos) [e,f] [] cpos) (tDPop2 td ty tx):=by
 intro pins s σ H Q I h
 refine wpAny_Call_method m.base m.few m.line PySem.F.plainAttrs_dict PySem.F.slot_dict_pop PySem.F.type_dict_pop (thn (ho pins s σ H _ I h) fun u s1 ⟨x,H1,I1,rx,a,ex,d,q1⟩=>?_)
 subst ex
 obtain rfl:u=Value.ref a:=rx
 obtain ⟨t1,t2,_⟩:=Znq I1 d
 refine ⟨t1,t2,?_⟩
 rw [m.trees]
 refine Calls.callWith_builtin rfl (Calls.evalArgs_plain (Calls.spliced_cons (thn (he pins s1 σ H1 _ I1 q1) fun iv s2 ⟨y,H2,I2,ry,q2⟩ =>
  Calls.spliced_cons (thn (hf pins s2 σ H2 _ I2 q2) fun fv s3 ⟨z,H3,I3,rz,kvs,k,ea,ey,q3,q4⟩=>Calls.spliced_nil ?_))))
 subst ey
 cases l:valV kvs k with
 | some v=>exact d_pop I3 ea ry l (.inr ⟨fv,rfl⟩) fun w' s4 I4 rw'=>⟨v,_,I4,rw',q3 v l⟩
 | none=>exact d_popD I3 ea ry l fun s4 I4=>⟨z,H3,I4,rz,q4 l⟩
end
section
variable {X:Cx} {pins:List (Addr×Obj)} {σ:St} {H:Hp} {s:Shared} {a:Addr} {kvs:List (Key×V)} {A:Around} {E:Value->Shared->Prop}
end
section
variable {X:Cx} {pins:List (Addr×Obj)} {σ:St} {H:Hp} {s:Shared} {a:Addr} {y:V} {u:Value} {A:Around} {E:Value->Shared->Prop}
end
end L2
namespace Att
open PySem PySem.W PySem.Calls PyProof.Rows
theorem ZeA {P:Params} {h:Heap}:∀ (ns:List Int) (vs:List Value),WellAll P h vs (ns.map WData.int)->IntsAre vs ns:=by
 intro ns
 induction ns with
 | nil =>
  intro vs w
  rw [List.map_nil] at w
  cases w
  exact .nil
 | cons n ns ih =>
  intro vs w
  rw [List.map_cons] at w
  cases w with
  | cons a b =>
   cases a
   exact .cons _ _ (ih _ b)
theorem ZgI {l:OpenLaw} {n:Nat} (hn:l.most=some n) {P:Params} {h:Heap} {args:List WData} {vals:List Value}
  (hpre:l.row.toRowW.claim.pre args=true) (hwl:WellAll P h vals args) :
  ∃ a vs ns,vals=[Value.ref a]/\args=[WData.list (ns.map WData.int)]/\h.get? a=some { cls:=.type "list", data:=.seq vs.toArray }/\IntsAre vs ns/\ns.length<=n:=by
 have hsh:WShape.hasAll [] args [.list .int]=true:=(pre_splitW hpre).1
 have hc:l.pre.holds [] { args:=args }=true:=(pre_splitW hpre).2
 obtain ⟨d,r,rfl,h1,h2⟩:=hasAllW_cons hsh
 obtain rfl:=hasAllW_nil h2
 obtain ⟨xs,rfl,h3⟩:=hasW_list h1
 obtain ⟨ns,rfl⟩:=items_int h3
 have hlen:ns.length<=n:=by
  unfold OpenLaw.pre at hc
  have h4:(WTm.not (.lt (.lit (.int (n:Int))) (.len (.arg 0)))).holds [] { args:=[.list (ns.map .int)] }=true:=by
   have h4:=(holds_andW hc).1
   rw [hn] at h4
   exact h4
  have h5:=condW_of h4 (w_not (w_lt w_lit (w_len_list (w_arg rfl))))
  rw [List.length_map] at h5
  refine Nat.le_of_not_lt fun q=>?_
  have q':(n:Int)<((ns.length:Nat):Int):=by omega
  first
   | (rw [decide_eq_true q'] at h5;exact absurd h5 (by decide))
   | (simp at h5;omega)
 cases hwl with
 | cons w1 w2 =>
  cases w2
  cases w1 with
  | list ho hall=>exact ⟨_,_,ns,rfl,rfl,ho,ZeA ns _ hall,hlen⟩
theorem ZgJ (l:OpenLaw) (args:List WData):l.row.toRowW.claim.post args (.bool true) args=true :=
 postW_of (r:=l.row.toRowW) (X:=(true==true))
  (show WShape.has [] (.bool true) .bool=true by first|rfl|decide|simp [WShape.has,WShape.arms,WShape.armsAll])
  (show (WTm.eq .res (.lit (.bool true))).value [] { args:=args,res:=some (.bool true),after:=args }=some (.bool (true==true)) from w_eq_bool (w_res rfl) w_lit) rfl
theorem attach {l:OpenLaw} {n:Nat} {q:Program} {loose:List Str} {XP:(Str->Option Value)->Heap->Prop} {YP:World->Heap->Prop} {d:DefRec} {x:Str}
  (hn:l.most=some n) (hdf:d.params.defaults=[])
  (hbind:∀ pm cd doc v:Value,bindArgs (docDef d.name d.params d.body d.scope pm cd doc) ⟨[v],[]⟩=pure [(x,v)])
  (hx:d.scope.names.lookup x=some .local\/d.scope.names.lookup x=some .cell)
  (hk:d.scope.kind=.function) (hco:d.scope.isCoroutine=false) (hgen:d.scope.isGenerator=false)
  (body:∀ (w:World) (s₀ s₁ s:Shared) (mg mb:Str->Option Value) (fa:Addr) (o:Obj) (pm cd doc:Value) (a:Addr) (vs:List Value) (ns:List Int),
   Ground q loose [] XP w s₀ mg mb s₁.heap->YP w s₁.heap ->
   s₁.heap.get? fa=some o->o.data=.func (docDef d.name d.params d.body d.scope pm cd doc)->s₁.heap.CodeRec cd d.name->mg d.name=some (.ref fa) ->
   s₁.heap.get? a=some { cls:=.type "list", data:=.seq vs.toArray }->IntsAre vs ns->ns.length<=n ->
   s.gens=#[]->s.os=s₁.os ->
   Fr s₁.heap s₁.heap.objs.size s.heap (bindL (envOfC d.name d.scope s₁.heap.objs.size fa cd).kindOf [(x,.ref a)] fun _=>none) ->
   Cl s₁.heap.objs.size (cellsFrom (s₁.heap.objs.size+1) d.scope.names []) s.heap (bindC (envOfC d.name d.scope s₁.heap.objs.size fa cd).kindOf [(x,.ref a)] fun _=>none) ->
   wpAny (model l.prog w) (callerA.deeper (envOfC d.name d.scope s₁.heap.objs.size fa cd)) (execs d.body (envOfC d.name d.scope s₁.heap.objs.size fa cd))
    (fun f s'=>f=.ret (.bool true)/\OldK s₁.heap s'.heap/\s'.os=s₁.os/\AllBare s'.gens) (fun _ _=>False) s) :
  WalkO q loose XP YP l.row.toRowW d [] (fun f vs=>PySem.call f vs):=by
 intro w s₀ s₁ mg mb G Y fa o pm cd doc dV kV ho hd hcd hD hmg hg args vals as hpre hlay hrd hwl hlo
 obtain rfl:dV=.none:=Dflts.none hD hdf
 obtain rfl:kV=.none:=Dflts.noKw hD
 obtain ⟨a,vs,ns,rfl,rfl,hobj,hints,hlen⟩:=ZgI hn hpre hwl
 refine enter_call ?_
 refine call_cells_ret (o:=o) (by rw [depth_caller];decide) ho (fd_plain hd) G.T.nolimit hcd (hbind pm cd doc (.ref a)) (fun y hy=>?_) (fun h₁ tk F X=>?_) hco hgen hk
 .obtain rfl:y=(x,Value.ref a):=List.mem_singleton.mp hy
  rcases hx with e|e
  .exact .inl e
  .exact .inr ⟨e,cellsFrom_some _ _ _ (.inl e)⟩
 .refine wpAny_mono (body w s₀ s₁ { s₁ with heap:=h₁,toks:=tk } mg mb fa o pm cd doc a vs ns G Y ho (fd_plain hd) hcd hmg hobj hints hlen hg rfl F X) (fun f s' hq=>?_) (fun _ _ hq=>hq)
  obtain ⟨rfl,h2,h3,h4⟩:=hq
  exact ⟨.inl ⟨.bool true,.bool true,[],rfl,fun _=>rfl,.bool true,ZgJ l _,fun _=>⟨List.Pairwise.nil,fun _ hm=>(nomatch hm)⟩⟩,h2,h3,h4⟩
theorem ZhJ {l:OpenLaw} {n:Nat} {q:Program} {loose:List Str} {XP:(Str->Option Value)->Heap->Prop} {YP:World->Heap->Prop} {d:DefRec}
  (hn:l.most=some n) (hdf:d.params.defaults=[])
  (call:∀ (w:World) (s₀ s₁:Shared) (mg mb:Str->Option Value) (fa:Addr) (o:Obj) (pm cd doc:Value) (a:Addr) (vs:List Value) (ns:List Int),
   Ground q loose [] XP w s₀ mg mb s₁.heap->YP w s₁.heap ->
   s₁.heap.get? fa=some o->o.data=.func (docDef d.name d.params d.body d.scope pm cd doc)->s₁.heap.CodeRec cd d.name->mg d.name=some (.ref fa) ->
   s₁.heap.get? a=some { cls:=.type "list", data:=.seq vs.toArray }->IntsAre vs ns->ns.length<=n->s₁.gens=#[] ->
   codeAny (model l.prog w) callerA (.call (.ref fa) ⟨[.ref a],[]⟩) (fun r s'=>r=.ok (.ret (.bool true))/\OldK s₁.heap s'.heap/\s'.os=s₁.os/\AllBare s'.gens) s₁) :
  WalkO q loose XP YP l.row.toRowW d [] (fun f vs=>PySem.call f vs):=by
 intro w s₀ s₁ mg mb G Y fa o pm cd doc dV kV ho hd hcd hD hmg hg args vals as hpre hlay hrd hwl hlo
 obtain rfl:dV=.none:=Dflts.none hD hdf
 obtain rfl:kV=.none:=Dflts.noKw hD
 obtain ⟨a,vs,ns,rfl,rfl,hobj,hints,hlen⟩:=ZgI hn hpre hwl
 refine enter_call (codeAny_mono (call w s₀ s₁ mg mb fa o pm cd doc a vs ns G Y ho (fd_plain hd) hcd hmg hobj hints hlen hg) fun r s' hq=>?_)
 obtain ⟨rfl,h2,h3,h4⟩:=hq
 exact ⟨.inl ⟨.bool true,.bool true,[],rfl,fun _=>rfl,.bool true,ZgJ l _,fun _=>⟨List.Pairwise.nil,fun _ hm=>(nomatch hm)⟩⟩,h2,h3,h4⟩
section
variable {prog:Program} {w:World} {A:Around} {E:Value->Shared->Prop} {s:Shared} {K:Frag}
end
end Att
namespace L2
open PySem PySem.Spec PyProof.Rows
theorem ZgK:∀ {vs:List Value} {ns:List Int},IntsAre vs ns->Vals (ns.map V.int) vs
 | _,_,.nil=>.nil
 | _,_,.cons n t h=>.cons ⟨t,rfl⟩ (ZgK h)
def Only (H:Hp):Prop:=∀ b,H b=none\/∃ o xs,H b=some (.frz o (.lst xs))
theorem Zmg {P:Program} {w:World} {K:PySem.W.Frag} {mg mb:Str->Option Value} {CX:CXT} {k:Nat} {fa a:Addr} {fd:FuncData} {x:Str} {sp:Sp} {s₁:Shared} {vs:List Value} {ns:List Int}
  (KX:K.In s₁.heap) (hns:s₁.heap.Ns mainGlobals mg) (hb:s₁.heap.Ns builtinsNs mb) (hbb:∀ x:Str,x ≠ "__name__" -> mb x=bootBuiltins x) (hlim:s₁.heap.NoLimit) (hg:s₁.gens=#[])
  (ha:s₁.heap.get? a=some { cls:=.type "list", data:=.seq vs.toArray }) (hi:IntsAre vs ns) (hl:ns.length<=sizeLine) (hr:Room k callerA)
  (F:∀ base:Heap,K.In base->base.Ns mainGlobals mg->FnOk P w K mg base CX k fa fd [x] sp) (hbind:∀ (s:Shared) (u:Value),BindsTo s fd ⟨[u],[]⟩ [(x,u)])
  (hsp:∀ H:Hp,Only H->SqL K H a (ns.map V.int)->sp [.ref a] H (fun v _=>v=.bl true) fun _ _ _=>False)
  (hCX:∀ H e s',CX [] H s₁ (fun _ _ _=>False) e s'->False) :
  codeAny (model P w) callerA (.call (.ref fa) ⟨[.ref a],[]⟩) (fun r s'=>r=.ok (.ret (.bool true))/\OldK s₁.heap s'.heap/\s'.os=s₁.os/\AllBare s'.gens) s₁:=by
 have rv:=ZgK hi
 have lenV:=hi.length
 have core:∀ H:Hp,Only H->SqL K H a (ns.map V.int)->HOk P w H s₁.heap->(∀ b,H b≠none->b=a)->(H a≠none->K.lookup a=none) ->
   codeAny (model P w) callerA (.call (.ref fa) ⟨[.ref a],[]⟩) (fun r s'=>r=.ok (.ret (.bool true))/\OldK s₁.heap s'.heap/\s'.os=s₁.os/\AllBare s'.gens) s₁:=by
  intro H hO hS hok hA hK
  have base_of:∀ {b:Addr} {o:Obj},s₁.heap.get? b=some o->H b=none->(hidT s₁.heap H).get? b=some o:=fun e n=>Zl1 e n
  have noA:∀ {b:Addr} {o:Obj} {es:Array DictEntry} {ep:Nat},s₁.heap.get? b=some o->o.data=.dict es ep->H b=none:=fun {b o es ep} e d=>by
   cases q:H b with
   | none=>rfl
   | some u =>
    have e':b=a:=hA b (by rw [q];simp)
    subst e'
    rw [ha] at e;cases e
    have d':Data.seq vs.toArray _=Data.dict es ep:=d
    cases d'
  have nsK:∀ {b:Addr} {m:Str->Option Value},s₁.heap.Ns b m->(hidT s₁.heap H).Ns b m:=fun {b m} ⟨o,es,ep,e,d,r⟩=>⟨o,es,ep,base_of e (noA e d),d,r⟩
  have hKb:K.In (hidT s₁.heap H):=fun b o e=>base_of (KX b o e) (by
   cases q:H b with
   | none=>rfl
   | some u =>
    have e':b=a:=hA b (by rw [q];simp)
    subst e'
    rw [hK (by rw [q];simp)] at e;cases e)
  have hM:Mod K mg (hidT s₁.heap H):=⟨hKb,nsK hns,⟨mb,nsK hb,hbb⟩,let ⟨mc,h1,h2⟩:=hlim;⟨mc,nsK h1,h2⟩⟩
  have e0:Env0 P w K mg (hidT s₁.heap H) callerA [] s₁ H:=⟨rfl,hM,fun b o e=>ZnH e,Nat.le_of_eq (ZjW _ _),trivial,fun b hb=>absurd (show b∈([]:List Addr) from hb) (by simp),hok,.of_eq hg⟩
  refine codeAny_mono ((F _ hKb (nsK hns)).run callerA [] s₁ H ⟨[.ref a],[]⟩ [.ref a] [.ref a] _ _ hr e0 (hbind s₁ (.ref a)) (.cons rfl .nil) (hsp H hO hS)) fun r s' h=>?_
  cases r with
  | error e=>exact (hCX H e s' h).elim
  | ok fl =>
   cases fl with
   | next=>exact False.elim h
   | brk=>exact False.elim h
   | cont=>exact False.elim h
   | ret u =>
    obtain ⟨v,H',os,bare,un,hok',r',q⟩:=h
    have q':v=.bl true:=q
    subst q'
    obtain rfl:u=Value.bool true:=r'
    refine ⟨rfl,OldK.of_keep fun b o e=>?_,os,bare⟩
    cases q:H b with
    | none=>exact un.keep b o e q (by intro z;exact absurd (show b∈([]:List Addr) from z) (by simp)) (by simp)
    | some u =>
     rcases hO b with z|⟨ob,xs,z⟩
     .rw [q] at z;cases z
     .have z2:=un.frzs b ob _ z
      obtain ⟨e1,_⟩:=hok b _ z
      obtain ⟨e2,_⟩:=hok' b _ z2
      rw [e] at e1;cases e1
      exact e2
 cases hk:K.lookup a with
 | some o =>
  have e:=KX a o hk
  rw [ha] at e
  cases e
  refine core (fun _=>none) (fun _=>.inl rfl) (.inr ⟨_,vs.toArray,_,hk,rfl,rfl,rfl,by rw [List.size_toArray,lenV];exact hl,by simpa using rv⟩) (fun b u z=>by have z':(none:Option HO)=some u:=z;cases z') (fun b z=>absurd rfl z) fun z=>absurd rfl z
 | none =>
  refine core (fun b=>if b=a then some (.frz { cls:=.type "list", data:=.seq vs.toArray } (.lst (ns.map V.int))) else none) (fun b=>?_) (.inl (.inr ⟨{ cls:=.type "list", data:=.seq vs.toArray },if_pos rfl⟩)) (fun b u z=>?_) (fun b z=>?_) fun _=>hk
  .by_cases hb:b=a
   .exact .inr ⟨_,_,if_pos hb⟩
   .exact .inl (if_neg hb)
  .by_cases hb:b=a
   .have z':=(if_pos hb).symm.trans z
    cases z'
    subst hb
    exact ⟨ha,by rw [List.length_map];exact hl,vs,_,rv,ha⟩
   .have z':=(if_neg hb).symm.trans z
    cases z'
  .by_cases hb:b=a
   .exact hb
   .exact absurd (if_neg hb) z
noncomputable abbrev KOf {K:PySem.W.Frag} {h:Heap} (_:K.In h):PySem.W.Frag:=K
theorem ZnZ {l:PySem.W.OpenLaw} {n k:Nat} {q:Program} {loose:List Str} {XP:(Str->Option Value)->Heap->Prop} {YP:World->Heap->Prop} {d:DefRec} {K:Params->PySem.W.Frag} {CX:World->CXT} {sp:World->Sp} {x:Str}
  (hn:l.most=some n) (hn2:n<=sizeLine) (hdf:d.params.defaults=[]) (hr:Room k callerA)
  (hY:∀ (w:World) (h:Heap),YP w h->(K w.params).In h)
  (F:∀ (w:World) (mg:Str->Option Value) (fa:Addr) (h:Heap),(K w.params).In h->h.Ns mainGlobals mg->mg d.name=some (.ref fa) ->
   ∃ fd:FuncData,(∀ (s:Shared) (u:Value),BindsTo s fd ⟨[u],[]⟩ [(x,u)]) /\
    ∀ base:Heap,(K w.params).In base->base.Ns mainGlobals mg->FnOk l.prog w (K w.params) mg base (CX w) k fa fd [x] (sp w))
  (hsp:∀ (w:World) (H:Hp) (a:Addr) (ns:List Int),ns.length<=n->Only H->SqL (K w.params) H a (ns.map V.int)->sp w [.ref a] H (fun v _=>v=.bl true) fun _ _ _=>False)
  (hCX:∀ (w:World) (H:Hp) (s:Shared) (e:Value) (s':Shared),CX w [] H s (fun _ _ _=>False) e s'->False) :
  PySem.W.WalkO q loose XP YP l.row.toRowW d [] (fun f vs=>PySem.call f vs):=by
 refine Att.ZhJ hn hdf fun w s₀ s₁ mg mb fa o pm cd doc a vs ns G Y ho hd hcd hmg hobj hints hlen hg=>?_
 have KX:=hY w _ Y
 obtain ⟨fd,hb,hF⟩:=F w mg fa _ KX G.T.g hmg
 exact Zmg KX G.T.g G.T.b G.T.builtins G.T.nolimit hg hobj hints (Nat.le_trans hlen hn2) hr hF hb (fun H hO hS=>hsp w H a ns hlen hO hS) fun H e s'=>hCX w H s₁ e s'
theorem Zmh {l:PySem.W.OpenLaw} {n k:Nat} {q:Program} {loose:List Str} {XP:(Str->Option Value)->Heap->Prop} {YP:World->Heap->Prop} {d:DefRec} {K:Params->PySem.W.Frag} {CX:CXT} {sp:PySem.W.Frag->Sp} {x:Str}
  (hn:l.most=some n) (hn2:n<=sizeLine) (hdf:d.params.defaults=[]) (hr:Room k callerA)
  (hY:∀ (w:World) (h:Heap),YP w h->(K w.params).In h)
  (F:∀ (w:World) (mg:Str->Option Value) (fa:Addr) (h:Heap),(K w.params).In h->h.Ns mainGlobals mg->mg d.name=some (.ref fa) ->
   ∃ fd:FuncData,(∀ (s:Shared) (u:Value),BindsTo s fd ⟨[u],[]⟩ [(x,u)]) /\
    ∀ base:Heap,(K w.params).In base->base.Ns mainGlobals mg->FnOk l.prog w (K w.params) mg base CX k fa fd [x] (sp (K w.params)))
  (hsp:∀ (K:PySem.W.Frag) (H:Hp) (a:Addr) (ns:List Int),ns.length<=n->Only H->SqL K H a (ns.map V.int)->sp K [.ref a] H (fun v _=>v=.bl true) fun _ _ _=>False)
  (hCX:∀ (H:Hp) (s:Shared) (e:Value) (s':Shared),CX [] H s (fun _ _ _=>False) e s'->False) :
  PySem.W.WalkO q loose XP YP l.row.toRowW d [] (fun f vs=>PySem.call f vs) :=
 ZnZ (K:=K) (CX:=fun _=>CX) (sp:=fun w=>sp (K w.params)) hn hn2 hdf hr hY F (fun w H a ns h1 h2 h3=>hsp (K w.params) H a ns h1 h2 h3) fun _ H s e s'=>hCX H s e s'
noncomputable def ZaH (s:Stmt) (j:Nat):Stmt:=match s with
 | .ClassDef _ _ _ body _ _ _ _ _ _ _=>body.getD j (.Pass ⟨0,0,0,0⟩)
 | _=>.Pass ⟨0,0,0,0⟩
noncomputable def Zbd (s:Stmt):Arguments:=match s with
 | .FunctionDef _ a _ _ _ _ _ _ _ _=>a
 | _=>{ posonlyargs:=[],args:=[],vararg:=none,kwonlyargs:=[],kw_defaults:=[],kwarg:=none,defaults:=[] }
noncomputable def ZaZ (s:Stmt):List Stmt:=match s with
 | .FunctionDef _ _ b _ _ _ _ _ _ _=>b
 | _=>[]
noncomputable def Zaf (s:Stmt):Scope:=match s with
 | .FunctionDef _ _ _ _ _ _ sc _ _ _=>sc
 | _=>{ kind:=.function,names:=[],isGenerator:=false,isCoroutine:=false }
abbrev CX0:CXT:=fun _ _ _ _ _ _=>False
noncomputable abbrev E0:XK:=fun _ _ _=>False
theorem pass0 {X:Cx}:Zew CX0 X E0:=fun _ _ _ _ _ _ _ h=>h.elim
structure Fun (K:PySem.W.Frag) (x qual:Str) (st:Stmt) (f:Addr) (fd:FuncData):Prop where
 ex:∃ (oc:Value) (od:Option Addr) (kV doc pm:Value) (an:Option Addr) (cdv ct:Value) (osl:Array (Option Value)),
  fd=PySem.W.fnOf x qual (Zbd st) (ZaZ st) (Zaf st) .none kV doc pm an cdv ct/\K.lookup f=some ⟨oc,od,.func fd,osl⟩/\PySem.W.codeIn K cdv qual=true
 kp:PySem.W.keepIn K (.ref f)=true
section
variable {P:Program} {w:World} {K:PySem.W.Frag} {mg:Str->Option Value} {base:Heap}
theorem Fun.ok {x qual:Str} {st:Stmt} {f:Addr} {fd:FuncData} {N ps:List Str} {k:Nat} {sp:Sp} (F:Fun K x qual st f fd) (S:FnScope N ps (Zaf st)) (len:∀ vs H Q E,sp vs H Q E->vs.length=ps.length)
  (hbody:∀ (cdv:Value) (A:Around) (outer:List Env) (s:Shared) (H:Hp) (vs:List V) (Q:VK) (E:XK),Room k (A.deeper (envOfC qual (Zaf st) s.heap.objs.size f cdv))->sp vs H Q E ->
   ∃ t,PSs (cxOf CX0 P w K mg base N qual (Zaf st) f cdv A outer s H E).nox (ZaZ st) t/\t { nx:=fun _ H'=>Q .non H',rt:=Q } (start N vs) H):FnOk P w K mg base CX0 (k+1) f fd ps sp:=by
 obtain ⟨oc,od,kV,doc,pm,an,cdv,ct,osl,rfl,lk,hcd⟩:=F.ex
 refine fn_of lk hcd S len fun A outer s H vs Q E hr hsp=>?_
 obtain ⟨t,h,q⟩:=hbody cdv A outer s H vs Q E hr hsp
 exact ⟨t,h.nox,q⟩
theorem Fun.binds {x qual:Str} {st:Stmt} {f:Addr} {fd:FuncData} {ps:List Str} (F:Fun K x qual st f fd)
  (h:∀ (kV doc pm:Value) (an:Option Addr) (cdv ct:Value) (us:List Value),us.length=ps.length->bindArgs (PySem.W.fnOf x qual (Zbd st) (ZaZ st) (Zaf st) .none kV doc pm an cdv ct) ⟨us,[]⟩=pure (ps.zip us)):Binds K fd ps []:=by
 obtain ⟨oc,od,kV,doc,pm,an,cdv,ct,osl,rfl,lk,hcd⟩:=F.ex
 exact .all (h kV doc pm an cdv ct)
theorem Znr {x qual:Str} {st:Stmt} {f:Addr} {oc:Value} {od an:Option Addr} {osl:Array (Option Value)} {kV doc pm cdv ct:Value} (l:K.lookup f=some ⟨oc,od,.func (PySem.W.fnOf x qual (Zbd st) (ZaZ st) (Zaf st) .none kV doc pm an cdv ct),osl⟩)
  (c:PySem.W.codeIn K cdv qual=true) (k:PySem.W.keepIn K (.ref f)=true):Fun K x qual st f (PySem.W.fnOf x qual (Zbd st) (ZaZ st) (Zaf st) .none kV doc pm an cdv ct):=⟨⟨oc,od,kV,doc,pm,an,cdv,ct,osl,rfl,l,c⟩,k⟩
end
theorem ZhK {A:Around} {k:Nat} (hr:Room k A):A.units+1<cLine:=Nat.lt_of_le_of_lt (Nat.add_le_add_left (by decide:1<=64) _) hr.units
section
variable {X:Cx}
theorem pv (i:Nat) {x:Str} {pos:Pos} (hN:X.N[i]?=some x:=by rfl) (hv:Vis X.env.scope x:=by first|exact Or.inl rfl|exact Or.inr (Or.inl rfl)|exact Or.inr (Or.inr rfl)) (hd:(x==("__debug__" : Str))=false:=by decide)
  (hcd:(x==("__classdict__" : Str))=false:=by decide):PE X (.Name x pos) (tVar i):=pe_var hN hv hd hcd
end
theorem iteF {A B:Prop} (h:B):if false=true then A else B:=by
 rw [if_neg Bool.false_ne_true]
 exact h
theorem iteT {A B:Prop} (h:A):if true=true then A else B:=by
 rw [if_pos rfl]
 exact h
def Same (H H':Hp):Prop:=∀ b o,H b=some o->H' b=some o
theorem Same.refl (H:Hp):Same H H:=fun _ _ h=>h
theorem Same.trans {H H1 H2:Hp} (a:Same H H1) (b:Same H1 H2):Same H H2:=fun c o h=>b c o (a c o h)
theorem Same.free {H H':Hp} (e:Same H H') {l:Addr} (h:H' l=Option.none):H l=Option.none:=by
 cases q:H l with
 | none=>rfl
 | some o =>
  rw [e l o q] at h
  cases h
theorem Same.seq {K:PySem.W.Frag} {H H':Hp} {a:Addr} {xs:List V} (e:Same H H') (h:SqL K H a xs):SqL K H' a xs:=by
 rcases h with (h|⟨o,h⟩)|h
 .exact .inl (.inl (e _ _ h))
 .exact .inl (.inr ⟨o,e _ _ h⟩)
 .exact .inr h
section
variable {κ:Type} [DecidableEq κ]
theorem ZiQ {kvs:List (κ×V)} {k:κ} (h:valV kvs k=none):¬ k∈kvs.map (·.1):=by
 intro m
 obtain ⟨p,hp,e⟩:=List.mem_map.mp m
 have q:(kvs.any fun kv=>decide (kv.1=k))=true:=List.any_eq_true.mpr ⟨p,hp,decide_eq_true e⟩
 rw [Zb1,h] at q
 exact absurd q (by simp)
theorem Zkr:∀ {l:List κ} {k:κ},l.Nodup->¬ k∈l->(l++[k]).Nodup
 | [],k,_,_=>by simp
 | a::r,k,h,hk=>by
  obtain ⟨h1,h2⟩:=List.nodup_cons.mp h
  show (a::(r++[k])).Nodup
  refine List.nodup_cons.mpr ⟨fun m=>?_,Zkr h2 fun m=>hk (List.mem_cons.mpr (Or.inr m))⟩
  rcases List.mem_append.mp m with q|q
  .exact h1 q
  .exact hk (List.mem_cons.mpr (Or.inl (List.mem_singleton.mp q).symm))
theorem Zn0 {kvs:List (κ×V)} {k:κ} (v:V) (hn:(kvs.map (·.1)).Nodup) (h:valV kvs k=none):((putK kvs k v).map (·.1)).Nodup:=by
 rw [Zmd v h,List.map_append]
 exact Zkr hn (ZiQ h)
theorem ZgL {p:κ×V} {r:List (κ×V)} {k:κ} (e:p.1=k):dropK (p::r) k=dropK r k:=by
 unfold dropK
 rw [List.filter_cons,if_neg (by simp [e])]
theorem ZgM {p:κ×V} {r:List (κ×V)} {k:κ} (e:¬ p.1=k):dropK (p::r) k=p::dropK r k:=by
 unfold dropK
 rw [List.filter_cons,if_pos (by simp [e])]
theorem ZgN {kvs:List (κ×V)} {k:κ} {p:κ×V} (h:p∈dropK kvs k):p∈kvs:=(List.mem_filter.mp h).1
theorem ZfK:∀ {kvs:List (κ×V)} {k:κ},(kvs.map (·.1)).Nodup->((dropK kvs k).map (·.1)).Nodup
 | [],_,_=>List.nodup_nil
 | p::r,k,h=>by
  have h:(p.1::r.map (·.1)).Nodup:=h
  obtain ⟨h1,h2⟩:=List.nodup_cons.mp h
  by_cases e:p.1=k
  .rw [ZgL e]
   exact ZfK h2
  .rw [ZgM e]
   show (p.1::(dropK r k).map (·.1)).Nodup
   refine List.nodup_cons.mpr ⟨fun m=>h1 ?_,ZfK h2⟩
   obtain ⟨q,hq,eq⟩:=List.mem_map.mp m
   exact List.mem_map.mpr ⟨q,ZgN hq,eq⟩
end
noncomputable def hid (own:List Str) (x:Str):Str:=if own.contains x=true then "" else x
structure CompScope (sc:Scope) (N own:List Str) (scope:Scope):Prop where
 kind:scope.kind=.function
 nocell:∀ y∈scope.names,y.2≠.cell
 names:∀ y∈scope.names,y.2=.local->scope.names.lookup y.1=some .local
 free:∀ y∈scope.names,y.2=.free->sc.names.lookup y.1=some .cell\/sc.names.lookup y.1=some .free
 dis:∀ x∈N,scope.names.lookup x=some .local->own.contains x=true
 no:scope.names.lookup ("" : Str)=none
noncomputable def cxComp (X:Cx) (own:List Str) (scope:Scope) (cl:List (Str×Addr)) (C:Addr) (s:Shared) (H:Hp) (ex:List Addr):Cx :=
 { X with N:=own++X.N.map (hid own),s₀:=s,H₀:=H,env:=compEnvC scope cl C X.env,outer:=X.stack,stack:=X.stack,ex:=ex,fn:=fun _=>false,pn:=[],xe:=fun _ _=>False }
theorem Zbk {κ:Type} [BEq κ] [LawfulBEq κ] {β:Type}:∀ {l:List (κ×β)} {x:κ} {v:β},l.lookup x=some v->(x,v)∈l
 | [],_,_,h=>by simp at h
 | (y,u)::r,x,v,h=>by
  rw [List.lookup_cons] at h
  cases e:x==y with
  | true =>
   rw [e] at h
   cases h
   rw [eq_of_beq e]
   exact List.mem_cons_self
  | false =>
   rw [e] at h
   exact List.mem_cons_of_mem _ (Zbk h)
theorem Zjt {scope:Scope} {env:Env} (h:∀ y∈scope.names,y.2=.free->∃ c,env.cells.lookup y.1=some c) :
  ∃ cl,closureFor scope env=pure cl/\(∀ x c,cl.lookup x=some c->env.cells.lookup x=some c)/\∀ y∈scope.names,y.2=.free->∃ c,cl.lookup y.1=some c:=by
 have gen:∀ (names:List (Str×NameKind)) (acc:List (Str×Addr)),(∀ y∈names,y.2=.free->∃ c,env.cells.lookup y.1=some c)->(∀ x c,acc.lookup x=some c->env.cells.lookup x=some c) ->
   ∃ cl,(forIn names acc fun (x:Str×NameKind) (r:List (Str×Addr))=>if (x.2==NameKind.free)=true then (do let a <- cellOf env x.1;pure (ForInStep.yield ((x.1,a)::r))) else pure (ForInStep.yield r):Sem (List (Str×Addr)))=pure cl/\(∀ x c,cl.lookup x=some c->env.cells.lookup x=some c) /\
    (∀ y∈names,y.2=.free->∃ c,cl.lookup y.1=some c)/\∀ x c,acc.lookup x=some c->∃ c',cl.lookup x=some c':=by
  intro names
  induction names with
  | nil=>intro acc _ ha;exact ⟨acc,by simp [List.forIn_nil],ha,fun y hy=>by simp at hy,fun x c e=>⟨c,e⟩⟩
  | cons y r ih =>
   intro acc hn ha
   rw [List.forIn_cons]
   by_cases hf:y.2=.free
   .obtain ⟨c,hc⟩:=hn y List.mem_cons_self hf
    have e1:(y.2==NameKind.free)=true:=by rw [hf];rfl
    have ce:cellOf env y.1=pure c:=by unfold cellOf;rw [hc]
    obtain ⟨cl,h1,h2,h3,h4⟩:=ih ((y.1,c)::acc) (fun z hz=>hn z (List.mem_cons_of_mem _ hz)) (fun x c' e=>by
     rw [List.lookup_cons] at e
     cases q:x==y.1 with
     | true=>rw [q] at e;cases e;rw [eq_of_beq q];exact hc
     | false=>rw [q] at e;exact ha x c' e)
    refine ⟨cl,?_,h2,?_,?_⟩
    .rw [if_pos e1,ce]
     simpa using h1
    .intro z hz zf
     rcases List.mem_cons.mp hz with rfl|hz
     .exact h4 z.1 c (by rw [List.lookup_cons];simp)
     .exact h3 z hz zf
    .intro x c' e
     cases q:x==y.1 with
     | true=>exact h4 x c (by rw [List.lookup_cons,q])
     | false=>exact h4 x c' (by rw [List.lookup_cons,q];exact e)
   .have e1:¬ (y.2==NameKind.free)=true:=by intro z;exact hf (by simpa using z)
    obtain ⟨cl,h1,h2,h3,h4⟩:=ih acc (fun z hz=>hn z (List.mem_cons_of_mem _ hz)) ha
    refine ⟨cl,?_,h2,?_,h4⟩
    .rw [if_neg e1]
     simpa using h1
    .intro z hz zf
     rcases List.mem_cons.mp hz with rfl|hz
     .exact absurd zf hf
     .exact h3 z hz zf
 obtain ⟨cl,h1,h2,h3,_⟩:=gen scope.names [] h (fun x c e=>by simp at e)
 refine ⟨cl,?_,h2,h3⟩
 unfold closureFor
 simpa using h1
theorem Zb2 {scope:Scope} {env:Env}:∀ {names:List (Str×NameKind)} {x:Str},(∀ y∈names,y.2≠.cell) ->
  (names.map fun (n,k)=>if (k==NameKind.free&&env.scope.kind==.function&&env.kindOf n==some .cell)=true then (n,NameKind.cell) else (n,k)).lookup x=some .local->names.lookup x=some .local
 | [],_,_,h=>by simp at h
 | (n,k)::r,x,hc,h=>by
  rw [List.map_cons,List.lookup_cons] at h
  rw [List.lookup_cons]
  by_cases q:(k==NameKind.free&&env.scope.kind==.function&&env.kindOf n==some .cell)=true
  .simp only [q,if_true] at h
   cases e:x==n with
   | true=>rw [e] at h;cases h
   | false=>rw [e] at h;exact Zb2 (scope:=scope) (env:=env) (fun y hy=>hc y (List.mem_cons_of_mem _ hy)) h
  .simp only [q] at h
   cases e:x==n with
   | true=>simpa [e] using h
   | false =>
    have h':(r.map fun (n,k)=>if (k==NameKind.free&&env.scope.kind==.function&&env.kindOf n==some .cell)=true then (n,NameKind.cell) else (n,k)).lookup x=some .local:=by simpa [e] using h
    exact Zb2 (scope:=scope) (env:=env) (fun y hy=>hc y (List.mem_cons_of_mem _ hy)) h'
theorem Zb3 {scope:Scope} {env:Env}:∀ {names:List (Str×NameKind)} {x:Str},(∀ y∈names,y.2≠.cell) ->
  ((names.map fun (n,k)=>if (k==NameKind.free&&env.scope.kind==.function&&env.kindOf n==some .cell)=true then (n,NameKind.cell) else (n,k)).lookup x=some .cell \/
   (names.map fun (n,k)=>if (k==NameKind.free&&env.scope.kind==.function&&env.kindOf n==some .cell)=true then (n,NameKind.cell) else (n,k)).lookup x=some .free)->(x,NameKind.free)∈names
 | [],_,_,h=>by simp at h
 | (n,k)::r,x,hc,h=>by
  rw [List.map_cons,List.lookup_cons] at h
  by_cases q:(k==NameKind.free&&env.scope.kind==.function&&env.kindOf n==some .cell)=true
  .have kf:k=.free:=by
    simp only [Bool.and_eq_true,beq_iff_eq] at q
    exact q.1.1
   simp only [q,if_true] at h
   cases e:x==n with
   | true=>rw [eq_of_beq e,kf];exact List.mem_cons_self
   | false =>
    rw [e] at h
    exact List.mem_cons_of_mem _ (Zb3 (scope:=scope) (env:=env) (fun y hy=>hc y (List.mem_cons_of_mem _ hy)) h)
  .simp only [q] at h
   cases e:x==n with
   | true =>
    have h':k=.cell\/k=.free:=by simpa [e] using h
    rcases h' with z|z
    .exact absurd z (hc (n,k) List.mem_cons_self)
    .rw [eq_of_beq e,z];exact List.mem_cons_self
   | false =>
    have h':((r.map fun (n,k)=>if (k==NameKind.free&&env.scope.kind==.function&&env.kindOf n==some .cell)=true then (n,NameKind.cell) else (n,k)).lookup x=some .cell \/
   (r.map fun (n,k)=>if (k==NameKind.free&&env.scope.kind==.function&&env.kindOf n==some .cell)=true then (n,NameKind.cell) else (n,k)).lookup x=some .free):=by simpa [e] using h
    exact List.mem_cons_of_mem _ (Zb3 (scope:=scope) (env:=env) (fun y hy=>hc y (List.mem_cons_of_mem _ hy)) h')
theorem Zci {env:Env}:∀ {names:List (Str×NameKind)} {x:Str},names.lookup x=none ->
  (names.map fun (n,k)=>if (k==NameKind.free&&env.scope.kind==.function&&env.kindOf n==some .cell)=true then (n,NameKind.cell) else (n,k)).lookup x=none
 | [],_,_=>rfl
 | (n,k)::r,x,h=>by
  rw [List.lookup_cons] at h
  rw [List.map_cons,List.lookup_cons]
  cases e:x==n with
  | true=>rw [e] at h;cases h
  | false =>
   rw [e] at h
   by_cases q:(k==NameKind.free&&env.scope.kind==.function&&env.kindOf n==some .cell)=true
   .simp only [q,if_true,e]
    exact Zci h
   .simp only [q,e]
    simpa [e] using Zci (env:=env) h
theorem Inv.block {X:Cx} {pins:List (Addr×Obj)} {σ:St} {H:Hp} {s:Shared} {own:List Str} {scope:Scope} {cl:List (Str×Addr)} {fp:List Addr} {h':Heap}
  (I:Inv X pins σ H s) (S:CompScope X.env.scope X.N own scope)
  (c1:∀ x c,cl.lookup x=some c->X.env.cells.lookup x=some c) (c2:∀ y∈scope.names,y.2=.free->∃ c,cl.lookup y.1=some c)
  (f:∀ b∈fp,FpOk X pins H b) (fo:∀ b∈fp,b<s.heap.objs.size)
  (ns:h'.Ns s.heap.objs.size (fun _=>none)) (k:∀ b o,s.heap.get? b=some o->h'.get? b=some o) {t':Nat} :
  Inv (cxComp X own scope cl s.heap.objs.size s H fp) [] (List.replicate own.length none++σ) H { s with heap:=h',toks:=t' }:=by
 have kd:∀ x,(compEnvC scope cl s.heap.objs.size X.env).kindOf x=some .cell\/(compEnvC scope cl s.heap.objs.size X.env).kindOf x=some .free->(x,NameKind.free)∈scope.names:=fun x h=>Zb3 (scope:=scope) (env:=X.env) S.nocell h
 have okY:(cxComp X own scope cl s.heap.objs.size s H fp).Ok:=by
  refine ⟨I.ok.mod,S.kind,I.ok.glob,I.ok.blt,Nat.le_refl _,fun x y c hx hy=>I.ok.inj x y c (c1 x c hx) (c1 y c hy),fun x hx=>?_,fun x c hf=>(nomatch hf),I.ok.hd,I.ok.frames,.inl rfl,fun b hb=>⟨?_,fun x c hc=>?_⟩,I.bs,Nat.le_trans I.ok.bsz I.sz,fun b o e hb=>?_,fun b hb hfs=>?_,I.stack,I.stkFree⟩
  .exact c2 (x,.free) (kd x hx) rfl
  .exact Nat.ne_of_lt (fo b hb)
  .exact (f b hb).2.2.2.2.1 x c (c1 x c hc)
  .rcases (f b hb).2.2.2.1 with z|z
   .exact I.ok.noex b o e z
   .exact absurd (Nat.lt_of_lt_of_le (Heap.lt_size e) (Nat.le_trans I.ok.bsz z)) (Nat.lt_irrefl _)
  .obtain ⟨_,f1,f2,_⟩:=f b hb
   rcases List.mem_cons.mp (I.stkSub b hfs) with z|z
   .exact f1 z
   .exact f2 z
 refine ⟨okY,rfl,I.bare,Un.kept k,⟨_,ns,fun i x v e1 e2 e3=>?_⟩,fun x c hc=>?_,I.hok.fresh (Nat.le_refl _),fun x c hc=>I.freeC x c (c1 x c hc),fun p hp=>by simp [cxComp] at hp,I.hok.kept k,?_⟩
 .by_cases hi:i<own.length
  .have e2':(List.replicate own.length (none:Option V)++σ)[i]?=some (some v):=e2
   rw [List.getElem?_append_left (by simpa using hi),List.getElem?_replicate,if_pos hi] at e2'
   cases e2'
  .have hle:own.length<=i:=Nat.le_of_not_lt hi
   have e2':σ[i-own.length]?=some (some v):=by
    have e2':(List.replicate own.length (none:Option V)++σ)[i]?=some (some v):=e2
    rw [List.getElem?_append_right (by simpa using hle)] at e2'
    simpa using e2'
   have e1'':(X.N.map (hid own))[i-own.length]?=some x:=by
    have e1':(own++X.N.map (hid own))[i]?=some x:=e1
    rwa [List.getElem?_append_right hle] at e1'
   rw [List.getElem?_map] at e1''
   obtain ⟨y,e1',ey⟩:=Option.map_eq_some_iff.mp e1''
   have hy:own.contains y=false:=by
    cases hc:own.contains y with
    | false=>rfl
    | true =>
     unfold hid at ey
     rw [if_pos hc] at ey
     subst ey
     have e3':(scope.names.map fun (n,k)=>if (k==NameKind.free&&X.env.scope.kind==.function&&X.env.kindOf n==some .cell)=true then (n,NameKind.cell) else (n,k)).lookup ("" : Str)≠none:=by
      rcases e3 with z|z|z<;>(intro q;have z':(scope.names.map fun (n,k)=>if (k==NameKind.free&&X.env.scope.kind==.function&&X.env.kindOf n==some .cell)=true then (n,NameKind.cell) else (n,k)).lookup ("" : Str)=_:=z;rw [q] at z';cases z')
     exact absurd (Zci S.no) e3'
   have exy:y=x:=by
    unfold hid at ey
    rw [if_neg (by rw [hy];exact Bool.false_ne_true)] at ey
    exact ey
   subst exy
   have hm:y∈X.N:=List.mem_of_getElem? e1'
   have h3:(compEnvC scope cl s.heap.objs.size X.env).kindOf y=some .cell\/(compEnvC scope cl s.heap.objs.size X.env).kindOf y=some .free:=by
    rcases e3 with z|z
    .have:=S.dis y hm (Zb2 (scope:=scope) (env:=X.env) S.nocell z)
     rw [hy] at this
     cases this
    .exact z
   have hfree:=kd y h3
   obtain ⟨c,hc⟩:=c2 (y,.free) hfree rfl
   have hout:=S.free (y,.free) hfree rfl
   obtain ⟨m,hn,hl⟩:=I.loc
   obtain ⟨u,r,l⟩:=hl _ y v e1' e2' (hout.elim (fun z=>.inr (.inl z)) (fun z=>.inr (.inr z)))
   refine ⟨u,r,.inr ⟨h3,c,hc,?_⟩⟩
   rcases l with ⟨kl,_⟩|⟨_,c',hc',hcell⟩
   .rcases hout with z|z
    .rw [show X.env.kindOf y=X.env.scope.names.lookup y from rfl,z] at kl;cases kl
    .rw [show X.env.kindOf y=X.env.scope.names.lookup y from rfl,z] at kl;cases kl
   .rw [c1 y c hc] at hc'
    cases hc'
    obtain ⟨o,ho,hd⟩:=hcell
    exact ⟨o,k c o ho,hd⟩
 .obtain ⟨v,o,ho,hd⟩:=I.cell x c (c1 x c hc)
  exact ⟨v,o,k c o ho,hd⟩
 .show (List.replicate own.length (none:Option V)++σ).length=(own++X.N.map (hid own)).length
  rw [List.length_append,List.length_append,List.length_replicate,List.length_map,I.len]
def PIf (X:Cx) (ifs:List Expr) (tc:TT):Prop :=
 ∀ (pins:List (Addr×Obj)) (s:Shared) (σ:St) (H:Hp) (Q:Bool->Hp->Prop),Inv X pins σ H s->tc σ H Q ->
  wpAny (model X.prog X.w) X.A (forIn ifs true fun c r=>if r=true then do let ok <- isTrue c X.env (eval c X.env);pure (ForInStep.yield ok) else pure (ForInStep.yield r)) (TP X pins σ Q) X.xe s
def tNoIf:TT:=fun _ H Q=>Q true H
theorem ZfL {X:Cx}:PIf X [] tNoIf:=by
 intro pins s σ H Q I h
 rw [List.forIn_nil]
 exact wpAny_pure ⟨H,I,h⟩
def tLoopC (k:Nat) (g:TG) (tc:TT) (te:TE) (J:It) (p:Addr) (R:Hp->Prop) (σ:St) (H:Hp):Prop :=
 ∃ W:Nat->Nat->St->Hp->Prop,(∃ m,W 0 m (List.replicate k none++σ) (upd H p (.lst [])))/\∀ i m σ' H',W i m σ' H' ->
  (J.stop i H'/\R H')\/(J.go i H'/\∃ N:St->Hp->Prop,(∀ σ2 H2,N σ2 H2->∃ m',m'<m/\W (i+1) m' σ2 H2)/\∀ x H1,J.yld i H' x H1->g x σ' H1 fun σ2 H2=>tc σ2 H2 fun b H3 =>
   if b=true then te σ2 H3 fun v H4=>∃ ys,H4 p=some (.lst ys)/\ys.length<sizeLine/\N σ2 (upd H4 p (.lst (ys++[v]))) else N σ2 H3)
def tComp (k:Nat) (wi:TI) (g:TG) (tc:TT) (te:TE):TE:=fun σ H Q=>wi σ H fun J H1=>∀ p,H1 p=none->tLoopC k g tc te J p (fun H'=>Q (.ref p) H') σ H1
theorem ZgO {X:Cx} {tg elt iter:Expr} {ifs:List Expr} {scope:Scope} {pos:Pos} {own:List Str} {wi:TI} {g:TG} {tc:TT} {te:TE} {pins:List (Addr×Obj)} {σ:St} {H:Hp} {s:Shared} {use:Option (Value->Sem Unit)} {Q:Value->Shared->Prop} {R:Addr->Hp->Prop}
  (hc:X.calm=true) (S:CompScope X.env.scope X.N own scope) (hi:PI X tg iter wi)
  (hg:∀ cl C s₀ H₀ ex,PG (cxComp X own scope cl C s₀ H₀ ex) tg g) (ht:∀ cl C s₀ H₀ ex,PIf (cxComp X own scope cl C s₀ H₀ ex) ifs tc) (he:∀ cl C s₀ H₀ ex,PE (cxComp X own scope cl C s₀ H₀ ex) elt te)
  (hs:∀ x,foldedSetIterable iter X.env x=pure x)
  (I:Inv X pins σ H s) (h:wi σ H fun J H1=>∀ p,H1 p=none->tLoopC own.length g tc te J p (R p) σ H1)
  (fin:∀ (p:Addr) (H':Hp) (s':Shared) (C:Addr) (m:Str->Option Value),Inv X pins σ H' s'->FpOk X pins H' C->s'.heap.Ns C m->R p H'->compPost (model X.prog X.w) X.A X.xe use Q (.ref p) C (.ok .next) s') :
  wpAny (model X.prog X.w) X.A (comprehension (.ListComp elt [⟨tg,iter,ifs,0⟩] scope pos) scope X.env (firstIterPos [⟨tg,iter,ifs,0⟩] pos) (newList []) false (eval iter X.env) use) Q X.xe s:=by
 obtain ⟨cl,hcl,c1,c2⟩:=Zjt (scope:=scope) (env:=X.env) fun y hy hf=>I.ok.has y.1 (S.free y hy hf)
 refine wpAny_comprehension_free (use:=use) rfl hs hcl S.kind S.names (thn (hi pins s σ H _ I h) fun xv s1 h1=>thn h1 fun itv s2 h2=>?_)
 obtain ⟨it,fp,tn,J,H2,e,I2,T,st2,f2,q2⟩:=h2
 subst e
 refine wpAny_newObj_type ?_
 have hp:H2 s2.heap.objs.size=none:=I2.hok.fresh (Nat.le_refl _)
 obtain ⟨W,⟨m0,w0⟩,turn⟩:=q2 _ hp
 generalize hP:s2.heap.objs.size=P at hp W w0 turn |-
 have kP:∀ b u,s2.heap.get? b=some u->(s2.heap.push { cls:=.type "list", dict:=none,data:=.seq ([]:List Value).toArray }).get? b=some u:=fun b u e=>Heap.get?_push_of_some _ e
 have I3:Inv X pins σ (upd H2 P (.lst [])) { s2 with heap:=s2.heap.push { cls:=.type "list", dict:=none,data:=.seq ([]:List Value).toArray },toks:=s2.toks } :=
  I2.laid (a:=P) (o:=.lst []) (t':=s2.toks) kP (by rw [hP];exact Nat.le_refl _) ⟨Nat.zero_le _,[],0,.nil,by rw [<- hP];exact Heap.get?_push_size _ rfl⟩
 have fP:∀ b∈fp,b≠P:=fun b hb z=>by
  obtain ⟨o,ho,_⟩:=T.obj _ _ st2 b hb
  have q:=Heap.lt_size ho
  rw [hP,z] at q
  exact Nat.lt_irrefl _ q
 have f3:∀ b∈fp,FpOk X pins (upd H2 P (.lst [])) b:=fun b hb=>⟨by rw [Zaj (fP b hb)];exact (f2 b hb).1,(f2 b hb).2⟩
 have st3:tn 0 (s2.heap.push { cls:=.type "list", dict:=none,data:=.seq ([]:List Value).toArray }):=T.keep _ _ _ st2 fun b _ o e=>kP b o e
 generalize hS3:({ s2 with heap:=s2.heap.push { cls:=.type "list", dict:=none,data:=.seq ([]:List Value).toArray },toks:=s2.toks }:Shared)=s3 at I3
 have st3':tn 0 s3.heap:=by rw [<- hS3];exact st3
 have fo:∀ b∈fp,b<s3.heap.objs.size:=fun b hb=>by
  obtain ⟨o,ho,_⟩:=T.obj _ _ st3' b hb
  exact Heap.lt_size ho
 refine wpAny_newFunctionEnv S.nocell (by intro y hy;simp at hy) (fun h4 hns hsb=>?_) S.kind
 try dsimp only at hns hsb |-
 have k4:∀ b o,s3.heap.get? b=some o->h4.get? b=some o:=fun b o e=>hsb.extBut b o (Nat.ne_of_lt (Heap.lt_size e)) (Heap.get?_push_of_some _ e)
 have I4:=Inv.block (own:=own) (h':=h4) (t':=s3.toks+([]:List (Str×Value)).length) I3 S c1 c2 f3 fo (by simpa using hns) k4
 have fpY:∀ {H':Hp},(∀ b∈fp,H' b=none)->∀ b∈fp,FpOk (cxComp X own scope cl s3.heap.objs.size s3 (upd H2 P (.lst [])) fp) [] H' b:=fun hn b hb=>by
  refine ⟨hn b hb,Nat.ne_of_lt (fo b hb),?_,.inl hb,fun x c hx=>(f3 b hb).2.2.2.2.1 x c (c1 x c hx),fun p hp=>by simp [cxComp] at hp⟩
  intro hfs
  rcases List.mem_cons.mp (I3.stkSub b hfs) with z|z
  .exact (f3 b hb).2.1 z
  .exact (f3 b hb).2.2.1 z
 have loop:codeAny (model X.prog X.w) X.A (.compLoop (.ListComp elt [⟨tg,iter,ifs,0⟩] scope pos) 0 (.ref it) (.ref P) (compEnvC scope cl s3.heap.objs.size X.env)) (compPost (model X.prog X.w) X.A X.xe use Q (.ref P) s3.heap.objs.size) { s3 with heap:=h4,toks:=s3.toks+([]:List (Str×Value)).length }:=by
  refine codeAny_loop rfl (fun n s'=>∃ i σ' H',Inv (cxComp X own scope cl s3.heap.objs.size s3 (upd H2 P (.lst [])) fp) [] σ' H' s'/\tn i s'.heap/\(∀ b∈fp,H' b=none)/\W i n σ' H') ?_ m0 ⟨0,_,_,I4,T.keep _ _ _ st3' fun b _ o e=>k4 b o e,fun b hb=>(f3 b hb).1,w0⟩
  rintro n s5 ⟨i,σ5,H5,I5,st5,fr5,w5⟩
  show wpAny _ _ ((compTurn (.ListComp elt [⟨tg,iter,ifs,0⟩] scope pos) 0 (.ref it) (.ref P) (compEnvC scope cl s3.heap.objs.size X.env)).onRaise (fun x=>do noteFrame x (compEnvC scope cl s3.heap.objs.size X.env);theTreesLotGoes x)) _ _ s5
  refine wpAny_noted ?_
  rw [compTurn_list]
  have nE:∀ {α:Type} {t:Sem α} {QQ:α->Shared->Prop} {E':Value->Shared->Prop} {ss:Shared},wpAny (model X.prog X.w) X.A t QQ (fun _ _=>False) ss->wpAny (model X.prog X.w) X.A t QQ E' ss:=fun h=>wpAny_mono h (fun _ _ q=>q) fun _ _ z=>z.elim
  refine wpAny_bind (wpAny_standAt (wpAny_bind ?_))
  rcases turn i n σ5 H5 w5 with ⟨stop,qn⟩|⟨go,N,hN,step⟩
  .refine thn (T.done (cxComp X own scope cl s3.heap.objs.size s3 (upd H2 P (.lst [])) fp) rfl rfl rfl hc i [] s5 σ5 H5 _ I5 (fpY fr5) st5 stop) fun r s6 ⟨hr,I6⟩=>?_
   subst hr
   refine wpAny_pure ?_
   have back:∀ h',Heap.SameBut s3.heap.objs.size s6.heap h'->Inv X pins σ H5 { s6 with heap:=h' }:=fun h' sb=>by
    have nC:∀ b o,s3.heap.get? b=some o->b≠s3.heap.objs.size:=fun b o e=>Nat.ne_of_lt (Heap.lt_size e)
    have nH:∀ b u,H5 b=some u->b≠s3.heap.objs.size:=fun b u e z=>by
     have:H5 s3.heap.objs.size=none:=I6.free
     rw [z,this] at e;cases e
    refine I3.call' (s':={ s6 with heap:=h' }) (ch:=fp) I6.os ⟨fun b o e n hb hx=>?_,fun b o e n hb hx=>?_,I6.base.free,fun b o e hx=>?_,I6.base.tups,I6.base.frzs,I6.base.tbls⟩ ?_ I6.bare fun b hb=>?_
    .exact (sb.2 b (nC b o e)).trans (I6.base.keep b o e n hb hx)
    .obtain ⟨sl,z⟩:=I6.base.slot b o e n hb hx
     exact ⟨sl,(sb.2 b (nC b o e)).trans z⟩
    .obtain ⟨o',z⟩:=I6.base.there b o e hx
     exact ⟨o',(sb.2 b (nC b o e)).trans z⟩
    .intro b u e
     refine (I6.hok b u e).stay (fun c v hc q=>(sb.2 c ?_).trans q) (fun _ q=>q) fun _ _ q=>q
     rcases hc with z|z
     .rw [z];exact nH b u e
     .exact nH c _ z
    .obtain ⟨_,g1,g2,g3,g4,g5⟩:=f3 b hb
     exact ⟨g3,g1,g4,g5⟩
   obtain ⟨m,hn,_⟩:=I6.loc
   exact fin P H5 s6 s3.heap.objs.size m (back s6.heap (.refl ..)) (I3.fpOk (Nat.le_refl _) I6.free) hn qn
  .refine thn (T.item (cxComp X own scope cl s3.heap.objs.size s3 (upd H2 P (.lst [])) fp) rfl rfl rfl hc i [] s5 σ5 H5 _ I5 (fpY fr5) st5 go) fun r s6 ⟨u,hr,h6⟩=>?_
   subst hr
   refine wpAny_bind (thn h6 fun _ s7 ⟨x,H7,I7,r7,y7,st7,fr7⟩=>?_)
   have I7':=I7.pinned (fpY fr7) (T.obj _ _ st7)
   refine wpAny_bind (nE (thn (hg cl s3.heap.objs.size s3 (upd H2 P (.lst [])) fp _ s7 σ5 H7 x u _ I7' r7 (step x H7 y7)) fun _ s8 ⟨σ8,H8,I8,q8⟩=>?_))
   have again:∀ {s9:Shared} {H9:Hp},Inv (cxComp X own scope cl s3.heap.objs.size s3 (upd H2 P (.lst [])) fp) ([]++pinsAt fp s7.heap) σ8 H9 s9->N σ8 H9->∃ m,m<n/\∃ i σ' H',Inv (cxComp X own scope cl s3.heap.objs.size s3 (upd H2 P (.lst [])) fp) [] σ' H' s9/\tn i s9.heap/\(∀ b∈fp,H' b=none)/\W i m σ' H':=fun {s9 H9} I9 n9=>by
    obtain ⟨m',hm,w9⟩:=hN σ8 H9 n9
    refine ⟨m',hm,i+1,σ8,H9,I9.unpinned,T.keep _ _ _ st7 fun b hb o e=>(I9.pin (b,o) (List.mem_append_right _ (List.mem_append_right _ (ZcB hb e)))).1,fun b hb=>?_,w9⟩
    obtain ⟨o,e,d⟩:=T.obj _ _ st7 b hb
    exact (I9.pin (b,o) (List.mem_append_right _ (List.mem_append_right _ (ZcB hb e)))).2.1
   refine wpAny_bind (nE (thn (ht cl s3.heap.objs.size s3 (upd H2 P (.lst [])) fp _ s8 σ8 H8 _ I8 q8) fun ok s9 ⟨H9,I9,q9⟩=>?_))
   cases ok with
   | false =>
    rw [if_neg (by decide)] at q9
    exact wpAny_pure ⟨rfl,again I9 q9⟩
   | true =>
    rw [if_pos rfl] at q9
    refine wpAny_bind (wpAny_bind (nE (thn (he cl s3.heap.objs.size s3 (upd H2 P (.lst [])) fp _ s9 σ8 H9 _ I9 q9) fun y s10 ⟨v,H10,I10,r10,ys,e10,l10,q10⟩=>?_)))
    refine wpAny_bind (nE (thn (ZbF (X:=cxComp X own scope cl s3.heap.objs.size s3 (upd H2 P (.lst [])) fp) _ s10 σ8 H10 (.ref P) [v] (.ref P) [y] (fun _ H'=>N σ8 H') I10 rfl (.cons r10 .nil) ⟨P,ys,v,rfl,rfl,e10,l10,q10⟩) fun _ s11 ⟨_,H11,I11,_,q11⟩=>?_))
    exact wpAny_pure (wpAny_pure ⟨rfl,again I11 q11⟩)
 have lself:=T.self X.A 0 ({ s3 with heap:=h4,toks:=s3.toks+([]:List (Str×Value)).length }:Shared) (fun it' s'=>codeAny (model X.prog X.w) X.A (.compLoop (.ListComp elt [⟨tg,iter,ifs,0⟩] scope pos) 0 it' (.ref P) (compEnvC scope cl s3.heap.objs.size X.env)) (compPost (model X.prog X.w) X.A X.xe use Q (.ref P) s3.heap.objs.size) s')
  (notedBy (model X.prog X.w) X.A (compEnvC scope cl s3.heap.objs.size X.env) fun x s'=>compPost (model X.prog X.w) X.A X.xe use Q (.ref P) s3.heap.objs.size (.error x) s') (T.keep _ _ _ st3' fun b _ o e=>k4 b o e) loop
 exact codeAny_compStart_list loop lself
theorem Zks {X:Cx} {tg elt iter:Expr} {ifs:List Expr} {scope:Scope} {pos:Pos} (own:List Str) {wi:TI} {g:TG} {tc:TT} {te:TE}
  (hc:X.calm=true) (S:CompScope X.env.scope X.N own scope) (hi:PI X tg iter wi)
  (hg:∀ cl C s₀ H₀ ex,PG (cxComp X own scope cl C s₀ H₀ ex) tg g) (ht:∀ cl C s₀ H₀ ex,PIf (cxComp X own scope cl C s₀ H₀ ex) ifs tc) (he:∀ cl C s₀ H₀ ex,PE (cxComp X own scope cl C s₀ H₀ ex) elt te)
  (hs:∀ x,foldedSetIterable iter X.env x=pure x:=by intro _;rfl) :
  PE X (.ListComp elt [⟨tg,iter,ifs,0⟩] scope pos) (tComp own.length wi g tc te):=by
 intro pins s σ H Q I h
 rw [eval_ListComp]
 refine ZgO (use:=none) (R:=fun p H'=>Q (.ref p) H') hc S hi hg ht he hs I h fun p H' s' C m I' f hn q=>?_
 obtain ⟨f0,f1,f2,f3,f4,f5⟩:=f
 exact ⟨m,hn,fun h' sb=>⟨.ref p,H',I'.turned (t':=s'.toks) (fun b o hb e=>(sb.2 b hb).trans e) f0 f1 f3 f4 f5,rfl,q⟩⟩
theorem Zkt {X:Cx} {tg elt iter:Expr} {ifs:List Expr} {scope:Scope} {pos:Pos} (own:List Str) {wi:TI} {g:TG} {tc:TT} {te:TE} {i:Nat} {x:Str} {pos' spos:Pos}
  (hN:X.N.Nodup) (hx0:X.N[i]?=some x) (hx:X.env.scope.names.lookup x=some .local) (hc:X.calm=true) (S:CompScope X.env.scope X.N own scope) (hi:PI X tg iter wi)
  (hg:∀ cl C s₀ H₀ ex,PG (cxComp X own scope cl C s₀ H₀ ex) tg g) (ht:∀ cl C s₀ H₀ ex,PIf (cxComp X own scope cl C s₀ H₀ ex) ifs tc) (he:∀ cl C s₀ H₀ ex,PE (cxComp X own scope cl C s₀ H₀ ex) elt te)
  (hsw:swapsWith (.ListComp elt [⟨tg,iter,ifs,0⟩] scope pos) (some (.Name x pos')) spos.line X.env=pure true:=by rfl)
  (hs:∀ x,foldedSetIterable iter X.env x=pure x:=by intro _;rfl) :
  PS X (.Assign [.Name x pos'] (.ListComp elt [⟨tg,iter,ifs,0⟩] scope pos) spos) (tAsg (tComp own.length wi g tc te) (gName i)):=by
 intro pins s σ H D I h
 rw [exec_Assign_Name_used _ _ _ _ hsw]
 refine wpAny_bind (wpAny_standAt (wpAny_bind ?_))
 show wpAny _ X.A (do let _ <- comprehension (.ListComp elt [⟨tg,iter,ifs,0⟩] scope pos) scope X.env _ (newList []) false (eval iter X.env) (some (assign (.Name x pos') X.env))) _ _ s
 refine wpAny_bind (thn (ZgO (use:=some (assign (.Name x pos') X.env)) (Q:=fun _ s'=>SP X pins D .next s') (R:=fun p H'=>D.nx (σ.set i (some (.ref p))) H') hc S hi hg ht he hs I h fun p H' s' C m I' f hn q=>?_) fun _ s' hq=>wpAny_pure (wpAny_pure hq))
 obtain ⟨f0,f1,f2,f3,f4,f5⟩:=f
 show wpAny _ X.A (assign (.Name x pos') X.env (.ref p)) _ _ s'
 refine wpAny_assign_Name (Zgu I' hN hx0 (.inl hx) (v:=.ref p) rfl (fun s2 I2 ⟨a,sb,ha⟩=>?_) (.inr hx))
 have hCa:C≠a:=by
  rcases ha with z|z
  .rw [z];exact f1
  .exact fun e=>f4 x a z e.symm
 exact ⟨m,hn.sameBut sb hCa,fun h' sb'=>⟨_,H',I2.turned (t':=s2.toks) (fun b o hb e=>(sb'.2 b hb).trans e) f0 f1 f3 f4 f5,q⟩⟩
def Zaq (K:PySem.W.Frag) (mg:Str->Option Value) (x:Str) (st:Stmt):Prop:=∃ f fd,Fun K x x st f fd/\mg x=some (.ref f)
theorem Zmi {K:PySem.W.Frag} {h:Heap} {mg:Str->Option Value} {x:Str} {st:Stmt} {f:Addr} {oc:Value} {od an:Option Addr} {osl:Array (Option Value)} {kV doc pm cdv ct:Value} (X:K.In h) (G:h.Ns mainGlobals mg)
  (a:PySem.W.nsIn K mainGlobals x=some (some (.ref f))) (l:K.lookup f=some ⟨oc,od,.func (PySem.W.fnOf x x (Zbd st) (ZaZ st) (Zaf st) .none kV doc pm an cdv ct),osl⟩)
  (c:PySem.W.codeIn K cdv x=true) (k:PySem.W.keepIn K (.ref f)=true):Zaq K mg x st :=
 ⟨f,_,Znr l c k,PySem.W.mg_of X G a⟩
def CalF (P:Program) (w:World) (K:PySem.W.Frag) (mg:Str->Option Value) (base:Heap) (k:Nat) (f:Addr) (sp:Sp):Prop :=
 ∃ fd ps,FnOk P w K mg base CX0 k f fd ps sp/\PySem.W.keepIn K (.ref f)=true/\Binds K fd ps []
def Cal (P:Program) (w:World) (K:PySem.W.Frag) (mg:Str->Option Value) (base:Heap) (k:Nat) (x:Str) (sp:Sp):Prop :=
 ∃ f,mg x=some (.ref f)/\CalF P w K mg base k f sp
section
variable {P:Program} {w:World} {K:PySem.W.Frag} {mg:Str->Option Value} {base:Heap}
theorem CalF.mono {j k:Nat} {f:Addr} {sp:Sp} (c:CalF P w K mg base j f sp) (h:j<=k):CalF P w K mg base k f sp :=
 let ⟨fd,ps,F,kp,b⟩:=c
 ⟨fd,ps,F.mono h,kp,b⟩
theorem Cal.mono {j k:Nat} {x:Str} {sp:Sp} (c:Cal P w K mg base j x sp) (h:j<=k):Cal P w K mg base k x sp :=
 let ⟨f,m,c⟩:=c
 ⟨f,m,c.mono h⟩
theorem CalF.imp {k:Nat} {f:Addr} {sp sp':Sp} (c:CalF P w K mg base k f sp) (h:∀ vs H Q E,sp' vs H Q E->sp vs H Q E):CalF P w K mg base k f sp' :=
 let ⟨fd,ps,F,kp,b⟩:=c
 ⟨fd,ps,F.imp h,kp,b⟩
theorem Cal.imp {k:Nat} {x:Str} {sp sp':Sp} (c:Cal P w K mg base k x sp) (h:∀ vs H Q E,sp' vs H Q E->sp vs H Q E):Cal P w K mg base k x sp' :=
 let ⟨f,m,c⟩:=c
 ⟨f,m,c.imp h⟩
theorem ZaA {x:Str} {st:Stmt} {N ps:List Str} {k:Nat} {sp:Sp} (D:Zaq K mg x st) (S:FnScope N ps (Zaf st)) (len:∀ vs H Q E,sp vs H Q E->vs.length=ps.length)
  (hb:∀ (kV doc pm:Value) (an:Option Addr) (cdv ct:Value) (us:List Value),us.length=ps.length->bindArgs (PySem.W.fnOf x x (Zbd st) (ZaZ st) (Zaf st) .none kV doc pm an cdv ct) ⟨us,[]⟩=pure (ps.zip us))
  (hbody:∀ (f:Addr) (cdv:Value) (A:Around) (outer:List Env) (s:Shared) (H:Hp) (vs:List V) (Q:VK) (E:XK),Room k (A.deeper (envOfC x (Zaf st) s.heap.objs.size f cdv))->sp vs H Q E ->
   ∃ t,PSs (cxOf CX0 P w K mg base N x (Zaf st) f cdv A outer s H E).nox (ZaZ st) t/\t { nx:=fun _ H'=>Q .non H',rt:=Q } (start N vs) H):Cal P w K mg base (k+1) x sp:=by
 obtain ⟨f,fd,F,m⟩:=D
 exact ⟨f,m,fd,ps,F.ok S len (hbody f),F.kp,F.binds hb⟩
end
section
variable {X:Cx} {k:Nat} {x:Str} {sp:Sp} {p pos:Pos} {e func:Expr} {es:List Expr} {t:TA} {tf:TE}
theorem ZaB (c:Cal X.prog X.w X.K X.mg X.base k x sp) (hr:Room k X.A) (hg:Gl X x) (ha:PA X (e::es) t) (hdb:(x==("__debug__" : Str))=false:=by decide)
  (he:starEach (e::es) X.env=(false,eval e X.env)::starEach es X.env:=by rfl) (hpl:(backTo pos (starEach es X.env)).any (·.1)=false:=by rfl) :
  PE X (.Call (.Name x p) (e::es) [] pos) (tCall sp [] E0 t):=by
 obtain ⟨f,m,fd,ps,F,kp,b⟩:=c
 exact Zj9 F hr hg m kp b .nil pass0 ha hdb he hpl
def tCallV (P:Program) (w:World) (K:PySem.W.Frag) (mg:Str->Option Value) (base:Heap) (k:Nat) (tf:TE) (t:TA):TE:=fun σ H Q=>tf σ H fun v H1=>∃ f sp,v=.ref f/\CalF P w K mg base k f sp/\t σ H1 fun vs H2=>sp vs H2 Q E0
theorem ZiR (hr:Room k X.A) (hf:PE X func tf) (ha:PA X (e::es) t)
  (hc:eval (.Call func (e::es) [] pos) X.env=(do callWith pos (<- eval func X.env) [] (backTo pos (starEach (e::es) X.env)) (backToKw pos (keywordEach [] X.env))):=by rfl)
  (he:starEach (e::es) X.env=(false,eval e X.env)::starEach es X.env:=by rfl) (hpl:(backTo pos (starEach es X.env)).any (·.1)=false:=by rfl) :
  PE X (.Call func (e::es) [] pos) (tCallV X.prog X.w X.K X.mg X.base k tf t):=by
 intro pins s σ H Q I h
 refine Call_ (thn (hf pins s σ H _ I h) fun u s1 ⟨v,H1,I1,r,f,sp,ev,⟨fd,ps,F,kp,b⟩,q⟩=>?_) hc
 subst ev
 obtain rfl:u=Value.ref f:=r
 refine PySem.W.callWith_K (h₀:=X.base) I.ok.mod.kin kp (thn (ha pos pins s1 σ H1 _ I1 q) fun us s2 ⟨vs,H2,I2,r2,q2⟩=>⟨I2.kIn,?_⟩) he hpl
 exact Zfq (dvs:=[]) (E:=E0) F hr b .nil pass0 I2 r2 (by rw [List.append_nil];exact q2)
end
def CDivW (i j:Int):Prop:=0<j/\j<2 ^ 200
section
variable {X:Cx}
theorem Zju {n:Nat} (h:n<2 ^ 200):n.log2<9000:=by
 by_cases z:n=0
 .subst z;decide
 .have:=(Nat.log2_lt z).mpr h
  omega
theorem Za5:OpR X (binaryOp .FloorDiv) (rI CDivW fun i j=>.int (i / j)):=opI fun i j _ _ _ _ _ hc q=>by
 refine floordiv_int (by have:=hc.1;omega) ?_ (.inl (PyProof.noPylong_of_log2 (Zju ?_)))
 .rw [Int.fdiv_eq_ediv_of_nonneg _ (Int.le_of_lt hc.1)]
  exact q
 .have h1:=hc.1
  have h2:=hc.2
  have e:((j.natAbs:Nat):Int)=j:=Int.natAbs_of_nonneg (Int.le_of_lt h1)
  have:((j.natAbs:Nat):Int)<((2 ^ 200:Nat):Int):=by rw [e];exact h2
  exact Int.ofNat_lt.mp this
end
noncomputable def isiV:V->String->Option Bool
 | .int _, "int" => some true
 | .int _, "bool" => some false
 | .int _, "str" => some false
 | .int _, "tuple" => some false
 | .int _, "list" => some false
 | .bl _, "bool" => some true
 | .bl _, "int" => some true
 | .bl _, "str" => some false
 | .str _, "str" => some true
 | .str _, "int" => some false
 | .str _, "bool" => some false
 | .str _, "tuple" => some false
 | .str _, "list" => some false
 | _,_=>none
section
variable {X:Cx}
theorem Zmj:CallR X (.builtin "isinstance") (fun xs H Q=>∃ x T b,xs=[x,.ty T]/\isiV x T=some b/\Q (.bl b) H):=by
 intro pins s σ H xs us Q I r h
 obtain ⟨x,T,b,rfl,e,q⟩:=h
 obtain ⟨u,v,rfl,ru,rv⟩:=vals2 r
 obtain rfl:v=Value.type T:=rv
 unfold isiV at e
 split at e<;>first
  | (cases e;obtain ⟨t,rfl⟩:=ru;first
    | exact IsiPair.int_int ⟨.bl true,H,I,rfl,q⟩
    | exact IsiPair.int_bool ⟨.bl false,H,I.tok _,rfl,q⟩
    | exact IsiPair.int_str ⟨.bl false,H,I.tok _,rfl,q⟩
    | exact IsiPair.int_tuple ⟨.bl false,H,I.tok _,rfl,q⟩
    | exact IsiPair.int_list ⟨.bl false,H,I.tok _,rfl,q⟩
    | exact IsiPair.str_str ⟨.bl true,H,I,rfl,q⟩
    | exact IsiPair.str_int ⟨.bl false,H,I.tok _,rfl,q⟩
    | exact IsiPair.str_bool ⟨.bl false,H,I.tok _,rfl,q⟩
    | exact IsiPair.str_tuple ⟨.bl false,H,I.tok _,rfl,q⟩
    | exact IsiPair.str_list ⟨.bl false,H,I.tok _,rfl,q⟩)
  | (cases e;cases ru;first
    | exact IsiPair.bool_bool ⟨.bl true,H,I,rfl,q⟩
    | exact IsiPair.bool_int ⟨.bl true,H,I,rfl,q⟩
    | exact IsiPair.bool_str ⟨.bl false,H,I.tok _,rfl,q⟩)
  | cases e
end
def Zdl (P:Program) (w:World) (K:PySem.W.Frag) (a:Addr) (vs:List (Key×Value)):Prop:=∀ h:Heap,K.In h->h.DictOf (ZaY P w) a vs
theorem Zmk {P:Program} {w:World} {K:PySem.W.Frag} {a:Addr} {vs:List (Key×Value)} {es:Array DictEntry} {ep:Nat} (l:K.lookup a=some ⟨.type "dict", none,.dict es ep,#[]⟩)
  (hk:∀ e∈es.toList,∃ k,keyIs k e.key=true/\e.hash=keyH w k) (hp:Pairs (ZaY P w) es.toList vs) (nd:(vs.map (·.1)).Nodup):Zdl P w K a vs:=fun h X =>
 ⟨_,es,ep,X _ _ l,⟨rfl,rfl,rfl⟩,rfl,fun e he=>hk e (Array.mem_toList_iff.mpr he),hp,nd⟩
def tDGetK (P:Program) (w:World) (K:PySem.W.Frag) (td ty:TE):TE:=fun σ H Q=>td σ H fun x H1=>ty σ H1 fun y H2=>∃ a vs k u v,x=.ref a/\y=kV k/\Zdl P w K a vs/\valueAt vs k=some u/\RelV v u/\Q v H2
theorem kV_isM {P:Program} {w:World} {k:Key} {u:Value} (r:RelV (kV k) u):(ZaY P w).is k u=true:=by
 cases k with
 | inl i=>obtain ⟨t,rfl⟩:=r;exact Zgt i t
 | inr x=>obtain ⟨t,rfl⟩:=r;exact Zdf x t
section
variable {X:Cx} {o i:Expr} {td ty:TE} {pos:Pos}
theorem Zml (ho:PE X o td) (hi:PE X i ty) (hs:NoSl i):PE X (.Subscript o i pos) (tDGetK X.prog X.w X.K td ty):=by
 intro pins s σ H Q I h
 refine Zkm PySem.F.slot_dict_getitem.lookup hs (thn (ho pins s σ H _ I h) fun u s1 ⟨x,H1,I1,rx,q1⟩=>thn (hi pins s1 σ H1 _ I1 q1) fun iv s2 ⟨y,H2,I2,ry,a,vs,k,w',v,ex,ey,D,hv,rv,q2⟩=>?_)
 subst ex ey
 obtain rfl:u=Value.ref a:=rx
 have dd:=D s2.heap I2.kIn
 exact ⟨dd.typeIs,wpAny_getItem_of (kV_isM ry) dd.mapOf hv ⟨v,H2,I2.tok _,rv,q2⟩⟩
end
section
variable {σ:St} {H:Hp} {Q:VK} {D:Ends} {i:Nat} {v:V}
theorem rd_C (q:Q v H):tC v σ H Q:=q
theorem rd_V (e:σ[i]?=some (some v)) (q:Q v H):tVar i σ H Q:=⟨v,e,q⟩
theorem rd_op {r:R2} {ta tb:TE} (q:ta σ H fun x H1=>tb σ H1 fun y H2=>r x y H2 Q):tOp r ta tb σ H Q:=q
theorem rd_un {r:V->Hp->VK->Prop} {ta:TE} (q:ta σ H fun x H1=>r x H1 Q):tUn r ta σ H Q:=q
theorem rd_I {C:Int->Int->Prop} {g:Int->Int->V} {a b:Int} (c:C a b) (q:Q (g a b) H):rI C g (.int a) (.int b) H Q:=⟨a,b,rfl,rfl,c,q⟩
theorem rd_I0 {g:Int->Int->V} {a b:Int} (q:Q (g a b) H):rI0 g (.int a) (.int b) H Q:=⟨a,b,rfl,rfl,q⟩
theorem rd_U {g:Int->V} {a:Int} (q:Q (g a) H):rU g (.int a) H Q:=⟨a,rfl,q⟩
theorem rd_eqI {a b:Int} (q:Q (.bl (decide (a=b))) H):rEq (.int a) (.int b) H Q:=by
 refine ⟨rfl,?_⟩
 have e:decide (V.int a=V.int b)=decide (a=b):=decide_eq_decide.mpr ⟨fun h=>V.int.inj h,fun h=>by rw [h]⟩
 rw [e];exact q
theorem rd_neI {a b:Int} (q:Q (.bl (!decide (a=b))) H):rNe (.int a) (.int b) H Q:=by
 refine ⟨rfl,?_⟩
 have e:decide (V.int a=V.int b)=decide (a=b):=decide_eq_decide.mpr ⟨fun h=>V.int.inj h,fun h=>by rw [h]⟩
 rw [e];exact q
theorem rd_eqS {a b:Str} (q:Q (.bl (decide (a=b))) H):rEq (.str a) (.str b) H Q:=by
 refine ⟨rfl,?_⟩
 have e:decide (V.str a=V.str b)=decide (a=b):=decide_eq_decide.mpr ⟨fun h=>V.str.inj h,fun h=>by rw [h]⟩
 rw [e];exact q
theorem rd_neS {a b:Str} (q:Q (.bl (!decide (a=b))) H):rNe (.str a) (.str b) H Q:=by
 refine ⟨rfl,?_⟩
 have e:decide (V.str a=V.str b)=decide (a=b):=decide_eq_decide.mpr ⟨fun h=>V.str.inj h,fun h=>by rw [h]⟩
 rw [e];exact q
theorem Zns {t u:TS} (q:t { D with nx:=u D } σ H):tSeq t u D σ H:=q
theorem Znt {te:TE} {g:TG} (q:te σ H fun x H1=>g x σ H1 D.nx):tAsg te g D σ H:=q
theorem Zku {R:St->Hp->Prop} (q:R (σ.set i (some v)) H):gName i v σ H R:=q
theorem Znu {te:TE} (q:te σ H D.rt):tRet te D σ H:=q
theorem Zn1 (q:D.nx σ H):tNext D σ H:=q
theorem Zkv {te:TE} (q:te σ H fun _ H1=>D.nx σ H1):tDrop te D σ H:=q
theorem rd_ifS {c:TT} {t u:TS} (q:c σ H fun b H1=>if b=true then t D σ H1 else u D σ H1):tIfS c t u D σ H:=q
theorem rd_if {c:TT} {ta tb:TE} (q:c σ H fun b H1=>if b=true then ta σ H1 Q else tb σ H1 Q):tIf c ta tb σ H Q:=q
theorem Zn2 {te:TE} {R:Bool->Hp->Prop} (q:te σ H fun x H'=>∃ k,x=.bl k/\R k H'):tTest te σ H R:=q
theorem rd_B {te:TE} {R:Bool->Hp->Prop} (q:te σ H fun x H'=>∃ k,x=.bl k/\R k H'):tB te σ H R:=q
theorem rd_bl {b:Bool} {R:Bool->Prop} (q:R b):∃ k,V.bl b=.bl k/\R k:=⟨b,rfl,q⟩
theorem rd_and {t u:TT} {R:Bool->Hp->Prop} (q:t σ H fun c H1=>if c=true then u σ H1 R else R false H1):tAnd t u σ H R:=q
theorem rd_or {t u:TT} {R:Bool->Hp->Prop} (q:t σ H fun c H1=>if c=true then R true H1 else u σ H1 R):tOr t u σ H R:=q
theorem rd_not {t:TT} {R:Bool->Hp->Prop} (q:t σ H fun c H1=>R (!c) H1):tNot t σ H R:=q
theorem Zn3 {ta tb:TE} (q:ta σ H fun x H1=>∃ c,x=.bl c/\if c=true then tb σ H1 Q else Q (.bl false) H1):tAndV ta tb σ H Q:=q
theorem rd_orV {ta tb:TE} (q:ta σ H fun x H1=>∃ c,x=.bl c/\if c=true then Q (.bl true) H1 else tb σ H1 Q):tOrV ta tb σ H Q:=q
theorem Zn4 {ta:TE} (q:ta σ H fun x H1=>∃ c,x=.bl c/\Q (.bl (!c)) H1):tNotV ta σ H Q:=q
theorem Zn5 {ta:TE} {tr:TA} {R:List V->Hp->Prop} (q:ta σ H fun x H1=>tr σ H1 fun xs H2=>R (x::xs) H2):tCons ta tr σ H R:=q
theorem rd_nil {R:List V->Hp->Prop} (q:R [] H):tNil σ H R:=q
theorem Zn6 {sp:Sp} {t:TA} (q:t σ H fun vs H1=>sp vs H1 Q E0):tCall sp [] E0 t σ H Q:=by
 unfold tCall
 have e:(fun (vs:List V) H1=>sp (vs++[]) H1 Q E0)=fun vs H1=>sp vs H1 Q E0:=by funext vs H1;rw [List.append_nil]
 rw [e]
 exact q
theorem rd_CB {r:List V->Hp->VK->Prop} {t:TA} (q:t σ H fun vs H1=>r vs H1 Q):tCB r t σ H Q:=q
theorem Zmm {r r':R2} {ta tb tc:TE} (q:ta σ H fun x H1=>tb σ H1 fun y H2=>r x y H2 fun z H3=>∃ k,z=.bl k/\if k=true then tc σ H3 fun u H4=>r' y u H4 Q else Q (.bl false) H3):tChain r r' ta tb tc σ H Q:=q
theorem rd_tup {t:TA} (q:t σ H fun xs H1=>xs.length<=sizeLine/\∀ p,H1 p=none->Q (.ref p) (upd H1 p (.tup xs))):tTup t σ H Q:=q
theorem rd_lst {t:TA} (q:t σ H fun xs H1=>xs.length<=sizeLine/\∀ p,H1 p=none->Q (.ref p) (upd H1 p (.lst xs))):tLst t σ H Q:=q
theorem Zdy {c A B:Prop} [Decidable c] (h1:c->A) (h2:¬ c->B):if decide c=true then A else B:=by
 by_cases h:c
 .rw [if_pos (decide_eq_true h)];exact h1 h
 .rw [if_neg (by rw [decide_eq_false h];exact Bool.false_ne_true)];exact h2 h
theorem ZcC {c A B:Prop} [Decidable c] (h1:¬ c->A) (h2:c->B):if (!decide c)=true then A else B:=by
 by_cases h:c
 .rw [decide_eq_true h];exact iteF (h2 h)
 .rw [decide_eq_false h];exact iteT (h1 h)
theorem ZbA {u:V} (e:u=v) (q:Q v H):Q u H:=by rw [e];exact q
end
def Za0 (mg:Str->Option Value) (x:Str) (v:V):Prop:=∃ u,mg x=some u/\RelV v u
section
variable {X:Cx} {x:Str} {v:V} {T:String} {pos:Pos}
theorem ZbB (hg:Gl X x) (h:Za0 X.mg x v) (hd:(x==("__debug__" : Str))=false:=by decide):PE X (.Name x pos) (tC v) :=
 let ⟨_,m,r⟩:=h
 ZnJ hg m r hd
theorem ZgP (hg:Gl X x) (hm:X.mg x=none) (hv:bootBuiltins x=some (.type T)) (hn:x ≠ "__name__" := by decide) (hd:(x==("__debug__" : Str))=false:=by decide):PE X (.Name x pos) (tC (.ty T)) :=
 ZnK hg hm hv rfl hn hd
end
noncomputable def sEnt (w:World) (p:Str×Tok×Value):DictEntry:=⟨PyData.keyHash w.params p.1,.str p.1 p.2.1,p.2.2⟩
noncomputable def entsOf (es:Array DictEntry):List (Str×Tok×Value):=es.toList.filterMap fun e=>match e.key with|.str x t=>some (x,t,e.val)|_=>none
theorem Zfv {P:Program} {w:World}:∀ l:List (Str×Tok×Value),Pairs (ZaY P w) (l.map (sEnt w)) (l.map fun p=>((Sum.inr p.1:Key),p.2.2))
 | []=>.nil
 | p::r=>.cons (Zdf p.1 p.2.1) rfl (Zfv r)
theorem ZgQ:∀ {l:List Str},l.Nodup->(l.map fun x=>(Sum.inr x:Key)).Nodup
 | [],_=>List.nodup_nil
 | x::r,h=>by
  have h1:=List.nodup_cons.mp h
  rw [List.map_cons,List.nodup_cons]
  refine ⟨fun hm=>?_,ZgQ h1.2⟩
  obtain ⟨y,hy,e⟩:=List.mem_map.mp hm
  cases e
  exact h1.1 hy
theorem ZeB {P:Program} {w:World} {K:PySem.W.Frag} {a:Addr} {es:Array DictEntry} {ep:Nat} (l:K.lookup a=some ⟨.type "dict", none,.dict es ep,#[]⟩) (he:es=((entsOf es).map (sEnt w)).toArray)
  (nd:((entsOf es).map (·.1)).Nodup):Zdl P w K a ((entsOf es).map fun p=>((Sum.inr p.1:Key),p.2.2)):=by
 have e:es.toList=(entsOf es).map (sEnt w):=by rw [he];simp [<- he]
 refine Zmk l (fun e' he'=>?_) (by rw [e];exact Zfv _) ?_
 .rw [e] at he'
  obtain ⟨p,_,rfl⟩:=List.mem_map.mp he'
  exact ⟨.inr p.1,Zdf p.1 p.2.1,rfl⟩
 .rw [List.map_map]
  have:((fun x:Key×Value=>x.1) ∘ fun p:Str×Tok×Value=>((Sum.inr p.1:Key),p.2.2))=(fun x=>(Sum.inr x:Key)) ∘ (fun p:Str×Tok×Value=>p.1):=rfl
  rw [this,<- List.map_map]
  exact ZgQ nd
theorem Same.tup {K:PySem.W.Frag} {H H':Hp} {a:Addr} {xs:List V} (e:Same H H') (h:SqT K H a xs):SqT K H' a xs:=by
 rcases h with (h|⟨o,h⟩)|h
 .exact .inl (.inl (e _ _ h))
 .exact .inl (.inr ⟨o,e _ _ h⟩)
 .exact .inr h
theorem Same.new {H:Hp} {p:Addr} {o:HO} (n:H p=none):Same H (upd H p o):=fun b u e=>by rw [Zaj (Zam e n)];exact e
theorem Same.newT {H H':Hp} {p:Addr} {o:HO} (s:Same H H') (n:H' p=none):Same H (upd H' p o):=s.trans (Same.new n)
theorem Zkw {K:PySem.W.Frag} {H:Hp} {p:Addr} {xs:List V}:SqT K (upd H p (.tup xs)) p xs:=.inl (.inl Zag)
theorem Zaw {K:PySem.W.Frag} {H:Hp} {p:Addr} {xs:List V} (h:H p=some (.lst xs)):SqL K H p xs:=.inl (.inl h)
theorem Zar {K:PySem.W.Frag} {H:Hp} {p:Addr} {xs:List V} (h:H p=some (.tup xs)):SqT K H p xs:=.inl (.inl h)
theorem ZcD {α:Type} {xs:List α} {i:Nat} {j:Int} {v:α} (h:xs[i]?=some v) (e:j=(i:Int)):atI xs j=some v:=by rw [e];exact Zch h
theorem Zkx {ns:List V} {n:Nat}:cutV ns none (some (n:Int))=ns.take n:=by
 have e:HT.sIx ns.length ns.length (some (n:Int))=min n ns.length:=by
  unfold HT.sIx
  simp only []
  split<;>omega
 have e0:HT.sIx ns.length 0 none=0:=rfl
 unfold cutV
 rw [e,e0,List.drop_zero,Nat.sub_zero,List.take_eq_take_iff]
 omega
section
variable {σ:St} {H:Hp} {Q:VK} {K:PySem.W.Frag} {p a b:Addr} {xs ys:List V} {v:V}
theorem ZaC {i:Int} (h:SqL K H p xs) (e:atI xs i=some v) (q:Q v H):rIxL K (.ref p) (.int i) H Q:=⟨p,xs,i,v,rfl,rfl,h,e,q⟩
theorem Zcc {i:Int} (h:SqT K H p xs) (e:atI xs i=some v) (q:Q v H):rIxT K (.ref p) (.int i) H Q:=⟨p,xs,i,v,rfl,rfl,h,e,q⟩
theorem Znv {lo hi:Option Int} (h:SqL K H a xs) (q:∀ p,H p=none->Q (.ref p) (upd H p (.lst (cutV xs lo hi)))):rSlL K (.ref a) lo hi H Q:=⟨a,xs,rfl,h,q⟩
theorem rd_sl {r:V->Option Int->Option Int->Hp->VK->Prop} {te:TE} {tl th:TO} (q:te σ H fun x H1=>tl σ H1 fun l H2=>th σ H2 fun u H3=>r x l u H3 Q):tSl r te tl th σ H Q:=q
theorem Zky {R:Option Int->Hp->Prop} (q:R none H):Zkd σ H R:=q
theorem Zn7 {R:Option Int->Hp->Prop} {t:TE} (q:t σ H fun x H1=>∃ i,x=.int i/\R (some i) H1):tPart t σ H R:=q
theorem rd_ei {R:Int->Prop} {i:Int} (q:R i):∃ j,V.int i=.int j/\R j:=⟨i,rfl,q⟩
theorem Zfw (h1:H a=some (.lst xs)) (h2:H b=some (.lst ys)) (hz:xs.length+ys.length<=sizeLine) (q:∀ p,H p=none->Q (.ref p) (upd H p (.lst (xs++ys)))):rCat (.ref a) (.ref b) H Q:=⟨a,b,xs,ys,rfl,rfl,h1,h2,hz,q⟩
end
theorem iteNT {A B:Prop} (h:B):if (!true)=true then A else B:=iteF h
section
variable {σ:St} {H:Hp} {Q:VK} {D:Ends}
theorem ZfM {k:Nat} {wi:TI} {g:TG} {tc:TT} {te:TE} (q:wi σ H fun J H1=>∀ p,H1 p=none->tLoopC k g tc te J p (fun H'=>Q (.ref p) H') σ H1):tComp k wi g tc te σ H Q:=q
theorem ZfN {K:PySem.W.Frag} {tl:TE} {R:It->Hp->Prop} (q:tl σ H fun x H1=>∃ a,x=.ref a/\(∃ xs,SqL K H1 a xs)/\R (Itl K a) H1):iList K tl σ H R:=q
theorem Zdm {ta:TA} {R:It->Hp->Prop} (q:ta σ H fun vs H1=>∃ j:Int,vs=[.int j]/\-(2 ^ 62)<=j/\j<2 ^ 62/\R (Itr 0 j.toNat) H1):iRng1 ta σ H R:=q
theorem ZiS {wi:TI} {g:TG} {tb:TS} (q:wi σ H fun J H1=>∃ W:Nat->Nat->St->Hp->Prop,(∃ m,W 0 m σ H1)/\∀ i m σ H,W i m σ H ->
 (J.stop i H/\D.nx σ H)\/(J.go i H/\∃ N:St->Hp->Prop,(∀ σ' H',N σ' H'->∃ m',m'<m/\W (i+1) m' σ' H')/\∀ x H',J.yld i H x H'->g x σ H' fun σ2 H2=>tb { D with nx:=N,ct:=N,bk:=D.nx } σ2 H2)):tFor wi g tb D σ H:=q
end
section
variable {CX:CXT} {P:Program} {w:World} {K:PySem.W.Frag} {mg:Str->Option Value} {base:Heap} {N:List Str} {q:Str} {sc:Scope} {f:Addr} {cd:Value} {A:Around} {outer:List Env} {s:Shared} {H:Hp} {E:XK}
theorem nox_K:(cxOf CX P w K mg base N q sc f cd A outer s H E).nox.K=K:=rfl
theorem nox_P:(cxOf CX P w K mg base N q sc f cd A outer s H E).nox.prog=P:=rfl
theorem nox_w:(cxOf CX P w K mg base N q sc f cd A outer s H E).nox.w=w:=rfl
theorem nox_mg:(cxOf CX P w K mg base N q sc f cd A outer s H E).nox.mg=mg:=rfl
theorem Zmn:(cxOf CX P w K mg base N q sc f cd A outer s H E).nox.base=base:=rfl
end
theorem ZcE {K:PySem.W.Frag} {h:Heap} {mg:Str->Option Value} {x:Str} {i:Int} {t:Tok} (X:K.In h) (G:h.Ns mainGlobals mg) (a:PySem.W.nsIn K mainGlobals x=some (some (.int i t))):Za0 mg x (.int i):=⟨_,PySem.W.mg_of X G a,t,rfl⟩
theorem ZcF {K:PySem.W.Frag} {h:Heap} {mg:Str->Option Value} {x:Str} {i:Addr} (X:K.In h) (G:h.Ns mainGlobals mg) (a:PySem.W.nsIn K mainGlobals x=some (some (.ref i))):Za0 mg x (.ref i):=⟨_,PySem.W.mg_of X G a,rfl⟩
theorem Zjv {K:PySem.W.Frag} {x qual p:Str} {st:Stmt} {f:Addr} {fd:FuncData} (F:Fun K x qual st f fd)
  (hb:∀ (kV doc pm:Value) (an:Option Addr) (cdv ct u:Value),bindArgs (PySem.W.fnOf x qual (Zbd st) (ZaZ st) (Zaf st) .none kV doc pm an cdv ct) ⟨[u],[]⟩=pure [(p,u)]:=by intros;rfl):∀ (s:Shared) (u:Value),BindsTo s fd ⟨[u],[]⟩ [(p,u)]:=by
 obtain ⟨oc,od,kV,doc,pm,an,cdv,ct,osl,rfl,lk,hcd⟩:=F.ex
 exact fun s u=>.of_eq (hb kV doc pm an cdv ct u)
section
variable {σ:St} {H:Hp} {Q:VK} {D:Ends} {i:Nat} {x:V}
end
abbrev RC:=List V->Hp->VK->Prop
def rMax2:RC:=fun xs H Q=>∃ i j,xs=[.int i,.int j]/\Q (.int (if j>i then j else i)) H
def rMin2:RC:=fun xs H Q=>∃ i j,xs=[.int i,.int j]/\Q (.int (if j<i then j else i)) H
def rIsi:RC:=fun xs H Q=>∃ x T b,xs=[x,.ty T]/\isiV x T=some b/\Q (.bl b) H
def rLenS (K:PySem.W.Frag):RC:=fun xs H Q=>∃ p ys,xs=[.ref p]/\(SqL K H p ys\/SqT K H p ys)/\Q (.int ys.length) H
section
variable {X:Cx} {H:Hp} {Q:VK} {K:PySem.W.Frag}
theorem Zkz (hc:X.calm=true):CallR X (.builtin "max") rMax2:=Zj4 hc
theorem cn_min (hc:X.calm=true):CallR X (.builtin "min") rMin2:=Zj5 hc
theorem cn_isi:CallR X (.builtin "isinstance") rIsi:=Zmj
theorem ZbC:CallR X (.builtin "len") (rLenS X.K):=ZgD
theorem ZhL {a b:Int} (q:Q (.int (if b>a then b else a)) H):rMax2 [.int a,.int b] H Q:=⟨a,b,rfl,q⟩
theorem ZkA {a b:Int} (q:Q (.int (if b<a then b else a)) H):rMin2 [.int a,.int b] H Q:=⟨a,b,rfl,q⟩
theorem Zn8 {p:Addr} {xs:List V} (h:SqL K H p xs) (q:Q (.int xs.length) H):rLenS K [.ref p] H Q:=⟨p,xs,rfl,.inl h,q⟩
theorem Zn9 {p:Addr} {xs:List V} (h:SqT K H p xs) (q:Q (.int xs.length) H):rLenS K [.ref p] H Q:=⟨p,xs,rfl,.inr h,q⟩
end
section
variable {σ:St} {H:Hp} {Q:VK} {K:PySem.W.Frag} {p:Addr} {xs:List V} {v:V}
theorem rd_bm {T:String} {r:V->List V->Hp->VK->Prop} {to:TE} {t:TA} (q:to σ H fun x H1=>tyV K T x H1/\t σ H1 fun xs H2=>r x xs H2 Q):tBM K T r to t σ H Q:=q
theorem rd_bm0 {T:String} {r:V->List V->Hp->VK->Prop} {to:TE} (q:to σ H fun x H1=>tyV K T x H1/\r x [] H1 Q):tBM0 K T r to σ H Q:=q
theorem Zcj (h:SqL K H p xs):tyV K "list" (.ref p) H:=.inl ⟨rfl,_,h⟩
theorem ZbY (h:H p=some (.lst xs)) (hz:xs.length<sizeLine) (q:Q .non (upd H p (.lst (xs++[v])))):Zki (.ref p) [v] H Q:=⟨p,xs,v,rfl,rfl,h,hz,q⟩
theorem Znw (h:H p=some (.lst (xs++[v]))) (q:Q v (upd H p (.lst xs))):rPop (.ref p) [] H Q:=by
 refine ⟨p,xs++[v],v,rfl,rfl,h,by simp,?_⟩
 rw [List.dropLast_concat]
 exact q
end
def TupK (K:PySem.W.Frag) (a:Addr) (xs:List V):Prop:=∃ (o:Obj) (its:Array Value) (n:Nat),K.lookup a=some o/\o.cls=.type "tuple" /\ o.data=.seq its n/\its.size<=sizeLine/\Vals xs its.toList
theorem TupK.sqt {K:PySem.W.Frag} {a:Addr} {xs:List V} (h:TupK K a xs) (H:Hp):SqT K H a xs:=.inr h
theorem ZaR {K:PySem.W.Frag} {a:Addr} {xs:List V} {d:Option Addr} {its:Array Value} {n:Nat} {sl:Array (Option Value)} (l:K.lookup a=some ⟨.type "tuple", d,.seq its n,sl⟩) (v:Vals xs its.toList) (z:its.size<=sizeLine):TupK K a xs:=⟨_,its,n,l,rfl,rfl,z,v⟩
noncomputable def inS (x:Str) (xs:List Str):Bool:=xs.any fun y=>y==x
theorem Zoa (x:Str) (xs:List Str):inV (.str x) (xs.map V.str)=inS x xs:=by
 unfold inV inS
 rw [List.any_map]
 rfl
section
variable {σ:St} {H:Hp} {Q:VK} {K:PySem.W.Frag} {p:Addr}
theorem Za3 {x:Str} {xs:List Str} (h:SqT K H p (xs.map V.str)) (q:Q (.bl (inS x xs)) H):rIn K false (.str x) (.ref p) H Q:=by
 refine ⟨p,_,rfl,.inr h,rfl,?_,?_⟩
 .rw [List.all_map]
  exact List.all_eq_true.mpr fun _ _=>rfl
 .rw [if_neg (by decide),Zoa]
  exact q
theorem Zfx {te:TE} {R:Hp->Prop} {lo:Int} {n:Nat} {ys:List V} (hp:H p=none) (hn:ys.length=n) (hz:n<=sizeLine)
  (he:∀ (i:Nat) (y:V) (H':Hp) (Q:VK),i<n->ys[i]?=some y->Same H H'->Q y H'->te (some (.int (lo+i))::σ) H' Q) (fin:R (upd H p (.lst ys))) :
  tLoopC 1 (gName 0) tNoIf te (Itr lo n) p R σ H:=by
 refine ⟨fun i m σ' H'=>m=n-i/\i<=n/\H'=upd H p (.lst (ys.take i))/\∃ v,σ'=v::σ,⟨n,by omega,Nat.zero_le _,rfl,none,rfl⟩,?_⟩
 rintro i m σ' H' ⟨rfl,hi,rfl,v,rfl⟩
 by_cases hlt:i<n
 .refine .inr ⟨hlt,fun σ2 H2=>H2=upd H p (.lst (ys.take (i+1)))/\∃ v,σ2=v::σ,fun σ2 H2 ⟨e,v',e'⟩=>⟨n-(i+1),by omega,rfl,hlt,e,v',e'⟩,fun x H1 ⟨e,y⟩=>?_⟩
  subst e y
  refine Zku ?_
  simp only [tNoIf,if_true,List.set_cons_zero]
  have hyl:i<ys.length:=by omega
  refine he i ys[i] _ _ hlt (by simp [hyl]) (Same.new hp) ?_
  refine ⟨ys.take i,Zag,?_,?_,some _,rfl⟩
  .rw [List.length_take];omega
  .rw [ZaT,List.take_succ_eq_append_getElem hyl]
 .have e:i=n:=by omega
  subst e
  refine .inl ⟨Nat.le_refl _,?_⟩
  rw [<- hn,List.take_length]
  exact fin
end
def CalD (P:Program) (w:World) (K:PySem.W.Frag) (mg:Str->Option Value) (base:Heap) (k:Nat) (x:Str) (sp:Sp) (dvs:List V):Prop :=
 ∃ f fd ps ds,mg x=some (.ref f)/\FnOk P w K mg base CX0 k f fd ps sp/\PySem.W.keepIn K (.ref f)=true/\Binds K fd ps ds/\Vals dvs ds
theorem Zob {X:Cx} {k:Nat} {x:Str} {sp:Sp} {dvs:List V} {p pos:Pos} {e:Expr} {es:List Expr} {t:TA} (c:CalD X.prog X.w X.K X.mg X.base k x sp dvs) (hr:Room k X.A) (hg:Gl X x) (ha:PA X (e::es) t) (hdb:(x==("__debug__" : Str))=false:=by decide)
  (he:starEach (e::es) X.env=(false,eval e X.env)::starEach es X.env:=by rfl) (hpl:(backTo pos (starEach es X.env)).any (·.1)=false:=by rfl) :
  PE X (.Call (.Name x p) (e::es) [] pos) (tCall sp dvs E0 t):=by
 obtain ⟨f,fd,ps,ds,m,F,kp,b,v⟩:=c
 exact Zj9 F hr hg m kp b v pass0 ha hdb he hpl
noncomputable def isiSeq:Bool->String->Option Bool
 | true, "tuple" => some true
 | true, "list" => some false
 | true, "int" => some false
 | true, "bool" => some false
 | true, "str" => some false
 | false, "list" => some true
 | false, "tuple" => some false
 | false, "int" => some false
 | false, "bool" => some false
 | false, "str" => some false
 | _,_=>none
def rIsiQ (K:PySem.W.Frag):RC:=fun xs H Q=>∃ a T ys b,xs=[.ref a,.ty T]/\((SqT K H a ys/\isiSeq true T=some b)\/(SqL K H a ys/\isiSeq false T=some b))/\Q (.bl b) H
theorem ZkB {X:Cx}:CallR X (.builtin "isinstance") (rIsiQ X.K):=by
 intro pins s σ H xs us Q I r h
 obtain ⟨a,T,ys,b,rfl,e,q⟩:=h
 obtain ⟨u,v,rfl,ru,rv⟩:=vals2 r
 obtain rfl:v=Value.type T:=rv
 obtain rfl:u=Value.ref a:=ru
 have kp:∀ b o,s.heap.get? b=some o->s.heap.get? b=some o:=fun _ _ z=>z
 rcases e with ⟨hq,e⟩|⟨hq,e⟩
 .obtain ⟨its,rv,p,hz⟩:=I.tuple hq
  have p':s.heap.IsTuple a its.toArray:=p
  unfold isiSeq at e
  split at e<;>first
   | contradiction
   | (cases e;first
    | exact IsiPair.isTuple_tuple p' kp ⟨.bl true,H,I,rfl,q⟩
    | exact IsiPair.isTuple_list p' kp ⟨.bl false,H,I.tok _,rfl,q⟩
    | exact IsiPair.isTuple_int p' kp ⟨.bl false,H,I.tok _,rfl,q⟩
    | exact IsiPair.isTuple_bool p' kp ⟨.bl false,H,I.tok _,rfl,q⟩
    | exact IsiPair.isTuple_str p' kp ⟨.bl false,H,I.tok _,rfl,q⟩)
   | cases e
   | (rename_i z _;cases z)
 .obtain ⟨its,rv,p,hz⟩:=I.list hq
  have p':s.heap.IsList a its.toArray:=p.isList
  unfold isiSeq at e
  split at e<;>first
   | contradiction
   | (cases e;first
    | exact IsiPair.isList_list p' kp ⟨.bl true,H,I,rfl,q⟩
    | exact IsiPair.isList_tuple p' kp ⟨.bl false,H,I.tok _,rfl,q⟩
    | exact IsiPair.isList_int p' kp ⟨.bl false,H,I.tok _,rfl,q⟩
    | exact IsiPair.isList_bool p' kp ⟨.bl false,H,I.tok _,rfl,q⟩
    | exact IsiPair.isList_str p' kp ⟨.bl false,H,I.tok _,rfl,q⟩)
   | cases e
   | (rename_i z _;cases z)
def rIsiA (K:PySem.W.Frag):RC:=fun xs H Q=>rIsi xs H Q\/rIsiQ K xs H Q
theorem ZeC {X:Cx}:CallR X (.builtin "isinstance") (rIsiA X.K):=cn_isi.or ZkB
section
variable {H:Hp} {Q:VK} {K:PySem.W.Frag}
theorem Zoc {x:V} {T:String} {b:Bool} (e:isiV x T=some b) (q:Q (.bl b) H):rIsiA K [x,.ty T] H Q:=.inl ⟨x,T,b,rfl,e,q⟩
theorem Zod {a:Addr} {T:String} {ys:List V} {b:Bool} (h:SqT K H a ys) (e:isiSeq true T=some b) (q:Q (.bl b) H):rIsiA K [.ref a,.ty T] H Q:=.inr ⟨a,T,ys,b,rfl,.inl ⟨h,e⟩,q⟩
theorem Zoe {a:Addr} {T:String} {ys:List V} {b:Bool} (h:SqL K H a ys) (e:isiSeq false T=some b) (q:Q (.bl b) H):rIsiA K [.ref a,.ty T] H Q:=.inr ⟨a,T,ys,b,rfl,.inr ⟨h,e⟩,q⟩
end
noncomputable def cV:Expr->Option V
 | .Constant (.int i) _ _=>some (.int i)
 | .Constant (.str x) _ _=>some (.str x)
 | _=>none
noncomputable def cVs:List Expr->Option (List V)
 | []=>some []
 | e::es=>match cV e,cVs es with
  | some v,some vs=>some (v::vs)
  | _,_=>none
def tVals (vs:List V):TA:=fun _ H Q=>Q vs H
theorem pe_cV {X:Cx} {e:Expr} {v:V} (h:cV e=some v):PE X e (tC v)/\∀ es,starEach (e::es) X.env=(false,eval e X.env)::starEach es X.env:=by
 unfold cV at h
 split at h
 .cases h;exact ⟨Zac,fun _=>rfl⟩
 .cases h;exact ⟨Zai,fun _=>rfl⟩
 .cases h
theorem Zd1 {X:Cx}:∀ {es:List Expr} {vs:List V},cVs es=some vs->PA X es (tVals vs)
 | [],vs,h=>by
  cases h
  exact fun _ _ _ _ H Q I h=>Calls.spliced_nil ⟨[],H,I,.nil,h⟩
 | e::es,vs,h=>by
  unfold cVs at h
  cases he:cV e with
  | none=>rw [he] at h;cases h
  | some v =>
   cases hs:cVs es with
   | none=>rw [he,hs] at h;cases h
   | some us =>
    rw [he,hs] at h
    cases h
    obtain ⟨h1,h2⟩:=pe_cV (X:=X) he
    exact Zaa h1 (Zd1 hs) (h2 es)
theorem Zof {σ:St} {H:Hp} {vs:List V} {R:List V->Hp->Prop} (q:R vs H):tVals vs σ H R:=q
section
variable {σ:St} {H:Hp} {Q:VK} {P:Program} {w:World} {K:PySem.W.Frag} {td ty:TE}
end
def rDK (P:Program) (w:World) (K:PySem.W.Frag):R2:=fun x y H Q=>∃ a vs k u v,x=.ref a/\y=kV k/\Zdl P w K a vs/\valueAt vs k=some u/\RelV v u/\Q v H
theorem Zfy {X:Cx} {o i:Expr} {td ty:TE} {pos:Pos} (ho:PE X o td) (hi:PE X i ty) (hs:NoSl i):PE X (.Subscript o i pos) (tOp (rDK X.prog X.w X.K) td ty):=Zml ho hi hs
section
variable {H:Hp} {Q:VK} {P:Program} {w:World} {K:PySem.W.Frag}
theorem ZkC {a:Addr} {vs:List (Key×Value)} {x:Str} {u:Value} {v:V} (dk:Zdl P w K a vs) (hv:valueAt vs (.inr x)=some u) (r:RelV v u) (q:Q v H):rDK P w K (.ref a) (.str x) H Q:=⟨a,vs,.inr x,u,v,rfl,rfl,dk,hv,r,q⟩
end
section
variable {CX:CXT} {P:Program} {w:World} {K:PySem.W.Frag} {mg:Str->Option Value} {base:Heap} {N:List Str} {q:Str} {sc:Scope} {f:Addr} {cd:Value} {A:Around} {outer:List Env} {s:Shared} {H:Hp} {E:XK}
theorem cxOf_K:(cxOf CX P w K mg base N q sc f cd A outer s H E).K=K:=rfl
theorem cxOf_P:(cxOf CX P w K mg base N q sc f cd A outer s H E).prog=P:=rfl
theorem cxOf_w:(cxOf CX P w K mg base N q sc f cd A outer s H E).w=w:=rfl
theorem Zog:(cxOf CX P w K mg base N q sc f cd A outer s H E).mg=mg:=rfl
theorem ZkD:(cxOf CX P w K mg base N q sc f cd A outer s H E).base=base:=rfl
end
theorem Zmo:Vals [] []:=.nil
theorem Zmp {i:Int} {t:Tok} {xs:List V} {us:List Value} (h:Vals xs us):Vals (.int i::xs) (.int i t::us):=.cons ⟨t,rfl⟩ h
theorem Zmq {x:Str} {t:Tok} {xs:List V} {us:List Value} (h:Vals xs us):Vals (.str x::xs) (.str x t::us):=.cons ⟨t,rfl⟩ h
theorem ZkE {K:PySem.W.Frag} {h:Heap} {mg:Str->Option Value} {x:Str} {i:Addr} {xs:List V} {d:Option Addr} {its:Array Value} {n:Nat} {sl:Array (Option Value)} (X:K.In h) (G:h.Ns mainGlobals mg) (a:PySem.W.nsIn K mainGlobals x=some (some (.ref i)))
  (l:K.lookup i=some ⟨.type "tuple", d,.seq its n,sl⟩) (v:Vals xs its.toList) (z:its.size<=sizeLine):∃ a,Za0 mg x (.ref a)/\TupK K a xs:=⟨i,ZcF X G a,ZaR l v z⟩
structure FunD (K:PySem.W.Frag) (x qual:Str) (st:Stmt) (items:Array Value) (f:Addr) (fd:FuncData):Prop where
 ex:∃ (oc:Value) (od:Option Addr) (T:Addr) (kV doc pm:Value) (an:Option Addr) (cdv ct:Value) (osl:Array (Option Value)) (o:Obj) (n:Nat),
  fd=PySem.W.fnOf x qual (Zbd st) (ZaZ st) (Zaf st) (.ref T) kV doc pm an cdv ct/\K.lookup f=some ⟨oc,od,.func fd,osl⟩/\PySem.W.codeIn K cdv qual=true/\K.lookup T=some o/\o.data=.seq items n
 kp:PySem.W.keepIn K (.ref f)=true
def ZkF (K:PySem.W.Frag) (mg:Str->Option Value) (x:Str) (st:Stmt) (items:Array Value):Prop:=∃ f fd,FunD K x x st items f fd/\mg x=some (.ref f)
theorem ZkG {K:PySem.W.Frag} {h:Heap} {mg:Str->Option Value} {x:Str} {st:Stmt} {f T:Addr} {oc c2:Value} {od an d2:Option Addr} {osl s2:Array (Option Value)} {kV doc pm cdv ct:Value} {items:Array Value} {n:Nat} (X:K.In h) (G:h.Ns mainGlobals mg)
  (a:PySem.W.nsIn K mainGlobals x=some (some (.ref f))) (l:K.lookup f=some ⟨oc,od,.func (PySem.W.fnOf x x (Zbd st) (ZaZ st) (Zaf st) (.ref T) kV doc pm an cdv ct),osl⟩)
  (c:PySem.W.codeIn K cdv x=true) (k:PySem.W.keepIn K (.ref f)=true) (d:K.lookup T=some ⟨c2,d2,.seq items n,s2⟩):ZkF K mg x st items :=
 ⟨f,_,⟨⟨oc,od,T,kV,doc,pm,an,cdv,ct,osl,_,n,rfl,l,c,d,rfl⟩,k⟩,PySem.W.mg_of X G a⟩
section
variable {P:Program} {w:World} {K:PySem.W.Frag} {mg:Str->Option Value} {base:Heap}
theorem FunD.fn {x qual:Str} {st:Stmt} {items:Array Value} {f:Addr} {fd:FuncData} {N ps:List Str} {k:Nat} {sp:Sp} (F:FunD K x qual st items f fd) (S:FnScope N ps (Zaf st)) (len:∀ vs H Q E,sp vs H Q E->vs.length=ps.length)
  (hbody:∀ (cdv:Value) (A:Around) (outer:List Env) (s:Shared) (H:Hp) (vs:List V) (Q:VK) (E:XK),Room k (A.deeper (envOfC qual (Zaf st) s.heap.objs.size f cdv))->sp vs H Q E ->
   ∃ t,PSs (cxOf CX0 P w K mg base N qual (Zaf st) f cdv A outer s H E).nox (ZaZ st) t/\t { nx:=fun _ H'=>Q .non H',rt:=Q } (start N vs) H):FnOk P w K mg base CX0 (k+1) f fd ps sp:=by
 obtain ⟨oc,od,T,kV,doc,pm,an,cdv,ct,osl,o,n,rfl,lk,hcd,lt,ld⟩:=F.ex
 refine fn_of lk hcd S len fun A outer s H vs Q E hr hsp=>?_
 obtain ⟨t,h,q⟩:=hbody cdv A outer s H vs Q E hr hsp
 exact ⟨t,h.nox,q⟩
theorem FunD.binds {x qual:Str} {st:Stmt} {items:Array Value} {f:Addr} {fd:FuncData} {ps:List Str} (F:FunD K x qual st items f fd) (ds:List Value)
  (h:∀ (T:Addr) (kV doc pm:Value) (an:Option Addr) (cdv ct:Value) (us:List Value),(us++ds).length=ps.length->∃ k:Option (Array Value)->Sem (List (Str×Value)),bindArgs (PySem.W.fnOf x qual (Zbd st) (ZaZ st) (Zaf st) (.ref T) kV doc pm an cdv ct) ⟨us,[]⟩=seqItems? (.ref T) >>= k/\k (some items)=pure (ps.zip (us++ds))):Binds K fd ps ds:=by
 obtain ⟨oc,od,T,kV,doc,pm,an,cdv,ct,osl,o,n,rfl,lk,hcd,lt,ld⟩:=F.ex
 intro s us X hl
 obtain ⟨k,h1,h2⟩:=h T kV doc pm an cdv ct us hl
 exact BindsTo.of_defaults (fd:=PySem.W.fnOf x qual (Zbd st) (ZaZ st) (Zaf st) (.ref T) kV doc pm an cdv ct) rfl (X _ _ lt) ld h1 h2
end
end L2
namespace L2
open PySem PySem.Spec PyProof.Rows PySem.SeqAt
inductive Dt where
 | non
 | bl (b:Bool)
 | int (i:Int)
 | str (x:Str)
 | lst (ds:List Dt)
 | tup (ds:List Dt)
mutual
noncomputable def Dt.eq:Dt->Dt->Bool
 | .non,.non=>true
 | .bl a,.bl b=>a==b
 | .bl a,.int b=>(if a then 1 else 0)==b
 | .int a,.bl b=>a==(if b then 1 else 0)
 | .int a,.int b=>a==b
 | .str a,.str b=>a==b
 | .lst a,.lst b=>Dt.eqs a b
 | .tup a,.tup b=>Dt.eqs a b
 | _,_=>false
noncomputable def Dt.eqs:List Dt->List Dt->Bool
 | [],[]=>true
 | a::r,b::t=>Dt.eq a b&&Dt.eqs r t
 | _,_=>false
end
mutual
noncomputable def Dt.dep:Dt->Nat
 | .lst ds=>Dt.deps ds+1
 | .tup ds=>Dt.deps ds+1
 | _=>0
noncomputable def Dt.deps:List Dt->Nat
 | []=>0
 | d::r=>max (Dt.dep d) (Dt.deps r)
end
mutual
def DV (K:PySem.W.Frag) (H:Hp):Dt->V->Prop
 | .non,v=>v=.non
 | .bl b,v=>v=.bl b
 | .int i,v=>v=.int i
 | .str x,v=>v=.str x
 | .lst ds,v=>∃ a xs,v=.ref a/\SqL K H a xs/\DVs K H ds xs
 | .tup ds,v=>∃ a xs,v=.ref a/\SqT K H a xs/\DVs K H ds xs
def DVs (K:PySem.W.Frag) (H:Hp):List Dt->List V->Prop
 | [],xs=>xs=[]
 | d::r,xs=>∃ x t,xs=x::t/\DV K H d x/\DVs K H r t
end
theorem DVs.length {K:PySem.W.Frag} {H:Hp}:∀ {ds:List Dt} {xs:List V},DVs K H ds xs->ds.length=xs.length
 | [],xs,h=>by unfold DVs at h;subst h;rfl
 | d::r,xs,h=>by
  unfold DVs at h
  obtain ⟨x,t,rfl,_,h⟩:=h
  rw [List.length_cons,List.length_cons,DVs.length h]
theorem DVs.get {K:PySem.W.Frag} {H:Hp}:∀ {ds:List Dt} {xs:List V} {i:Nat} {d:Dt} {x:V},DVs K H ds xs->ds[i]?=some d->xs[i]?=some x->DV K H d x
 | [],xs,i,d,x,h,e,_=>by simp at e
 | d0::r,xs,i,d,x,h,e1,e2=>by
  unfold DVs at h
  obtain ⟨x0,t,rfl,h0,h⟩:=h
  cases i with
  | zero=>simp at e1 e2;subst e1 e2;exact h0
  | succ i=>exact DVs.get (i:=i) h (by simpa using e1) (by simpa using e2)
theorem Dt.dep_le:∀ {ds:List Dt} {i:Nat} {d:Dt},ds[i]?=some d->d.dep<=Dt.deps ds
 | [],i,d,e=>by simp at e
 | d0::r,i,d,e=>by
  unfold Dt.deps
  cases i with
  | zero=>simp at e;subst e;exact Nat.le_max_left _ _
  | succ i=>exact Nat.le_trans (Dt.dep_le (i:=i) (by simpa using e)) (Nat.le_max_right _ _)
theorem Dt.eqs_range:∀ (ds es:List Dt),ds.length=es.length->(List.range ds.length).all (fun j=>Dt.eq (ds.getD j .non) (es.getD j .non))=Dt.eqs ds es
 | [],[],_=>by unfold Dt.eqs;rfl
 | d::r,e::t,h=>by
  have ih:=Dt.eqs_range r t (by simpa using h)
  rw [List.length_cons,List.range_succ_eq_map,List.all_cons,List.all_map]
  unfold Dt.eqs
  rw [<- ih]
  rfl
 | [],_::_,h=>by simp at h
 | _::_,[],h=>by simp at h
theorem Dt.eqs_len:∀ (ds es:List Dt),ds.length≠es.length->Dt.eqs ds es=false
 | [],[],h=>absurd rfl h
 | d::r,e::t,h=>by
  unfold Dt.eqs
  rw [Dt.eqs_len r t (by simpa using h),Bool.and_false]
 | [],_::_,_=>by unfold Dt.eqs;rfl
 | _::_,[],_=>by unfold Dt.eqs;rfl
section
variable {X:Cx} {pins:List (Addr×Obj)} {σ:St} {H:Hp} {s:Shared}
theorem DV.same (I:Inv X pins σ H s):∀ (n:Nat) (d e:Dt) (x:V),d.dep<=n->DV X.K H d x->DV X.K H e x->Dt.eq d e=true:=by
 intro n
 induction n with
 | zero =>
  intro d e x hn h1 h2
  cases d with
  | lst ds=>unfold Dt.dep at hn;omega
  | tup ds=>unfold Dt.dep at hn;omega
  | non=>unfold DV at h1;subst h1;cases e<;>unfold DV at h2<;>first|(cases h2;done)|(obtain ⟨_,_,z,_⟩:=h2;cases z;done)|(unfold Dt.eq;rfl)
  | bl b=>unfold DV at h1;subst h1;cases e<;>unfold DV at h2<;>first|(cases h2;unfold Dt.eq;simp;done)|(obtain ⟨_,_,z,_⟩:=h2;cases z;done)|(cases h2;done)
  | int b=>unfold DV at h1;subst h1;cases e<;>unfold DV at h2<;>first|(cases h2;unfold Dt.eq;simp;done)|(obtain ⟨_,_,z,_⟩:=h2;cases z;done)|(cases h2;done)
  | str b=>unfold DV at h1;subst h1;cases e<;>unfold DV at h2<;>first|(cases h2;unfold Dt.eq;simp;done)|(obtain ⟨_,_,z,_⟩:=h2;cases z;done)|(cases h2;done)
 | succ n ih =>
  intro d e x hn h1 h2
  have lists:∀ (ds es:List Dt) (xs:List V),Dt.deps ds<=n->DVs X.K H ds xs->DVs X.K H es xs->Dt.eqs ds es=true:=by
   intro ds es xs hd a b
   have l1:=a.length
   have l2:=b.length
   rw [<- Dt.eqs_range ds es (l1.trans l2.symm),List.all_eq_true]
   intro j hj
   have hj':j<ds.length:=List.mem_range.mp hj
   have e1:ds[j]?=some ds[j]:=List.getElem?_eq_getElem hj'
   have e2:es[j]?=some (es[j]'(by omega)):=List.getElem?_eq_getElem (by omega)
   have e3:xs[j]?=some (xs[j]'(by omega)):=List.getElem?_eq_getElem (by omega)
   rw [List.getD_eq_getElem?_getD,List.getD_eq_getElem?_getD,e1,e2]
   exact ih _ _ _ (Nat.le_trans (Dt.dep_le e1) hd) (a.get e1 e3) (b.get e2 e3)
  cases d with
  | lst ds =>
   unfold Dt.dep at hn
   unfold DV at h1
   obtain ⟨a,xs,rfl,q1,r1⟩:=h1
   cases e with
   | lst es =>
    unfold DV at h2
    obtain ⟨b,ys,z,q2,r2⟩:=h2
    cases z
    rw [I.list_inj q2 q1] at r2
    unfold Dt.eq
    exact lists ds es xs (by omega) r1 r2
   | tup es =>
    unfold DV at h2
    obtain ⟨b,ys,z,q2,r2⟩:=h2
    cases z
    obtain ⟨i1,_,p1,_⟩:=I.list q1
    obtain ⟨i2,_,p2,_⟩:=I.tuple q2
    obtain ⟨o1,g1,c1,_⟩:=p1.isList
    have p2':s.heap.IsTuple a i2.toArray:=p2
    obtain ⟨o2,g2,c2,_⟩:=p2'
    rw [g1] at g2
    cases g2
    rw [c1] at c2
    exact absurd c2 (by decide)
   | non=>unfold DV at h2;cases h2
   | bl b=>unfold DV at h2;cases h2
   | int b=>unfold DV at h2;cases h2
   | str b=>unfold DV at h2;cases h2
  | tup ds =>
   unfold Dt.dep at hn
   unfold DV at h1
   obtain ⟨a,xs,rfl,q1,r1⟩:=h1
   cases e with
   | tup es =>
    unfold DV at h2
    obtain ⟨b,ys,z,q2,r2⟩:=h2
    cases z
    rw [I.tuple_inj q2 q1] at r2
    unfold Dt.eq
    exact lists ds es xs (by omega) r1 r2
   | lst es =>
    unfold DV at h2
    obtain ⟨b,ys,z,q2,r2⟩:=h2
    cases z
    obtain ⟨i1,_,p1,_⟩:=I.list q2
    obtain ⟨i2,_,p2,_⟩:=I.tuple q1
    obtain ⟨o1,g1,c1,_⟩:=p1.isList
    have p2':s.heap.IsTuple a i2.toArray:=p2
    obtain ⟨o2,g2,c2,_⟩:=p2'
    rw [g1] at g2
    cases g2
    rw [c1] at c2
    exact absurd c2 (by decide)
   | non=>unfold DV at h2;cases h2
   | bl b=>unfold DV at h2;cases h2
   | int b=>unfold DV at h2;cases h2
   | str b=>unfold DV at h2;cases h2
  | non=>exact ih _ e x (by unfold Dt.dep;omega) h1 h2
  | bl b=>exact ih _ e x (by unfold Dt.dep;omega) h1 h2
  | int b=>exact ih _ e x (by unfold Dt.dep;omega) h1 h2
  | str b=>exact ih _ e x (by unfold Dt.dep;omega) h1 h2
end
end L2
namespace L2
open PySem PySem.Spec PyProof.Rows PySem.SeqAt
section
variable {X:Cx} {pins:List (Addr×Obj)} {σ:St} {H:Hp} {s:Shared}
theorem ZgR {K:PySem.W.Frag} {ds:List Dt} {xs:List V} {its:List Value} (h:DVs K H ds xs) (rv:Vals xs its) {j:Nat} (hj:j<its.toArray.size):∃ d x,ds[j]?=some d/\xs[j]?=some x/\DV K H d x/\RelV x (its.toArray[j])/\ds.getD j .non=d:=by
 have hj':j<its.length:=by simpa using hj
 have l1:=h.length
 have l2:=rv.length
 have e1:ds[j]?=some (ds[j]'(by omega)):=List.getElem?_eq_getElem (by omega)
 have e2:xs[j]?=some (xs[j]'(by omega)):=List.getElem?_eq_getElem (by omega)
 obtain ⟨u,hu,ru⟩:=rv.get e2
 refine ⟨_,_,e1,e2,h.get e1 e2,?_,by rw [List.getD_eq_getElem?_getD,e1];rfl⟩
 have:its.toArray[j]=u:=by
  have q:its[j]?=some its[j]:=List.getElem?_eq_getElem hj'
  rw [q] at hu
  simpa using Option.some.inj hu
 rw [this]
 exact ru
theorem ZkH (A:Around):A.in1.units=A.units+1:=rfl
theorem Znx (I:Inv X pins σ H s):∀ (n:Nat) (d e:Dt) (x y:V) (u v:Value) (A:Around),d.dep<=n->A.units+n<cLine->DV X.K H d x->DV X.K H e y->RelV x u->RelV y v ->
  EqAt A s u v (Dt.eq d e)/\RcAt A s u v (Dt.eq d e)/\RcNeAt A s u v (!Dt.eq d e):=by
 intro n
 induction n with
 | zero =>
  intro d e x y u v A hn hA h1 h2 r1 r2
  have hu:A.units<cLine:=by omega
  cases d with
  | lst ds=>unfold Dt.dep at hn;omega
  | tup ds=>unfold Dt.dep at hn;omega
  | non =>
   unfold DV at h1;subst h1;cases r1
   cases e<;>unfold DV at h2
   case lst es=>obtain ⟨a,xs,rfl,q,_⟩:=h2;cases r2;obtain ⟨its,_,p,_⟩:=I.list q;unfold Dt.eq;exact ⟨EqAt.none_list p.isList hu,RcAt.none_list p.isList hu,RcNeAt.none_list p.isList hu⟩
   case tup es=>obtain ⟨a,xs,rfl,q,_⟩:=h2;cases r2;obtain ⟨its,_,p,_⟩:=I.tuple q;unfold Dt.eq;exact ⟨EqAt.none_tuple (show s.heap.IsTuple a its.toArray from p) hu,RcAt.none_tuple (show s.heap.IsTuple a its.toArray from p) hu,RcNeAt.none_tuple (show s.heap.IsTuple a its.toArray from p) hu⟩
   case non=>subst h2;cases r2;unfold Dt.eq;exact ⟨EqAt.same _,RcAt.none_none,RcNeAt.none_none⟩
   case bl b=>subst h2;cases r2;unfold Dt.eq;exact ⟨EqAt.none_bool _,RcAt.none_bool _,RcNeAt.none_bool _⟩
   case int b=>subst h2;obtain ⟨t,rfl⟩:=r2;unfold Dt.eq;exact ⟨EqAt.none_int _ _,RcAt.none_int _ _,RcNeAt.none_int _ _⟩
   case str b=>subst h2;obtain ⟨t,rfl⟩:=r2;unfold Dt.eq;exact ⟨EqAt.none_str _ _,RcAt.none_str _ _,RcNeAt.none_str _ _⟩
  | bl b0 =>
   unfold DV at h1;subst h1;cases r1
   cases e<;>unfold DV at h2
   case lst es=>obtain ⟨a,xs,rfl,q,_⟩:=h2;cases r2;obtain ⟨its,_,p,_⟩:=I.list q;unfold Dt.eq;exact ⟨EqAt.bool_list _ p.isList hu,RcAt.bool_list _ p.isList hu,RcNeAt.bool_list _ p.isList hu⟩
   case tup es=>obtain ⟨a,xs,rfl,q,_⟩:=h2;cases r2;obtain ⟨its,_,p,_⟩:=I.tuple q;unfold Dt.eq;exact ⟨EqAt.bool_tuple _ (show s.heap.IsTuple a its.toArray from p) hu,RcAt.bool_tuple _ (show s.heap.IsTuple a its.toArray from p) hu,RcNeAt.bool_tuple _ (show s.heap.IsTuple a its.toArray from p) hu⟩
   case non=>subst h2;cases r2;unfold Dt.eq;exact ⟨EqAt.bool_none _,RcAt.bool_none _,RcNeAt.bool_none _⟩
   case bl b=>subst h2;cases r2;unfold Dt.eq;exact ⟨EqAt.bool_bool _ _,RcAt.bool_bool _ _,RcNeAt.bool_bool _ _⟩
   case int b=>subst h2;obtain ⟨t,rfl⟩:=r2;unfold Dt.eq;exact ⟨EqAt.bool_int _ _ _,RcAt.bool_int _ _ _,RcNeAt.bool_int _ _ _⟩
   case str b=>subst h2;obtain ⟨t,rfl⟩:=r2;unfold Dt.eq;exact ⟨EqAt.bool_str _ _ _,RcAt.bool_str _ _ _,RcNeAt.bool_str _ _ _⟩
  | int b0 =>
   unfold DV at h1;subst h1;obtain ⟨t0,rfl⟩:=r1
   cases e<;>unfold DV at h2
   case lst es=>obtain ⟨a,xs,rfl,q,_⟩:=h2;cases r2;obtain ⟨its,_,p,_⟩:=I.list q;unfold Dt.eq;exact ⟨EqAt.int_list _ _ p.isList hu,RcAt.int_list _ _ p.isList hu,RcNeAt.int_list _ _ p.isList hu⟩
   case tup es=>obtain ⟨a,xs,rfl,q,_⟩:=h2;cases r2;obtain ⟨its,_,p,_⟩:=I.tuple q;unfold Dt.eq;exact ⟨EqAt.int_tuple _ _ (show s.heap.IsTuple a its.toArray from p) hu,RcAt.int_tuple _ _ (show s.heap.IsTuple a its.toArray from p) hu,RcNeAt.int_tuple _ _ (show s.heap.IsTuple a its.toArray from p) hu⟩
   case non=>subst h2;cases r2;unfold Dt.eq;exact ⟨EqAt.int_none _ _,RcAt.int_none _ _,RcNeAt.int_none _ _⟩
   case bl b=>subst h2;cases r2;unfold Dt.eq;exact ⟨EqAt.int_bool _ _ _,RcAt.int_bool _ _ _,RcNeAt.int_bool _ _ _⟩
   case int b=>subst h2;obtain ⟨t,rfl⟩:=r2;unfold Dt.eq;exact ⟨EqAt.int_int _ _ _ _,RcAt.int_int _ _ _ _,RcNeAt.int_int _ _ _ _⟩
   case str b=>subst h2;obtain ⟨t,rfl⟩:=r2;unfold Dt.eq;exact ⟨EqAt.int_str _ _ _ _,RcAt.int_str _ _ _ _,RcNeAt.int_str _ _ _ _⟩
  | str b0 =>
   unfold DV at h1;subst h1;obtain ⟨t0,rfl⟩:=r1
   cases e<;>unfold DV at h2
   case lst es=>obtain ⟨a,xs,rfl,q,_⟩:=h2;cases r2;obtain ⟨its,_,p,_⟩:=I.list q;unfold Dt.eq;exact ⟨EqAt.str_list _ _ p.isList hu,RcAt.str_list _ _ p.isList hu,RcNeAt.str_list _ _ p.isList hu⟩
   case tup es=>obtain ⟨a,xs,rfl,q,_⟩:=h2;cases r2;obtain ⟨its,_,p,_⟩:=I.tuple q;unfold Dt.eq;exact ⟨EqAt.str_tuple _ _ (show s.heap.IsTuple a its.toArray from p) hu,RcAt.str_tuple _ _ (show s.heap.IsTuple a its.toArray from p) hu,RcNeAt.str_tuple _ _ (show s.heap.IsTuple a its.toArray from p) hu⟩
   case non=>subst h2;cases r2;unfold Dt.eq;exact ⟨EqAt.str_none _ _,RcAt.str_none _ _,RcNeAt.str_none _ _⟩
   case bl b=>subst h2;cases r2;unfold Dt.eq;exact ⟨EqAt.str_bool _ _ _,RcAt.str_bool _ _ _,RcNeAt.str_bool _ _ _⟩
   case int b=>subst h2;obtain ⟨t,rfl⟩:=r2;unfold Dt.eq;exact ⟨EqAt.str_int _ _ _ _,RcAt.str_int _ _ _ _,RcNeAt.str_int _ _ _ _⟩
   case str b=>subst h2;obtain ⟨t,rfl⟩:=r2;unfold Dt.eq;exact ⟨EqAt.str_str _ _ _ _,RcAt.str_str _ _ _ _,RcNeAt.str_str _ _ _ _⟩
 | succ n ih =>
  intro d e x y u v A hn hA h1 h2 r1 r2
  have hu:A.units<cLine:=by omega
  have wrap:∀ (a b:Addr),u=.ref a->v=.ref b->x=.ref a->y=.ref b->RcAt A s u v (Dt.eq d e)->EqAt A s u v (Dt.eq d e):=fun a b eu ev ex ey rc=>by
   subst eu ev ex ey
   by_cases hab:a=b
   .subst hab
    rw [DV.same I (n+1) d e (.ref a) hn h1 h2]
    exact EqAt.same _
   .exact EqAt.of_refs hab rc
  have items:∀ (ds es:List Dt) (xs ys:List V) (its jts:List Value),Dt.deps ds<=n->DVs X.K H ds xs->DVs X.K H es ys->Vals xs its->Vals ys jts ->
    ∀ j (g1:j<its.toArray.size) (g2:j<jts.toArray.size),EqAt A.in1 s its.toArray[j] jts.toArray[j] (Dt.eq (ds.getD j .non) (es.getD j .non)):=by
   intro ds es xs ys its jts hd a b ra rb j g1 g2
   obtain ⟨d',x',e1,_,v1,q1,z1⟩:=ZgR a ra g1
   obtain ⟨d'',x'',e2,_,v2,q2,z2⟩:=ZgR b rb g2
   rw [z1,z2]
   exact (ih d' d'' x' x'' _ _ A.in1 (Nat.le_trans (Dt.dep_le e1) hd) (by rw [ZkH];omega) v1 v2 q1 q2).1
  cases d with
  | lst ds =>
   unfold Dt.dep at hn
   unfold DV at h1
   obtain ⟨a,xs,rfl,q1,w1⟩:=id h1
   cases r1
   obtain ⟨its,rv,p,_⟩:=I.list q1
   cases e with
   | lst es =>
    unfold DV at h2
    obtain ⟨b,ys,rfl,q2,w2⟩:=id h2
    cases r2
    obtain ⟨jts,rv2,p2,_⟩:=I.list q2
    have rcs:RcAt A s (.ref a) (.ref b) (Dt.eq (.lst ds) (.lst es))/\RcNeAt A s (.ref a) (.ref b) (!Dt.eq (.lst ds) (.lst es)):=by
     unfold Dt.eq
     have l1:its.toArray.size=ds.length:=by rw [List.size_toArray,<- rv.length,w1.length]
     have l2:jts.toArray.size=es.length:=by rw [List.size_toArray,<- rv2.length,w2.length]
     by_cases hl:ds.length=es.length
     .have hi:=items ds es xs ys its jts (by omega) w1 w2 rv rv2
      rw [<- Dt.eqs_range ds es hl,<- l1]
      exact ⟨RcAt.lists p.isList p2.isList (by omega) hu hi,RcNeAt.lists p.isList p2.isList (by omega) hu hi⟩
     .have hne:(its.toArray.size != jts.toArray.size)=true:=by rw [l1,l2];simpa using hl
      rw [Dt.eqs_len ds es hl]
      exact ⟨RcAt.lists_lengths p.isList p2.isList hne hu,RcNeAt.lists_lengths p.isList p2.isList hne hu⟩
    exact ⟨wrap a b rfl rfl rfl rfl rcs.1,rcs⟩
   | tup es =>
    unfold DV at h2
    obtain ⟨b,ys,rfl,q2,w2⟩:=id h2
    cases r2
    obtain ⟨jts,rv2,p2,_⟩:=I.tuple q2
    have p2':s.heap.IsTuple b jts.toArray:=p2
    unfold Dt.eq
    exact ⟨EqAt.list_tuple p.isList p2' hu,RcAt.list_tuple p.isList p2' hu,RcNeAt.list_tuple p.isList p2' hu⟩
   | non=>unfold DV at h2;subst h2;cases r2;unfold Dt.eq;exact ⟨EqAt.list_none p.isList hu,RcAt.list_none p.isList hu,RcNeAt.list_none p.isList hu⟩
   | bl b=>unfold DV at h2;subst h2;cases r2;unfold Dt.eq;exact ⟨EqAt.list_bool _ p.isList hu,RcAt.list_bool _ p.isList hu,RcNeAt.list_bool _ p.isList hu⟩
   | int b=>unfold DV at h2;subst h2;obtain ⟨t,rfl⟩:=r2;unfold Dt.eq;exact ⟨EqAt.list_int _ _ p.isList hu,RcAt.list_int _ _ p.isList hu,RcNeAt.list_int _ _ p.isList hu⟩
   | str b=>unfold DV at h2;subst h2;obtain ⟨t,rfl⟩:=r2;unfold Dt.eq;exact ⟨EqAt.list_str _ _ p.isList hu,RcAt.list_str _ _ p.isList hu,RcNeAt.list_str _ _ p.isList hu⟩
  | tup ds =>
   unfold Dt.dep at hn
   unfold DV at h1
   obtain ⟨a,xs,rfl,q1,w1⟩:=id h1
   cases r1
   obtain ⟨its,rv,p0,_⟩:=I.tuple q1
   have p:s.heap.IsTuple a its.toArray:=p0
   cases e with
   | tup es =>
    unfold DV at h2
    obtain ⟨b,ys,rfl,q2,w2⟩:=id h2
    cases r2
    obtain ⟨jts,rv2,p20,_⟩:=I.tuple q2
    have p2:s.heap.IsTuple b jts.toArray:=p20
    have l1:its.toArray.size=ds.length:=by rw [List.size_toArray,<- rv.length,w1.length]
    have l2:jts.toArray.size=es.length:=by rw [List.size_toArray,<- rv2.length,w2.length]
    have hi:=items ds es xs ys its jts (by omega) w1 w2 rv rv2
    have ev:((List.range (min its.toArray.size jts.toArray.size)).all (fun j=>Dt.eq (ds.getD j .non) (es.getD j .non))&&its.toArray.size==jts.toArray.size)=Dt.eqs ds es:=by
     rw [l1,l2]
     by_cases hl:ds.length=es.length
     .rw [<- Dt.eqs_range ds es hl,hl,Nat.min_self]
      simp
     .rw [Dt.eqs_len ds es hl]
      simp [hl]
    have rcs:RcAt A s (.ref a) (.ref b) (Dt.eq (.tup ds) (.tup es))/\RcNeAt A s (.ref a) (.ref b) (!Dt.eq (.tup ds) (.tup es)):=by
     unfold Dt.eq
     rw [<- ev]
     exact ⟨RcAt.tuples p p2 hu hi,RcNeAt.tuples p p2 hu hi⟩
    exact ⟨wrap a b rfl rfl rfl rfl rcs.1,rcs⟩
   | lst es =>
    unfold DV at h2
    obtain ⟨b,ys,rfl,q2,w2⟩:=id h2
    cases r2
    obtain ⟨jts,rv2,p2,_⟩:=I.list q2
    unfold Dt.eq
    exact ⟨EqAt.tuple_list p p2.isList hu,RcAt.tuple_list p p2.isList hu,RcNeAt.tuple_list p p2.isList hu⟩
   | non=>unfold DV at h2;subst h2;cases r2;unfold Dt.eq;exact ⟨EqAt.tuple_none p hu,RcAt.tuple_none p hu,RcNeAt.tuple_none p hu⟩
   | bl b=>unfold DV at h2;subst h2;cases r2;unfold Dt.eq;exact ⟨EqAt.tuple_bool _ p hu,RcAt.tuple_bool _ p hu,RcNeAt.tuple_bool _ p hu⟩
   | int b=>unfold DV at h2;subst h2;obtain ⟨t,rfl⟩:=r2;unfold Dt.eq;exact ⟨EqAt.tuple_int _ _ p hu,RcAt.tuple_int _ _ p hu,RcNeAt.tuple_int _ _ p hu⟩
   | str b=>unfold DV at h2;subst h2;obtain ⟨t,rfl⟩:=r2;unfold Dt.eq;exact ⟨EqAt.tuple_str _ _ p hu,RcAt.tuple_str _ _ p hu,RcNeAt.tuple_str _ _ p hu⟩
  | non=>exact ih _ e x y u v A (by unfold Dt.dep;omega) (by omega) h1 h2 r1 r2
  | bl b=>exact ih _ e x y u v A (by unfold Dt.dep;omega) (by omega) h1 h2 r1 r2
  | int b=>exact ih _ e x y u v A (by unfold Dt.dep;omega) (by omega) h1 h2 r1 r2
  | str b=>exact ih _ e x y u v A (by unfold Dt.dep;omega) (by omega) h1 h2 r1 r2
end
def rEqD (K:PySem.W.Frag):R2:=fun x y H Q=>∃ d e,DV K H d x/\DV K H e y/\d.dep<=64/\Q (.bl (Dt.eq d e)) H
def rNeD (K:PySem.W.Frag):R2:=fun x y H Q=>∃ d e,DV K H d x/\DV K H e y/\d.dep<=64/\Q (.bl (!Dt.eq d e)) H
section
variable {X:Cx}
theorem ZkI (hu:X.A.units+64<cLine):OpR X (compareOp .Eq) (rEqD X.K):=by
 intro pins s σ H x y v u Q I rx ry h
 obtain ⟨d,e,h1,h2,hd,q⟩:=h
 exact (Znx I 64 d e x y v u X.A hd hu h1 h2 rx ry).2.1 _ _ _ _ ⟨.bl (Dt.eq d e),H,I,rfl,q⟩
theorem op_neD (hu:X.A.units+64<cLine):OpR X (compareOp .NotEq) (rNeD X.K):=by
 intro pins s σ H x y v u Q I rx ry h
 obtain ⟨d,e,h1,h2,hd,q⟩:=h
 exact (Znx I 64 d e x y v u X.A hd hu h1 h2 rx ry).2.2 _ _ _ _ ⟨.bl (!Dt.eq d e),H,I,rfl,q⟩
end
noncomputable def Dt.ints (ns:List Int):List Dt:=ns.map Dt.int
section
variable {H:Hp} {Q:VK} {K:PySem.W.Frag} {a b:Addr}
end
mutual
theorem DV.keep {K:PySem.W.Frag} {H H':Hp} (s:Same H H'):∀ {d:Dt} {v:V},DV K H d v->DV K H' d v
 | .non,v,h=>by unfold DV at h |-;exact h
 | .bl b,v,h=>by unfold DV at h |-;exact h
 | .int i,v,h=>by unfold DV at h |-;exact h
 | .str x,v,h=>by unfold DV at h |-;exact h
 | .lst ds,v,h=>by
  unfold DV at h |-
  obtain ⟨a,xs,e,q,r⟩:=h
  exact ⟨a,xs,e,s.seq q,DVs.keep s r⟩
 | .tup ds,v,h=>by
  unfold DV at h |-
  obtain ⟨a,xs,e,q,r⟩:=h
  exact ⟨a,xs,e,s.tup q,DVs.keep s r⟩
theorem DVs.keep {K:PySem.W.Frag} {H H':Hp} (s:Same H H'):∀ {ds:List Dt} {xs:List V},DVs K H ds xs->DVs K H' ds xs
 | [],xs,h=>by unfold DVs at h |-;exact h
 | d::r,xs,h=>by
  unfold DVs at h |-
  obtain ⟨x,t,e,h1,h2⟩:=h
  exact ⟨x,t,e,DV.keep s h1,DVs.keep s h2⟩
end
end L2
namespace L2
open PySem PySem.Spec PyProof.Rows Builtin Builtin.Str
end L2
namespace L2
open PySem PySem.Spec PyProof.Rows Builtin Builtin.Str
abbrev RM:=V->List V->Hp->VK->Prop
section
variable {X:Cx}
variable {o e:Expr} {es:List Expr} {to:TE} {t:TA} {apos cpos:Pos}
end
section
variable {X:Cx} {H:Hp} {Q:VK} {K:PySem.W.Frag} {z y:Str} {p:Addr} {ts:List Str}
end
end L2
namespace L2
open PySem PySem.Spec PyProof.Rows Builtin Builtin.Str
end L2
namespace L2
open PySem PySem.Spec PyProof.Rows Builtin Builtin.Str
def rIsN:R2:=fun x y H Q=>y=.non/\Q (.bl (decide (x=.non))) H
section
variable {X:Cx} {σ:St} {H:Hp} {Q:VK} {K:PySem.W.Frag} {z y:Str} {R:Prop}
theorem ZeD:OpR X (compareOp .Is) rIsN:=op_isN
theorem Zoh (q:Q (.bl true) H):rIsN .non .non H Q:=⟨rfl,by rw [decide_eq_true rfl];exact q⟩
theorem Zoi {p:Addr} (q:Q (.bl false) H):rIsN (.ref p) .non H Q:=⟨rfl,by rw [decide_eq_false (fun e=>nomatch e)];exact q⟩
end
theorem Zmr {α:Type} {xs:List α} {i:Int} (h0:0<=i) (h:i<xs.length):∃ c,atI xs i=some c/\xs[i.toNat]?=some c:=by
 have hl:i.toNat<xs.length:=by omega
 exact ⟨xs[i.toNat],ZcD (i:=i.toNat) (by simp [hl]) (by omega),by simp [hl]⟩
section
variable {H:Hp} {Q:VK} {z y:Str} {i:Int} {lo hi:Option Int}
end
def ZkJ (K:PySem.W.Frag):RC:=fun xs H Q=>∃ p ys,xs=[.ref p]/\(SqL K H p ys\/SqT K H p ys)/\∀ l,H l=none->Q (.ref l) (upd H l (.lst ys))
theorem ZkK {X:Cx}:CallR X (.type "list") (ZkJ X.K):=ZgE
section
variable {H:Hp} {Q:VK} {K:PySem.W.Frag} {p:Addr} {xs:List V}
theorem ZfO (h:SqL K H p xs) (q:∀ l,H l=none->Q (.ref l) (upd H l (.lst xs))):ZkJ K [.ref p] H Q:=⟨p,xs,rfl,.inl h,q⟩
end
structure ClsF (K:PySem.W.Frag) (mg:Str->Option Value) (x:Str) (C:Addr):Prop where
 cl:Cls K C
 ms:PySem.W.makesIn K C=true
 kc:PySem.W.keepIn K (.ref C)=true
 mgC:mg x=some (.ref C)
def ZaG (K:PySem.W.Frag) (C:Addr) (m qual:Str) (st:Stmt):Prop:=∃ f fd,Fun K m qual st f fd/\PySem.W.findIn K (.ref C) m=some (some (.ref f))/\PySem.W.isFn K (.ref f)=true
def MCal (P:Program) (w:World) (K:PySem.W.Frag) (mg:Str->Option Value) (base:Heap) (k:Nat) (C:Addr) (m:Str) (sp:Sp):Prop :=
 Cls K C/\∃ f fd ps,Meth K C m f/\FnOk P w K mg base CX0 k f fd ps sp/\Binds K fd ps []
def ICal (P:Program) (w:World) (K:PySem.W.Frag) (mg:Str->Option Value) (base:Heap) (k:Nat) (x:Str) (C:Addr) (sp:Sp):Prop :=
 mg x=some (.ref C)/\∃ f fd ps,Mk K C f/\FnOk P w K mg base CX0 k f fd ps sp/\Binds K fd ps []
section
variable {P:Program} {w:World} {K:PySem.W.Frag} {mg:Str->Option Value} {base:Heap}
theorem ZkL {C:Addr} {m qual:Str} {st:Stmt} {f:Addr} {oc:Value} {od an:Option Addr} {osl:Array (Option Value)} {kV doc pm cdv ct:Value}
  (a:PySem.W.findIn K (.ref C) m=some (some (.ref f))) (i:PySem.W.isFn K (.ref f)=true) (l:K.lookup f=some ⟨oc,od,.func (PySem.W.fnOf m qual (Zbd st) (ZaZ st) (Zaf st) .none kV doc pm an cdv ct),osl⟩)
  (c:PySem.W.codeIn K cdv qual=true) (k:PySem.W.keepIn K (.ref f)=true):ZaG K C m qual st:=⟨f,_,Znr l c k,a,i⟩
theorem Za4 {C:Addr} {m qual:Str} {st:Stmt} {N ps:List Str} {k:Nat} {sp:Sp} (D:ZaG K C m qual st) (c:Cls K C) (S:FnScope N ps (Zaf st)) (len:∀ vs H Q E,sp vs H Q E->vs.length=ps.length)
  (hb:∀ (kV doc pm:Value) (an:Option Addr) (cdv ct:Value) (us:List Value),us.length=ps.length->bindArgs (PySem.W.fnOf m qual (Zbd st) (ZaZ st) (Zaf st) .none kV doc pm an cdv ct) ⟨us,[]⟩=pure (ps.zip us))
  (hbody:∀ (f:Addr) (cdv:Value) (A:Around) (outer:List Env) (s:Shared) (H:Hp) (vs:List V) (Q:VK) (E:XK),Room k (A.deeper (envOfC qual (Zaf st) s.heap.objs.size f cdv))->sp vs H Q E ->
   ∃ t,PSs (cxOf CX0 P w K mg base N qual (Zaf st) f cdv A outer s H E).nox (ZaZ st) t/\t { nx:=fun _ H'=>Q .non H',rt:=Q } (start N vs) H):MCal P w K mg base (k+1) C m sp:=by
 obtain ⟨f,fd,F,a,i⟩:=D
 exact ⟨c,f,fd,ps,⟨a,i,F.kp⟩,F.ok S len (hbody f),F.binds hb⟩
theorem ZeE {C:Addr} {x qual:Str} {st:Stmt} {N ps:List Str} {k:Nat} {sp:Sp} (D:ZaG K C "__init__" qual st) (c:ClsF K mg x C) (S:FnScope N ps (Zaf st)) (len:∀ vs H Q E,sp vs H Q E->vs.length=ps.length)
  (hb:∀ (kV doc pm:Value) (an:Option Addr) (cdv ct:Value) (us:List Value),us.length=ps.length->bindArgs (PySem.W.fnOf "__init__" qual (Zbd st) (ZaZ st) (Zaf st) .none kV doc pm an cdv ct) ⟨us,[]⟩=pure (ps.zip us))
  (hbody:∀ (f:Addr) (cdv:Value) (A:Around) (outer:List Env) (s:Shared) (H:Hp) (vs:List V) (Q:VK) (E:XK),Room k (A.deeper (envOfC qual (Zaf st) s.heap.objs.size f cdv))->sp vs H Q E ->
   ∃ t,PSs (cxOf CX0 P w K mg base N qual (Zaf st) f cdv A outer s H E).nox (ZaZ st) t/\t { nx:=fun _ H'=>Q .non H',rt:=Q } (start N vs) H):ICal P w K mg base (k+1) x C sp:=by
 obtain ⟨f,fd,F,a,i⟩:=D
 exact ⟨c.mgC,f,fd,ps,⟨c.ms,a,i,c.kc⟩,F.ok S len (hbody f),F.binds hb⟩
theorem MCal.mono {j k:Nat} {C:Addr} {m:Str} {sp:Sp} (c:MCal P w K mg base j C m sp) (h:j<=k):MCal P w K mg base k C m sp :=
 let ⟨cl,f,fd,ps,M,F,b⟩:=c
 ⟨cl,f,fd,ps,M,F.mono h,b⟩
end
section
variable {X:Cx} {k:Nat} {C:Addr} {sp:Sp} {x m:Str} {p pos apos:Pos} {e o:Expr} {es:List Expr} {ta:TE} {t:TA}
theorem ZaN {pl:Sem Bool} (c:MCal X.prog X.w X.K X.mg X.base k C m sp) (hr:Room k X.A) (he:PE X o ta) (ha:PA X (e::es) t)
  (hst:starEach (e::es) X.env=(false,eval e X.env)::starEach es X.env:=by rfl) (hpl:(backTo pos (starEach es X.env)).any (·.1)=false:=by rfl)
  (ht:eval (.Call (.Attribute o m apos) (e::es) [] pos) X.env=(do
   let ov <- eval o X.env
   standAt apos.atName
   let (f,first) <- holding [ov] (getMethod ov m pl)
   callWith pos f first (backTo pos (starEach (e::es) X.env)) (backToKw pos (keywordEach [] X.env))):=by rfl) :
  PE X (.Call (.Attribute o m apos) (e::es) [] pos) (tMeth C m sp [] E0 ta t):=by
 obtain ⟨cl,f,fd,ps,M,F,b⟩:=c
 exact ZnR he cl M F hr b .nil pass0 ha hst hpl ht
theorem Zdn {pl:Sem Bool} (c:MCal X.prog X.w X.K X.mg X.base k C m sp) (hr:Room k X.A) (he:PE X o ta)
  (ht:eval (.Call (.Attribute o m apos) [] [] pos) X.env=(do
   let ov <- eval o X.env
   standAt apos.atName
   let (f,first) <- holding [ov] (getMethod ov m pl)
   callWith pos f first (backTo pos (starEach [] X.env)) (backToKw pos (keywordEach [] X.env))):=by rfl) :
  PE X (.Call (.Attribute o m apos) [] [] pos) (tMeth C m sp [] E0 ta tNil):=by
 obtain ⟨cl,f,fd,ps,M,F,b⟩:=c
 exact Zl8 he cl M F hr b .nil pass0 ht
theorem ZeF (c:ICal X.prog X.w X.K X.mg X.base k x C sp) (hr:Room (k+1) X.A) (hg:Gl X x) (ha:PA X (e::es) t) (hdb:(x==("__debug__" : Str))=false:=by decide)
  (he:starEach (e::es) X.env=(false,eval e X.env)::starEach es X.env:=by rfl) (hpl:(backTo pos (starEach es X.env)).any (·.1)=false:=by rfl) :
  PE X (.Call (.Name x p) (e::es) [] pos) (tMake C sp [] E0 t):=by
 obtain ⟨m,f,fd,ps,M,F,b⟩:=c
 exact Zka M F hr hg m b .nil pass0 ha hdb he hpl
def tMethD (T:Addr->Sp->Prop) (m:Str) (ta:TE) (t:TA):TE:=fun σ H Q=>ta σ H fun x H1=>∃ a C dx fs sp,x=.ref a/\H1 a=some (.ins C dx fs)/\fs.lookup m=none/\T C sp/\t σ H1 fun vs H2=>sp (x::vs) H2 Q E0
theorem ZiT {pl:Sem Bool} {T:Addr->Sp->Prop} (c:∀ C sp,T C sp->MCal X.prog X.w X.K X.mg X.base k C m sp) (hr:Room k X.A) (he:PE X o ta) (ha:PA X (e::es) t)
  (hst:starEach (e::es) X.env=(false,eval e X.env)::starEach es X.env:=by rfl) (hpl:(backTo pos (starEach es X.env)).any (·.1)=false:=by rfl)
  (ht:eval (.Call (.Attribute o m apos) (e::es) [] pos) X.env=(do
   let ov <- eval o X.env
   standAt apos.atName
   let (f,first) <- holding [ov] (getMethod ov m pl)
   callWith pos f first (backTo pos (starEach (e::es) X.env)) (backToKw pos (keywordEach [] X.env))):=by rfl) :
  PE X (.Call (.Attribute o m apos) (e::es) [] pos) (tMethD T m ta t):=by
 intro pins s σ H Q I h
 refine PySem.W.methodCall_KW (pl:=pl) (thn (he pins s σ H _ I h) fun u s1 ⟨x,H1,I1,rx,a,C,dx,fs,sp,ex,ea,l,hT,q⟩=>?_) ht
 obtain ⟨cl,f,fd,ps,M,F,b⟩:=c C sp hT
 subst ex
 obtain rfl:u=Value.ref a:=rx
 refine ZbX I1 ea cl M l ?_
 refine PySem.W.callWith_K (first:=[.ref a]) (h₀:=X.base) I.ok.mod.kin M.kp (thn (ha pos pins s1 σ H1 _ I1 q) fun us s2 ⟨vs,H2,I2,r,q2⟩=>⟨I2.kIn,?_⟩) hst hpl
 exact Zfq (us:=.ref a::us) (vs:=.ref a::vs) (dvs:=[]) (E:=E0) F hr b .nil pass0 I2 (.cons rfl r) (by rw [List.append_nil];exact q2)
theorem ZgS {pl:Sem Bool} {T:Addr->Sp->Prop} (c:∀ C sp,T C sp->MCal X.prog X.w X.K X.mg X.base k C m sp) (hr:Room k X.A) (he:PE X o ta)
  (ht:eval (.Call (.Attribute o m apos) [] [] pos) X.env=(do
   let ov <- eval o X.env
   standAt apos.atName
   let (f,first) <- holding [ov] (getMethod ov m pl)
   callWith pos f first (backTo pos (starEach [] X.env)) (backToKw pos (keywordEach [] X.env))):=by rfl) :
  PE X (.Call (.Attribute o m apos) [] [] pos) (tMethD T m ta tNil):=by
 intro pins s σ H Q I h
 refine PySem.W.methodCall_KW (pl:=pl) (thn (he pins s σ H _ I h) fun u s1 ⟨x,H1,I1,rx,a,C,dx,fs,sp,ex,ea,l,hT,q⟩=>?_) ht
 obtain ⟨cl,f,fd,ps,M,F,b⟩:=c C sp hT
 subst ex
 obtain rfl:u=Value.ref a:=rx
 refine ZbX I1 ea cl M l ?_
 exact PySem.W.callWith_K0 (first:=[.ref a]) I1.kIn M.kp (Zfq (us:=[.ref a]) (vs:=[.ref a]) (dvs:=[]) (E:=E0) F hr b .nil pass0 I1 (.cons rfl .nil) q)
end
section
variable {σ:St} {H:Hp} {Q:VK} {K:PySem.W.Frag} {a C dx:Addr} {fs:List (Str×V)} {f m:Str} {v:V} {D:Ends} {sp:Sp}
theorem rd_fld {ta:TE} (q:ta σ H fun x H1=>∃ a C dx fs v,x=.ref a/\H1 a=some (.ins C dx fs)/\Cls K C/\NoAttr K C f/\fs.lookup f=some v/\Q v H1):tFld K ta f σ H Q:=q
theorem Zah {R:V->Prop} (h:H a=some (.ins C dx fs)) (c:Cls K C) (n:NoAttr K C f) (l:fs.lookup f=some v) (q:R v):∃ a' C dx fs v,V.ref a=.ref a'/\H a'=some (.ins C dx fs)/\Cls K C/\NoAttr K C f/\fs.lookup f=some v/\R v:=⟨a,C,dx,fs,v,rfl,h,c,n,l,q⟩
theorem Zoj {ta tv:TE} (q:tv σ H fun y H1=>ta σ H1 fun x H2=>∃ a C dx fs,x=.ref a/\H2 a=some (.ins C dx fs)/\Cls K C/\NoAttr K C f/\fs.length<1000/\D.nx σ (upd H2 a (.ins C dx (putF f y fs)))):sFld K ta tv f D σ H:=q
theorem ZaD {R:Hp->Prop} {y:V} (h:H a=some (.ins C dx fs)) (c:Cls K C) (n:NoAttr K C f) (l:fs.length<1000) (q:R (upd H a (.ins C dx (putF f y fs)))):∃ a' C dx fs,V.ref a=.ref a'/\H a'=some (.ins C dx fs)/\Cls K C/\NoAttr K C f/\fs.length<1000/\R (upd H a' (.ins C dx (putF f y fs))):=⟨a,C,dx,fs,rfl,h,c,n,l,q⟩
theorem Zok {ta:TE} {t:TA} (q:ta σ H fun x H1=>∃ a dx fs,x=.ref a/\H1 a=some (.ins C dx fs)/\fs.lookup m=none/\t σ H1 fun vs H2=>sp (x::(vs++[])) H2 Q E0):tMeth C m sp [] E0 ta t σ H Q:=q
theorem Zav {R:Prop} (h:H a=some (.ins C dx fs)) (l:fs.lookup m=none) (q:R):∃ a' dx fs,V.ref a=.ref a'/\H a'=some (.ins C dx fs)/\fs.lookup m=none/\R:=⟨a,dx,fs,rfl,h,l,q⟩
theorem Zms (q:∀ p,H p=none->Q (.ref p) (upd H p (.dK []))):tDNewK σ H Q:=q
theorem Zmt {td ty tx:TE} (q:td σ H fun x H1=>∃ a,x=.ref a/\IsD H1 a/\ty σ H1 fun y H2=>tx σ H2 fun z H3=>∃ o,DGet H3 a y o/\Q (o.getD z) H3):tDGet2 td ty tx σ H Q:=q
theorem isD_k {kvs:List (Key×V)} (h:H a=some (.dK kvs)):IsD H a:=.inl ⟨kvs,.inl h⟩
end
section
variable {σ:St} {H:Hp} {Q:VK} {a:Addr} {kvs:List (Key×V)} {k:Key} {v:V} {R:Prop}
theorem rd_din {ty td:TE} (q:ty σ H fun y H1=>td σ H1 fun x H2=>∃ a o,x=.ref a/\DGet H2 a y o/\Q (.bl o.isSome) H2):tDIn ty td σ H Q:=q
theorem ZkM {ty td:TE} (q:ty σ H fun y H1=>td σ H1 fun x H2=>∃ a o,x=.ref a/\DGet H2 a y o/\Q (.bl (!o.isSome)) H2):Zkn ty td σ H Q:=q
theorem Zol {td ty:TE} (q:td σ H fun x H1=>ty σ H1 fun y H2=>∃ a v,x=.ref a/\DGet H2 a y (some v)/\Q v H2):tDGet td ty σ H Q:=q
theorem Zom {td ty tv:TE} {D:Ends} (q:tv σ H fun v H1=>td σ H1 fun x H2=>ty σ H2 fun y H3=>∃ a H4,x=.ref a/\DPut H3 a y v H4/\D.nx σ H4):sDPut td ty tv D σ H:=q
theorem ZiU {S:Hp->Prop} {i:Int} (h:H a=some (.dK kvs)) (hl:kvs.length<sizeLine) (q:S (upd H a (.dK (putK kvs (Sum.inl i) v)))):∃ a' H4,V.ref a=.ref a'/\DPut H a' (.int i) v H4/\S H4:=⟨a,_,rfl,DPut.k (k:=Sum.inl i) h hl,q⟩
end
theorem SqL.updI {K:PySem.W.Frag} {H:Hp} {a p C dx:Addr} {fs:List (Str×V)} {xs:List V} {o:HO} (h:SqL K H a xs) (n:H p=some (.ins C dx fs)):SqL K (upd H p o) a xs:=by
 rcases h with (h|⟨ob,h⟩)|h
 .exact .inl (.inl (by rw [Zaj (Za6 h n (by intro z;cases z))];exact h))
 .exact .inl (.inr ⟨ob,by rw [Zaj (Za6 h n (by intro z;cases z))];exact h⟩)
 .exact .inr h
theorem Same.wr {H H':Hp} {l:Addr} {o:HO} (s:Same H H') (n:H l=none):Same H (upd H' l o):=fun b u e=>by rw [Zaj (Zam e n)];exact s b u e
theorem Same.fresh {H H':Hp} {q:Addr} (s:Same H H') (hq:H' q=none):H q=none:=by
 cases e:H q with
 | none=>rfl
 | some o=>rw [s _ _ e] at hq;cases hq
theorem Zon {bs:List Bool} {us:List Value} (r:Vals (bs.map V.bl) us):us=bs.map Value.bool:=by
 induction bs generalizing us with
 | nil=>cases r;rfl
 | cons b bs ih =>
  cases r with
  | cons h t =>
   have e:_=Value.bool b:=h
   rw [e,ih t]
   rfl
section
variable {σ:St} {H:Hp} {p:Addr}
end
section
variable {σ:St} {H:Hp} {p:Addr} {xs:List V} {v:V}
theorem Zoo {to ti:TE} {t:TSet} {Q:St->Hp->Prop} (q:to σ H fun o H1=>ti σ H1 fun i H2=>t o i v H2 fun H3=>Q σ H3):gSub to ti t v σ H Q:=q
theorem ZfP {Q:Hp->Prop} {k:Int} {j:Nat} (h:H p=some (.lst xs)) (hj:ixN xs.length k=some j) (q:Q (upd H p (.lst (xs.set j v)))):rSetL (.ref p) (.int k) v H Q:=⟨p,xs,k,j,rfl,rfl,h,hj,q⟩
theorem ZhM {n j:Nat} {k:Int} (e:k=(j:Int)) (h:j<n):ixN n k=some j:=by
 unfold ixN
 rw [if_pos (by omega),if_pos (by omega),e,Int.toNat_natCast]
theorem ZkN {n j:Nat} {k:Int} (hk:k<0) (e:k+n=(j:Int)):ixN n k=some j:=by
 unfold ixN
 rw [if_neg (by omega),if_pos (by omega),e,Int.toNat_natCast]
end
section
variable {σ:St} {H:Hp} {p a:Addr} {K:PySem.W.Frag} {xs:List V}
end
mutual
theorem Dt.eq_self:∀ d:Dt,Dt.eq d d=true
 | .non=>by unfold Dt.eq;rfl
 | .bl b=>by unfold Dt.eq;exact beq_self_eq_true b
 | .int i=>by unfold Dt.eq;exact beq_self_eq_true i
 | .str x=>by unfold Dt.eq;exact beq_self_eq_true x
 | .lst ds=>by unfold Dt.eq;exact Dt.eqs_self ds
 | .tup ds=>by unfold Dt.eq;exact Dt.eqs_self ds
theorem Dt.eqs_self:∀ ds:List Dt,Dt.eqs ds ds=true
 | []=>by unfold Dt.eqs;rfl
 | d::r=>by unfold Dt.eqs;rw [Dt.eq_self d,Dt.eqs_self r];rfl
end
section
variable {K:PySem.W.Frag} {H:Hp} {Q:VK} {x y:V} {d:Dt}
theorem ZhN (h1:DV K H d x) (h2:DV K H d y) (hd:d.dep<=64) (q:Q (.bl true) H):rEqD K x y H Q:=⟨d,d,h1,h2,hd,by rw [Dt.eq_self];exact q⟩
theorem Zop (h1:DV K H d x) (h2:DV K H d y) (hd:d.dep<=64) (q:Q (.bl false) H):rNeD K x y H Q:=⟨d,d,h1,h2,hd,by rw [Dt.eq_self];exact q⟩
theorem ZaU {i:Int}:DV K H (.int i) (.int i):=by unfold DV;rfl
theorem ZdY {i:Str}:DV K H (.str i) (.str i):=by unfold DV;rfl
theorem Za7:DVs K H [] []:=by unfold DVs;rfl
theorem Zat {d:Dt} {r:List Dt} {x:V} {t:List V} (h:DV K H d x) (h2:DVs K H r t):DVs K H (d::r) (x::t):=by unfold DVs;exact ⟨x,t,rfl,h,h2⟩
theorem ZcP {a:Addr} {xs:List V} {ds:List Dt} (h:SqT K H a xs) (h2:DVs K H ds xs):DV K H (.tup ds) (.ref a):=by unfold DV;exact ⟨a,xs,rfl,h,h2⟩
theorem Zfz {a:Addr} {xs:List V} {ds:List Dt} (h:SqL K H a xs) (h2:DVs K H ds xs):DV K H (.lst ds) (.ref a):=by unfold DV;exact ⟨a,xs,rfl,h,h2⟩
end
theorem Zjw {ns:List V} {m n:Nat}:cutV ns (some (m:Int)) (some (n:Int))=(ns.drop m).take (n-m):=by
 have e:HT.sIx ns.length ns.length (some (n:Int))=min n ns.length:=by
  unfold HT.sIx
  simp only []
  split<;>omega
 have e0:HT.sIx ns.length 0 (some (m:Int))=min m ns.length:=by
  unfold HT.sIx
  simp only []
  split<;>omega
 unfold cutV
 rw [e,e0]
 by_cases h:m<=ns.length
 .rw [Nat.min_eq_left h,List.take_eq_take_iff,List.length_drop]
  omega
 .rw [Nat.min_eq_right (show ns.length<=m by omega),List.drop_length,List.drop_eq_nil_of_le (show ns.length<=m by omega),List.take_nil,List.take_nil]
theorem Zmu {σ σ':St} {H:Hp} {i:Nat} {v:V} {R:St->Hp->Prop} (e:σ.set i (some v)=σ') (q:R σ' H):gName i v σ H R:=by subst e;exact q
theorem Zoq {σ:St} {H:Hp} {Q:VK} {C:Addr} {sp:Sp} {t:TA} (q:t σ H fun vs H1=>∀ x dx,H1 x=none->H1 dx=none->dx≠x->sp (.ref x::(vs++[])) (upd (upd H1 dx (.own x)) x (.ins C dx [])) (fun v H2=>v=.non/\Q (.ref x) H2) E0):tMake C sp [] E0 t σ H Q:=q
theorem Same.made {H H':Hp} {x dx C:Addr} {o:HO} (hx:H x=none) (hd:H dx=none) (k:∀ b u,(upd (upd H dx o) x (.ins C dx [])) b=some u->b≠x->H' b=some u):Same H H':=fun b u e =>
 k b u (by rw [Zaj (Zam e hx),Zaj (Zam e hd)];exact e) (Zam e hx)
def Imm (u:HO):Prop:=(∃ xs,u=.tup xs)\/∃ o w,u=.frz o w
def SameI (H H':Hp):Prop:=∀ b u,H b=some u->Imm u->H' b=some u
theorem SameI.refl (H:Hp):SameI H H:=fun _ _ h _=>h
theorem SameI.trans {H H1 H2:Hp} (a:SameI H H1) (b:SameI H1 H2):SameI H H2:=fun c u h i=>b c u (a c u h i) i
theorem Same.imm {H H':Hp} (s:Same H H'):SameI H H':=fun b u h _=>s b u h
theorem SameI.upd {H:Hp} {a:Addr} {u o:HO} (h:H a=some u) (n:¬ Imm u):SameI H (upd H a o):=fun b v e i=>by
 rw [Zaj (Za6 e h (fun z=>n (z▸i)))];exact e
theorem SameI.new {H:Hp} {a:Addr} {o:HO} (h:H a=none):SameI H (L2.upd H a o):=(Same.new h).imm
theorem SameI.tup {K:PySem.W.Frag} {H H':Hp} {a:Addr} {xs:List V} (e:SameI H H') (h:SqT K H a xs):SqT K H' a xs:=by
 rcases h with (h|⟨o,h⟩)|h
 .exact .inl (.inl (e _ _ h (.inl ⟨_,rfl⟩)))
 .exact .inl (.inr ⟨o,e _ _ h (.inr ⟨_,_,rfl⟩)⟩)
 .exact .inr h
theorem Zbh {xs:List V}:¬ Imm (.lst xs):=by rintro (⟨_,z⟩|⟨_,_,z⟩)<;>cases z
theorem ZgT {kvs:List (Key×V)}:¬ Imm (.dK kvs):=by rintro (⟨_,z⟩|⟨_,_,z⟩)<;>cases z
theorem ZcG {C dx:Addr} {fs:List (Str×V)}:¬ Imm (.ins C dx fs):=by rintro (⟨_,z⟩|⟨_,_,z⟩)<;>cases z
def SameND (H H':Hp):Prop:=∀ b u,H b=some u->(∀ kvs,u≠.dK kvs)->H' b=some u
theorem SameND.refl (H:Hp):SameND H H:=fun _ _ h _=>h
theorem SameND.trans {H H1 H2:Hp} (a:SameND H H1) (b:SameND H1 H2):SameND H H2:=fun c u h i=>b c u (a c u h i) i
theorem Same.nd {H H':Hp} (s:Same H H'):SameND H H':=fun b u h _=>s b u h
theorem SameND.imm {H H':Hp} (s:SameND H H'):SameI H H':=fun b u h i=>s b u h (by
 rintro kvs rfl
 exact ZgT i)
theorem SameND.seq {K:PySem.W.Frag} {H H':Hp} {a:Addr} {xs:List V} (e:SameND H H') (h:SqL K H a xs):SqL K H' a xs:=by
 rcases h with (h|⟨o,h⟩)|h
 .exact .inl (.inl (e _ _ h (by intro _ z;cases z)))
 .exact .inl (.inr ⟨o,e _ _ h (by intro _ z;cases z)⟩)
 .exact .inr h
abbrev Row:=Str×Option Int
noncomputable def rowVs:Row->List V
 | (w,none)=>[.str w]
 | (w,some n)=>[.str w,.int n]
noncomputable def rowD:Row->Dt
 | (w,none)=>.tup [.str w]
 | (w,some n)=>.tup [.str w,.int n]
def RowAt (K:PySem.W.Frag) (H:Hp) (r:Row) (v:V):Prop:=∃ t,v=.ref t/\SqT K H t (rowVs r)
def RowsAt (K:PySem.W.Frag) (H:Hp) (rs:List Row) (xs:List V):Prop:=rs.length=xs.length/\∀ (i:Nat) (r:Row) (x:V),rs[i]?=some r->xs[i]?=some x->RowAt K H r x
theorem RowAt.keep {K:PySem.W.Frag} {H H':Hp} {r:Row} {v:V} (h:RowAt K H r v) (s:SameI H H'):RowAt K H' r v:=let ⟨t,e,q⟩:=h;⟨t,e,s.tup q⟩
theorem RowsAt.keep {K:PySem.W.Frag} {H H':Hp} {rs:List Row} {xs:List V} (h:RowsAt K H rs xs) (s:SameI H H'):RowsAt K H' rs xs:=⟨h.1,fun i r x h1 h2=>(h.2 i r x h1 h2).keep s⟩
theorem RowsAt.nil {K:PySem.W.Frag} {H:Hp}:RowsAt K H [] []:=⟨rfl,fun i r x h=>by simp at h⟩
theorem RowsAt.tail {K:PySem.W.Frag} {H:Hp} {r:Row} {rs:List Row} {x:V} {xs:List V} (h:RowsAt K H (r::rs) (x::xs)):RowAt K H r x/\RowsAt K H rs xs :=
 ⟨h.2 0 r x rfl rfl,by have:=h.1;simpa using this,fun i r' x' h1 h2=>h.2 (i+1) r' x' (by simpa using h1) (by simpa using h2)⟩
theorem RowsAt.cons {K:PySem.W.Frag} {H:Hp} {r:Row} {rs:List Row} {x:V} {xs:List V} (h1:RowAt K H r x) (h:RowsAt K H rs xs):RowsAt K H (r::rs) (x::xs):=by
 refine ⟨by simp [h.1],fun i r' x' e1 e2=>?_⟩
 cases i with
 | zero=>cases e1;cases e2;exact h1
 | succ i=>exact h.2 i r' x' (by simpa using e1) (by simpa using e2)
theorem RowAt.dv {K:PySem.W.Frag} {H:Hp} {r:Row} {v:V} (h:RowAt K H r v):DV K H (rowD r) v:=by
 obtain ⟨t,rfl,q⟩:=h
 obtain ⟨w,o⟩:=r
 cases o with
 | none=>exact ZcP q (Zat ZdY Za7)
 | some n=>exact ZcP q (Zat ZdY (Zat ZaU Za7))
theorem RowsAt.dvs {K:PySem.W.Frag} {H:Hp}:∀ {rs:List Row} {xs:List V},RowsAt K H rs xs->DVs K H (rs.map rowD) xs
 | [],[],_=>Za7
 | r::rs,x::xs,h=>Zat h.tail.1.dv h.tail.2.dvs
 | [],x::xs,h=>by have:=h.1;simp at this
 | r::rs,[],h=>by have:=h.1;simp at this
noncomputable def putFn (f:Int->Int) (i v:Int):Int->Int:=fun j=>if j=i then v else f j
def DictF (H:Hp) (d:Addr) (f:Int->Int) (m:Nat):Prop:=∃ kvs,H d=some (.dK kvs)/\kvs.length<=m/\∀ i:Int,(valV kvs (Sum.inl i:Key)).getD (.int 0)=.int (f i)
def StoreAt (H:Hp) (d:Addr) (f:Int->Int) (m:Nat):Prop:=∃ kvs,H d=some (.dK kvs)/\kvs.length<=m/\(kvs.map (·.1)).Nodup/\(∀ p∈kvs,∃ i n:Int,p=(Sum.inl i,.int n)/\n≠0)/\∀ i:Int,(valV kvs (Sum.inl i:Key)).getD (.int 0)=.int (f i)
theorem DictF.put {H:Hp} {d:Addr} {kvs:List (Key×V)} {f:Int->Int} {m:Nat} (hl:kvs.length<=m) (hf:∀ i:Int,(valV kvs (Sum.inl i:Key)).getD (.int 0)=.int (f i)) (i v:Int):DictF (upd H d (.dK (putK kvs (Sum.inl i) (.int v)))) d (putFn f i v) (m+1):=by
 refine ⟨_,Zag,Nat.le_trans (ZbG ..) (Nat.add_le_add_right hl 1),fun j=>?_⟩
 rw [ZfI]
 unfold putFn
 by_cases e:j=i
 .subst e
  rw [if_pos rfl,if_pos rfl]
  rfl
 .rw [if_neg (fun z=>e (Sum.inl.inj z)),if_neg e]
  exact hf j
theorem ZgU {κ:Type} [DecidableEq κ] (k j:κ):∀ kvs:List (κ×V),valV (dropK kvs k) j=if j=k then none else valV kvs j
 | []=>by
  have:dropK ([]:List (κ×V)) k=[]:=rfl
  rw [this,Zmc]
  split<;>rfl
 | p::r=>by
  have ih:=ZgU k j r
  by_cases e:p.1=k
  .rw [ZgL e,ih]
   by_cases z:j=k
   .rw [if_pos z,if_pos z]
   .rw [if_neg z,if_neg z,Zbe (fun q=>z (q.symm.trans e))]
  .rw [ZgM e]
   by_cases q:p.1=j
   .rw [Zbg q,Zbg q,if_neg (fun z=>e (q.trans z))]
   .rw [Zbe q,Zbe q,ih]
theorem ZkO {κ:Type} [DecidableEq κ] {kvs:List (κ×V)} {k:κ} (v:V) (hn:(kvs.map (·.1)).Nodup):((putK kvs k v).map (·.1)).Nodup:=by
 cases e:valV kvs k with
 | none=>exact Zn0 v hn e
 | some u =>
  have hk:(kvs.any fun kv=>decide (kv.1=k))=true:=by rw [Zb1,e];rfl
  unfold putK
  rw [if_pos hk,List.map_map]
  have:((fun x:κ×V=>x.1) ∘ fun kv:κ×V=>if kv.1=k then (kv.1,v) else kv)=fun x=>x.1:=by
   funext x
   show (if x.1=k then (x.1,v) else x).1=x.1
   split<;>rfl
  rw [this]
  exact hn
theorem Zmv {κ:Type} [DecidableEq κ] {kvs:List (κ×V)} {k:κ} {v:V} {p:κ×V} (h:p∈putK kvs k v):p=(k,v)\/p∈kvs:=by
 unfold putK at h
 split at h
 .obtain ⟨q,hq,e⟩:=List.mem_map.mp h
  by_cases z:q.1=k
  .rw [if_pos z] at e;left;rw [<- e,z]
  .rw [if_neg z] at e;right;rw [<- e];exact hq
 .rcases List.mem_append.mp h with h|h
  .exact .inr h
  .exact .inl (List.mem_singleton.mp h)
theorem StoreAt.put {H:Hp} {d:Addr} {kvs:List (Key×V)} {f:Int->Int} {m:Nat} (hl:kvs.length<=m) (hn:(kvs.map (·.1)).Nodup) (hz:∀ p∈kvs,∃ i n:Int,p=(Sum.inl i,.int n)/\n≠0) (hf:∀ i:Int,(valV kvs (Sum.inl i:Key)).getD (.int 0)=.int (f i)) (i v:Int) (hv:v≠0) :
  StoreAt (upd H d (.dK (putK kvs (Sum.inl i) (.int v)))) d (putFn f i v) (m+1):=by
 obtain ⟨kvs',e1,e2,e3⟩:=DictF.put (H:=H) (d:=d) hl hf i v
 rw [Zag] at e1
 cases e1
 refine ⟨_,Zag,e2,ZkO _ hn,fun p hp=>?_,e3⟩
 rcases Zmv hp with rfl|hp
 .exact ⟨i,v,rfl,hv⟩
 .exact hz p hp
theorem StoreAt.drop {H:Hp} {d:Addr} {kvs:List (Key×V)} {f:Int->Int} {m:Nat} (hl:kvs.length<=m) (hn:(kvs.map (·.1)).Nodup) (hz:∀ p∈kvs,∃ i n:Int,p=(Sum.inl i,.int n)/\n≠0) (hf:∀ i:Int,(valV kvs (Sum.inl i:Key)).getD (.int 0)=.int (f i)) (i:Int) :
  StoreAt (upd H d (.dK (dropK kvs (Sum.inl i)))) d (putFn f i 0) (m+1):=by
 refine ⟨_,Zag,Nat.le_trans (ZfJ ..) (Nat.le_trans hl (Nat.le_succ _)),ZfK hn,fun p hp=>hz p (ZgN hp),fun j=>?_⟩
 rw [ZgU]
 unfold putFn
 by_cases e:j=i
 .subst e
  rw [if_pos rfl,if_pos rfl]
  rfl
 .rw [if_neg (fun z=>e (Sum.inl.inj z)),if_neg e]
  exact hf j
theorem StoreAt.same {H H':Hp} {d:Addr} {f:Int->Int} {m:Nat} (h:StoreAt H d f m) (e:H' d=H d):StoreAt H' d f m:=let ⟨kvs,a,b⟩:=h;⟨kvs,e.trans a,b⟩
theorem DictF.same {H H':Hp} {d:Addr} {f:Int->Int} {m:Nat} (h:DictF H d f m) (e:H' d=H d):DictF H' d f m:=let ⟨kvs,a,b⟩:=h;⟨kvs,e.trans a,b⟩
theorem StoreAt.le {H:Hp} {d:Addr} {f:Int->Int} {m m':Nat} (h:StoreAt H d f m) (e:m<=m'):StoreAt H d f m':=let ⟨kvs,a,b,c⟩:=h;⟨kvs,a,Nat.le_trans b e,c⟩
theorem DictF.le {H:Hp} {d:Addr} {f:Int->Int} {m m':Nat} (h:DictF H d f m) (e:m<=m'):DictF H d f m':=let ⟨kvs,a,b,c⟩:=h;⟨kvs,a,Nat.le_trans b e,c⟩
section
variable {σ:St} {H:Hp} {Q:VK} {a:Addr} {kvs:List (Key×V)}
theorem Zmw {td ty tx:TE} (q:td σ H fun x H1=>∃ a,x=.ref a/\IsD H1 a/\ty σ H1 fun y H2=>tx σ H2 fun z H3=>∃ kvs k,H3 a=some (.dK kvs)/\y=kV k/\(∀ v,valV kvs k=some v->Q v (upd H3 a (.dK (dropK kvs k))))/\(valV kvs k=none->Q z H3)):tDPop2 td ty tx σ H Q:=q
end
section
variable {σ:St} {H:Hp} {K:PySem.W.Frag} {a l:Addr} {xs:List V} {n:Nat} {t:TGs} {Q:St->Hp->Prop} {v:V} {r:List V} {g:TG} {u:TGs}
end
section
variable {σ:St} {H:Hp} {p a:Addr} {K:PySem.W.Frag} {xs:List V}
def compNx (Pv:Nat->Hp->Prop) (i:Nat) (σ:St):St->Hp->Prop:=fun σ2 H2=>Pv i H2/\∃ v,σ2=v::σ
theorem ZgV {tc:TT} {te:TE} {R:Hp->Prop} (Pv:Nat->Hp->Prop) (h0:Pv 0 (upd H p (.lst []))) (hl:∀ i H',Pv i H'->SqL K H' a xs)
  (hs:∀ (i:Nat) (x:V) (H':Hp),xs[i]?=some x->Pv i H'->tc (some x::σ) H' fun b H1=>if b=true then te (some x::σ) H1 fun y H2=>∃ ys,H2 p=some (.lst ys)/\ys.length<sizeLine/\compNx Pv (i+1) σ (some x::σ) (upd H2 p (.lst (ys++[y]))) else compNx Pv (i+1) σ (some x::σ) H1)
  (fin:∀ H',Pv xs.length H'->R H'):tLoopC 1 (gName 0) tc te (Itl K a) p R σ H:=by
 refine ⟨fun i m σ' H'=>m=xs.length-i/\i<=xs.length/\Pv i H'/\∃ v,σ'=v::σ,⟨xs.length,by omega,Nat.zero_le _,h0,none,rfl⟩,?_⟩
 rintro i m σ' H' ⟨rfl,hi,hp,v,rfl⟩
 have hs':=hl i H' hp
 by_cases hlt:i<xs.length
 .refine .inr ⟨⟨xs,xs[i],hs',by simp [hlt]⟩,compNx Pv (i+1) σ,fun σ2 H2 ⟨e,v',e'⟩=>⟨xs.length-(i+1),by omega,rfl,hlt,e,v',e'⟩,fun x H1 ⟨e,y⟩=>?_⟩
  subst e
  have hx:=y xs hs'
  refine Zku ?_
  simp only [List.set_cons_zero]
  exact hs i x _ hx hp
 .have e:i=xs.length:=by omega
  subst e
  exact .inl ⟨⟨xs,hs',Nat.le_refl _⟩,fin H' hp⟩
theorem ZkP {σ:St} {H:Hp} {R:Bool->Hp->Prop} (q:R true H):tNoIf σ H R:=q
end
theorem RowsAt.snoc {K:PySem.W.Frag} {H:Hp} {rs:List Row} {xs:List V} {r:Row} {x:V} (h:RowsAt K H rs xs) (h1:RowAt K H r x):RowsAt K H (rs++[r]) (xs++[x]):=by
 refine ⟨by simp [h.1],fun i r' x' e1 e2=>?_⟩
 by_cases hi:i<rs.length
 .rw [List.getElem?_append_left hi] at e1
  rw [List.getElem?_append_left (by rw [<- h.1];exact hi)] at e2
  exact h.2 i r' x' e1 e2
 .have hi2:i=rs.length:=by
   have:=(List.getElem?_eq_some_iff.mp e1).1
   simp at this
   omega
  subst hi2
  rw [List.getElem?_append_right (Nat.le_refl _),Nat.sub_self] at e1
  rw [List.getElem?_append_right (by rw [h.1];exact Nat.le_refl _),h.1,Nat.sub_self] at e2
  cases e1
  cases e2
  exact h1
theorem RowsAt.ins {K:PySem.W.Frag} {H:Hp} {rs:List Row} {xs:List V} {r:Row} {x:V} (h:RowsAt K H rs xs) (h1:RowAt K H r x) (k:Nat):RowsAt K H (rs.take k++r::rs.drop k) (xs.take k++x::xs.drop k):=by
 have ht:RowsAt K H (rs.take k) (xs.take k):=⟨by simp [h.1],fun i r' x' e1 e2=>by
  rw [List.getElem?_take] at e1 e2
  split at e1
  .rename_i hk
   rw [if_pos hk] at e2
   exact h.2 i r' x' e1 e2
  .cases e1⟩
 have hd:RowsAt K H (r::rs.drop k) (x::xs.drop k):=.cons h1 ⟨by simp [h.1],fun i r' x' e1 e2=>by
  rw [List.getElem?_drop] at e1 e2
  exact h.2 _ r' x' e1 e2⟩
 refine ⟨by rw [List.length_append,List.length_append,ht.1,hd.1],fun i r' x' e1 e2=>?_⟩
 by_cases hi:i<(rs.take k).length
 .rw [List.getElem?_append_left hi] at e1
  rw [List.getElem?_append_left (by rw [<- ht.1];exact hi)] at e2
  exact ht.2 i r' x' e1 e2
 .rw [List.getElem?_append_right (by omega)] at e1
  rw [List.getElem?_append_right (by rw [<- ht.1];omega),<- ht.1] at e2
  exact hd.2 _ r' x' e1 e2
end L2
namespace L2
open PySem PySem.Spec PyProof.Rows PySem.Calls PySem.W
section
variable {Pr:Program} {wo:World} {Ar:Around} {Ex:Value->Shared->Prop} {sh:Shared} {Ty:String} {ro di:Addr} {cnt:Nat} {Pp:Nat->Value->Prop} {Okd:Heap->Prop}
end
section
variable {K:PySem.W.Frag} {H:Hp} {Q:VK} {d:Addr} {ns:List Int}
end
section
variable {K:PySem.W.Frag} {H:Hp} {Q:VK} {t l b:Addr}
end
end L2
namespace L2
open PySem PySem.Builtin PySem.Builtin.Str PySem.StrLaws
def Gap (w:Nat):List Nat->Prop
 | []=>True
 | [_]=>True
 | a::b::r=>a+w<=b/\Gap w (b::r)
theorem Gap.tail {w a:Nat} {r:List Nat} (h:Gap w (a::r)):Gap w r:=by
 cases r with
 | nil=>trivial
 | cons b r=>exact h.2
theorem Gap.ge {w a:Nat}:∀ {r:List Nat},Gap w (a::r)->∀ b∈r,a+w<=b
 | [],_,b,hb=>by simp at hb
 | c::r,h,b,hb=>by
  rcases List.mem_cons.mp hb with rfl|hb
  .exact h.1
  .have:=Gap.ge (r:=r) h.2 b hb
   have:=h.1
   omega
end L2
namespace L2
open PySem PySem.Builtin PySem.Builtin.Str PySem.StrLaws
section
variable {X:Cx} {pins:List (Addr×Obj)} {σ:St} {H:Hp} {s:Shared} {a:Addr} {o:Obj} {kvs:List (Key×V)}
end
section
variable {σ:St} {H:Hp} {Q:VK} {D:Ends} {td:TE} {g:TG} {tc:TT} {te:TE} {tb:TS} {k:Nat} {a:Addr} {o:Obj} {kvs:List (Key×V)} {p:Addr}
theorem DGet.frz {k:Key} (e:H a=some (.frz o (.dK kvs))):DGet H a (kV k) (valV kvs k):=.inl ⟨kvs,k,.inr ⟨o,e⟩,rfl,rfl⟩
end
section
variable {K:PySem.W.Frag} {σ:St} {H:Hp} {D:Ends} {a C dx:Addr} {fs:List (Str×V)} {f:Str} {i j:Int}
theorem ZkQ {ta tv:TE} {rd:V->V->Hp->VK->Prop} (q:ta σ H fun x H1=>∃ a C dx fs v,x=.ref a/\H1 a=some (.ins C dx fs)/\Cls K C/\NoAttr K C f/\fs.lookup f=some v/\tv σ H1 fun y H2=>rd v y H2 fun z H3=>∃ dx' fs',H3 a=some (.ins C dx' fs')/\fs'.length<1000/\D.nx σ (upd H3 a (.ins C dx' (putF f z fs')))):Zj8 K ta tv rd f D σ H:=q
theorem Zdo {v:V} {R:Addr->Addr->V->Prop} (h:H a=some (.ins C dx fs)) (c:Cls K C) (n:NoAttr K C f) (l:fs.lookup f=some v) (q:R a C v):∃ a' C dx fs v,V.ref a=.ref a'/\H a'=some (.ins C dx fs)/\Cls K C/\NoAttr K C f/\fs.lookup f=some v/\R a' C v:=⟨a,C,dx,fs,v,rfl,h,c,n,l,q⟩
theorem Zor {Q:VK} (q:Q (.int (i+j)) H):rAdd (.int i) (.int j) H Q:=⟨i,j,rfl,rfl,q⟩
theorem Zos {Q:VK} (q:Q (.int (i-j)) H):rSub (.int i) (.int j) H Q:=⟨i,j,rfl,rfl,q⟩
end
end L2
namespace L2
open PySem PySem.Spec PyProof.Rows PySem.Calls
section
variable {H:Hp} {Q:VK} {σ:St}
end
section
variable {H:Hp} {Q:VK} {σ:St} {K:PySem.W.Frag} {p a:Addr} {xs ys:List V}
end
end L2
namespace L2
open PySem PySem.Spec PyProof.Rows PySem.Calls
theorem KV.at {kvs:List (Key×V)} {vs:List (Key×Value)}:KV kvs vs->∀ {i:Nat} {p:Key×V},kvs[i]?=some p->∃ u,vs[i]?=some (p.1,u)/\RelV p.2 u:=by
 intro h
 unfold KV at h
 induction h with
 | nil=>intro i p e;simp at e
 | @cons a b as bs ab _ ih =>
  intro i p e
  cases i with
  | zero =>
   cases e
   refine ⟨b.2,?_,ab.2⟩
   rw [ab.1]
   rfl
  | succ i=>exact ih (by simpa using e)
section
variable {σ:St} {H:Hp} {Q:VK} {D:Ends} {td:TE} {g:TG} {tb:TS} {a:Addr} {o:Obj} {kvs:List (Key×V)}
end
section
variable {σ:St} {H:Hp} {Q:VK}
end
end L2
namespace L2
open PySem PySem.Spec PyProof.Rows PySem.Calls
structure Fly (base h:Heap) (e T:Addr) (cls:Value):Prop where
 x:∃ oe vs oT ts,h.get? e=some oe/\oe.cls=cls/\oe.data=.fields vs/\vs[1]?=some (.ref T)/\h.get? T=some oT/\oT.data=.fields ts/\ts[3]?=some .none
 nT:base.get? T=none
 ne:T≠e
 dn:∀ o,h.get? e=some o->o.dict=none
structure Gone (base:Heap) (l:List Env) (e:Addr) (cls:Value) (ch:List Addr) (h h':Heap):Prop where
 st:base.StaysIn h'
 fr:h'.FunFrames base l
 fly:∃ T,Fly base h' e T cls/\(T∈ch\/h.objs.size<=T)
 keep:∀ b o,b∉l.filterMap (·.frame)->b≠e->b∉ch->h.get? b=some o->h'.get? b=some o
 slot:∀ b o,b∈l.filterMap (·.frame)->h.get? b=some o->∃ sl,h'.get? b=some { o with slots:=sl }
section
variable {M:Model} {A:Around} {E:Value->Shared->Prop} {s:Shared} {base:Heap} {env:Env} {outer:List Env} {L e:Addr} {Q:Unit->Shared->Prop}
end
def CXE (P:Program) (w:World) (base:Heap):CXT:=fun outer H s E e s'=>∃ (a T C:Addr) (H':Hp),e=.ref a/\Fly base s'.heap a T (.ref C)/\base.get? a=none/\H' a=none/\H' T=none/\s.heap.get? a=none/\s.heap.get? T=none /\
 s'.os=s.os/\AllBare s'.gens/\Un (frs outer) [] H H' s.heap s'.heap/\HOk P w H' s'.heap/\E e (some C) H'
theorem ObjOk.is {P:Program} {w:World} {H:Hp} {h:Heap} {a:Addr} {o:HO} (x:ObjOk P w H h a o):∃ q,h.get? a=some q:=by
 cases o with
 | lst xs=>obtain ⟨_,_,_,_,e⟩:=x;exact ⟨_,e⟩
 | tup xs=>obtain ⟨_,_,_,p⟩:=x;obtain ⟨_,e,_⟩:=p;exact ⟨_,e⟩
 | dK kvs=>obtain ⟨_,_,_,_,o,_,_,e,_⟩:=x;exact ⟨_,e⟩
 | dT kvs=>obtain ⟨_,_,_,_,o,_,_,e,_⟩:=x;exact ⟨_,e⟩
 | set S n=>obtain ⟨o,_,_,_,e,_⟩:=x;exact ⟨_,e⟩
 | ins C dx fs=>obtain ⟨_,_,_,e,_⟩:=x;exact ⟨_,e⟩
 | own y=>exact x
 | xd fs=>obtain ⟨_,⟨_,_,_,e,_⟩,_⟩:=x;exact ⟨_,e⟩
 | rng lo hi=>obtain ⟨_,_,_,e⟩:=x;exact ⟨_,e⟩
 | frz ob u=>exact ⟨_,x.1⟩
 | tbl ps=>exact ⟨_,x⟩
 | met f y=>exact ⟨_,x⟩
 | ext φ=>exact x.2.1
section
variable {X:Cx} {pins:List (Addr×Obj)} {σ:St} {H':Hp} {s':Shared} {h':Heap} {a:Addr} {cls:Value} {ch:List Addr}
end
end L2
namespace L2
open PySem PySem.Spec PyProof.Rows PySem.Calls
def CalE (P:Program) (w:World) (K:PySem.W.Frag) (mg:Str->Option Value) (base:Heap) (k:Nat) (x:Str) (sp:Sp):Prop :=
 ∃ f,mg x=some (.ref f)/\∃ fd ps,FnOk P w K mg base (CXE P w base) k f fd ps sp/\PySem.W.keepIn K (.ref f)=true/\Binds K fd ps []
theorem CalE.mono {P:Program} {w:World} {K:PySem.W.Frag} {mg:Str->Option Value} {base:Heap} {j k:Nat} {x:Str} {sp:Sp} (c:CalE P w K mg base j x sp) (h:j<=k):CalE P w K mg base k x sp :=
 let ⟨f,m,fd,ps,F,kp,b⟩:=c
 ⟨f,m,fd,ps,F.mono h,kp,b⟩
section
variable {X:Cx} {pins pins':List (Addr×Obj)} {σ σ':St} {H:Hp} {s:Shared} {E:XK}
end
section
variable {X:Cx} {pins pins':List (Addr×Obj)} {σ:St} {H:Hp} {s s':Shared} {E:XK} {e:Value}
end
end L2
namespace L2
open PySem PySem.Spec PyProof.Rows PySem.Calls
end L2
namespace L2
open PySem PySem.Spec PyProof.Rows PySem.Calls
theorem ZhO:typeLookup (.type "list_reverseiterator") "__length_hint__" = pure (some (.builtin "list_reverseiterator.__length_hint__")):=by
 rw [typeLookup_type,builtinLookup_eq_fast]
 kernel_rfl
theorem Zot:typeLookup (.type "list_reverseiterator") "__len__" = pure none:=by
 rw [typeLookup_type,builtinLookup_eq_fast]
 kernel_rfl
section
variable {prog:Program} {w:World} {A:Around} {E:Value->Shared->Prop} {s:Shared} {r:Addr}
theorem Zmx {Q:Bool->Shared->Prop} (hT:s.TypeIs (.ref r) "list_reverseiterator") (h:Q false s):wpAny (model prog w) A (Builtin.List.listLengthHint (.ref r)) Q E s:=by
 unfold Builtin.List.listLengthHint
 refine wpAny_bind (wpAny_specialOf hT Zot ?_)
 dsimp only
 refine wpAny_ite_split (fun hab=>absurd hab (by decide)) (fun _=>?_)
 refine wpAny_ite_split (fun hab=>absurd hab (by decide)) (fun _=>?_)
 refine wpAny_bind (wpAny_specialOf hT ZhO ?_)
 generalize hid:("list_reverseiterator.__length_hint__" : String)=id0
 wp_delta
 rw [show splitId id0=some ("list_reverseiterator", "__length_hint__") from by subst hid;decide +kernel]
 subst hid
 refine wpAny_bind (wpAny_isInstance (T := "list_reverseiterator") (b:=true) hT (by rw [isSubtype_type];kernel_rfl) ?_)
 refine wpAny_ite_split (fun hab=>absurd hab (by decide)) (fun _=>?_)
 refine wpAny_ite_split (fun _=>?_) (fun hab=>absurd (by decide +kernel) hab)
 refine wpAny_ite_split (fun hab=>absurd hab (by decide)) (fun _=>?_)
 exact wpAny_pure h
theorem ZfQ {l:Addr} {items:Array Value} {Q:Value->Shared->Prop} (hh:A.handled=none) (hit:s.heap.IsRevIter r l ((items.size:Int)-1)) (hl:s.heap.IsList l items) (hlr:l≠r) (hn:items.size<=sizeLine)
  (hQ:∀ h' tk acc c,(∀ b o,b≠r->s.heap.get? b=some o->h'.get? b=some o)->h'.get? s.heap.objs.size=some { cls:=.type "list", dict:=none,data:=.seq acc c,slots:=#[] } ->
   ItemsOf (fun i v=>items[items.size-1-i]?=some v) acc items.size->Q (.ref s.heap.objs.size) { s with heap:=h',toks:=tk }):wpAny (model prog w) A (call (.type "list") [.ref r]) Q E s:=by
 refine callType_codes (Q₁:=fun obj s₁=>s₁={ s with heap:=s.heap.push { cls:=.type "list", data:=.seq #[] } }/\obj=.ref s.heap.objs.size) PySem.F.called_list (PySem.F.typeCall_list_1 _) PySem.F.entry_list_init (code_list_new _ ⟨rfl,rfl⟩) ?_
 rintro obj s₁ ⟨rfl,rfl⟩
 have hS:(s.heap.push { cls:=.type "list", data:=.seq #[] }).get? s.heap.objs.size=some { cls:=.type "list", data:=.seq #[] }:=Heap.get?_push_size _ rfl
 have rlt:r<s.heap.objs.size:=by obtain ⟨o,e,_⟩:=hit;exact Heap.lt_size e
 have llt:l<s.heap.objs.size:=by obtain ⟨o,e,_⟩:=hl;exact Heap.lt_size e
 generalize hz:s.heap.objs.size=S at hS rlt llt hQ |-
 have hSr:S≠r:=Nat.ne_of_gt rlt
 have hSl:S≠l:=Nat.ne_of_gt llt
 refine ⟨⟨_,hS,rfl⟩,PySem.F.args_list_init_2 _ _,?_⟩
 have up1:∀ b o,s.heap.get? b=some o->(s.heap.push { cls:=.type "list", data:=.seq #[] }).get? b=some o:=fun b o e=>Heap.get?_push_of_some _ e
 generalize s.heap.push { cls:=.type "list", data:=.seq #[] }=h1 at hS up1 |-
 show wpAny _ _ (Builtin.List.listItems (.ref S) >>= fun old=>Builtin.List.listUpdate (.ref S) (fun _=>#[]) >>= fun _=>letGo old.toList.reverse >>= fun _=>Builtin.List.listExtendWith (.ref S) (.ref r) .none) _ _ _
 unfold Builtin.List.listItems
 refine wpAny_bind (wpAny_bind (wpAny_seqItems hS rfl (wpAny_pure ?_)))
 refine wpAny_bind (wpAny_updateSeq hS rfl ?_)
 have hS2:=Heap.get?_update_self (Obj.mapSeq (fun _=>(#[]:Array Value))) hS rfl
 have up2:∀ b o,b≠S->h1.get? b=some o->(h1.update S (Obj.mapSeq (fun _=>(#[]:Array Value)))).get? b=some o:=fun b o hb e=>by
  rw [Heap.get?_update_other _ _ (Ne.symm hb)]
  exact e
 generalize h1.update S (Obj.mapSeq (fun _=>(#[]:Array Value)))=h2 at hS2 up2 |-
 refine wpAny_bind (wpAny_letGo ?_)
 have it2:h2.IsRevIter r l ((items.size:Int)-1):=hit.at fun o e=>up2 _ _ (Ne.symm hSr) (up1 _ _ e)
 have l2:h2.IsList l items:=hl.at fun o e=>up2 _ _ (Ne.symm hSl) (up1 _ _ e)
 have ty2:({ s with heap:=h2 }:Shared).TypeIs (.ref r) "list_reverseiterator" := Heap.IsRevIter.typeIs (s:={ s with heap:=h2 }) it2
 unfold Builtin.List.listExtendWith
 refine wpAny_bind (wpAny_typeOf ty2 ?_)
 have ns:Builtin.List.listSameRef (.ref S) (.ref r)=false:=by simp [Builtin.List.listSameRef,hSr]
 rw [ns]
 refine wpAny_ite_split (fun hab=>absurd hab (by decide)) (fun _=>?_)
 refine wpAny_bind (wpAny_pyIter_revIter (s:={ s with heap:=h2 }) it2 ?_)
 refine wpAny_bind (wpAny_holding (Zmx ty2 ?_))
 refine wpAny_ite_split (fun hab=>absurd hab (by decide)) (fun _=>?_)
 have W:=fun B:Around=>fun (hB:B.handled=none)=>Walks.listRev (prog:=prog) (w:=w) (A:=B) hB r l hlr items
 have e0:(items.size:Int)-1-((0:Nat):Int)=(items.size:Int)-1:=by omega
 refine wpAny_pure ⟨plainId_quiet PySem.F.plain_extend_loop _,codeAny_extend_loopS (W A.in1.in1 hh).toS hn S ?_ .none items.size 0 _ #[] _ rfl (Nat.zero_le _) ⟨Nat.zero_le _,by rw [e0];exact it2,l2⟩ hS2 (ItemsOf.nil _) fun s' acc c mv hS' ok=>?_⟩
 .simp [hSr,hSl]
 .rw [Moved.eq_with mv]
  refine ⟨rfl,hQ s'.heap s'.toks acc c (fun b o hb e=>?_) hS' ok⟩
  have hbS:b≠S:=by rw [<- hz];exact Nat.ne_of_lt (Heap.lt_size e)
  exact mv.heap b o (by simp [hb,hbS]) (up2 b o hbS (up1 b o e))
end
def ZiV (K:PySem.W.Frag) (ta:TA):TE:=fun σ H Q=>ta σ H fun vs H1=>∃ b xs,vs=[.ref b]/\SqL K H1 b xs/\∀ l,H1 l=none->Q (.ref l) (upd H1 l (.lst xs.reverse))
theorem Zjx {K:PySem.W.Frag} {ta:TA} {σ:St} {H:Hp} {Q:VK} (q:ta σ H fun vs H1=>∃ b xs,vs=[.ref b]/\SqL K H1 b xs/\∀ l,H1 l=none->Q (.ref l) (upd H1 l (.lst xs.reverse))):ZiV K ta σ H Q:=q
theorem ZkR:∀ (xs:List V) (us:List Value),xs.length=us.length->(∀ (j:Nat) (x:V) (u:Value),xs[j]?=some x->us[j]?=some u->RelV x u)->Vals xs us
 | [],[],_,_=>.nil
 | [],_::_,h,_=>by simp at h
 | _::_,[],h,_=>by simp at h
 | x::xs,u::us,h,g=>.cons (g 0 x u rfl rfl) (ZkR xs us (by simpa using h) fun j y v h1 h2=>g (j+1) y v (by simpa using h1) (by simpa using h2))
theorem Zjy {X:Cx} {a:Expr} {ta:TA} {p p2 pos pos2:Pos} (hc:X.calm=true) (hgl:Gl X "list") (hml:X.mg "list" = none) (hgr:Gl X "reversed") (hmr:X.mg "reversed" = none) (ha:PA X [a] ta) (hs:starEach [a] X.env=[(false,eval a X.env)]:=by rfl)
  (hs2:starEach [.Call (.Name "reversed" p2) [a] [] pos2] X.env=[(false,eval (.Call (.Name "reversed" p2) [a] [] pos2) X.env)]:=by rfl):PE X (.Call (.Name "list" p) [.Call (.Name "reversed" p2) [a] [] pos2] [] pos) (ZiV X.K ta):=by
 intro pins s σ H Q I h
 refine Call_ (Zfn I hgl hml boot_list (PyProof.Rows.callWith_type1 (PyProof.Rows.spliced_more (Call_ (Zfn I hgr hmr boot_reversed (PyProof.Rows.callWith_type1 (thn (ha pos2 pins s σ H _ I h) fun us s1 ⟨vs,H1,I1,r1,q1⟩=>?_) hs rfl))) hs2) hs2 rfl))
 obtain ⟨l,xs,e,hq,q⟩:=q1
 subst e
 cases r1 with
 | cons r rr =>
  cases rr
  cases r
  obtain ⟨its,rv,pl,hz⟩:=I1.list hq
  refine call_reversed_list pl.isList ?_
  have en:its.toArray.size=xs.length:=by rw [List.size_toArray,rv.length]
  have st:(s1.heap.push (revObj l ((its.toArray.size:Int)-1))).IsRevIter s1.heap.objs.size l ((its.toArray.size:Int)-1):=⟨_,Heap.get?_push_size _ rfl,rfl,rfl⟩
  have llt:l<s1.heap.objs.size:=by obtain ⟨_,e,_⟩:=pl.isList;exact Heap.lt_size e
  refine PyProof.Rows.spliced_none ?_
  refine ZfQ (s:={ s1 with heap:=s1.heap.push (revObj l ((its.toArray.size:Int)-1)) }) (I1.ok.hd hc) st (pl.isList.at fun o e=>Heap.get?_push_of_some _ e) (Nat.ne_of_lt llt) (by rw [en];exact hz) fun h' tk acc c kp hS ok=>?_
  have ge:s1.heap.objs.size<=(s1.heap.push (revObj l ((its.toArray.size:Int)-1))).objs.size:=by rw [Heap.size_push];exact Nat.le_succ _
  refine ⟨.ref _,_,I1.laid (t':=tk) (h':=h') (o:=.lst xs.reverse) (fun b u e=>kp b u (Nat.ne_of_lt (Heap.lt_size e)) (Heap.get?_push_of_some _ e)) ge ?_,rfl,q _ (I1.hok.fresh ge)⟩
  refine ⟨by rw [List.length_reverse];exact hz,acc.toList,c,ZkR _ _ ?_ fun j x u h1 h2=>?_,hS⟩
  .have k1:=ok.1
   have k2:acc.toList.length=acc.size:=Array.length_toList
   have k3:xs.reverse.length=xs.length:=List.length_reverse
   omega
  .have h3:=ok.2 j u (by rw [<- Array.getElem?_toList];exact h2)
   have hj:j<xs.length:=by
    have:=(List.getElem?_eq_some_iff.mp h1).1
    rwa [List.length_reverse] at this
   rw [List.getElem?_reverse hj] at h1
   rw [en] at h3
   obtain ⟨v,hv,rr⟩:=rv.get h1
   have h4:its[xs.length-1-j]?=some u:=by simpa using h3
   rw [hv] at h4
   cases h4
   exact rr
abbrev Exc (x:Str) (C:Addr) (mg:Str->Option Value) (base:Heap):Prop:=OwnCls x C [.type "ValueError", .type "Exception", .type "BaseException", .type "object"] "ValueError.__new__" mg base
def Zck (K:PySem.W.Frag) (C:Addr) (m qual:Str) (st:Stmt) (items:Array Value):Prop:=∃ f fd,FunD K m qual st items f fd/\PySem.W.findIn K (.ref C) m=some (some (.ref f))/\PySem.W.isFn K (.ref f)=true
def ZhP (P:Program) (w:World) (K:PySem.W.Frag) (mg:Str->Option Value) (base:Heap) (k:Nat) (x:Str) (C:Addr) (sp:Sp) (dvs:List V):Prop :=
 mg x=some (.ref C)/\∃ f fd ps ds,Mk K C f/\FnOk P w K mg base CX0 k f fd ps sp/\Binds K fd ps ds/\Vals dvs ds
section
variable {P:Program} {w:World} {K:PySem.W.Frag} {mg:Str->Option Value} {base:Heap}
theorem Zjz {C:Addr} {m qual:Str} {st:Stmt} {f T:Addr} {oc c2:Value} {od an d2:Option Addr} {osl s2:Array (Option Value)} {kV doc pm cdv ct:Value} {items:Array Value} {n:Nat}
  (a:PySem.W.findIn K (.ref C) m=some (some (.ref f))) (i:PySem.W.isFn K (.ref f)=true) (l:K.lookup f=some ⟨oc,od,.func (PySem.W.fnOf m qual (Zbd st) (ZaZ st) (Zaf st) (.ref T) kV doc pm an cdv ct),osl⟩)
  (c:PySem.W.codeIn K cdv qual=true) (k:PySem.W.keepIn K (.ref f)=true) (d:K.lookup T=some ⟨c2,d2,.seq items n,s2⟩):Zck K C m qual st items :=
 ⟨f,_,⟨⟨oc,od,T,kV,doc,pm,an,cdv,ct,osl,_,n,rfl,l,c,d,rfl⟩,k⟩,a,i⟩
theorem Zmy {C:Addr} {x qual:Str} {st:Stmt} {items:Array Value} {N ps:List Str} {k:Nat} {sp:Sp} (D:Zck K C "__init__" qual st items) (c:ClsF K mg x C) (S:FnScope N ps (Zaf st)) (len:∀ vs H Q E,sp vs H Q E->vs.length=ps.length)
  (hbody:∀ (f:Addr) (cdv:Value) (A:Around) (outer:List Env) (s:Shared) (H:Hp) (vs:List V) (Q:VK) (E:XK),Room k (A.deeper (envOfC qual (Zaf st) s.heap.objs.size f cdv))->sp vs H Q E ->
   ∃ t,PSs (cxOf CX0 P w K mg base N qual (Zaf st) f cdv A outer s H E).nox (ZaZ st) t/\t { nx:=fun _ H'=>Q .non H',rt:=Q } (start N vs) H)
  (ds:List Value) {dvs:List V} (v:Vals dvs ds)
  (hb:∀ (T:Addr) (kV doc pm:Value) (an:Option Addr) (cdv ct:Value) (us:List Value),(us++ds).length=ps.length->∃ k:Option (Array Value)->Sem (List (Str×Value)),bindArgs (PySem.W.fnOf "__init__" qual (Zbd st) (ZaZ st) (Zaf st) (.ref T) kV doc pm an cdv ct) ⟨us,[]⟩=seqItems? (.ref T) >>= k/\k (some items)=pure (ps.zip (us++ds))):ZhP P w K mg base (k+1) x C sp dvs:=by
 obtain ⟨f,fd,F,a,i⟩:=D
 exact ⟨c.mgC,f,fd,ps,ds,⟨c.ms,a,i,c.kc⟩,F.fn S len (hbody f),F.binds ds hb,v⟩
end
section
variable {X:Cx} {k:Nat} {C:Addr} {sp:Sp} {x:Str} {p pos:Pos} {e:Expr} {es:List Expr} {t:TA} {dvs:List V}
theorem Zee (c:ZhP X.prog X.w X.K X.mg X.base k x C sp dvs) (hr:Room (k+1) X.A) (hg:Gl X x) (ha:PA X (e::es) t) (hdb:(x==("__debug__" : Str))=false:=by decide)
  (he:starEach (e::es) X.env=(false,eval e X.env)::starEach es X.env:=by rfl) (hpl:(backTo pos (starEach es X.env)).any (·.1)=false:=by rfl) :
  PE X (.Call (.Name x p) (e::es) [] pos) (tMake C sp dvs E0 t):=by
 obtain ⟨m,f,fd,ps,ds,M,F,b,v⟩:=c
 exact Zka M F hr hg m b v pass0 ha hdb he hpl
end
theorem Zmz {σ:St} {H:Hp} {Q:VK} {C:Addr} {sp:Sp} {t:TA} {dvs:List V} (q:t σ H fun vs H1=>∀ x dx,H1 x=none->H1 dx=none->dx≠x->sp (.ref x::(vs++dvs)) (upd (upd H1 dx (.own x)) x (.ins C dx [])) (fun v H2=>v=.non/\Q (.ref x) H2) E0):tMake C sp dvs E0 t σ H Q:=q
def KeptX (X:Addr->Prop) (H H':Hp):Prop:=∀ b o,H b=some o->¬ X b->H' b=some o
section
variable {X Y:Addr->Prop} {H H1 H2:Hp}
theorem KeptX.refl:KeptX X H H:=fun _ _ e _=>e
theorem KeptX.trans (a:KeptX X H H1) (b:KeptX X H1 H2):KeptX X H H2:=fun c o e n=>b c o (a c o e n) n
theorem KeptX.mono (a:KeptX X H H1) (h:∀ b,X b->Y b):KeptX Y H H1:=fun c o e n=>a c o e fun z=>n (h c z)
theorem Same.keptX (s:Same H H1):KeptX X H H1:=fun c o e _=>s c o e
theorem KeptX.upd {b:Addr} {o:HO} (h:X b):KeptX X H (L2.upd H b o):=fun c u e n=>by
 have hc:c≠b:=fun z=>by rw [z] at n;exact n h
 rw [Zaj hc];exact e
theorem KeptX.new {b:Addr} {o:HO} (h:H b=none):KeptX X H (L2.upd H b o):=(Same.new h).keptX
theorem KeptX.imm (a:KeptX X H H1) (h:∀ b o,X b->H b=some o->¬ Imm o):SameI H H1:=fun b u e i=>a b u e fun z=>h b u z e i
end
def rAny (K:PySem.W.Frag):RC:=fun xs H Q=>∃ (p:Addr) (bs:List Bool),xs=[.ref p]/\SqL K H p (bs.map V.bl)/\Q (.bl (bs.any id)) H
theorem ZkS (bs:List Bool):(List.range bs.length).any (fun i=>bs.getD i false)=bs.any id:=by
 rw [Bool.eq_iff_iff,List.any_eq_true,List.any_eq_true]
 constructor
 .rintro ⟨i,hi,h⟩
  have hi:=List.mem_range.mp hi
  exact ⟨bs[i],List.getElem_mem hi,by simpa [List.getD,hi] using h⟩
 .rintro ⟨b,hb,h⟩
  obtain ⟨i,hi,e⟩:=List.mem_iff_getElem.mp hb
  exact ⟨i,List.mem_range.mpr hi,by simpa [List.getD,hi,e] using h⟩
theorem cn_any {X:Cx} (hc:X.calm=true):CallR X (.builtin "any") (rAny X.K):=by
 intro pins s σ H xs us Q I r h
 obtain ⟨p,bs,rfl,hq,q⟩:=h
 obtain ⟨u,rfl,rx⟩:=vals1 r
 cases rx
 obtain ⟨its,rv,pl,hz⟩:=I.list hq
 have hb:its=bs.map Value.bool:=Zon rv
 refine call_any_walk (wpAny_pyIter_list pl.isList ?_)
 have hlt:p<s.heap.objs.size:=by
  obtain ⟨o,ho,_⟩:=pl.isList
  exact Heap.lt_size ho
 have hh:X.A.in1.handled=none:=I.ok.hd hc
 refine ⟨s.heap.objs.size,_,_,_,_,_,fun i=>bs.getD i false,rfl,Walks.list hh s.heap.objs.size p (Nat.ne_of_lt hlt) its.toArray,⟨⟨_,Heap.get?_push_size _ rfl,rfl,rfl⟩,pl.isList.at fun o e=>Heap.get?_push_of_some _ e⟩,?_,fun h' tk kp=>?_⟩
 .intro i v s' Q' E' hv hQ
  rw [hb] at hv
  simp only [List.getElem?_toArray,List.getElem?_map] at hv
  obtain ⟨b,hb1,rfl⟩:=Option.map_eq_some_iff.mp hv
  have e:bs.getD i false=b:=by simp [List.getD,hb1]
  have hQ:Q' (bs.getD i false) s':=hQ
  rw [e] at hQ
  exact wpAny_truthy_bool hQ
 .have hn:its.toArray.size=bs.length:=by rw [hb];simp
  rw [hn,ZkS]
  exact ⟨.bl (bs.any id),H,I.kept (t':=tk) fun b o e=>kp b o (by
   intro z
   have e':=Heap.lt_size e
   rw [List.mem_singleton.mp z] at e'
   exact absurd e' (Nat.lt_irrefl _)) (Heap.get?_push_of_some _ e),rfl,q⟩
theorem rd_any {K:PySem.W.Frag} {H:Hp} {Q:VK} {p:Addr} {bs:List Bool} (h:SqL K H p (bs.map V.bl)) (q:Q (.bl (bs.any id)) H):rAny K [.ref p] H Q:=⟨p,bs,rfl,h,q⟩
theorem Zou {x:Int} {xs:List Int} (h:x∈xs):inV (.int x) (xs.map V.int)=true:=by
 unfold inV
 exact List.any_eq_true.mpr ⟨.int x,List.mem_map.mpr ⟨x,h,rfl⟩,by simp [eqV]⟩
theorem ZkT {K:PySem.W.Frag} {H:Hp} {Q:VK} {p:Addr} {x:Int} {xs:List Int} (h:SqL K H p (xs.map V.int)) (hx:x∈xs) (q:Q (.bl false) H):rIn K true (.int x) (.ref p) H Q:=by
 refine ⟨p,_,rfl,.inl h,rfl,?_,?_⟩
 .rw [List.all_map]
  exact List.all_eq_true.mpr fun _ _=>rfl
 .rw [if_pos rfl,Zou hx]
  exact q
theorem ZeG {σ:St} {H:Hp}:∀ {kvs:List (Key×V)} {Q:List (V×V)->Hp->Prop},Q (kvs.map fun kv=>(kV kv.1,kv.2)) H->tPairs (kvs.map fun kv=>(tC (kV kv.1),tC kv.2)) σ H Q
 | [],_,q=>q
 | _::r,_,q=>by
  show tPairs (r.map fun kv=>(tC (kV kv.1),tC kv.2)) σ H _
  exact ZeG (kvs:=r) q
theorem ZmA {σ:St} {H:Hp} {Q:VK} (kvs:List (Key×V)) (hl:kvs.length<=15) (q:∀ p,H p=none->Q (.ref p) (upd H p (.dK (mergeK [] kvs)))):tDisp (kvs.map fun kv=>(tC (kV kv.1),tC kv.2)) σ H Q:=fun p hp =>
 ZeG (kvs:=kvs) ⟨Zag,kvs,rfl,hl,by rw [ZaT];exact q p hp⟩
theorem Zcl {H:Hp} {D:Addr} {kvs:List (Key×V)} {x:Str} {o:Option V} (h:H D=some (.dK kvs)) (e:valV kvs (Sum.inr x:Key)=o):DGet H D (.str x) o:=by rw [<- e];exact DGet.k (k:=Sum.inr x) h
theorem Zny {H:Hp} {D:Addr} {kvs:List (Key×V)} {x:Int} {o:Option V} (h:H D=some (.dK kvs)) (e:valV kvs (Sum.inl x:Key)=o):DGet H D (.int x) o:=by rw [<- e];exact DGet.k (k:=Sum.inl x) h
def rCatL (K:PySem.W.Frag):R2:=fun x y H Q=>∃ l b xs zs,x=.ref l/\y=.ref b/\SqL K H l xs/\SqL K H b zs/\xs.length+zs.length<=sizeLine/\∀ p,H p=none->Q (.ref p) (upd H p (.lst (xs++zs)))
theorem Zov {X:Cx}:OpR X (binaryOp .Add) (rCatL X.K):=by
 intro pins s σ H x y v u Q I rx ry h
 obtain ⟨l,b,xs,zs,rfl,rfl,hH,hB,hz,q⟩:=h
 cases rx
 cases ry
 obtain ⟨its,r,⟨⟨cls,dd,data,sl⟩,n,ho,hc,_,hd⟩,_⟩:=I.list hH
 obtain ⟨its2,r2,⟨⟨cls2,dd2,data2,sl2⟩,n2,ho2,hc2,_,hd2⟩,_⟩:=I.list hB
 simp only at hc hd hc2 hd2
 subst hc hd hc2 hd2
 have e:its.toArray++its2.toArray=(its++its2).toArray:=by simp
 have l1:=r.length
 have l2:=r2.length
 refine concat_meets ⟨_,ho,rfl⟩ ⟨_,ho2,rfl⟩ noFill_list_add seq_list_add PySem.F.slot_list_add PySem.F.entry_list_add (PySem.F.args_list_add_2 _ _) (list_addW l b its.toArray its2.toArray n n2 dd dd2 sl sl2 (by rw [List.size_toArray,List.size_toArray];omega)) ⟨ho,ho2,?_⟩
 rw [e]
 exact ⟨.ref _,_,I.lnew (t':=s.toks) (r.append r2) (by rw [List.length_append];omega),rfl,q _ I.fresh⟩
theorem Zow {K:PySem.W.Frag} {H:Hp} {Q:VK} {a b:Addr} {xs ys:List V} (h1:SqL K H a xs) (h2:SqL K H b ys) (hz:xs.length+ys.length<=sizeLine) (q:∀ p,H p=none->Q (.ref p) (upd H p (.lst (xs++ys)))):rCatL K (.ref a) (.ref b) H Q:=⟨a,b,xs,ys,rfl,rfl,h1,h2,hz,q⟩
end L2
local macro_rules|`(tactic| walk_at "settle")=>`(tactic| first
 | (simp only [L2.start,List.map_cons,List.map_nil,List.length_cons,List.length_nil,List.replicate,List.cons_append,List.nil_append,List.append_nil,List.set_cons_zero,List.set_cons_succ,Nat.reduceAdd,Nat.reduceSub];done)
 | (simp only [L2.start,List.map_cons,List.map_nil,List.length_cons,List.length_nil,List.replicate,List.cons_append,List.nil_append,List.append_nil,List.set_cons_zero,List.set_cons_succ,Nat.reduceAdd,Nat.reduceSub];rfl)
 | rfl
 | fail)
local macro_rules|`(tactic| walk_at "side")=>`(tactic| first
 | exact ⟨by decide,by decide⟩
 | exact ⟨by decide,by decide,by decide⟩
 | (show (0:Int)<_;first|decide|omega)
 | (show (0:Int)<=_;first|decide|omega)
 | (show (0:Int)<_/\_<_;refine ⟨by omega,by omega⟩)
 | (show (_/\_)\/_;refine .inl ⟨by omega,by omega⟩)
 | (show _\/(_/\_);refine .inr ⟨by omega,by omega⟩)
 | fail)
local macro_rules|`(tactic| walk_at "rd")=>`(tactic| first
 | with_reducible refine L2.Zns ?_
 | with_reducible refine L2.Znt ?_
 | ((with_reducible refine' L2.Zmu ?e ?_);(case e=>walk_at "settle"))
 | with_reducible refine L2.rd_C ?_
 | ((with_reducible refine' L2.rd_V ?e ?_);(case e=>rfl))
 | with_reducible refine L2.rd_op ?_
 | with_reducible refine L2.rd_I0 ?_
 | ((with_reducible refine' L2.rd_I ?c ?_);(case c=>walk_at "side"))
 | with_reducible refine L2.rd_eqI ?_
 | with_reducible refine L2.rd_eqS ?_
 | with_reducible refine L2.rd_neI ?_
 | with_reducible refine L2.rd_neS ?_
 | with_reducible refine L2.rd_eqB ?_
 | with_reducible refine L2.rd_neB ?_
 | with_reducible refine L2.Zn2 ?_
 | with_reducible refine L2.rd_B ?_
 | with_reducible refine L2.rd_bl ?_
 | with_reducible refine L2.rd_ifS ?_
 | with_reducible refine L2.rd_if ?_
 | with_reducible refine L2.Zdy (fun _=>?_) (fun _=>?_)
 | with_reducible refine L2.ZcC (fun _=>?_) (fun _=>?_)
 | with_reducible refine L2.rd_iteNND (fun _=>?_) (fun _=>?_)
 | with_reducible refine L2.iteT ?_
 | with_reducible refine L2.iteF ?_
 | with_reducible refine L2.iteNT ?_
 | with_reducible refine L2.iteNF ?_
 | with_reducible refine L2.Znu ?_
 | with_reducible refine L2.Zn1 ?_
 | with_reducible refine L2.Zkv ?_
 | with_reducible refine L2.rd_and ?_
 | with_reducible refine L2.rd_or ?_
 | with_reducible refine L2.rd_not ?_
 | with_reducible refine L2.Zn3 ?_
 | with_reducible refine L2.rd_orV ?_
 | with_reducible refine L2.Zn4 ?_
 | with_reducible refine L2.Zn5 ?_
 | with_reducible refine L2.rd_nil ?_
 | with_reducible refine L2.Zof ?_
 | with_reducible refine L2.Zn6 ?_
 | with_reducible refine L2.rd_CB ?_
 | with_reducible refine L2.Zmm ?_
 | with_reducible refine L2.rd_un ?_
 | with_reducible refine L2.rd_U ?_
 | with_reducible refine L2.rd_tup ?_
 | with_reducible refine L2.rd_lst ?_
 | fail)
local macro_rules|`(tactic| walk_at "sql")=>`(tactic| first
 | assumption
 | exact L2.sql_new
 | exact L2.Zkw
 | exact L2.Zaw (by assumption)
 | exact L2.Zar (by assumption)
 | exact L2.TupK.sqt (by assumption) _
 | (refine L2.SqL.updN ?_ (by assumption);walk_at "sql")
 | (refine L2.SqT.updN ?_ (by assumption);walk_at "sql")
 | fail)
local macro_rules|`(tactic| walk_at "hp")=>`(tactic| first
 | assumption
 | exact L2.Zag
 | exact Eq.trans (L2.Zaj (L2.Zam L2.Zag (by assumption))) L2.Zag
 | fail)
local macro_rules|`(tactic| walk_at "rdl")=>`(tactic| first
 | walk_at "rd"
 | ((with_reducible refine' L2.ZaC ?h ?e ?_);(case h=>walk_at "sql");(case e=>rfl))
 | ((with_reducible refine' L2.Zcc ?h ?e ?_);(case h=>walk_at "sql");(case e=>rfl))
 | with_reducible refine L2.rd_sl ?_
 | with_reducible refine L2.Zky ?_
 | with_reducible refine L2.Zn7 ?_
 | with_reducible refine L2.rd_ei ?_
 | ((with_reducible refine' L2.Znv ?h ?_);(case h=>walk_at "sql"))
 | fail)
local macro_rules|`(tactic| walk_at "rda")=>`(tactic| first
 | walk_at "rdl"
 | ((with_reducible refine' L2.rd_aug ?e ?_);(case e=>rfl))
 | with_reducible refine L2.rd_ipI ?_
 | with_reducible refine L2.ZhL ?_
 | with_reducible refine L2.ZkA ?_
 | with_reducible refine L2.rd_abs ?_
 | ((with_reducible refine' L2.rd_isi ?e ?_);(case e=>rfl))
 | ((with_reducible refine' L2.Zoc ?e ?_);(case e=>rfl))
 | ((with_reducible refine' L2.Zod ?h ?e ?_);(case h=>walk_at "sql");(case e=>rfl))
 | ((with_reducible refine' L2.Zoe ?h ?e ?_);(case h=>walk_at "sql");(case e=>rfl))
 | ((with_reducible refine' L2.Zn8 ?h ?_);(case h=>walk_at "sql"))
 | ((with_reducible refine' L2.Zn9 ?h ?_);(case h=>walk_at "sql"))
 | fail)
local macro_rules|`(tactic| walk_at "sz")=>`(tactic| first
 | assumption
 | exact Nat.le_trans (by assumption) (by decide)
 | decide
 | fail)
local macro_rules|`(tactic| walk_at "rdt")=>`(tactic| first
 | walk_at "rda"
 | with_reducible refine L2.rd_bm ?_
 | with_reducible refine L2.rd_bm0 ?_
 | with_reducible refine L2.rd_tyS ?_
 | with_reducible refine L2.rd_find ?_
 | with_reducible refine L2.rd_inS ?_
 | with_reducible refine L2.rd_notInS ?_
 | with_reducible refine L2.rd_sb ?_
 | with_reducible refine L2.rd_ord ?_
 | with_reducible refine L2.Zoh ?_
 | with_reducible refine L2.rd_isNi ?_
 | with_reducible refine L2.Zoi ?_
 | with_reducible refine L2.rd_notN0 ?_
 | with_reducible refine L2.rd_notNi ?_
 | with_reducible refine L2.rd_notNr ?_
 | ((with_reducible refine' L2.rd_lenZ ?h ?_);(case h=>walk_at "sz"))
 | ((with_reducible refine' L2.rd_slS ?h ?_);(case h=>walk_at "sz"))
 | fail)
local macro_rules|`(tactic| walk_at "rdq")=>`(tactic| first
 | ((with_reducible refine L2.Zdy (fun _=>?_) (fun _=>?_))<;>(try (exfalso;omega)))
 | ((with_reducible refine L2.ZcC (fun _=>?_) (fun _=>?_))<;>(try (exfalso;omega)))
 | ((with_reducible refine L2.rd_iteNND (fun _=>?_) (fun _=>?_))<;>(try (exfalso;omega)))
 | walk_at "rdt"
 | fail)
local macro_rules|`(tactic| walk_at "rdj")=>`(tactic| first
 | ((with_reducible refine' L2.rd_addJ ?h (fun _ _=>?_));(case h=>omega))
 | ((with_reducible refine' L2.rd_slJ ?h (fun _ _=>?_));(case h=>omega))
 | walk_at "rdq"
 | fail)
local macro_rules|`(tactic| walk_at "rdm")=>`(tactic| first
 | walk_at "rdt"
 | ((with_reducible refine' L2.ZfO ?h (fun _ _=>?_));(case h=>walk_at "sql"))
 | ((with_reducible refine' L2.rd_listT ?h (fun _ _=>?_));(case h=>walk_at "sql"))
 | with_reducible refine L2.Zoo ?_
 | fail)
local macro_rules|`(tactic| walk_at "rdk")=>`(tactic| first
 | walk_at "rdm"
 | with_reducible refine L2.rd_fld ?_
 | with_reducible refine L2.Zoj ?_
 | with_reducible refine L2.ZkQ ?_
 | with_reducible refine L2.Zor ?_
 | with_reducible refine L2.Zos ?_
 | with_reducible refine L2.Zok ?_
 | with_reducible refine L2.Zoq ?_
 | ((with_reducible refine' L2.rd_sum ?h ?_);(case h=>walk_at "sql"))
 | with_reducible refine L2.Zmt ?_
 | with_reducible refine L2.Zms (fun _ _=>?_)
 | with_reducible refine L2.rd_din ?_
 | with_reducible refine L2.ZkM ?_
 | with_reducible refine L2.Zol ?_
 | with_reducible refine L2.Zom ?_
 | with_reducible refine L2.rd_dpop1 ?_
 | with_reducible refine L2.Zmw ?_
 | with_reducible refine L2.rd_gcons ?_
 | with_reducible refine L2.rd_gnil ?_
 | ((with_reducible refine' L2.rd_gtup ?h ?e ?_);(case h=>walk_at "sql");(case e=>rfl))
 | fail)
local macro_rules|`(tactic| walk_at "rdz")=>`(tactic| first
 | ((with_reducible refine L2.Zdy (fun _=>?_) (fun _=>?_))<;>(try (exfalso;omega)))
 | ((with_reducible refine L2.ZcC (fun _=>?_) (fun _=>?_))<;>(try (exfalso;omega)))
 | ((with_reducible refine L2.rd_iteNND (fun _=>?_) (fun _=>?_))<;>(try (exfalso;omega)))
 | walk_at "rdk"
 | fail)
local macro_rules|`(tactic| walk_at "rdx")=>`(tactic| first
 | with_reducible refine L2.Zdy (fun h=>absurd h (by decide)) (fun _=>?_)
 | with_reducible refine L2.Zdy (fun _=>?_) (fun h=>absurd (by decide) h)
 | with_reducible refine L2.ZcC (fun h=>absurd (by decide) h) (fun _=>?_)
 | with_reducible refine L2.ZcC (fun _=>?_) (fun h=>absurd h (by decide))
 | walk_at "rdk"
 | fail)
local macro_rules|`(tactic| walk_at "c")=>`(tactic| exact ⟨rfl,rfl,rfl,by decide +kernel,rfl,by decide +kernel,by decide +kernel⟩)
local macro_rules|`(tactic| walk_at "K")=>`(tactic| (repeat walk_at "rdk"))
local macro_rules|`(tactic| walk_at "W")=>`(tactic| (repeat walk_at "rw"))
local macro_rules|`(tactic| walk_at "W'")=>`(tactic| (repeat' walk_at "rw"))
local macro_rules|`(tactic| walk_at "Z")=>`(tactic| (repeat walk_at "rdz"))
local macro_rules|`(tactic| walk_at "Z'")=>`(tactic| (repeat' walk_at "rdz"))
local macro_rules|`(tactic| walk_at "Q")=>`(tactic| (repeat walk_at "rd"))
local macro_rules|`(tactic| walk_at "Q'")=>`(tactic| (repeat' walk_at "rd"))
local macro_rules|`(tactic| walk_at "Y")=>`(tactic| (repeat walk_at "rz"))
namespace My
open PySem L2
theorem szl_0:0<=sizeLine:=by decide
theorem szl_1:1<=sizeLine:=by decide
theorem szl_2:2<=sizeLine:=by decide
theorem szl_3:3<=sizeLine:=by decide
theorem szl_4:4<=sizeLine:=by decide
theorem szl_5:5<=sizeLine:=by decide
theorem szl_6:6<=sizeLine:=by decide
theorem szl_7:7<=sizeLine:=by decide
theorem szl_8:8<=sizeLine:=by decide
theorem szl_11:11<=sizeLine:=by decide
local macro_rules|`(tactic| walk_at "nx")=>`(tactic| try simp only [L2.nox_K,L2.nox_P,L2.nox_w,L2.nox_mg,L2.Zmn,L2.cxOf_K,L2.cxOf_P,L2.cxOf_w,L2.Zog,L2.ZkD])
noncomputable def top (i:Nat):Stmt:=PySem.Challenge.pw_meterhouse_k40_whole_price_and_rows.main.body.getD i (.Pass ⟨0,0,0,0⟩)
noncomputable abbrev s__wall:Stmt:=top 0
noncomputable abbrev ZhQ:Stmt:=top 5
noncomputable abbrev ZhR:Stmt:=top 6
noncomputable abbrev ZfR:Stmt:=top 7
noncomputable abbrev ZhS:Stmt:=top 8
noncomputable abbrev Zcm:Stmt:=top 11
noncomputable abbrev Zcn:Stmt:=top 13
noncomputable abbrev ZhT:Stmt:=top 23
noncomputable abbrev Zdz:Stmt:=top 24
noncomputable abbrev Zco:Stmt:=top 25
noncomputable abbrev ZcR:Stmt:=top 26
noncomputable abbrev ZcS:Stmt:=top 27
noncomputable abbrev ZdA:Stmt:=top 28
noncomputable abbrev ZeH:Stmt:=top 29
noncomputable abbrev ZeI:Stmt:=top 30
noncomputable abbrev ZcT:Stmt:=top 31
noncomputable abbrev Zb4:Stmt:=top 32
noncomputable abbrev ZeJ:Stmt:=top 33
noncomputable abbrev ZfS:Stmt:=top 34
noncomputable abbrev ZfT:Stmt:=top 36
noncomputable abbrev Zcp:Stmt:=top 38
noncomputable abbrev ZdB:Stmt:=top 39
noncomputable abbrev ZdC:Stmt:=top 40
noncomputable abbrev ZdD:Stmt:=top 41
noncomputable abbrev ZdE:Stmt:=top 42
noncomputable abbrev Zcq:Stmt:=top 43
noncomputable abbrev ZdF:Stmt:=top 44
noncomputable abbrev Zcr:Stmt:=top 45
noncomputable abbrev ZdG:Stmt:=top 46
noncomputable abbrev ZdH:Stmt:=top 47
noncomputable abbrev ZfU:Stmt:=top 48
noncomputable abbrev ZdI:Stmt:=top 49
noncomputable abbrev ZdJ:Stmt:=top 50
noncomputable abbrev ZdK:Stmt:=top 51
noncomputable abbrev ZdL:Stmt:=top 52
noncomputable abbrev ZdM:Stmt:=top 53
noncomputable abbrev ZdN:Stmt:=top 54
noncomputable abbrev ZdO:Stmt:=top 55
noncomputable abbrev ZfV:Stmt:=top 57
noncomputable abbrev Zb5:Stmt:=top 61
noncomputable abbrev Zb6:Stmt:=top 62
noncomputable abbrev ZcU:Stmt:=top 63
noncomputable abbrev ZcV:Stmt:=top 64
noncomputable abbrev ZbR:Stmt:=top 65
noncomputable abbrev Zcs:Stmt:=top 66
noncomputable abbrev Zbm:Stmt:=top 67
noncomputable abbrev ZcH:Stmt:=top 68
noncomputable abbrev Zef:Stmt:=top 69
noncomputable abbrev ZfW:Stmt:=top 70
noncomputable abbrev s_go:Stmt:=top 71
noncomputable abbrev ZhU:Stmt:=top 72
noncomputable abbrev ZdP:Stmt:=top 76
noncomputable abbrev ZcW:Stmt:=top 77
noncomputable abbrev ZcX:Stmt:=top 78
noncomputable abbrev ZeK:Stmt:=top 79
noncomputable abbrev ZdQ:Stmt:=top 80
noncomputable abbrev ZcY:Stmt:=top 81
noncomputable abbrev ZfX:Stmt:=top 82
noncomputable abbrev ZfY:Stmt:=top 83
noncomputable abbrev ZeL:Stmt:=top 84
noncomputable abbrev ZfZ:Stmt:=top 85
noncomputable abbrev ZhV:Stmt:=top 86
noncomputable abbrev Zf0:Stmt:=top 87
noncomputable abbrev ZhW:Stmt:=top 88
noncomputable abbrev Zf1:Stmt:=top 89
noncomputable abbrev Zf2:Stmt:=top 90
noncomputable abbrev Zct:Stmt:=top 91
noncomputable abbrev ZkU:Stmt:=top 92
noncomputable abbrev Zbp:Stmt:=ZaH (top 10) 0
noncomputable abbrev Zbx:Stmt:=ZaH (top 10) 1
noncomputable abbrev ZbS:Stmt:=ZaH (top 10) 2
noncomputable abbrev ZkV:Stmt:=ZaH (top 10) 3
noncomputable abbrev s_Deed_do:Stmt:=ZaH (top 14) 0
noncomputable abbrev Zox:Stmt:=ZaH (top 14) 1
noncomputable abbrev Zoy:Stmt:=ZaH (top 14) 2
noncomputable abbrev Znz:Stmt:=ZaH (top 14) 3
noncomputable abbrev ZlY:Stmt:=ZaH (top 14) 4
noncomputable abbrev ZbH:Stmt:=ZaH (top 15) 0
noncomputable abbrev ZeM:Stmt:=ZaH (top 15) 1
noncomputable abbrev ZcZ:Stmt:=ZaH (top 15) 2
noncomputable abbrev Zc0:Stmt:=ZaH (top 15) 3
noncomputable abbrev ZnA:Stmt:=ZaH (top 15) 4
noncomputable abbrev ZlZ:Stmt:=ZaH (top 15) 5
noncomputable abbrev ZbI:Stmt:=ZaH (top 16) 0
noncomputable abbrev ZeN:Stmt:=ZaH (top 16) 1
noncomputable abbrev Zc1:Stmt:=ZaH (top 16) 2
noncomputable abbrev Zc2:Stmt:=ZaH (top 16) 3
noncomputable abbrev Zl0:Stmt:=ZaH (top 16) 4
noncomputable abbrev ZbJ:Stmt:=ZaH (top 17) 0
noncomputable abbrev Zc3:Stmt:=ZaH (top 17) 1
noncomputable abbrev ZaE:Stmt:=ZaH (top 20) 0
noncomputable abbrev Zcu:Stmt:=ZaH (top 20) 1
noncomputable abbrev Zbt:Stmt:=ZaH (top 20) 2
noncomputable abbrev Zbn:Stmt:=ZaH (top 20) 3
noncomputable abbrev Zb7:Stmt:=ZaH (top 20) 4
noncomputable abbrev Zc4:Stmt:=ZaH (top 20) 5
noncomputable abbrev ZbT:Stmt:=ZaH (top 20) 6
noncomputable abbrev Zcv:Stmt:=ZaH (top 20) 7
noncomputable abbrev Zbq:Stmt:=ZaH (top 74) 0
noncomputable abbrev ZbK:Stmt:=ZaH (top 74) 1
noncomputable abbrev ZbU:Stmt:=ZaH (top 74) 2
noncomputable abbrev ZbV:Stmt:=ZaH (top 74) 3
noncomputable abbrev Zbv:Stmt:=ZaH (top 74) 4
noncomputable abbrev ZkW:Stmt:=ZaH (top 74) 5
noncomputable abbrev ZjA:Stmt:=ZaH (top 74) 6
noncomputable abbrev ZeO:Stmt:=ZaH (top 14) 0
noncomputable abbrev Zc5:Stmt:=ZaH (top 14) 1
structure T_Account (K:PySem.W.Frag) (mg:Str->Option Value) (C:Addr):Prop where
 k:ClsF K mg "Account" C
 n_coin:NoAttr K C "coin"
 n_purse:NoAttr K C "purse"
 n_count:NoAttr K C "count"
 n_program:NoAttr K C "program"
 n_store:NoAttr K C "store"
structure T_Deed (K:PySem.W.Frag) (mg:Str->Option Value) (C:Addr):Prop where
 k:ClsF K mg "Deed" C
structure T_Save (K:PySem.W.Frag) (mg:Str->Option Value) (C:Addr):Prop where
 k:ClsF K mg "Save" C
 n_slot:NoAttr K C "slot"
 n_place:NoAttr K C "place"
 n_old:NoAttr K C "old"
 n_new:NoAttr K C "new"
structure T_Move (K:PySem.W.Frag) (mg:Str->Option Value) (C:Addr):Prop where
 k:ClsF K mg "Move" C
 n_slot:NoAttr K C "slot"
 n_taker:NoAttr K C "taker"
 n_many:NoAttr K C "many"
structure T_Note (K:PySem.W.Frag) (mg:Str->Option Value) (C:Addr):Prop where
 k:ClsF K mg "Note" C
 n_slot:NoAttr K C "slot"
 n_number:NoAttr K C "number"
structure T_Frame (K:PySem.W.Frag) (mg:Str->Option Value) (C:Addr):Prop where
 k:ClsF K mg "Frame" C
 n_kind:NoAttr K C "kind"
 n_who:NoAttr K C "who"
 n_whose:NoAttr K C "whose"
 n_caller:NoAttr K C "caller"
 n_coin:NoAttr K C "coin"
 n_word:NoAttr K C "word"
 n_given:NoAttr K C "given"
 n_depth:NoAttr K C "depth"
 n_looking:NoAttr K C "looking"
 n_used:NoAttr K C "used"
 n_stack:NoAttr K C "stack"
 n_row:NoAttr K C "row"
 n_steps:NoAttr K C "steps"
 n_end:NoAttr K C "end"
 n_answer:NoAttr K C "answer"
structure T_Journal (K:PySem.W.Frag) (mg:Str->Option Value) (C:Addr):Prop where
 k:ClsF K mg "Journal" C
 n_rooms:NoAttr K C "rooms"
 n_deeds:NoAttr K C "deeds"
theorem bd1 {R:List Value->Prop} (h:∀ a,R [a]) (us:List Value) (hl:us.length=1):R us:=by
 cases us with
 | nil=>cases hl
 | cons a r =>
  cases r with
  | nil=>exact h a
  | cons b r=>cases hl
theorem bdS {R:List Value->Prop} {n:Nat} (h:∀ a (r:List Value),r.length=n->R (a::r)) (us:List Value) (hl:us.length=n+1):R us:=by
 cases us with
 | nil=>cases hl
 | cons a r=>exact h a r (Nat.succ.inj hl)
theorem bd2 {R:List Value->Prop} (h:∀ a b,R [a,b]) (us:List Value) (hl:us.length=2):R us:=bdS (n:=1) (fun a r hr=>bd1 (R:=fun r=>R (a::r)) (h a) r hr) us hl
theorem bd3 {R:List Value->Prop} (h:∀ a b c,R [a,b,c]) (us:List Value) (hl:us.length=3):R us:=bdS (n:=2) (fun a r hr=>bd2 (R:=fun r=>R (a::r)) (h a) r hr) us hl
theorem bd4 {R:List Value->Prop} (h:∀ a b c d,R [a,b,c,d]) (us:List Value) (hl:us.length=4):R us:=bdS (n:=3) (fun a r hr=>bd3 (R:=fun r=>R (a::r)) (h a) r hr) us hl
theorem bd5 {R:List Value->Prop} (h:∀ a b c d e,R [a,b,c,d,e]) (us:List Value) (hl:us.length=5):R us:=bdS (n:=4) (fun a r hr=>bd4 (R:=fun r=>R (a::r)) (h a) r hr) us hl
theorem bd6 {R:List Value->Prop} (h:∀ a0 a1 a2 a3 a4 a5,R [a0,a1,a2,a3,a4,a5]) (us:List Value) (hl:us.length=6):R us:=bdS (n:=5) (fun a r hr=>bd5 (R:=fun r=>R (a::r)) (h a) r hr) us hl
theorem bd7 {R:List Value->Prop} (h:∀ a0 a1 a2 a3 a4 a5 a6,R [a0,a1,a2,a3,a4,a5,a6]) (us:List Value) (hl:us.length=7):R us:=bdS (n:=6) (fun a r hr=>bd6 (R:=fun r=>R (a::r)) (h a) r hr) us hl
theorem bd8 {R:List Value->Prop} (h:∀ a0 a1 a2 a3 a4 a5 a6 a7,R [a0,a1,a2,a3,a4,a5,a6,a7]) (us:List Value) (hl:us.length=8):R us:=bdS (n:=7) (fun a r hr=>bd7 (R:=fun r=>R (a::r)) (h a) r hr) us hl
theorem bd9 {R:List Value->Prop} (h:∀ a0 a1 a2 a3 a4 a5 a6 a7 a8,R [a0,a1,a2,a3,a4,a5,a6,a7,a8]) (us:List Value) (hl:us.length=9):R us:=bdS (n:=8) (fun a r hr=>bd8 (R:=fun r=>R (a::r)) (h a) r hr) us hl
theorem bd10 {R:List Value->Prop} (h:∀ a0 a1 a2 a3 a4 a5 a6 a7 a8 a9,R [a0,a1,a2,a3,a4,a5,a6,a7,a8,a9]) (us:List Value) (hl:us.length=10):R us:=bdS (n:=9) (fun a r hr=>bd9 (R:=fun r=>R (a::r)) (h a) r hr) us hl
local macro_rules|`(tactic| walk_at "b")=>`(tactic| (intro _ _ _ _ _ _ us hl;first|exact My.bd1 (R:=fun us=>bindArgs _ ⟨us,[]⟩=pure (List.zip _ us)) (fun _=>rfl) us hl|exact My.bd2 (R:=fun us=>bindArgs _ ⟨us,[]⟩=pure (List.zip _ us)) (fun _ _=>rfl) us hl|exact My.bd3 (R:=fun us=>bindArgs _ ⟨us,[]⟩=pure (List.zip _ us)) (fun _ _ _=>rfl) us hl|exact My.bd4 (R:=fun us=>bindArgs _ ⟨us,[]⟩=pure (List.zip _ us)) (fun _ _ _ _=>rfl) us hl|exact My.bd5 (R:=fun us=>bindArgs _ ⟨us,[]⟩=pure (List.zip _ us)) (fun _ _ _ _ _=>rfl) us hl|exact My.bd6 (R:=fun us=>bindArgs _ ⟨us,[]⟩=pure (List.zip _ us)) (fun _ _ _ _ _ _=>rfl) us hl|exact My.bd7 (R:=fun us=>bindArgs _ ⟨us,[]⟩=pure (List.zip _ us)) (fun _ _ _ _ _ _ _=>rfl) us hl))
def sCut (t:TS):TS:=fun D σ H=>∃ P:St->Hp->Prop,t { D with nx:=P } σ H/\∀ σ' H',P σ' H'->D.nx σ' H'
theorem ZkX {t:TS} {D:Ends} {σ:St} {H:Hp} (P:St->Hp->Prop) (q:t { D with nx:=P } σ H) (m:∀ σ' H',P σ' H'->D.nx σ' H'):sCut t D σ H:=⟨P,q,m⟩
theorem ZkY {X:Cx} {st:Stmt} {t:TS} (h:PS X st t):PS X st (sCut t):=by
 intro pins s σ H D I q
 obtain ⟨P,q,m⟩:=q
 refine wpAny_mono (h pins s σ H { D with nx:=P } I q) (fun f s' z=>?_) fun _ _ z=>z
 cases f with
 | next=>obtain ⟨σ',H',I',q'⟩:=z;exact ⟨σ',H',I',m _ _ q'⟩
 | brk=>exact z
 | cont=>exact z
 | ret u=>exact z
theorem keepIt {p:Prop} (h:p):p:=h
noncomputable abbrev W64:Int:=18446744073709551616
def sp2 (f:Int->Int->Int) (C:Int->Int->Prop):Sp:=fun vs H Q _=>∃ a b,vs=[.int a,.int b]/\C a b/\Q (.int (f a b)) H
def In64 (a:Int):Prop:=0<=a/\a<18446744073709551616
noncomputable def rkAdd (a b:Int):Int:=(a+b) % 18446744073709551616
noncomputable def rkSub (a b:Int):Int:=(a-b) % 18446744073709551616
noncomputable def rkMul (a b:Int):Int:=a*b % 18446744073709551616
noncomputable def rkDiv (a b:Int):Int:=if b=0 then 0 else a / b
noncomputable def rkMod (a b:Int):Int:=if b=0 then 0 else a % b
noncomputable def rkLt (a b:Int):Int:=if a<b then 1 else 0
noncomputable def rkEq (a b:Int):Int:=if a=b then 1 else 0
noncomputable def rkAnd (a b:Int):Int:=Builtin.bitAnd a b
noncomputable def rkOr (a b:Int):Int:=Builtin.bitOr a b
noncomputable def rkXor (a b:Int):Int:=Builtin.bitXor a b
noncomputable def rkUp (a b:Int):Int:=if 64<=b then 0 else a*2 ^ b.toNat % 18446744073709551616
noncomputable def rkDown (a b:Int):Int:=if 64<=b then 0 else a / 2 ^ b.toNat
def ZaW (a b:Int):Prop:=In64 a/\In64 b
noncomputable def RK:List (Str×(Int->Int->Int)):=[("add", rkAdd),("minus", rkSub),("times", rkMul),("over", rkDiv),("rest", rkMod),("below", rkLt),("same", rkEq),("both", rkAnd),("either", rkOr),("unlike", rkXor),("up", rkUp),("down", rkDown)]
def ZiW:Sp:=fun vs H Q _=>∃ x a b f,vs=[.str x,.int a,.int b]/\RK.lookup x=some f/\ZaW a b/\Q (.int (f a b)) H
def ZnB (P:Program) (w:World) (K:PySem.W.Frag) (mg:Str->Option Value) (base:Heap) (aS:Addr):Prop :=
 ∃ vs,Zdl P w K aS vs/\∀ x f,RK.lookup x=some f->∃ fa,valueAt vs (.inr x)=some (.ref fa)/\CalF P w K mg base 1 fa (sp2 f ZaW)
section
variable {P:Program} {w:World} {K:PySem.W.Frag} {mg:Str->Option Value} {base:Heap}
theorem ZmB:FnScope ["one", "other"] ["one", "other"] (Zaf ZhT):=by walk_at "c"
theorem ZmC    (D:Zaq K mg "added" ZhT) (g_WIDE:Za0 mg "WIDE" (.int 18446744073709551616)):Cal P w K mg base 1 "added" (sp2 rkAdd ZaW):=by
 refine ZaA D ZmB (fun vs H Q E h=>?_) (by walk_at "b") (fun f cdv A outer s H vs Q E hr h=>?_)
 .obtain ⟨a,b,rfl,_⟩:=h;rfl
 .obtain ⟨a,b,rfl,⟨⟨ha0,ha1⟩,hb0,hb1⟩,k⟩:=h
  refine ⟨_,(Zae (Zak (Zax ZaV (Zax Zbc (pv 0) (pv 1)) (ZbB rfl g_WIDE)))),?_⟩
  walk_at "nx"
  walk_at "Q'"
  exact k
theorem ZhX:FnScope ["one", "other"] ["one", "other"] (Zaf Zdz):=by walk_at "c"
theorem ZhY    (D:Zaq K mg "lessened" Zdz) (g_WIDE:Za0 mg "WIDE" (.int 18446744073709551616)):Cal P w K mg base 1 "lessened" (sp2 rkSub ZaW):=by
 refine ZaA D ZhX (fun vs H Q E h=>?_) (by walk_at "b") (fun f cdv A outer s H vs Q E hr h=>?_)
 .obtain ⟨a,b,rfl,_⟩:=h;rfl
 .obtain ⟨a,b,rfl,⟨⟨ha0,ha1⟩,hb0,hb1⟩,k⟩:=h
  refine ⟨_,(Zae (Zak (Zax ZaV (Zax Zcb (pv 0) (pv 1)) (ZbB rfl g_WIDE)))),?_⟩
  walk_at "nx"
  walk_at "Q'"
  exact k
theorem Zf3:FnScope ["one", "other"] ["one", "other"] (Zaf Zco):=by walk_at "c"
theorem Zf4    (D:Zaq K mg "multiplied" Zco) (g_WIDE:Za0 mg "WIDE" (.int 18446744073709551616)):Cal P w K mg base 1 "multiplied" (sp2 rkMul ZaW):=by
 refine ZaA D Zf3 (fun vs H Q E h=>?_) (by walk_at "b") (fun f cdv A outer s H vs Q E hr h=>?_)
 .obtain ⟨a,b,rfl,_⟩:=h;rfl
 .obtain ⟨a,b,rfl,⟨⟨ha0,ha1⟩,hb0,hb1⟩,k⟩:=h
  refine ⟨_,(Zae (Zak (Zax ZaV (Zax Zep (pv 0) (pv 1)) (ZbB rfl g_WIDE)))),?_⟩
  walk_at "nx"
  walk_at "Q'"
  exact k
theorem ZgW:FnScope ["one", "other"] ["one", "other"] (Zaf ZcR):=by walk_at "c"
theorem ZgX    (D:Zaq K mg "contained" ZcR):Cal P w K mg base 1 "contained" (sp2 rkDiv ZaW):=by
 refine ZaA D ZgW (fun vs H Q E h=>?_) (by walk_at "b") (fun f cdv A outer s H vs Q E hr h=>?_)
 .obtain ⟨a,b,rfl,_⟩:=h;rfl
 .obtain ⟨a,b,rfl,⟨⟨ha0,ha1⟩,hb0,hb1⟩,k⟩:=h
  refine ⟨_,(Zab (ZaK (Zal ZaX (pv 1) Zac (nomark _)) (Zae (Zak Zac)) Zap)
   (Zae (Zak (Zax Za5 (pv 0) (pv 1))))),?_⟩
  walk_at "nx"
  walk_at "Q'"
  .rename_i e;exact ZbA (by unfold rkDiv;rw [if_pos e]) k
  .rename_i e;exact ZbA (by unfold rkDiv;rw [if_neg e]) k
theorem ZgY:FnScope ["one", "other"] ["one", "other"] (Zaf ZcS):=by walk_at "c"
theorem ZgZ    (D:Zaq K mg "left_over" ZcS):Cal P w K mg base 1 "left_over" (sp2 rkMod ZaW):=by
 refine ZaA D ZgY (fun vs H Q E h=>?_) (by walk_at "b") (fun f cdv A outer s H vs Q E hr h=>?_)
 .obtain ⟨a,b,rfl,_⟩:=h;rfl
 .obtain ⟨a,b,rfl,⟨⟨ha0,ha1⟩,hb0,hb1⟩,k⟩:=h
  refine ⟨_,(Zab (ZaK (Zal ZaX (pv 1) Zac (nomark _)) (Zae (Zak Zac)) Zap)
   (Zae (Zak (Zax ZaV (pv 0) (pv 1))))),?_⟩
  walk_at "nx"
  walk_at "Q'"
  .rename_i e;exact ZbA (by unfold rkMod;rw [if_pos e]) k
  .rename_i e;exact ZbA (by unfold rkMod;rw [if_neg e]) k
theorem ZhZ:FnScope ["one", "other"] ["one", "other"] (Zaf ZdA):=by walk_at "c"
theorem Zh0    (D:Zaq K mg "is_below" ZdA):Cal P w K mg base 1 "is_below" (sp2 rkLt ZaW):=by
 refine ZaA D ZhZ (fun vs H Q E h=>?_) (by walk_at "b") (fun f cdv A outer s H vs Q E hr h=>?_)
 .obtain ⟨a,b,rfl,_⟩:=h;rfl
 .obtain ⟨a,b,rfl,⟨⟨ha0,ha1⟩,hb0,hb1⟩,k⟩:=h
  refine ⟨_,(Zae (Zak (Zec (Zal ZdZ (pv 0) (pv 1) (nomark _)) Zac Zac))),?_⟩
  walk_at "nx"
  walk_at "Q'"
  .rename_i e;exact ZbA (by unfold rkLt;rw [if_pos e]) k
  .rename_i e;exact ZbA (by unfold rkLt;rw [if_neg e]) k
theorem ZjB:FnScope ["one", "other"] ["one", "other"] (Zaf ZeH):=by walk_at "c"
theorem ZjC    (D:Zaq K mg "is_same" ZeH):Cal P w K mg base 1 "is_same" (sp2 rkEq ZaW):=by
 refine ZaA D ZjB (fun vs H Q E h=>?_) (by walk_at "b") (fun f cdv A outer s H vs Q E hr h=>?_)
 .obtain ⟨a,b,rfl,_⟩:=h;rfl
 .obtain ⟨a,b,rfl,⟨⟨ha0,ha1⟩,hb0,hb1⟩,k⟩:=h
  refine ⟨_,(Zae (Zak (Zec (Zal ZaX (pv 0) (pv 1) (nomark _)) Zac Zac))),?_⟩
  walk_at "nx"
  walk_at "Q'"
  .rename_i e;exact ZbA (by unfold rkEq;rw [if_pos e]) k
  .rename_i e;exact ZbA (by unfold rkEq;rw [if_neg e]) k
theorem ZjD:FnScope ["one", "other"] ["one", "other"] (Zaf ZeI):=by walk_at "c"
theorem ZjE    (D:Zaq K mg "in_both" ZeI):Cal P w K mg base 1 "in_both" (sp2 rkAnd ZaW):=by
 refine ZaA D ZjD (fun vs H Q E h=>?_) (by walk_at "b") (fun f cdv A outer s H vs Q E hr h=>?_)
 .obtain ⟨a,b,rfl,_⟩:=h;rfl
 .obtain ⟨a,b,rfl,⟨⟨ha0,ha1⟩,hb0,hb1⟩,k⟩:=h
  refine ⟨_,(Zae (Zak (Zax op_and (pv 0) (pv 1)))),?_⟩
  walk_at "nx"
  walk_at "Q'"
  exact k
theorem Zg0:FnScope ["one", "other"] ["one", "other"] (Zaf ZcT):=by walk_at "c"
theorem Zg1    (D:Zaq K mg "in_either" ZcT):Cal P w K mg base 1 "in_either" (sp2 rkOr ZaW):=by
 refine ZaA D Zg0 (fun vs H Q E h=>?_) (by walk_at "b") (fun f cdv A outer s H vs Q E hr h=>?_)
 .obtain ⟨a,b,rfl,_⟩:=h;rfl
 .obtain ⟨a,b,rfl,⟨⟨ha0,ha1⟩,hb0,hb1⟩,k⟩:=h
  refine ⟨_,(Zae (Zak (Zax op_or (pv 0) (pv 1)))),?_⟩
  walk_at "nx"
  walk_at "Q'"
  exact k
theorem Zfg:FnScope ["one", "other"] ["one", "other"] (Zaf Zb4):=by walk_at "c"
theorem Zfh    (D:Zaq K mg "in_just_one" Zb4):Cal P w K mg base 1 "in_just_one" (sp2 rkXor ZaW):=by
 refine ZaA D Zfg (fun vs H Q E h=>?_) (by walk_at "b") (fun f cdv A outer s H vs Q E hr h=>?_)
 .obtain ⟨a,b,rfl,_⟩:=h;rfl
 .obtain ⟨a,b,rfl,⟨⟨ha0,ha1⟩,hb0,hb1⟩,k⟩:=h
  refine ⟨_,(Zae (Zak (Zax op_xor (pv 0) (pv 1)))),?_⟩
  walk_at "nx"
  walk_at "Q'"
  exact k
theorem ZjF:FnScope ["one", "other"] ["one", "other"] (Zaf ZeJ):=by walk_at "c"
theorem ZjG    (D:Zaq K mg "doubled" ZeJ) (n_max:mg "max" = none) (g_FIGURES:Za0 mg "FIGURES" (.int 64)) (g_WIDE:Za0 mg "WIDE" (.int 18446744073709551616)):Cal P w K mg base 1 "doubled" (sp2 rkUp ZaW):=by
 refine ZaA D ZjF (fun vs H Q E h=>?_) (by walk_at "b") (fun f cdv A outer s H vs Q E hr h=>?_)
 .obtain ⟨a,b,rfl,_⟩:=h;rfl
 .obtain ⟨a,b,rfl,⟨⟨ha0,ha1⟩,hb0,hb1⟩,k⟩:=h
  refine ⟨_,(Zab (ZaK (Zal Zl4 (pv 1) (ZbB rfl g_FIGURES) (nomark _)) (Zae (Zak Zac)) Zap)
   (Zae (Zak (Zax ZaV (Zax op_shl (pv 0) (ZaO (Zkz rfl) rfl n_max PyProof.Rows.boot_max (Zaa (pv 1) (Zaa Zac Zad)))) (ZbB rfl g_WIDE))))),?_⟩
  walk_at "nx"
  walk_at "Q'"
  .rename_i e;exact ZbA (by unfold rkUp;rw [if_pos e]) k
  .rename_i e
   refine ZhL ?_
   have m0:(if (0:Int)>b then (0:Int) else b)=b:=if_neg (by omega)
   rw [m0]
   refine rd_I ⟨hb0,by omega,by omega⟩ ?_
   walk_at "Q"
   exact ZbA (by unfold rkUp;rw [if_neg e]) k
theorem ZkZ:FnScope ["one", "other"] ["one", "other"] (Zaf ZfS):=by walk_at "c"
theorem Zk0    (D:Zaq K mg "halved" ZfS) (n_max:mg "max" = none) (g_FIGURES:Za0 mg "FIGURES" (.int 64)):Cal P w K mg base 1 "halved" (sp2 rkDown ZaW):=by
 refine ZaA D ZkZ (fun vs H Q E h=>?_) (by walk_at "b") (fun f cdv A outer s H vs Q E hr h=>?_)
 .obtain ⟨a,b,rfl,_⟩:=h;rfl
 .obtain ⟨a,b,rfl,⟨⟨ha0,ha1⟩,hb0,hb1⟩,k⟩:=h
  refine ⟨_,(Zab (ZaK (Zal Zl4 (pv 1) (ZbB rfl g_FIGURES) (nomark _)) (Zae (Zak Zac)) Zap)
   (Zae (Zak (Zax op_shr (pv 0) (ZaO (Zkz rfl) rfl n_max PyProof.Rows.boot_max (Zaa (pv 1) (Zaa Zac Zad))))))),?_⟩
  walk_at "nx"
  walk_at "Q'"
  .rename_i e;exact ZbA (by unfold rkDown;rw [if_pos e]) k
  .rename_i e
   refine ZhL ?_
   have m0:(if (0:Int)>b then (0:Int) else b)=b:=if_neg (by omega)
   rw [m0]
   refine rd_I hb0 ?_
   walk_at "Q"
   exact ZbA (by unfold rkDown;rw [if_neg e]) k
theorem Zoz {aS:Addr} {u1 u2 u3 u4 u5 u6 u7 u8 u9 u10 u11 u12:Value} (dk:Zdl P w K aS [(Sum.inr "add", u1),(Sum.inr "minus", u2),(Sum.inr "times", u3),(Sum.inr "over", u4),(Sum.inr "rest", u5),(Sum.inr "below", u6),(Sum.inr "same", u7),(Sum.inr "both", u8),(Sum.inr "either", u9),(Sum.inr "unlike", u10),(Sum.inr "up", u11),(Sum.inr "down", u12)])
  (m1:mg "added" = some u1) (m2:mg "lessened" = some u2) (m3:mg "multiplied" = some u3) (m4:mg "contained" = some u4) (m5:mg "left_over" = some u5) (m6:mg "is_below" = some u6) (m7:mg "is_same" = some u7) (m8:mg "in_both" = some u8) (m9:mg "in_either" = some u9) (m10:mg "in_just_one" = some u10) (m11:mg "doubled" = some u11) (m12:mg "halved" = some u12)
  (c1:Cal P w K mg base 1 "added" (sp2 rkAdd ZaW)) (c2:Cal P w K mg base 1 "lessened" (sp2 rkSub ZaW)) (c3:Cal P w K mg base 1 "multiplied" (sp2 rkMul ZaW)) (c4:Cal P w K mg base 1 "contained" (sp2 rkDiv ZaW)) (c5:Cal P w K mg base 1 "left_over" (sp2 rkMod ZaW)) (c6:Cal P w K mg base 1 "is_below" (sp2 rkLt ZaW)) (c7:Cal P w K mg base 1 "is_same" (sp2 rkEq ZaW)) (c8:Cal P w K mg base 1 "in_both" (sp2 rkAnd ZaW)) (c9:Cal P w K mg base 1 "in_either" (sp2 rkOr ZaW)) (c10:Cal P w K mg base 1 "in_just_one" (sp2 rkXor ZaW)) (c11:Cal P w K mg base 1 "doubled" (sp2 rkUp ZaW)) (c12:Cal P w K mg base 1 "halved" (sp2 rkDown ZaW)):ZnB P w K mg base aS:=by
 refine ⟨_,dk,fun x f h=>?_⟩
 have hm:=Zbk h
 simp only [RK,List.mem_cons,Prod.mk.injEq,List.not_mem_nil,or_false] at hm
 rcases hm with ⟨rfl,rfl⟩|⟨rfl,rfl⟩|⟨rfl,rfl⟩|⟨rfl,rfl⟩|⟨rfl,rfl⟩|⟨rfl,rfl⟩|⟨rfl,rfl⟩|⟨rfl,rfl⟩|⟨rfl,rfl⟩|⟨rfl,rfl⟩|⟨rfl,rfl⟩|⟨rfl,rfl⟩
 .obtain ⟨fa,m,c⟩:=c1
  rw [m1] at m
  cases m
  exact ⟨fa,rfl,c⟩
 .obtain ⟨fa,m,c⟩:=c2
  rw [m2] at m
  cases m
  exact ⟨fa,rfl,c⟩
 .obtain ⟨fa,m,c⟩:=c3
  rw [m3] at m
  cases m
  exact ⟨fa,rfl,c⟩
 .obtain ⟨fa,m,c⟩:=c4
  rw [m4] at m
  cases m
  exact ⟨fa,rfl,c⟩
 .obtain ⟨fa,m,c⟩:=c5
  rw [m5] at m
  cases m
  exact ⟨fa,rfl,c⟩
 .obtain ⟨fa,m,c⟩:=c6
  rw [m6] at m
  cases m
  exact ⟨fa,rfl,c⟩
 .obtain ⟨fa,m,c⟩:=c7
  rw [m7] at m
  cases m
  exact ⟨fa,rfl,c⟩
 .obtain ⟨fa,m,c⟩:=c8
  rw [m8] at m
  cases m
  exact ⟨fa,rfl,c⟩
 .obtain ⟨fa,m,c⟩:=c9
  rw [m9] at m
  cases m
  exact ⟨fa,rfl,c⟩
 .obtain ⟨fa,m,c⟩:=c10
  rw [m10] at m
  cases m
  exact ⟨fa,rfl,c⟩
 .obtain ⟨fa,m,c⟩:=c11
  rw [m11] at m
  cases m
  exact ⟨fa,rfl,c⟩
 .obtain ⟨fa,m,c⟩:=c12
  rw [m12] at m
  cases m
  exact ⟨fa,rfl,c⟩
theorem Zk1:FnScope ["word", "one", "other"] ["word", "one", "other"] (Zaf ZfT):=by walk_at "c"
theorem Zk2  {aS:Addr} (S:ZnB P w K mg base aS)  (D:Zaq K mg "reckon" ZfT) (g_SUMS:Za0 mg "SUMS" (.ref aS)):Cal P w K mg base 2 "reckon" ZiW:=by
 refine ZaA D Zk1 (fun vs H Q E h=>?_) (by walk_at "b") (fun f cdv A outer s H vs Q E hr h=>?_)
 .obtain ⟨x,a,b,f,rfl,_⟩:=h;rfl
 .obtain ⟨x,a,b,fn,rfl,hx,hc,k⟩:=h
  refine ⟨_,(Zae (Zak (ZiR (k:=1) (hr.mono (by decide)) (Zfy (ZbB rfl g_SUMS) (pv 0) (fun _ _=>rfl)) (Zaa (pv 1) (Zaa (pv 2) Zad))))),?_⟩
  walk_at "nx"
  obtain ⟨ws,dk,al⟩:=S
  obtain ⟨fa,hv,cf⟩:=al x fn hx
  refine Znu ?_
  show tCallV _ _ _ _ _ _ _ _ _ _ _
  refine ⟨_,rfl,aS,ws,.inr x,.ref fa,.ref fa,rfl,rfl,dk,hv,rfl,fa,_,rfl,cf,?_⟩
  walk_at "Q"
  exact ⟨a,b,rfl,hc,k⟩
end
noncomputable def RT:List (Str×Int×Int×Int×Int):=[("push", 0,1,1,1),("drop", 1,0,1,1),("copy", 1,2,1,1),("swap", 1,1,1,1),("add", 2,1,1,1),("minus", 2,1,1,1),("times", 2,1,2,2),("over", 2,1,2,2),("rest", 2,1,2,2),("below", 2,1,1,1),("same", 2,1,1,1),("both", 2,1,1,1),("either", 2,1,1,1),("unlike", 2,1,1,1),("up", 2,1,1,1),("down", 2,1,1,1),("jump", 0,0,1,1),("jumpif", 1,0,1,1),("load", 1,1,3,3),("save", 2,0,5,12),("me", 0,1,1,1),("from", 0,1,1,1),("sent", 0,1,1,1),("word", 0,1,1,1),("coin", 1,1,3,3),("note", 1,0,4,4),("call", 4,2,8,12),("borrow", 3,2,6,6),("look", 3,2,6,6),("give", 1,0,1,1),("fail", 1,0,1,1)]
noncomputable def rowV (x:Str) (n:Option Int):List V:=rowVs (x,n)
noncomputable def Zby (x:Str) (n:Option Int):Option Int:=if inS x ["copy", "swap"]=true then n else some 0
def Zg2 (P:Program) (w:World) (K:PySem.W.Frag) (aT:Addr):Prop :=
 ∃ vs,Zdl P w K aT vs/\∀ x t l p d,RT.lookup x=some (t,l,p,d)->∃ ta,valueAt vs (.inr x)=some (.ref ta)/\TupK K ta [.int t,.int l,.int p,.int d]
def Zbj (K:PySem.W.Frag) (H:Hp) (p:Addr) (x:Str) (n:Option Int):Prop:=SqT K H p (rowV x n)
theorem Zh1 {x:Str} {n:Option Int}:atI (rowV x n) 0=some (.str x):=by cases n<;>rfl
def Zh2 (K:PySem.W.Frag):Sp:=fun vs H Q _=>∃ p x n r,vs=[.ref p]/\Zbj K H p x n/\Zby x n=some r/\Q (.int r) H
def Zf5 (K:PySem.W.Frag):Sp:=fun vs H Q _=>∃ p x n r t l pr d,vs=[.ref p]/\Zbj K H p x n/\Zby x n=some r/\RT.lookup x=some (t,l,pr,d)/\Q (.int (t+r)) H
def ZiX (K:PySem.W.Frag):Sp:=fun vs H Q _=>∃ p x n r t l pr d,vs=[.ref p]/\Zbj K H p x n/\Zby x n=some r/\RT.lookup x=some (t,l,pr,d)/\Q (.int (l+r)) H
def Zk3 (K:PySem.W.Frag):Sp:=fun vs H Q _=>∃ p x n t l pr d b,vs=[.ref p,.bl b]/\Zbj K H p x n/\RT.lookup x=some (t,l,pr,d)/\Q (.int (if b=true then d else pr)) H
local macro_rules|`(tactic| walk_at "rw")=>`(tactic| first
 | walk_at "rdk"
 | ((with_reducible refine' L2.Zcc ?h ?e ?_);(case h=>assumption);(case e=>exact My.Zh1))
 | fail)
local macro_rules|`(tactic| walk_at "rz")=>`(tactic| first
 | ((with_reducible refine L2.Zdy (fun _=>?_) (fun _=>?_))<;>(try (exfalso;omega)))
 | ((with_reducible refine L2.ZcC (fun _=>?_) (fun _=>?_))<;>(try (exfalso;omega)))
 | ((with_reducible refine L2.rd_iteNND (fun _=>?_) (fun _=>?_))<;>(try (exfalso;omega)))
 | walk_at "rw"
 | fail)
section
variable {P:Program} {w:World} {K:PySem.W.Frag} {mg:Str->Option Value} {base:Heap}
theorem ZmD:FnScope ["row"] ["row"] (Zaf ZhQ):=by walk_at "c"
theorem ZmE  {aR:Addr} (tR:TupK K aR ((["copy", "swap"]:List Str).map V.str))  (D:Zaq K mg "reach" ZhQ) (g_REACHING:Za0 mg "REACHING" (.ref aR)):Cal P w K mg base 1 "reach" (Zh2 K):=by
 refine ZaA D ZmD (fun vs H Q E h=>?_) (by walk_at "b") (fun f cdv A outer s H vs Q E hr h=>?_)
 .obtain ⟨p,x,n,r,rfl,_⟩:=h;rfl
 .obtain ⟨p,x,n,r,rfl,hp,hr',k⟩:=h
  refine ⟨_,(Zab (ZaK (Zal ZaQ (Zan Zau (pv 0) Zac (fun _ _=>rfl)) (ZbB rfl g_REACHING) rfl) (Zae (Zak (Zan Zau (pv 0) Zac (fun _ _=>rfl)))) Zap)
   (Zae (Zak Zac))),?_⟩
  walk_at "nx"
  walk_at "Q"
  refine Zcc hp Zh1 ?_
  walk_at "Q"
  refine Za3 (tR.sqt H) ?_
  walk_at "Q"
  unfold Zby at hr'
  cases e:inS x ["copy", "swap"] with
  | true =>
   rw [e,if_pos rfl] at hr'
   subst hr'
   walk_at "Q"
   refine Zcc hp rfl ?_
   exact k
  | false =>
   rw [e,if_neg (by decide)] at hr'
   cases hr'
   walk_at "Q"
   exact k
theorem ZmF:FnScope ["row"] ["row"] (Zaf ZhR):=by walk_at "c"
theorem ZmG  {aT:Addr} (R:Zg2 P w K aT)  (D:Zaq K mg "takes" ZhR) (c_reach:Cal P w K mg base 1 "reach" (Zh2 K)) (g_ROWS:Za0 mg "ROWS" (.ref aT)):Cal P w K mg base 2 "takes" (Zf5 K):=by
 refine ZaA D ZmF (fun vs H Q E h=>?_) (by walk_at "b") (fun f cdv A outer s H vs Q E hr h=>?_)
 .obtain ⟨p,x,n,r,t,l,pr,d,rfl,_⟩:=h;rfl
 .obtain ⟨p,x,n,r,t,l,pr,d,rfl,hp,hr',ht,k⟩:=h
  refine ⟨_,(Zae (Zak (Zax Zbc (Zan Zau (Zfy (ZbB rfl g_ROWS) (Zan Zau (pv 0) Zac (fun _ _=>rfl)) (fun _ _=>rfl)) Zac (fun _ _=>rfl)) (ZaB c_reach (hr.mono (by decide)) rfl (Zaa (pv 0) Zad))))),?_⟩
  walk_at "nx"
  obtain ⟨ws,dk,al⟩:=R
  obtain ⟨ta,hv,tk⟩:=al x t l pr d ht
  have tk':=tk.sqt H
  walk_at "W"
  refine ZkC (v:=.ref ta) dk hv rfl ?_
  walk_at "W"
  refine ⟨p,x,n,r,rfl,hp,hr',?_⟩
  walk_at "W"
  exact k
theorem Zk4:FnScope ["row"] ["row"] (Zaf ZfR):=by walk_at "c"
theorem Zk5  {aT:Addr} (R:Zg2 P w K aT)  (D:Zaq K mg "leaves" ZfR) (c_reach:Cal P w K mg base 1 "reach" (Zh2 K)) (g_ROWS:Za0 mg "ROWS" (.ref aT)):Cal P w K mg base 2 "leaves" (ZiX K):=by
 refine ZaA D Zk4 (fun vs H Q E h=>?_) (by walk_at "b") (fun f cdv A outer s H vs Q E hr h=>?_)
 .obtain ⟨p,x,n,r,t,l,pr,d,rfl,_⟩:=h;rfl
 .obtain ⟨p,x,n,r,t,l,pr,d,rfl,hp,hr',ht,k⟩:=h
  refine ⟨_,(Zae (Zak (Zax Zbc (Zan Zau (Zfy (ZbB rfl g_ROWS) (Zan Zau (pv 0) Zac (fun _ _=>rfl)) (fun _ _=>rfl)) Zac (fun _ _=>rfl)) (ZaB c_reach (hr.mono (by decide)) rfl (Zaa (pv 0) Zad))))),?_⟩
  walk_at "nx"
  obtain ⟨ws,dk,al⟩:=R
  obtain ⟨ta,hv,tk⟩:=al x t l pr d ht
  have tk':=tk.sqt H
  walk_at "W"
  refine ZkC (v:=.ref ta) dk hv rfl ?_
  walk_at "W"
  refine ⟨p,x,n,r,rfl,hp,hr',?_⟩
  walk_at "W"
  exact k
theorem ZmH:FnScope ["row", "dear"] ["row", "dear"] (Zaf ZhS):=by walk_at "c"
theorem ZmI {aT:Addr} (R:Zg2 P w K aT) (D:ZkF K mg "price" ZhS #[.bool false]) (g_ROWS:Za0 mg "ROWS" (.ref aT)):CalD P w K mg base 1 "price" (Zk3 K) []:=by
 obtain ⟨f,fd,F,m⟩:=D
 refine ⟨f,fd,_,[],m,F.fn ZmH (fun vs H Q E h=>?_) (fun cdv A outer s H vs Q E hr h=>?_),F.kp,F.binds (ps:=["row", "dear"]) [] (fun T kV doc pm an cdv ct us hl=>bd2 (R:=fun us=>∃ k:Option (Array Value)->Sem (List (Str×Value)),bindArgs _ ⟨us,[]⟩=seqItems? (.ref T) >>= k/\k (some _)=pure (List.zip _ (us++[]))) (fun _ _=>⟨_,rfl,rfl⟩) us (by simpa using hl)),.nil⟩
 .obtain ⟨p,x,n,t,l,pr,d,b,rfl,_⟩:=h;rfl
 .obtain ⟨p,x,n,t,l,pr,d,b,rfl,hp,ht,k⟩:=h
  refine ⟨_,(Zab (ZaK (ZbP (pv 1)) (Zae (Zak (Zan Zau (Zfy (ZbB rfl g_ROWS) (Zan Zau (pv 0) Zac (fun _ _=>rfl)) (fun _ _=>rfl)) Zac (fun _ _=>rfl)))) Zap)
   (Zae (Zak (Zan Zau (Zfy (ZbB rfl g_ROWS) (Zan Zau (pv 0) Zac (fun _ _=>rfl)) (fun _ _=>rfl)) Zac (fun _ _=>rfl))))),?_⟩
  walk_at "nx"
  obtain ⟨ws,dk,al⟩:=R
  obtain ⟨ta,hv,tk⟩:=al x t l pr d ht
  have tk':=tk.sqt H
  walk_at "W"
  cases b with
  | true =>
   walk_at "W"
   refine ZkC (v:=.ref ta) dk hv rfl ?_
   walk_at "W"
   exact k
  | false =>
   walk_at "W"
   refine ZkC (v:=.ref ta) dk hv rfl ?_
   walk_at "W"
   exact k
end
noncomputable def accF (c p n:Int) (pr st:Addr):List (Str×V):=[("coin", .int c),("purse", .int p),("count", .int n),("program", .ref pr),("store", .ref st)]
structure AcAt (K:PySem.W.Frag) (C:Addr) (H:Hp) (a dx pr st:Addr) (c p n:Int) (rs:List Row) (f:Int->Int) (m:Nat):Prop where
 ob:H a=some (.ins C dx (accF c p n pr st))
 pg:∃ xs,H pr=some (.lst xs)/\RowsAt K H rs xs
 sto:StoreAt H st f m
def spInit (K:PySem.W.Frag) (C:Addr):Sp:=fun vs H Q _=>∃ (a dx pr0:Addr) (c p:Int) (xs:List V) (rs:List Row),vs=[.ref a,.int c,.int p,.ref pr0]/\H a=some (.ins C dx [])/\SqL K H pr0 xs/\RowsAt K H rs xs /\
 ∀ (pr st:Addr) (H':Hp),H pr=none->H st=none->pr≠st->AcAt K C H' a dx pr st c p 0 rs (fun _=>0) 0->(∀ b o,H b=some o->b≠a->H' b=some o)->Q .non H'
def Zeg (K:PySem.W.Frag) (C:Addr):Sp:=fun vs H Q _=>∃ (a dx pr st:Addr) (c p n:Int) (rs:List Row) (f:Int->Int) (m:Nat) (i:Int),vs=[.ref a,.int i]/\AcAt K C H a dx pr st c p n rs f m/\Q (.int (f i)) H
def spKeep (K:PySem.W.Frag) (C:Addr):Sp:=fun vs H Q _=>∃ (a dx pr st:Addr) (c p n:Int) (rs:List Row) (f:Int->Int) (m:Nat) (i v:Int),vs=[.ref a,.int i,.int v]/\AcAt K C H a dx pr st c p n rs f m/\m<=1000000 /\
 ∀ H',(∀ b,b≠st->H' b=H b)->StoreAt H' st (putFn f i v) (m+1)->Q .non H'
theorem AcAt.nd {K:PySem.W.Frag} {C:Addr} {H H':Hp} {a dx pr st:Addr} {c p n:Int} {rs:List Row} {f g:Int->Int} {m m':Nat} (h:AcAt K C H a dx pr st c p n rs f m) (s:SameND H H') (e:StoreAt H' st g m'):AcAt K C H' a dx pr st c p n rs g m' :=
 ⟨s _ _ h.ob (by intro _ z;cases z),let ⟨xs,e1,e2⟩:=h.pg;⟨xs,s _ _ e1 (by intro _ z;cases z),e2.keep s.imm⟩,e⟩
theorem SameND.but {H H':Hp} {st:Addr} {kvs:List (Key×V)} (h:H st=some (.dK kvs)) (k:∀ b,b≠st->H' b=H b):SameND H H':=fun b u e n=>by
 rw [k b (fun z=>by rw [z,h] at e;exact n kvs (Option.some.inj e).symm)];exact e
structure AcI where
 a:Addr
 dx:Addr
 pr:Addr
 st:Addr
structure AcS where
 coin:Int
 purse:Int
 count:Int
 rows:List Row
 store:Int->Int
noncomputable def roomV:Option AcI->V
 | none=>.non
 | some x=>.ref x.a
def Acc (K:PySem.W.Frag) (C:Addr) (H:Hp) (x:AcI) (S:AcS) (m:Nat):Prop:=AcAt K C H x.a x.dx x.pr x.st S.coin S.purse S.count S.rows S.store m
structure Rooms (K:PySem.W.Frag) (C:Addr) (H:Hp) (R:Addr) (A:Nat->Option AcI) (S:Nat->AcS) (m:Nat):Prop where
 ob:H R=some (.lst ((List.range 16).map fun i=>roomV (A i)))
 ac:∀ i x,i<16->A i=some x->Acc K C H x (S i) m
 da:∀ i j x y,i<16->j<16->A i=some x->A j=some y->x.a=y.a->i=j
 ds:∀ i j x y,i<16->j<16->A i=some x->A j=some y->x.st=y.st->i=j
noncomputable def setS (S:Nat->AcS) (i:Nat) (v:AcS):Nat->AcS:=fun j=>if j=i then v else S j
theorem Rooms.at {K:PySem.W.Frag} {C:Addr} {H:Hp} {R:Addr} {A:Nat->Option AcI} {S:Nat->AcS} {m:Nat} (r:Rooms K C H R A S m) {i:Nat} (hi:i<16) {x:AcI} (hx:A i=some x):atI ((List.range 16).map fun i=>roomV (A i)) (i:Int)=some (.ref x.a) :=
 ZcD (i:=i) (by rw [List.getElem?_map,List.getElem?_range hi];show some (roomV (A i))=_;rw [hx];rfl) rfl
theorem Acc.le {K:PySem.W.Frag} {C:Addr} {H:Hp} {x:AcI} {S:AcS} {m m':Nat} (h:Acc K C H x S m) (e:m<=m'):Acc K C H x S m':=⟨h.ob,h.pg,h.sto.le e⟩
theorem Rooms.keep {K:PySem.W.Frag} {C:Addr} {H H':Hp} {R:Addr} {A:Nat->Option AcI} {S:Nat->AcS} {m:Nat} (r:Rooms K C H R A S m) {i:Nat} (hi:i<16) {x:AcI} (hx:A i=some x) (k:∀ b,b≠x.st->H' b=H b) {p v:Int} (e:StoreAt H' x.st (putFn (S i).store p v) (m+1)) :
  Rooms K C H' R A (setS S i { S i with store:=putFn (S i).store p v }) (m+1):=by
 have ai:=r.ac i x hi hx
 obtain ⟨kvs,hs,_⟩:=ai.sto
 have nd:=SameND.but hs k
 refine ⟨by rw [k R (Za6 r.ob hs (by intro z;cases z))];exact r.ob,fun j y hj hy=>?_,r.da,r.ds⟩
 unfold setS
 by_cases z:j=i
 .subst z
  rw [hx] at hy
  cases hy
  rw [if_pos rfl]
  exact AcAt.nd ai nd e
 .rw [if_neg z]
  have aj:=(r.ac j y hj hy).le (Nat.le_succ m)
  have hne:y.st≠x.st:=fun q=>z (r.ds j i y x hj hi hy hx q)
  exact AcAt.nd aj nd (aj.sto.same (k _ hne))
theorem Rooms.coin {K:PySem.W.Frag} {C:Addr} {H:Hp} {R:Addr} {A:Nat->Option AcI} {S:Nat->AcS} {m:Nat} (r:Rooms K C H R A S m) {i:Nat} (hi:i<16) {x:AcI} (hx:A i=some x) (c:Int) :
  Rooms K C (upd H x.a (.ins C x.dx (accF c (S i).purse (S i).count x.pr x.st))) R A (setS S i { S i with coin:=c }) m:=by
 have ai:=r.ac i x hi hx
 have im:SameI H (upd H x.a (.ins C x.dx (accF c (S i).purse (S i).count x.pr x.st))):=SameI.upd ai.ob ZcG
 refine ⟨by rw [Zaj (Za6 r.ob ai.ob (by intro z;cases z))];exact r.ob,fun j y hj hy=>?_,r.da,r.ds⟩
 have aj:=r.ac j y hj hy
 obtain ⟨xs,e1,e2⟩:=aj.pg
 obtain ⟨kvs,e3,e4⟩:=aj.sto
 have f1:(upd H x.a (.ins C x.dx (accF c (S i).purse (S i).count x.pr x.st))) y.pr=some (.lst xs):=by rw [Zaj (Za6 e1 ai.ob (by intro z;cases z))];exact e1
 have f2:(upd H x.a (.ins C x.dx (accF c (S i).purse (S i).count x.pr x.st))) y.st=some (.dK kvs):=by rw [Zaj (Za6 e3 ai.ob (by intro z;cases z))];exact e3
 unfold setS
 by_cases z:j=i
 .subst z
  rw [hx] at hy
  cases hy
  rw [if_pos rfl]
  exact ⟨Zag,⟨xs,f1,e2.keep im⟩,kvs,f2,e4⟩
 .rw [if_neg z]
  have hne:y.a≠x.a:=fun q=>z (r.da j i y x hj hi hy hx q)
  exact ⟨by rw [Zaj hne];exact aj.ob,⟨xs,f1,e2.keep im⟩,kvs,f2,e4⟩
noncomputable def moved (S:Nat->AcS) (i j:Nat) (k:Int):Nat->AcS:=let S1:=setS S i { S i with coin:=(S i).coin-k };setS S1 j { S1 j with coin:=(S1 j).coin+k }
def Zh3 (K:PySem.W.Frag) (C:Addr):Sp:=fun vs H Q _=>∃ (R:Addr) (A:Nat->Option AcI) (S:Nat->AcS) (m i j:Nat) (x y:AcI) (k:Int),vs=[.ref x.a,.ref y.a,.int k]/\Rooms K C H R A S m/\i<16/\j<16/\A i=some x/\A j=some y /\
 ∀ H',(∀ b,b≠x.a->b≠y.a->H' b=H b)->Rooms K C H' R A (moved S i j k) m->Q .non H'
section
variable {P:Program} {w:World} {K:PySem.W.Frag} {mg:Str->Option Value} {base:Heap}
theorem Zc6:FnScope ["self", "coin", "purse", "program"] ["self", "coin", "purse", "program"] (Zaf Zbp):=by walk_at "c"
theorem Zc7   {cAccount:Addr} (D:ZaG K cAccount "__init__" "Account.__init__" Zbp) (tAccount:T_Account K mg cAccount) (n_list:mg "list" = none):ICal P w K mg base 1 "Account" cAccount (spInit K cAccount):=by
 refine ZeE D tAccount.k Zc6 (fun vs H Q E h=>?_) (by walk_at "b") (fun f cdv A outer s H vs Q E hr h=>?_)
 .obtain ⟨a,dx,pr0,c,p,xs,rs,rfl,_⟩:=h;rfl
 .obtain ⟨a,dx,pr0,c,p,xs,rs,rfl,ha,hl,hR,k⟩:=h
  refine ⟨_,(Zab (ZaS (pv 0) (pv 1) rfl)
   (Zab (ZaS (pv 0) (pv 2) rfl)
   (Zab (ZaS (pv 0) Zac rfl)
   (Zab (ZaS (pv 0) (Zcg ZkK rfl n_list PyProof.Rows.boot_list (Zaa (pv 3) Zad)) rfl)
   (Zae (ZaS (pv 0) ZiP rfl)))))),?_⟩
  walk_at "nx"
  walk_at "K"
  refine ZaD ha tAccount.k.cl tAccount.n_coin (by decide) ?_
  walk_at "K"
  refine ZaD Zag tAccount.k.cl tAccount.n_purse (by show 1<1000;decide) ?_
  rw [ZaT]
  walk_at "K"
  refine ZaD Zag tAccount.k.cl tAccount.n_count (by show 2<1000;decide) ?_
  rw [ZaT]
  walk_at "K"
  refine ZfO (hl.updI ha) fun pr hpr=>?_
  have hn:H pr=none:=by
   by_cases e:pr=a
   .subst e;rw [Zag] at hpr;cases hpr
   .rw [Zaj e] at hpr;exact hpr
  have na:a≠pr:=Zam ha hn
  walk_at "K"
  refine ZaD (by rw [Zaj na,Zag]) tAccount.k.cl tAccount.n_program (by show 3<1000;decide) ?_
  walk_at "K"
  rename_i st hst
  have ns:st≠a:=fun e=>by subst e;rw [Zag] at hst;cases hst
  have np:st≠pr:=fun e=>by subst e;rw [Zaj ns,Zag] at hst;cases hst
  have hn2:H st=none:=by rw [Zaj ns,Zaj np,Zaj ns] at hst;exact hst
  refine ZaD (by rw [Zaj ns.symm,Zag]) tAccount.k.cl tAccount.n_store (by show 4<1000;decide) ?_
  have kp:∀ b o,H b=some o->b≠a->(upd (upd (upd (upd (upd H a (.ins cAccount dx [("coin", .int c),("purse", .int p),("count", .int 0)])) pr (.lst xs)) a (.ins cAccount dx [("coin", .int c),("purse", .int p),("count", .int 0),("program", .ref pr)])) st (.dK [])) a (.ins cAccount dx (accF c p 0 pr st))) b=some o:=by
   intro b o e hb
   have h1:b≠pr:=Zam e hn
   have h2:b≠st:=Zam e hn2
   rw [Zaj hb,Zaj h2,Zaj hb,Zaj h1,Zaj hb]
   exact e
  refine k pr st _ hn hn2 np.symm ⟨?_,⟨xs,?_,?_⟩,⟨[],?_,by decide,by simp,by simp,fun i=>rfl⟩⟩ ?_
  .rw [Zag];rfl
  .rw [Zaj na.symm,Zaj np.symm,Zaj na.symm,Zag]
  .refine hR.keep fun b u e i=>?_
   have hb:b≠a:=fun z=>by rw [z,ha] at e;cases e;exact ZcG i
   exact kp b u e hb
  .rw [Zaj ns,Zag]
  .exact kp
theorem ZdR:FnScope ["self", "place"] ["self", "place"] (Zaf Zbx):=by walk_at "c"
theorem ZdS   {cAccount:Addr} (D:ZaG K cAccount "loaded" "Account.loaded" Zbx) (tAccount:T_Account K mg cAccount):MCal P w K mg base 1 cAccount "loaded" (Zeg K cAccount):=by
 refine Za4 D tAccount.k.cl ZdR (fun vs H Q E h=>?_) (by walk_at "b") (fun f cdv A outer s H vs Q E hr h=>?_)
 .obtain ⟨a,dx,pr,st,c,p,n,rs,f,m,i,rfl,_⟩:=h;rfl
 .obtain ⟨a,dx,pr,st,c,p,n,rs,fn,m,i,rfl,A,k⟩:=h
  refine ⟨_,(Zae (Zak (Zme (ZhK hr) (Zao (pv 0) rfl) (pv 1) Zac ⟨rfl,rfl,rfl,rfl⟩))),?_⟩
  walk_at "nx"
  obtain ⟨kvs,hs,_,_,_,hf⟩:=A.sto
  walk_at "K"
  refine Zah A.ob tAccount.k.cl tAccount.n_store rfl ?_
  refine ⟨st,rfl,isD_k hs,?_⟩
  walk_at "K"
  exact ⟨_,DGet.k (k:=Sum.inl i) hs,by rw [hf i];exact k⟩
theorem ZeP:FnScope ["self", "place", "number"] ["self", "place", "number"] (Zaf ZbS):=by walk_at "c"
theorem ZeQ   {cAccount:Addr} (D:ZaG K cAccount "keep" "Account.keep" ZbS) (tAccount:T_Account K mg cAccount):MCal P w K mg base 1 cAccount "keep" (spKeep K cAccount):=by
 refine Za4 D tAccount.k.cl ZeP (fun vs H Q E h=>?_) (by walk_at "b") (fun f cdv A outer s H vs Q E hr h=>?_)
 .obtain ⟨a,dx,pr,st,c,p,n,rs,f,m,i,v,rfl,_⟩:=h;rfl
 .obtain ⟨a,dx,pr,st,c,p,n,rs,fn,m,i,v,rfl,A,hm,k⟩:=h
  refine ⟨_,(Zae (ZaK (Zal ZaX (pv 2) Zac (nomark _)) (Zae (ZaF (Zmf (Zao (pv 0) rfl) (pv 1) Zca ⟨rfl,rfl,rfl,rfl⟩))) (Zae (Zkq (ZhK hr) (Zao (pv 0) rfl) (pv 1) (pv 2) rfl)))),?_⟩
  walk_at "nx"
  obtain ⟨kvs,hs,hl,hn,hz,hf⟩:=A.sto
  repeat' walk_at "rdk"
  .rename_i hv
   subst hv
   refine Zah A.ob tAccount.k.cl tAccount.n_store rfl ⟨st,rfl,isD_k hs,?_⟩
   walk_at "K"
   refine ⟨kvs,Sum.inl i,hs,rfl,fun v hv=>?_,fun hv=>?_⟩
   .dsimp only
    walk_at "K"
    exact k _ (fun b hb=>Zaj hb) (StoreAt.drop hl hn hz hf i)
   .dsimp only
    walk_at "K"
    refine k _ (fun b hb=>rfl) ⟨kvs,hs,Nat.le_trans hl (Nat.le_succ _),hn,hz,fun j=>?_⟩
    unfold putFn
    by_cases e:j=i
    .subst e
     rw [if_pos rfl,hv]
     rfl
    .rw [if_neg e]
     exact hf j
  .rename_i hv
   refine Zah A.ob tAccount.k.cl tAccount.n_store rfl ?_
   walk_at "K"
   exact ZiU hs (Nat.lt_of_le_of_lt (Nat.le_trans hl hm) (by decide)) (k _ (fun b hb=>Zaj hb) (StoreAt.put hl hn hz hf i v hv))
theorem Zf6:FnScope ["giver", "taker", "many"] ["giver", "taker", "many"] (Zaf Zcn):=by walk_at "c"
theorem Zf7   {cAccount:Addr} (D:Zaq K mg "shift_coin" Zcn) (tAccount:T_Account K mg cAccount):Cal P w K mg base 1 "shift_coin" (Zh3 K cAccount):=by
 refine ZaA D Zf6 (fun vs H Q E h=>?_) (by walk_at "b") (fun f cdv A outer s H vs Q E hr h=>?_)
 .obtain ⟨R,A,S,m,i,j,x,y,k,rfl,_⟩:=h;rfl
 .obtain ⟨R,Ar,S,m,i,j,x,y,kk,rfl,r,hi,hj,hx,hy,k⟩:=h
  refine ⟨_,(Zab (Zcf (pv 0) (pv 2) in_sub)
   (Zae (Zcf (pv 1) (pv 2) ZiJ))),?_⟩
  walk_at "nx"
  have ax:=r.ac i x hi hx
  walk_at "K"
  refine Zdo ax.ob tAccount.k.cl tAccount.n_coin rfl ?_
  walk_at "K"
  refine ⟨x.dx,_,ax.ob,by show 5<1000;decide,?_⟩
  have r1:=r.coin hi hx ((S i).coin-kk)
  have fr1:∀ b,b≠x.a->(upd H x.a (.ins cAccount x.dx (accF ((S i).coin-kk) (S i).purse (S i).count x.pr x.st))) b=H b:=fun b hb=>Zaj hb
  have ep:∀ (c c' p n:Int) (pr st:Addr),putF "coin" (.int c') (accF c p n pr st)=accF c' p n pr st:=fun _ _ _ _ _ _=>rfl
  rw [ep]
  generalize upd H x.a _=H1 at r1 fr1
  generalize hS1:setS S i { S i with coin:=(S i).coin-kk }=S1 at r1
  have ay:=r1.ac j y hj hy
  dsimp only
  walk_at "K"
  refine Zdo ay.ob tAccount.k.cl tAccount.n_coin rfl ?_
  walk_at "K"
  refine ⟨y.dx,_,ay.ob,by show 5<1000;decide,?_⟩
  rw [ep]
  have r2:=r1.coin hj hy ((S1 j).coin+kk)
  refine k _ (fun b h1 h2=>by rw [Zaj h2];exact fr1 b h1) ?_
  unfold moved
  rw [hS1]
  exact r2
end
inductive Dd where
 | save (s p o n:Int)
 | move (s t k:Int)
 | note (s n:Int)
noncomputable def saveF (s p o n:Int):List (Str×V):=[("slot", .int s),("place", .int p),("old", .int o),("new", .int n)]
noncomputable def moveF (s t k:Int):List (Str×V):=[("slot", .int s),("taker", .int t),("many", .int k)]
noncomputable def noteF (s n:Int):List (Str×V):=[("slot", .int s),("number", .int n)]
noncomputable def doneS (S:Nat->AcS):Dd->Nat->AcS
 | .save s p _ n=>setS S s.toNat { S s.toNat with store:=putFn (S s.toNat).store p n }
 | .move s t k=>moved S s.toNat t.toNat k
 | .note _ _=>S
def fitsD (A:Nat->Option AcI):Dd->Prop
 | .save s _ _ _=>∃ i x,s=((i:Nat):Int)/\i<16/\A i=some x
 | .move s t _=>(∃ i x,s=((i:Nat):Int)/\i<16/\A i=some x)/\∃ i x,t=((i:Nat):Int)/\i<16/\A i=some x
 | .note _ _=>True
def Out (A:Nat->Option AcI) (b:Addr):Prop:=∀ i x,i<16->A i=some x->b≠x.a/\b≠x.st
theorem Rooms.le {K:PySem.W.Frag} {C:Addr} {H:Hp} {R:Addr} {A:Nat->Option AcI} {S:Nat->AcS} {m m':Nat} (r:Rooms K C H R A S m) (e:m<=m'):Rooms K C H R A S m':=⟨r.ob,fun i x hi hx=>(r.ac i x hi hx).le e,r.da,r.ds⟩
def ZiY (C:Addr):Sp:=fun vs H Q _=>∃ (a dx:Addr) (s p o n:Int),vs=[.ref a,.int s,.int p,.int o,.int n]/\H a=some (.ins C dx [])/\Q .non (upd H a (.ins C dx (saveF s p o n)))
def Zf8 (C:Addr):Sp:=fun vs H Q _=>∃ (a dx:Addr) (s t k:Int),vs=[.ref a,.int s,.int t,.int k]/\H a=some (.ins C dx [])/\Q .non (upd H a (.ins C dx (moveF s t k)))
def ZiZ (C:Addr):Sp:=fun vs H Q _=>∃ (a dx:Addr) (s n:Int),vs=[.ref a,.int s,.int n]/\H a=some (.ins C dx [])/\Q .non (upd H a (.ins C dx (noteF s n)))
noncomputable def fldD:Dd->List (Str×V)
 | .save s p o n=>saveF s p o n
 | .move s t k=>moveF s t k
 | .note s n=>noteF s n
def spDo (K:PySem.W.Frag) (C CD:Addr) (ok:Dd->Prop):Sp:=fun vs H Q _=>∃ (a dx R:Addr) (d:Dd) (A:Nat->Option AcI) (S:Nat->AcS) (m:Nat),vs=[.ref a,.ref R]/\ok d/\H a=some (.ins CD dx (fldD d))/\Rooms K C H R A S m/\fitsD A d/\m<=1000000 /\
 ∀ H',(∀ b,Out A b->H' b=H b)->Rooms K C H' R A (doneS S d) (m+1)->Q .non H'
def isSave (d:Dd):Prop:=∃ s p o n,d=.save s p o n
def isMove (d:Dd):Prop:=∃ s t k,d=.move s t k
def isNote (d:Dd):Prop:=∃ s n,d=.note s n
noncomputable def Zf9 (S:Nat->AcS):Dd->Nat->AcS
 | .save s p o _=>setS S s.toNat { S s.toNat with store:=putFn (S s.toNat).store p o }
 | .move s t k=>moved S t.toNat s.toNat k
 | .note _ _=>S
def spUndo (K:PySem.W.Frag) (C CD:Addr) (ok:Dd->Prop):Sp:=fun vs H Q _=>∃ (a dx R:Addr) (d:Dd) (A:Nat->Option AcI) (S:Nat->AcS) (m:Nat),vs=[.ref a,.ref R]/\ok d/\H a=some (.ins CD dx (fldD d))/\Rooms K C H R A S m/\fitsD A d/\m<=1000000 /\
 ∀ H',(∀ b,Out A b->H' b=H b)->Rooms K C H' R A (Zf9 S d) (m+1)->Q .non H'
def rightD (S:Nat->AcS):Dd->Prop
 | .save s p o _=>(S s.toNat).store p=o
 | .move _ _ _=>True
 | .note _ _=>True
theorem Zcw (S:Nat->AcS) (i:Nat) (v:AcS):setS S i v i=v:=by unfold setS;rw [if_pos rfl]
theorem Zg3 (S:Nat->AcS) (i:Nat) (v w:AcS):setS (setS S i v) i w=setS S i w:=by
 funext j
 unfold setS
 by_cases h:j=i
 .rw [if_pos h,if_pos h]
 .rw [if_neg h,if_neg h,if_neg h]
theorem ZoA (S:Nat->AcS) (i:Nat):setS S i (S i)=S:=by
 funext j
 unfold setS
 by_cases h:j=i
 .rw [if_pos h,h]
 .rw [if_neg h]
theorem ZjH {f:Int->Int} {p o n:Int} (h:f p=o):putFn (putFn f p n) p o=f:=by
 funext j
 unfold putFn
 by_cases e:j=p
 .rw [if_pos e,e,h]
 .rw [if_neg e,if_neg e]
theorem Zbu (S:Nat->AcS) (i j:Nat) (k:Int) (n:Nat):moved S i j k n={ S n with coin:=(S n).coin-(if n=i then k else 0)+(if n=j then k else 0) }:=by
 unfold moved setS
 dsimp only
 by_cases h1:n=j
 .subst h1
  by_cases h2:n=i
  .subst h2;simp
  .simp [h2]
 .by_cases h2:n=i
  .subst h2;simp [h1]
  .simp [h1,h2]
theorem Zh4 {S:Nat->AcS} {d:Dd} (h:rightD S d):Zf9 (doneS S d) d=S:=by
 cases d with
 | save s p o n =>
  have e:doneS S (.save s p o n) s.toNat={ S s.toNat with store:=putFn (S s.toNat).store p n }:=Zcw ..
  show setS (setS S s.toNat _) s.toNat { doneS S (.save s p o n) s.toNat with store:=putFn (doneS S (.save s p o n) s.toNat).store p o }=S
  rw [Zg3,e]
  dsimp only
  rw [ZjH h]
  exact ZoA S _
 | move s t k =>
  show moved (moved S _ _ k) _ _ k=S
  funext n
  rw [Zbu,Zbu]
  dsimp only
  have:(S n).coin-(if n=s.toNat then k else 0)+(if n=t.toNat then k else 0)-(if n=t.toNat then k else 0)+(if n=s.toNat then k else 0)=(S n).coin:=by omega
  rw [this]
 | note s n=>rfl
section
variable {P:Program} {w:World} {K:PySem.W.Frag} {mg:Str->Option Value} {base:Heap}
theorem Zd2:FnScope ["self", "slot", "place", "old", "new"] ["self", "slot", "place", "old", "new"] (Zaf ZbH):=by walk_at "c"
theorem Zd3   {cSave:Addr} (D:ZaG K cSave "__init__" "Save.__init__" ZbH) (tSave:T_Save K mg cSave):ICal P w K mg base 1 "Save" cSave (ZiY cSave):=by
 refine ZeE D tSave.k Zd2 (fun vs H Q E h=>?_) (by walk_at "b") (fun f cdv A outer s H vs Q E hr h=>?_)
 .obtain ⟨a,dx,s0,p,o,n,rfl,_⟩:=h;rfl
 .obtain ⟨a,dx,s0,p,o,n,rfl,ha,k⟩:=h
  refine ⟨_,(Zab (ZaS (pv 0) (pv 1) rfl)
   (Zab (ZaS (pv 0) (pv 2) rfl)
   (Zab (ZaS (pv 0) (pv 3) rfl)
   (Zae (ZaS (pv 0) (pv 4) rfl))))),?_⟩
  walk_at "nx"
  walk_at "K"
  refine ZaD ha tSave.k.cl tSave.n_slot (by decide) ?_
  walk_at "K"
  refine ZaD Zag tSave.k.cl tSave.n_place (by show 1<1000;decide) ?_
  rw [ZaT]
  walk_at "K"
  refine ZaD Zag tSave.k.cl tSave.n_old (by show 2<1000;decide) ?_
  rw [ZaT]
  walk_at "K"
  refine ZaD Zag tSave.k.cl tSave.n_new (by show 3<1000;decide) ?_
  rw [ZaT]
  exact k
theorem Zd4:FnScope ["self", "slot", "taker", "many"] ["self", "slot", "taker", "many"] (Zaf ZbI):=by walk_at "c"
theorem Zd5   {cMove:Addr} (D:ZaG K cMove "__init__" "Move.__init__" ZbI) (tMove:T_Move K mg cMove):ICal P w K mg base 1 "Move" cMove (Zf8 cMove):=by
 refine ZeE D tMove.k Zd4 (fun vs H Q E h=>?_) (by walk_at "b") (fun f cdv A outer s H vs Q E hr h=>?_)
 .obtain ⟨a,dx,s0,t0,kk,rfl,_⟩:=h;rfl
 .obtain ⟨a,dx,s0,t0,kk,rfl,ha,k⟩:=h
  refine ⟨_,(Zab (ZaS (pv 0) (pv 1) rfl)
   (Zab (ZaS (pv 0) (pv 2) rfl)
   (Zae (ZaS (pv 0) (pv 3) rfl)))),?_⟩
  walk_at "nx"
  walk_at "K"
  refine ZaD ha tMove.k.cl tMove.n_slot (by decide) ?_
  walk_at "K"
  refine ZaD Zag tMove.k.cl tMove.n_taker (by show 1<1000;decide) ?_
  rw [ZaT]
  walk_at "K"
  refine ZaD Zag tMove.k.cl tMove.n_many (by show 2<1000;decide) ?_
  rw [ZaT]
  exact k
theorem Zd6:FnScope ["self", "slot", "number"] ["self", "slot", "number"] (Zaf ZbJ):=by walk_at "c"
theorem Zd7   {cNote:Addr} (D:ZaG K cNote "__init__" "Note.__init__" ZbJ) (tNote:T_Note K mg cNote):ICal P w K mg base 1 "Note" cNote (ZiZ cNote):=by
 refine ZeE D tNote.k Zd6 (fun vs H Q E h=>?_) (by walk_at "b") (fun f cdv A outer s H vs Q E hr h=>?_)
 .obtain ⟨a,dx,s0,n,rfl,_⟩:=h;rfl
 .obtain ⟨a,dx,s0,n,rfl,ha,k⟩:=h
  refine ⟨_,(Zab (ZaS (pv 0) (pv 1) rfl)
   (Zae (ZaS (pv 0) (pv 2) rfl))),?_⟩
  walk_at "nx"
  walk_at "K"
  refine ZaD ha tNote.k.cl tNote.n_slot (by decide) ?_
  walk_at "K"
  refine ZaD Zag tNote.k.cl tNote.n_number (by show 1<1000;decide) ?_
  rw [ZaT]
  exact k
theorem ZjI:FnScope ["self", "rooms"] ["self", "rooms"] (Zaf ZeM):=by walk_at "c"
theorem ZjJ   {cSave:Addr} {cAccount:Addr} (D:ZaG K cSave "do" "Save.do" ZeM) (tSave:T_Save K mg cSave) (tAccount:T_Account K mg cAccount) (m_Account_keep:MCal P w K mg base 1 cAccount "keep" (spKeep K cAccount)):MCal P w K mg base 2 cSave "do" (spDo K cAccount cSave isSave):=by
 refine Za4 D tSave.k.cl ZjI (fun vs H Q E h=>?_) (by walk_at "b") (fun f cdv A outer s H vs Q E hr h=>?_)
 .obtain ⟨a,dx,R,d,A,S,m,rfl,_⟩:=h;rfl
 .obtain ⟨a,dx,R,d,Ar,S,m,rfl,⟨s0,p,o,n,rfl⟩,ha,r,⟨i,x,rfl,hi,hx⟩,hm,k⟩:=h
  refine ⟨_,(Zae (ZaF (ZaN m_Account_keep (hr.mono (by decide)) (Zan Zas (pv 1) (Zao (pv 0) rfl) (fun _ _=>rfl)) (Zaa (Zao (pv 0) rfl) (Zaa (Zao (pv 0) rfl) Zad))))),?_⟩
  walk_at "nx"
  have ax:=r.ac i x hi hx
  walk_at "K"
  refine Zah ha tSave.k.cl tSave.n_slot rfl ?_
  refine ZaC (Zaw r.ob) (r.at hi hx) ?_
  refine Zav ax.ob rfl ?_
  walk_at "K"
  refine Zah ha tSave.k.cl tSave.n_place rfl ?_
  walk_at "K"
  refine Zah ha tSave.k.cl tSave.n_new rfl ?_
  walk_at "K"
  refine ⟨x.a,x.dx,x.pr,x.st,_,_,_,_,_,m,p,n,rfl,ax,hm,fun H' k1 e1=>?_⟩
  walk_at "K"
  refine k H' (fun b hb=>k1 b (hb i x hi hx).2) ?_
  have:=r.keep hi hx k1 e1
  exact this
theorem ZjK:FnScope ["self", "rooms"] ["self", "rooms"] (Zaf ZeN):=by walk_at "c"
theorem ZjL   {cMove:Addr} (D:ZaG K cMove "do" "Move.do" ZeN) (tMove:T_Move K mg cMove) (c_shift_coin:Cal P w K mg base 1 "shift_coin" (Zh3 K cAccount)):MCal P w K mg base 2 cMove "do" (spDo K cAccount cMove isMove):=by
 refine Za4 D tMove.k.cl ZjK (fun vs H Q E h=>?_) (by walk_at "b") (fun f cdv A outer s H vs Q E hr h=>?_)
 .obtain ⟨a,dx,R,d,A,S,m,rfl,_⟩:=h;rfl
 .obtain ⟨a,dx,R,d,Ar,S,m,rfl,⟨s0,t0,kk,rfl⟩,ha,r,⟨⟨i,x,rfl,hi,hx⟩,j,y,rfl,hj,hy⟩,hm,k⟩:=h
  refine ⟨_,(Zae (ZaF (ZaB c_shift_coin (hr.mono (by decide)) rfl (Zaa (Zan Zas (pv 1) (Zao (pv 0) rfl) (fun _ _=>rfl)) (Zaa (Zan Zas (pv 1) (Zao (pv 0) rfl) (fun _ _=>rfl)) (Zaa (Zao (pv 0) rfl) Zad)))))),?_⟩
  walk_at "nx"
  walk_at "K"
  refine Zah ha tMove.k.cl tMove.n_slot rfl ?_
  refine ZaC (Zaw r.ob) (r.at hi hx) ?_
  walk_at "K"
  refine Zah ha tMove.k.cl tMove.n_taker rfl ?_
  refine ZaC (Zaw r.ob) (r.at hj hy) ?_
  walk_at "K"
  refine Zah ha tMove.k.cl tMove.n_many rfl ?_
  walk_at "K"
  refine ⟨R,Ar,S,m,i,j,x,y,kk,rfl,r,hi,hj,hx,hy,fun H' k1 r1=>?_⟩
  walk_at "K"
  refine k H' (fun b hb=>k1 b (hb i x hi hx).1 (hb j y hj hy).1) ?_
  exact r1.le (Nat.le_succ m)
theorem ZjM:FnScope ["self", "rooms"] ["self", "rooms"] (Zaf ZeO):=by walk_at "c"
theorem ZjN   {cNote:Addr} (D:ZaG K cNote "do" "Deed.do" ZeO) (tNote:T_Note K mg cNote):MCal P w K mg base 2 cNote "do" (spDo K cAccount cNote isNote):=by
 refine Za4 D tNote.k.cl ZjM (fun vs H Q E h=>?_) (by walk_at "b") (fun f cdv A outer s H vs Q E hr h=>?_)
 .obtain ⟨a,dx,R,d,A,S,m,rfl,_⟩:=h;rfl
 .obtain ⟨a,dx,R,d,Ar,S,m,rfl,⟨s0,n,rfl⟩,ha,r,_,hm,k⟩:=h
  refine ⟨_,(Zae ZjY),?_⟩
  walk_at "nx"
  exact k H (fun b _=>rfl) (r.le (Nat.le_succ m))
theorem Zg4:FnScope ["self", "rooms"] ["self", "rooms"] (Zaf ZcZ):=by walk_at "c"
theorem Zg5   {cSave:Addr} {cAccount:Addr} (D:ZaG K cSave "undo" "Save.undo" ZcZ) (tSave:T_Save K mg cSave) (tAccount:T_Account K mg cAccount) (m_Account_keep:MCal P w K mg base 1 cAccount "keep" (spKeep K cAccount)):MCal P w K mg base 2 cSave "undo" (spUndo K cAccount cSave isSave):=by
 refine Za4 D tSave.k.cl Zg4 (fun vs H Q E h=>?_) (by walk_at "b") (fun f cdv A outer s H vs Q E hr h=>?_)
 .obtain ⟨a,dx,R,d,A,S,m,rfl,_⟩:=h;rfl
 .obtain ⟨a,dx,R,d,Ar,S,m,rfl,⟨s0,p,o,n,rfl⟩,ha,r,⟨i,x,rfl,hi,hx⟩,hm,k⟩:=h
  refine ⟨_,(Zae (ZaF (ZaN m_Account_keep (hr.mono (by decide)) (Zan Zas (pv 1) (Zao (pv 0) rfl) (fun _ _=>rfl)) (Zaa (Zao (pv 0) rfl) (Zaa (Zao (pv 0) rfl) Zad))))),?_⟩
  walk_at "nx"
  have ax:=r.ac i x hi hx
  walk_at "K"
  refine Zah ha tSave.k.cl tSave.n_slot rfl ?_
  refine ZaC (Zaw r.ob) (r.at hi hx) ?_
  refine Zav ax.ob rfl ?_
  walk_at "K"
  refine Zah ha tSave.k.cl tSave.n_place rfl ?_
  walk_at "K"
  refine Zah ha tSave.k.cl tSave.n_old rfl ?_
  walk_at "K"
  refine ⟨x.a,x.dx,x.pr,x.st,_,_,_,_,_,m,p,o,rfl,ax,hm,fun H' k1 e1=>?_⟩
  walk_at "K"
  refine k H' (fun b hb=>k1 b (hb i x hi hx).2) ?_
  have:=r.keep hi hx k1 e1
  exact this
theorem Zg6:FnScope ["self", "rooms"] ["self", "rooms"] (Zaf Zc1):=by walk_at "c"
theorem Zg7   {cMove:Addr} (D:ZaG K cMove "undo" "Move.undo" Zc1) (tMove:T_Move K mg cMove) (c_shift_coin:Cal P w K mg base 1 "shift_coin" (Zh3 K cAccount)):MCal P w K mg base 2 cMove "undo" (spUndo K cAccount cMove isMove):=by
 refine Za4 D tMove.k.cl Zg6 (fun vs H Q E h=>?_) (by walk_at "b") (fun f cdv A outer s H vs Q E hr h=>?_)
 .obtain ⟨a,dx,R,d,A,S,m,rfl,_⟩:=h;rfl
 .obtain ⟨a,dx,R,d,Ar,S,m,rfl,⟨s0,t0,kk,rfl⟩,ha,r,⟨⟨i,x,rfl,hi,hx⟩,j,y,rfl,hj,hy⟩,hm,k⟩:=h
  refine ⟨_,(Zae (ZaF (ZaB c_shift_coin (hr.mono (by decide)) rfl (Zaa (Zan Zas (pv 1) (Zao (pv 0) rfl) (fun _ _=>rfl)) (Zaa (Zan Zas (pv 1) (Zao (pv 0) rfl) (fun _ _=>rfl)) (Zaa (Zao (pv 0) rfl) Zad)))))),?_⟩
  walk_at "nx"
  walk_at "K"
  refine Zah ha tMove.k.cl tMove.n_taker rfl ?_
  refine ZaC (Zaw r.ob) (r.at hj hy) ?_
  walk_at "K"
  refine Zah ha tMove.k.cl tMove.n_slot rfl ?_
  refine ZaC (Zaw r.ob) (r.at hi hx) ?_
  walk_at "K"
  refine Zah ha tMove.k.cl tMove.n_many rfl ?_
  walk_at "K"
  refine ⟨R,Ar,S,m,j,i,y,x,kk,rfl,r,hj,hi,hy,hx,fun H' k1 r1=>?_⟩
  walk_at "K"
  refine k H' (fun b hb=>k1 b (hb j y hj hy).1 (hb i x hi hx).1) ?_
  exact r1.le (Nat.le_succ m)
theorem Zg8:FnScope ["self", "rooms"] ["self", "rooms"] (Zaf Zc5):=by walk_at "c"
theorem Zg9   {cNote:Addr} (D:ZaG K cNote "undo" "Deed.undo" Zc5) (tNote:T_Note K mg cNote):MCal P w K mg base 2 cNote "undo" (spUndo K cAccount cNote isNote):=by
 refine Za4 D tNote.k.cl Zg8 (fun vs H Q E h=>?_) (by walk_at "b") (fun f cdv A outer s H vs Q E hr h=>?_)
 .obtain ⟨a,dx,R,d,A,S,m,rfl,_⟩:=h;rfl
 .obtain ⟨a,dx,R,d,Ar,S,m,rfl,⟨s0,n,rfl⟩,ha,r,_,hm,k⟩:=h
  refine ⟨_,(Zae ZjY),?_⟩
  walk_at "nx"
  exact k H (fun b _=>rfl) (r.le (Nat.le_succ m))
end
noncomputable def clsD (cS cM cN:Addr):Dd->Addr
 | .save ..=>cS
 | .move ..=>cM
 | .note ..=>cN
def T3 (a b c:Addr) (s1 s2 s3:Sp) (C:Addr) (sp:Sp):Prop:=(C=a/\sp=s1)\/(C=b/\sp=s2)\/(C=c/\sp=s3)
theorem ZmJ {P:Program} {w:World} {K:PySem.W.Frag} {mg:Str->Option Value} {base:Heap} {n:Nat} {m:Str} {a b c:Addr} {s1 s2 s3:Sp} (m1:MCal P w K mg base n a m s1) (m2:MCal P w K mg base n b m s2) (m3:MCal P w K mg base n c m s3) (C:Addr) (sp:Sp) (h:T3 a b c s1 s2 s3 C sp):MCal P w K mg base n C m sp:=by
 rcases h with ⟨rfl,rfl⟩|⟨rfl,rfl⟩|⟨rfl,rfl⟩
 .exact m1
 .exact m2
 .exact m3
theorem Zeh {T:Addr->Sp->Prop} {m:Str} {ta:TE} {t:TA} {σ:St} {H:Hp} {Q:VK} (q:ta σ H fun x H1=>∃ a C dx fs sp,x=.ref a/\H1 a=some (.ins C dx fs)/\fs.lookup m=none/\T C sp/\t σ H1 fun vs H2=>sp (x::vs) H2 Q E0):tMethD T m ta t σ H Q:=q
def TDo (K:PySem.W.Frag) (cA cS cM cN:Addr):Addr->Sp->Prop:=T3 cS cM cN (spDo K cA cS isSave) (spDo K cA cM isMove) (spDo K cA cN isNote)
def TUn (K:PySem.W.Frag) (cA cS cM cN:Addr):Addr->Sp->Prop:=T3 cS cM cN (spUndo K cA cS isSave) (spUndo K cA cM isMove) (spUndo K cA cN isNote)
def okOf:Dd->Dd->Prop
 | .save ..=>isSave
 | .move ..=>isMove
 | .note ..=>isNote
theorem Zdp (d:Dd):okOf d d:=by
 cases d with
 | save=>exact ⟨_,_,_,_,rfl⟩
 | move=>exact ⟨_,_,_,rfl⟩
 | note=>exact ⟨_,_,rfl⟩
theorem tdo_of (K:PySem.W.Frag) (cA cS cM cN:Addr) (d:Dd):TDo K cA cS cM cN (clsD cS cM cN d) (spDo K cA (clsD cS cM cN d) (okOf d)):=by
 cases d with
 | save=>exact .inl ⟨rfl,rfl⟩
 | move=>exact .inr (.inl ⟨rfl,rfl⟩)
 | note=>exact .inr (.inr ⟨rfl,rfl⟩)
theorem tun_of (K:PySem.W.Frag) (cA cS cM cN:Addr) (d:Dd):TUn K cA cS cM cN (clsD cS cM cN d) (spUndo K cA (clsD cS cM cN d) (okOf d)):=by
 cases d with
 | save=>exact .inl ⟨rfl,rfl⟩
 | move=>exact .inr (.inl ⟨rfl,rfl⟩)
 | note=>exact .inr (.inr ⟨rfl,rfl⟩)
theorem fld_do (d:Dd):(fldD d).lookup (Str.ofString "do")=none:=by cases d<;>rfl
theorem ZmK (d:Dd):(fldD d).lookup (Str.ofString "undo")=none:=by cases d<;>rfl
noncomputable def runS (S:Nat->AcS) (ds:List Dd):Nat->AcS:=ds.foldl doneS S
theorem Zdq (S:Nat->AcS) (ds:List Dd) (d:Dd):runS S (ds++[d])=doneS (runS S ds) d:=by unfold runS;rw [List.foldl_append];rfl
def Zbl:(Nat->AcS)->List Dd->Prop
 | _,[]=>True
 | S,d::ds=>rightD S d/\Zbl (doneS S d) ds
theorem ZbD:∀ (S:Nat->AcS) (ds:List Dd) (d:Dd),Zbl S (ds++[d]) ↔ Zbl S ds/\rightD (runS S ds) d
 | S,[],d=>by simp [Zbl,runS]
 | S,e::ds,d=>by
  show rightD S e/\Zbl (doneS S e) (ds++[d]) ↔ (rightD S e/\Zbl (doneS S e) ds)/\rightD (runS S (e::ds)) d
  rw [ZbD (doneS S e) ds d,and_assoc]
  rfl
structure DI where
 o:Addr
 dx:Addr
 d:Dd
noncomputable def jF (R L:Addr):List (Str×V):=[("rooms", .ref R),("deeds", .ref L)]
structure Jr (cJ cS cM cN:Addr) (H:Hp) (j dx R L:Addr) (A:Nat->Option AcI) (es:List DI):Prop where
 ob:H j=some (.ins cJ dx (jF R L))
 li:H L=some (.lst (es.map fun e=>V.ref e.o))
 de:∀ e∈es,H e.o=some (.ins (clsD cS cM cN e.d) e.dx (fldD e.d))/\fitsD A e.d
 nR:L≠R
 np:∀ i x,i<16->A i=some x->L≠x.pr
theorem Zi0 {H:Hp} {a b C C' dx dx':Addr} {fs gs:List (Str×V)} (h:H a=some (.ins C dx fs)) (h':H b=some (.ins C' dx' gs)) (n:fs.length≠gs.length):a≠b:=fun z=>by
 rw [z,h'] at h
 cases h
 exact n rfl
theorem Zga (d:Dd):(fldD d).length<5:=by
 cases d with
 | save=>show 4<5;decide
 | move=>show 3<5;decide
 | note=>show 2<5;decide
section
variable {K:PySem.W.Frag} {C cJ cS cM cN:Addr} {H H':Hp} {j dx R L:Addr} {A:Nat->Option AcI} {S:Nat->AcS} {m:Nat} {es:List DI}
theorem Rooms.same {K:PySem.W.Frag} {C:Addr} {H H':Hp} {R:Addr} {A:Nat->Option AcI} {S:Nat->AcS} {m:Nat} (r:Rooms K C H R A S m) (s:Same H H'):Rooms K C H' R A S m :=
 ⟨s _ _ r.ob,fun i x hi hx=>let h:=r.ac i x hi hx;⟨s _ _ h.ob,let ⟨xs,e1,e2⟩:=h.pg;⟨xs,s _ _ e1,e2.keep s.imm⟩,let ⟨k,a,b⟩:=h.sto;⟨k,s _ _ a,b⟩⟩,r.da,r.ds⟩
theorem Rooms.outI (r:Rooms K C H R A S m) {a C' dx':Addr} {fs:List (Str×V)} (h:H a=some (.ins C' dx' fs)) (n:fs.length<5):Out A a:=fun i x hi hx =>
 ⟨Zi0 h (r.ac i x hi hx).ob (by show fs.length≠5;omega),let ⟨_,g,_⟩:=(r.ac i x hi hx).sto;Za6 h g (by intro z;cases z)⟩
theorem Rooms.outL (r:Rooms K C H R A S m) {a:Addr} {xs:List V} (h:H a=some (.lst xs)):Out A a:=fun i x hi hx =>
 ⟨Za6 h (r.ac i x hi hx).ob (by intro z;cases z),let ⟨_,g,_⟩:=(r.ac i x hi hx).sto;Za6 h g (by intro z;cases z)⟩
theorem Rooms.outN (r:Rooms K C H R A S m) {a:Addr} (h:H a=none):Out A a:=fun i x hi hx =>
 ⟨Ne.symm (Zam (r.ac i x hi hx).ob h),let ⟨_,g,_⟩:=(r.ac i x hi hx).sto;Ne.symm (Zam g h)⟩
theorem Jr.same (J:Jr cJ cS cM cN H j dx R L A es) (s:Same H H'):Jr cJ cS cM cN H' j dx R L A es:=⟨s _ _ J.ob,s _ _ J.li,fun e he=>⟨s _ _ (J.de e he).1,(J.de e he).2⟩,J.nR,J.np⟩
theorem Jr.out (J:Jr cJ cS cM cN H j dx R L A es) (r:Rooms K C H R A S m) (k:∀ b,Out A b->H' b=H b):Jr cJ cS cM cN H' j dx R L A es :=
 ⟨by rw [k _ (r.outI J.ob (by show 2<5;decide))];exact J.ob,by rw [k _ (r.outL J.li)];exact J.li,fun e he=>⟨by rw [k _ (r.outI (J.de e he).1 (Zga _))];exact (J.de e he).1,(J.de e he).2⟩,J.nR,J.np⟩
theorem Rooms.lst (r:Rooms K C H R A S m) {L:Addr} {xs ys:List V} (hL:H L=some (.lst xs)) (nR:L≠R) (np:∀ i x,i<16->A i=some x->L≠x.pr):Rooms K C (upd H L (.lst ys)) R A S m:=by
 have im:SameI H (upd H L (.lst ys)):=SameI.upd hL Zbh
 refine ⟨by rw [Zaj (Ne.symm nR)];exact r.ob,fun i x hi hx=>?_,r.da,r.ds⟩
 have h:=r.ac i x hi hx
 obtain ⟨zs,e1,e2⟩:=h.pg
 obtain ⟨kvs,e3,e4⟩:=h.sto
 exact ⟨by rw [Zaj (Za6 h.ob hL (by intro z;cases z))];exact h.ob,⟨zs,by rw [Zaj (Ne.symm (np i x hi hx))];exact e1,e2.keep im⟩,kvs,by rw [Zaj (Za6 e3 hL (by intro z;cases z))];exact e3,e4⟩
theorem Jr.push (J:Jr cJ cS cM cN H j dx R L A es) {e:DI} (he:H e.o=some (.ins (clsD cS cM cN e.d) e.dx (fldD e.d))) (hf:fitsD A e.d):Jr cJ cS cM cN (upd H L (.lst ((es.map fun e=>V.ref e.o)++[.ref e.o]))) j dx R L A (es++[e]):=by
 refine ⟨by rw [Zaj (Za6 J.ob J.li (by intro z;cases z))];exact J.ob,by rw [Zag,List.map_append];rfl,fun u hu=>?_,J.nR,J.np⟩
 rcases List.mem_append.mp hu with hu|hu
 .have h:=J.de u hu
  exact ⟨by rw [Zaj (Za6 h.1 J.li (by intro z;cases z))];exact h.1,h.2⟩
 .rw [List.mem_singleton] at hu
  subst hu
  exact ⟨by rw [Zaj (Za6 he J.li (by intro z;cases z))];exact he,hf⟩
theorem Jr.pop {e:DI} (J:Jr cJ cS cM cN H j dx R L A (es++[e])):Jr cJ cS cM cN (upd H L (.lst (es.map fun e=>V.ref e.o))) j dx R L A es :=
 ⟨by rw [Zaj (Za6 J.ob J.li (by intro z;cases z))];exact J.ob,Zag,fun u hu=>let h:=J.de u (List.mem_append.mpr (.inl hu));⟨by rw [Zaj (Za6 h.1 J.li (by intro z;cases z))];exact h.1,h.2⟩,J.nR,J.np⟩
end
theorem jb2 {m n:Nat} (h:m<n):n=(n-1)+1:=by omega
theorem jb3 {m e p:Nat} (h:m+e<=1000000):m+(e-p)<=1000000:=by omega
theorem jb5 {m e p:Nat} (h:p<e):m+(e-(p+1))+1=m+(e-p):=by omega
def Zk6 (cJ:Addr):Sp:=fun vs H Q _=>∃ (j dx R:Addr),vs=[.ref j,.ref R]/\H j=some (.ins cJ dx [])/\∀ L,H L=none->Q .non (upd (upd H L (.lst [])) j (.ins cJ dx (jF R L)))
def spMark (cJ:Addr):Sp:=fun vs H Q _=>∃ (j dx R L:Addr) (xs:List V),vs=[.ref j]/\H j=some (.ins cJ dx (jF R L))/\H L=some (.lst xs)/\Q (.int (xs.length:Nat)) H
def Zk7 (K:PySem.W.Frag) (C cJ cS cM cN:Addr):Sp:=fun vs H Q _=>∃ (j dx R L:Addr) (A:Nat->Option AcI) (S:Nat->AcS) (m:Nat) (es:List DI) (e:DI),vs=[.ref j,.ref e.o]/\Jr cJ cS cM cN H j dx R L A es/\Rooms K C H R A S m/\H e.o=some (.ins (clsD cS cM cN e.d) e.dx (fldD e.d))/\fitsD A e.d/\m<=1000000/\es.length<1000000 /\
 ∀ H',(∀ b,Out A b->b≠L->H' b=H b)->Rooms K C H' R A (doneS S e.d) (m+1)->Jr cJ cS cM cN H' j dx R L A (es++[e])->Q .non H'
def spBack (K:PySem.W.Frag) (C cJ cS cM cN:Addr):Sp:=fun vs H Q _=>∃ (j dx R L:Addr) (A:Nat->Option AcI) (S0:Nat->AcS) (m:Nat) (es:List DI) (mk:Int),vs=[.ref j,.int mk]/\Jr cJ cS cM cN H j dx R L A es/\Rooms K C H R A (runS S0 (es.map (·.d))) m/\Zbl S0 (es.map (·.d))/\m+es.length<=1000000 /\
 ∀ H',(∀ b,Out A b->b≠L->H' b=H b)->Rooms K C H' R A (runS S0 ((es.take mk.toNat).map (·.d))) (m+es.length)->Zbl S0 ((es.take mk.toNat).map (·.d))->Jr cJ cS cM cN H' j dx R L A (es.take mk.toNat)->Q .non H'
section
variable {P:Program} {w:World} {K:PySem.W.Frag} {mg:Str->Option Value} {base:Heap}
theorem Zc8:FnScope ["self", "rooms"] ["self", "rooms"] (Zaf Zbq):=by walk_at "c"
theorem Zc9   {cJournal:Addr} (D:ZaG K cJournal "__init__" "Journal.__init__" Zbq) (tJournal:T_Journal K mg cJournal):ICal P w K mg base 1 "Journal" cJournal (Zk6 cJournal):=by
 refine ZeE D tJournal.k Zc8 (fun vs H Q E h=>?_) (by walk_at "b") (fun f cdv A outer s H vs Q E hr h=>?_)
 .obtain ⟨j,dx,R,rfl,_⟩:=h;rfl
 .obtain ⟨j,dx,R,rfl,ha,k⟩:=h
  refine ⟨_,(Zab (ZaS (pv 0) (pv 1) rfl)
   (Zae (ZaS (pv 0) (ZaM Zad) rfl))),?_⟩
  walk_at "nx"
  walk_at "K"
  refine ZaD ha tJournal.k.cl tJournal.n_rooms (by decide) ?_
  walk_at "K"
  refine ⟨by decide,fun l hl=>?_⟩
  have nl:l≠j:=fun z=>by rw [z,Zag] at hl;cases hl
  have hlH:H l=none:=by rw [Zaj nl] at hl;exact hl
  walk_at "K"
  refine ZaD (by rw [Zaj (Ne.symm nl)];exact Zag) tJournal.k.cl tJournal.n_deeds (by show 1<1000;decide) ?_
  have e:upd (upd (upd H j (.ins cJournal dx (putF "rooms" (.ref R) []))) l (.lst [])) j (.ins cJournal dx (putF "deeds" (.ref l) (putF "rooms" (.ref R) [])))=upd (upd H l (.lst [])) j (.ins cJournal dx (jF R l)):=by
   funext b
   unfold upd
   by_cases z:b=j
   .rw [if_pos z,if_pos z];rfl
   .rw [if_neg z,if_neg z,if_neg z]
  rw [e]
  exact k l hlH
theorem ZeR:FnScope ["self"] ["self"] (Zaf ZbU):=by walk_at "c"
theorem ZeS   {cJournal:Addr} (D:ZaG K cJournal "mark" "Journal.mark" ZbU) (tJournal:T_Journal K mg cJournal) (n_len:mg "len" = none):MCal P w K mg base 1 cJournal "mark" (spMark cJournal):=by
 refine Za4 D tJournal.k.cl ZeR (fun vs H Q E h=>?_) (by walk_at "b") (fun f cdv A outer s H vs Q E hr h=>?_)
 .obtain ⟨j,dx,R,L,xs,rfl,_⟩:=h;rfl
 .obtain ⟨j,dx,R,L,xs,rfl,ha,hl,k⟩:=h
  refine ⟨_,(Zae (Zak (ZaO ZbC rfl n_len PySem.boot_len (Zaa (Zao (pv 0) rfl) Zad)))),?_⟩
  walk_at "nx"
  walk_at "K"
  refine Zah ha tJournal.k.cl tJournal.n_deeds rfl ?_
  walk_at "K"
  exact k
theorem Zd8:FnScope ["self", "deed"] ["self", "deed"] (Zaf ZbK):=by walk_at "c"
theorem Zd9   {cJournal:Addr} {cSave:Addr} {cMove:Addr} {cNote:Addr} {cAccount:Addr} (D:ZaG K cJournal "write" "Journal.write" ZbK) (tJournal:T_Journal K mg cJournal) (tSave:T_Save K mg cSave) (tMove:T_Move K mg cMove) (tNote:T_Note K mg cNote) (tAccount:T_Account K mg cAccount) (m_Save_do:MCal P w K mg base 2 cSave "do" (spDo K cAccount cSave isSave)) (m_Move_do:MCal P w K mg base 2 cMove "do" (spDo K cAccount cMove isMove)) (m_Note_do:MCal P w K mg base 2 cNote "do" (spDo K cAccount cNote isNote)):MCal P w K mg base 3 cJournal "write" (Zk7 K cAccount cJournal cSave cMove cNote):=by
 refine Za4 D tJournal.k.cl Zd8 (fun vs H Q E h=>?_) (by walk_at "b") (fun f cdv A outer s H vs Q E hr h=>?_)
 .obtain ⟨j,dx,R,L,A,S,m,es,e,rfl,_⟩:=h;rfl
 .obtain ⟨j,dx,R,L,Ar,S,m,es,e,rfl,J,r,he,fit,hm,hel,k⟩:=h
  refine ⟨_,(Zab (ZaF (ZiT (T:=TDo K cAccount cSave cMove cNote) (ZmJ m_Save_do m_Move_do m_Note_do) (hr.mono (by decide)) (pv 1) (Zaa (Zao (pv 0) rfl) Zad)))
   (Zae (ZaF (Zjr PySem.F.plainAttrs_list PySem.F.slot_list_append PySem.F.type_list_append ZbF (Zao (pv 0) rfl) (Zaa (pv 1) Zad))))),?_⟩
  walk_at "nx"
  walk_at "K"
  refine Zeh ?_
  walk_at "K"
  refine ⟨e.o,clsD cSave cMove cNote e.d,e.dx,fldD e.d,_,rfl,he,fld_do e.d,tdo_of K cAccount cSave cMove cNote e.d,?_⟩
  walk_at "K"
  refine Zah J.ob tJournal.k.cl tJournal.n_rooms rfl ?_
  walk_at "K"
  refine ⟨e.o,e.dx,R,e.d,Ar,S,m,rfl,Zdp e.d,he,r,fit,hm,fun H1 k1 r1=>?_⟩
  have J1:=J.out r k1
  have he1:H1 e.o=some (.ins (clsD cSave cMove cNote e.d) e.dx (fldD e.d)):=by rw [k1 _ (r.outI he (Zga _))];exact he
  walk_at "K"
  refine Zah J1.ob tJournal.k.cl tJournal.n_deeds rfl ?_
  refine ⟨Zcj (Zaw J1.li),?_⟩
  walk_at "K"
  refine ZbY J1.li (by rw [List.length_map];exact Nat.lt_of_lt_of_le hel (by decide)) ?_
  walk_at "K"
  exact k _ (fun b h1 h2=>by rw [Zaj h2];exact k1 b h1) (r1.lst J1.li J1.nR J1.np) (J1.push he1 fit)
theorem Zcx:FnScope ["self", "mark", "deed"] ["self", "mark"] (Zaf ZbV):=by walk_at "c"
theorem ZeT   {cJournal:Addr} {cSave:Addr} {cMove:Addr} {cNote:Addr} {cAccount:Addr} (D:ZaG K cJournal "back" "Journal.back" ZbV) (tJournal:T_Journal K mg cJournal) (tSave:T_Save K mg cSave) (tMove:T_Move K mg cMove) (tNote:T_Note K mg cNote) (tAccount:T_Account K mg cAccount) (m_Save_undo:MCal P w K mg base 2 cSave "undo" (spUndo K cAccount cSave isSave)) (m_Move_undo:MCal P w K mg base 2 cMove "undo" (spUndo K cAccount cMove isMove)) (m_Note_undo:MCal P w K mg base 2 cNote "undo" (spUndo K cAccount cNote isNote)) (n_len:mg "len" = none) (n_max:mg "max" = none):MCal P w K mg base 3 cJournal "back" (spBack K cAccount cJournal cSave cMove cNote):=by
 refine Za4 D tJournal.k.cl Zcx (fun vs H Q E h=>?_) (by walk_at "b") (fun f cdv A outer s H vs Q E hr h=>?_)
 .obtain ⟨j,dx,R,L,A,S0,m,es,mk,rfl,_⟩:=h;rfl
 .obtain ⟨j,dx,R,L,Ar,S0,m,es,mk,rfl,J,r,ri,hm,k⟩:=h
  refine ⟨_,(Zae (ZfF PassesOwn.never (Zal Zer (ZaO ZbC rfl n_len PySem.boot_len (Zaa (Zao (pv 0) rfl) Zad)) (ZaO (Zkz rfl) rfl n_max PyProof.Rows.boot_max (Zaa (pv 1) (Zaa Zac Zad))) (nomark _))
   (Zab (Zay (i:=2) Zcx.nd rfl (by first|exact Or.inl rfl|exact Or.inr rfl) (Zno PySem.F.plainAttrs_list PySem.F.slot_list_pop PySem.F.type_list_pop Znp (Zao (pv 0) rfl)))
   (Zae (ZaF (ZiT (T:=TUn K cAccount cSave cMove cNote) (ZmJ m_Save_undo m_Move_undo m_Note_undo) (hr.mono (by decide)) (pv 2) (Zaa (Zao (pv 0) rfl) Zad))))))),?_⟩
  walk_at "nx"
  refine ⟨fun n σ' H'=>∃ q v,n=q/\min mk.toNat es.length<=q/\q<=es.length/\(∀ b,Out Ar b->b≠L->H' b=H b)/\Rooms K cAccount H' R Ar (runS S0 ((es.take q).map (·.d))) (m+(es.length-q))/\Zbl S0 ((es.take q).map (·.d))/\Jr cJournal cSave cMove cNote H' j dx R L Ar (es.take q)/\σ'=[some (.ref j),some (.int mk),v],⟨es.length,es.length,none,rfl,Nat.min_le_right _ _,Nat.le_refl _,fun _ _ _=>rfl,by rw [List.take_length,Nat.sub_self];exact r,by rw [List.take_length];exact ri,by rw [List.take_length];exact J,rfl⟩,?_⟩
  rintro n σ' H' ⟨q,v,rfl,hq0,hq1,fr,r',ri',J',rfl⟩
  have hL:=J'.li
  walk_at "K"
  refine Zah J'.ob tJournal.k.cl tJournal.n_deeds rfl ?_
  walk_at "K"
  .rename_i hgt
   rw [List.length_map,List.length_take,Nat.min_eq_left hq1] at hgt
   have hgt2:mk.toNat<n:=by split at hgt<;>omega
   obtain ⟨p,rfl⟩:∃ p,n=p+1:=⟨n-1,jb2 hgt2⟩
   have hp:p<es.length:=hq1
   have htk:es.take (p+1)=es.take p++[es[p]]:=List.take_succ_eq_append_getElem hp
   refine ⟨fun σ' H'=>∃ m',m'<p+1/\_,fun _ _ h=>h,?_⟩
   rw [htk] at J' ri' r' hL
   rw [List.map_append] at ri' r'
   obtain ⟨de,fit⟩:=J'.de es[p] (List.mem_append.mpr (.inr (List.mem_singleton.mpr rfl)))
   generalize es[p]=e at *
   have J2:=J'.pop
   have r2:=r'.lst (ys:=(es.take p).map fun e=>V.ref e.o) hL J'.nR J'.np
   rw [List.map_append] at hL
   walk_at "K"
   refine Zah J'.ob tJournal.k.cl tJournal.n_deeds rfl ?_
   refine ⟨Zcj (Zaw hL),?_⟩
   refine Znw hL ?_
   have fr2:∀ b,Out Ar b->b≠L->(upd H' L (.lst ((es.take p).map fun e=>V.ref e.o))) b=H b:=fun b h1 h2=>by rw [Zaj h2];exact fr b h1 h2
   have de2:(upd H' L (.lst ((es.take p).map fun e=>V.ref e.o))) e.o=some (.ins (clsD cSave cMove cNote e.d) e.dx (fldD e.d)):=by rw [Zaj (Za6 de hL (by intro z;cases z))];exact de
   generalize upd H' L _=H2 at J2 r2 fr2 de2
   walk_at "K"
   refine Zeh ?_
   walk_at "K"
   refine ⟨e.o,clsD cSave cMove cNote e.d,e.dx,fldD e.d,_,rfl,de2,ZmK e.d,tun_of K cAccount cSave cMove cNote e.d,?_⟩
   walk_at "K"
   refine Zah J2.ob tJournal.k.cl tJournal.n_rooms rfl ?_
   walk_at "K"
   refine ⟨e.o,e.dx,R,e.d,Ar,_,_,rfl,Zdp e.d,de2,r2,fit,jb3 hm,fun H3 k3 r3=>?_⟩
   have J3:=J2.out r2 k3
   obtain ⟨ri2,rd2⟩:=(ZbD _ _ _).mp ri'
   have e1:Zf9 (runS S0 ((es.take p).map (·.d)++[e].map (·.d))) e.d=runS S0 ((es.take p).map (·.d)):=by
    show Zf9 (runS S0 ((es.take p).map (·.d)++[e.d])) e.d=_
    rw [Zdq]
    exact Zh4 rd2
   rw [e1] at r3
   walk_at "K"
   refine ⟨p,Nat.lt_succ_self p,p,_,rfl,Nat.le_trans (Nat.min_le_left ..) (Nat.le_of_lt_succ hgt2),Nat.le_of_lt hp,fun b h1 h2=>by rw [k3 b h1];exact fr2 b h1 h2,?_,ri2,J3,rfl⟩
   have em:m+(es.length-(p+1))+1=m+(es.length-p):=jb5 hp
   rw [em] at r3
   exact r3
  .rename_i hgt
   rw [List.length_map,List.length_take,Nat.min_eq_left hq1] at hgt
   have hgt2:n<=mk.toNat:=by split at hgt<;>omega
   have et:es.take n=es.take mk.toNat:=by
    by_cases z:mk.toNat<=es.length
    .rw [show n=mk.toNat by omega]
    .rw [List.take_of_length_le (by omega),List.take_of_length_le (by omega)]
   rw [et] at r' ri' J'
   exact k H' fr (r'.le (by omega)) ri' J'
end
noncomputable def tellV:Dd->List V
 | .save s p o n=>[.str "save", .int s,.int p,.int o,.int n]
 | .move s t k=>[.str "move", .int s,.int t,.int k]
 | .note s n=>[.str "note", .int s,.int n]
noncomputable def tellDs:Dd->List Dt
 | .save s p o n=>[.str "save", .int s,.int p,.int o,.int n]
 | .move s t k=>[.str "move", .int s,.int t,.int k]
 | .note s n=>[.str "note", .int s,.int n]
noncomputable def tellD (d:Dd):Dt:=.tup (tellDs d)
theorem Zi1 {K:PySem.W.Frag} {H:Hp} (d:Dd):DVs K H (tellDs d) (tellV d):=by
 cases d with
 | save=>exact Zat ZdY (Zat ZaU (Zat ZaU (Zat ZaU (Zat ZaU Za7))))
 | move=>exact Zat ZdY (Zat ZaU (Zat ZaU (Zat ZaU Za7)))
 | note=>exact Zat ZdY (Zat ZaU (Zat ZaU Za7))
theorem Zi2 {K:PySem.W.Frag} {H:Hp}:∀ (ds:List Dt) (xs:List V),ds.length=xs.length->(∀ (i:Nat) (d:Dt) (x:V),ds[i]?=some d->xs[i]?=some x->DV K H d x)->DVs K H ds xs
 | [],[],_,_=>Za7
 | d::ds,x::xs,hl,h=>Zat (h 0 d x rfl rfl) (Zi2 ds xs (by simpa using hl) fun i d' x' h1 h2=>h (i+1) d' x' (by simpa using h1) (by simpa using h2))
 | [],x::xs,hl,_=>by simp at hl
 | d::ds,[],hl,_=>by simp at hl
theorem Zk8 {K:PySem.W.Frag} {H:Hp}:∀ {ds:List Dt} {xs:List V},DVs K H ds xs->ds.length=xs.length/\∀ (i:Nat) (d:Dt) (x:V),ds[i]?=some d->xs[i]?=some x->DV K H d x
 | [],xs,h=>by
  unfold DVs at h
  subst h
  exact ⟨rfl,fun i d x h=>by simp at h⟩
 | d::ds,xs,h=>by
  unfold DVs at h
  obtain ⟨x,t,rfl,h1,h2⟩:=h
  obtain ⟨a,b⟩:=Zk8 h2
  refine ⟨by simp [a],fun i d' x' e1 e2=>?_⟩
  cases i with
  | zero=>cases e1;cases e2;exact h1
  | succ i=>exact b i d' x' (by simpa using e1) (by simpa using e2)
theorem DVs.take {K:PySem.W.Frag} {H:Hp} {ds:List Dt} {xs:List V} (h:DVs K H ds xs) (n:Nat):DVs K H (ds.take n) (xs.take n):=by
 obtain ⟨a,b⟩:=Zk8 h
 refine Zi2 _ _ (by rw [List.length_take,List.length_take,a]) fun i d x h1 h2=>?_
 rw [List.getElem?_take] at h1 h2
 split at h1
 .rename_i hi
  rw [if_pos hi] at h2
  exact b i d x h1 h2
 .cases h1
theorem DVs.snoc {K:PySem.W.Frag} {H:Hp} {ds:List Dt} {xs:List V} {d:Dt} {x:V} (h:DVs K H ds xs) (h1:DV K H d x):DVs K H (ds++[d]) (xs++[x]):=by
 obtain ⟨a,b⟩:=Zk8 h
 refine Zi2 _ _ (by rw [List.length_append,List.length_append,a];rfl) fun i d' x' e1 e2=>?_
 by_cases hi:i<ds.length
 .rw [List.getElem?_append_left hi] at e1
  rw [List.getElem?_append_left (by rw [<- a];exact hi)] at e2
  exact b i d' x' e1 e2
 .rw [List.getElem?_append_right (by omega)] at e1
  rw [List.getElem?_append_right (by omega),<- a] at e2
  generalize i-ds.length=n at e1 e2
  cases n with
  | zero=>cases e1;cases e2;exact h1
  | succ n=>simp at e1
def TupsAt (H:Hp) (ds:List Dd) (ts:List Addr):Prop:=ds.length=ts.length/\∀ (n:Nat) (d:Dd) (t:Addr),ds[n]?=some d->ts[n]?=some t->H t=some (.tup (tellV d))
theorem TupsAt.nil {H:Hp}:TupsAt H [] []:=⟨rfl,fun n d t h=>by simp at h⟩
theorem TupsAt.mono {H H':Hp} {ds:List Dd} {ts:List Addr} (h:TupsAt H ds ts) (k:∀ b xs,H b=some (.tup xs)->H' b=some (.tup xs)):TupsAt H' ds ts:=⟨h.1,fun n d t h1 h2=>k _ _ (h.2 n d t h1 h2)⟩
theorem TupsAt.snoc {H:Hp} {ds:List Dd} {ts:List Addr} {d:Dd} {t:Addr} (h:TupsAt H ds ts) (h1:H t=some (.tup (tellV d))):TupsAt H (ds++[d]) (ts++[t]):=by
 refine ⟨by rw [List.length_append,List.length_append,h.1];rfl,fun n d' t' e1 e2=>?_⟩
 by_cases hi:n<ds.length
 .rw [List.getElem?_append_left hi] at e1
  rw [List.getElem?_append_left (by rw [<- h.1];exact hi)] at e2
  exact h.2 n d' t' e1 e2
 .rw [List.getElem?_append_right (by omega)] at e1
  rw [List.getElem?_append_right (by have:=h.1;omega),<- h.1] at e2
  generalize n-ds.length=n at e1 e2
  cases n with
  | zero=>cases e1;cases e2;exact h1
  | succ n=>simp at e1
theorem TupsAt.take {H:Hp} {ds:List Dd} {ts:List Addr} (h:TupsAt H ds ts) (n:Nat):TupsAt H (ds.take n) (ts.take n):=by
 refine ⟨by rw [List.length_take,List.length_take,h.1],fun i d t e1 e2=>?_⟩
 rw [List.getElem?_take] at e1 e2
 split at e1
 .rename_i hi
  rw [if_pos hi] at e2
  exact h.2 i d t e1 e2
 .cases e1
theorem TupsAt.dv {K:PySem.W.Frag} {H:Hp} {ds:List Dd} {ts:List Addr} {q:Addr} (h:TupsAt H ds ts) (hq:H q=some (.lst (ts.map V.ref))):DV K H (.lst (ds.map tellD)) (.ref q):=by
 refine Zfz (Zaw hq) (Zi2 _ _ (by rw [List.length_map,List.length_map,h.1]) fun i d x e1 e2=>?_)
 rw [List.getElem?_map] at e1 e2
 obtain ⟨d',h1,rfl⟩:=Option.map_eq_some_iff.mp e1
 obtain ⟨t,h2,rfl⟩:=Option.map_eq_some_iff.mp e2
 exact ZcP (Zar (h.2 i d' t h1 h2)) (Zi1 d')
def spTold (CD:Addr) (ok:Dd->Prop):Sp:=fun vs H Q _=>∃ (a dx:Addr) (d:Dd),vs=[.ref a]/\ok d/\H a=some (.ins CD dx (fldD d))/\∀ t,H t=none->Q (.ref t) (upd H t (.tup (tellV d)))
def TTo (cS cM cN:Addr):Addr->Sp->Prop:=T3 cS cM cN (spTold cS isSave) (spTold cM isMove) (spTold cN isNote)
theorem ZnC (cS cM cN:Addr) (d:Dd):TTo cS cM cN (clsD cS cM cN d) (spTold (clsD cS cM cN d) (okOf d)):=by
 cases d with
 | save=>exact .inl ⟨rfl,rfl⟩
 | move=>exact .inr (.inl ⟨rfl,rfl⟩)
 | note=>exact .inr (.inr ⟨rfl,rfl⟩)
theorem Zi3 (d:Dd):(fldD d).lookup (Str.ofString "told")=none:=by cases d<;>rfl
def ZoB (cJ cS cM cN:Addr):Sp:=fun vs H Q _=>∃ (j dx R L:Addr) (A:Nat->Option AcI) (es:List DI),vs=[.ref j]/\Jr cJ cS cM cN H j dx R L A es/\es.length<=1000 /\
 ∀ q ts H',Same H H'->H q=none->H' q=some (.lst (ts.map V.ref))->TupsAt H' (es.map (·.d)) ts->Q (.ref q) H'
section
variable {P:Program} {w:World} {K:PySem.W.Frag} {mg:Str->Option Value} {base:Heap}
theorem Zha:FnScope ["self"] ["self"] (Zaf Zc0):=by walk_at "c"
theorem Zhb   {cSave:Addr} (D:ZaG K cSave "told" "Save.told" Zc0) (tSave:T_Save K mg cSave):MCal P w K mg base 1 cSave "told" (spTold cSave isSave):=by
 refine Za4 D tSave.k.cl Zha (fun vs H Q E h=>?_) (by walk_at "b") (fun f cdv A outer s H vs Q E hr h=>?_)
 .obtain ⟨a,dx,d,rfl,_⟩:=h;rfl
 .obtain ⟨a,dx,d,rfl,⟨s0,p,o,n,rfl⟩,ha,k⟩:=h
  refine ⟨_,(Zae (Zak (Zaz (Zaa Zai (Zaa (Zao (pv 0) rfl) (Zaa (Zao (pv 0) rfl) (Zaa (Zao (pv 0) rfl) (Zaa (Zao (pv 0) rfl) Zad)))))))),?_⟩
  walk_at "nx"
  walk_at "K"
  refine Zah ha tSave.k.cl tSave.n_slot rfl ?_
  walk_at "K"
  refine Zah ha tSave.k.cl tSave.n_place rfl ?_
  walk_at "K"
  refine Zah ha tSave.k.cl tSave.n_old rfl ?_
  walk_at "K"
  refine Zah ha tSave.k.cl tSave.n_new rfl ?_
  walk_at "K"
  refine ⟨show 5<=sizeLine by decide,fun t ht=>?_⟩
  exact k t ht
theorem Zhc:FnScope ["self"] ["self"] (Zaf Zc2):=by walk_at "c"
theorem Zhd   {cMove:Addr} (D:ZaG K cMove "told" "Move.told" Zc2) (tMove:T_Move K mg cMove):MCal P w K mg base 1 cMove "told" (spTold cMove isMove):=by
 refine Za4 D tMove.k.cl Zhc (fun vs H Q E h=>?_) (by walk_at "b") (fun f cdv A outer s H vs Q E hr h=>?_)
 .obtain ⟨a,dx,d,rfl,_⟩:=h;rfl
 .obtain ⟨a,dx,d,rfl,⟨s0,t0,kk,rfl⟩,ha,k⟩:=h
  refine ⟨_,(Zae (Zak (Zaz (Zaa Zai (Zaa (Zao (pv 0) rfl) (Zaa (Zao (pv 0) rfl) (Zaa (Zao (pv 0) rfl) Zad))))))),?_⟩
  walk_at "nx"
  walk_at "K"
  refine Zah ha tMove.k.cl tMove.n_slot rfl ?_
  walk_at "K"
  refine Zah ha tMove.k.cl tMove.n_taker rfl ?_
  walk_at "K"
  refine Zah ha tMove.k.cl tMove.n_many rfl ?_
  walk_at "K"
  refine ⟨show 4<=sizeLine by decide,fun t ht=>?_⟩
  exact k t ht
theorem Zhe:FnScope ["self"] ["self"] (Zaf Zc3):=by walk_at "c"
theorem Zhf   {cNote:Addr} (D:ZaG K cNote "told" "Note.told" Zc3) (tNote:T_Note K mg cNote):MCal P w K mg base 1 cNote "told" (spTold cNote isNote):=by
 refine Za4 D tNote.k.cl Zhe (fun vs H Q E h=>?_) (by walk_at "b") (fun f cdv A outer s H vs Q E hr h=>?_)
 .obtain ⟨a,dx,d,rfl,_⟩:=h;rfl
 .obtain ⟨a,dx,d,rfl,⟨s0,n,rfl⟩,ha,k⟩:=h
  refine ⟨_,(Zae (Zak (Zaz (Zaa Zai (Zaa (Zao (pv 0) rfl) (Zaa (Zao (pv 0) rfl) Zad)))))),?_⟩
  walk_at "nx"
  walk_at "K"
  refine Zah ha tNote.k.cl tNote.n_slot rfl ?_
  walk_at "K"
  refine Zah ha tNote.k.cl tNote.n_number rfl ?_
  walk_at "K"
  refine ⟨show 3<=sizeLine by decide,fun t ht=>?_⟩
  exact k t ht
theorem ZeU:FnScope ["self"] ["self"] (Zaf Zbv):=by walk_at "c"
theorem ZeV   {cJournal:Addr} {cSave:Addr} {cMove:Addr} {cNote:Addr} (D:ZaG K cJournal "told" "Journal.told" Zbv) (tJournal:T_Journal K mg cJournal) (tSave:T_Save K mg cSave) (tMove:T_Move K mg cMove) (tNote:T_Note K mg cNote) (m_Save_told:MCal P w K mg base 1 cSave "told" (spTold cSave isSave)) (m_Move_told:MCal P w K mg base 1 cMove "told" (spTold cMove isMove)) (m_Note_told:MCal P w K mg base 1 cNote "told" (spTold cNote isNote)):MCal P w K mg base 2 cJournal "told" (ZoB cJournal cSave cMove cNote):=by
 refine Za4 D tJournal.k.cl ZeU (fun vs H Q E h=>?_) (by walk_at "b") (fun f cdv A outer s H vs Q E hr h=>?_)
 .obtain ⟨j,dx,R,L,A,es,rfl,_⟩:=h;rfl
 .obtain ⟨j,dx,R,L,Ar,es,rfl,J,hel,k⟩:=h
  refine ⟨_,(Zae (Zak (Zks ["deed"] rfl (show CompScope (Zaf Zbv) ["self"] ["deed"] _ from ⟨rfl,by decide +kernel,by decide +kernel,by decide +kernel,by decide +kernel,by decide +kernel⟩) (ZhE (Zao (pv 0) rfl)) (fun _ _ _ _ _=>(Zcd (i:=0) (show (["deed", "self"]:List Str).Nodup by decide +kernel) rfl (Or.inl rfl) (.inr rfl))) (fun _ _ _ _ _=>ZfL) (fun _ _ _ _ _=>(ZgS (T:=TTo cSave cMove cNote) (ZmJ m_Save_told m_Move_told m_Note_told) (hr.mono (by decide)) (pv 0)))))),?_⟩
  walk_at "nx"
  have big:(1001:Nat)<=sizeLine:=by decide
  walk_at "K"
  refine ZfM (ZfN ?_)
  walk_at "K"
  refine Zah J.ob tJournal.k.cl tJournal.n_deeds rfl ?_
  refine ⟨L,rfl,⟨_,Zaw J.li⟩,fun q hq=>?_⟩
  refine ZgV (fun i H'=>Same H H'/\∃ ts,H' q=some (.lst (ts.map V.ref))/\TupsAt H' ((es.take i).map (·.d)) ts) ⟨Same.new hq,[],Zag,TupsAt.nil⟩ (fun i H' ⟨s,_⟩=>Zaw (s _ _ J.li)) ?_ ?_
  .rintro i x H' hx ⟨s1,ts,hts,T⟩
   rw [List.getElem?_map] at hx
   obtain ⟨e,he,rfl⟩:=Option.map_eq_some_iff.mp hx
   obtain ⟨hi,ei⟩:=List.getElem?_eq_some_iff.mp he
   have de:=s1 _ _ (J.de e (List.mem_of_getElem? he)).1
   refine ZkP ?_
   refine iteT ?_
   refine Zeh ?_
   walk_at "K"
   refine ⟨e.o,clsD cSave cMove cNote e.d,e.dx,fldD e.d,_,rfl,de,Zi3 e.d,ZnC cSave cMove cNote e.d,?_⟩
   walk_at "K"
   refine ⟨e.o,e.dx,e.d,rfl,Zdp e.d,de,fun t ht=>?_⟩
   have hl:ts.length<=1000:=by
    rw [<- T.1,List.length_map,List.length_take]
    omega
   have hq2:=(Same.new ht (o:=.tup (tellV e.d))) _ _ hts
   refine ⟨_,hq2,by rw [List.length_map];omega,⟨(s1.newT ht).wr hq,ts++[t],by rw [Zag,List.map_append];rfl,?_⟩,_,rfl⟩
   have im:∀ b xs,H' b=some (.tup xs)->(upd (upd H' t (.tup (tellV e.d))) q (.lst (ts.map V.ref++[.ref t]))) b=some (.tup xs):=fun b xs h=>by
    rw [Zaj (Za6 h hts (by intro z;cases z))]
    exact (Same.new ht) _ _ h
   have ht2:(upd (upd H' t (.tup (tellV e.d))) q (.lst (ts.map V.ref++[.ref t]))) t=some (.tup (tellV e.d)):=by
    rw [Zaj (fun z=>by rw [z] at ht;rw [ht] at hts;cases hts)];exact Zag
   rw [List.take_succ_eq_append_getElem hi,ei,List.map_append]
   exact (T.mono im).snoc ht2
  .rintro H' ⟨s1,ts,hts,T⟩
   rw [List.length_map,List.take_length] at T
   walk_at "K"
   exact k q ts H' s1 hq hts T
end
structure FrS where
 kind:Str
 who:Int
 whose:Int
 caller:Int
 coin:Int
 word:Int
 given:Int
 depth:Int
 looking:Bool
 used:Int
 stack:List Int
 row:Int
 fin:Option Str
 answer:Int
structure FrI where
 a:Addr
 dx:Addr
 ST:Addr
 SS:Addr
noncomputable def endV:Option Str->V
 | none=>.non
 | some s=>.str s
noncomputable def fldF (f:FrI) (x:FrS):List (Str×V):=[("kind", .str x.kind),("who", .int x.who),("whose", .int x.whose),("caller", .int x.caller),("coin", .int x.coin),("word", .int x.word),("given", .int x.given),("depth", .int x.depth),("looking", .bl x.looking),("used", .int x.used),("stack", .ref f.ST),("row", .int x.row),("steps", .ref f.SS),("end", endV x.fin),("answer", .int x.answer)]
structure FrAt (cF:Addr) (H:Hp) (f:FrI) (x:FrS) (vs:List V):Prop where
 ob:H f.a=some (.ins cF f.dx (fldF f x))
 st:H f.ST=some (.lst (x.stack.map V.int))
 ss:H f.SS=some (.lst vs)
 ne:f.ST≠f.SS
section
variable {cF:Addr} {H H':Hp} {f:FrI} {x:FrS} {vs:List V}
theorem FrAt.aST (F:FrAt cF H f x vs):f.a≠f.ST:=Za6 F.ob F.st (by intro z;cases z)
theorem FrAt.aSS (F:FrAt cF H f x vs):f.a≠f.SS:=Za6 F.ob F.ss (by intro z;cases z)
theorem FrAt.setST (F:FrAt cF H f x vs) (s:List Int):FrAt cF (upd H f.ST (.lst (s.map V.int))) f { x with stack:=s } vs :=
 ⟨by rw [Zaj F.aST];exact F.ob,Zag,by rw [Zaj (Ne.symm F.ne)];exact F.ss,F.ne⟩
theorem FrAt.setSS (F:FrAt cF H f x vs) (ws:List V):FrAt cF (upd H f.SS (.lst ws)) f x ws :=
 ⟨by rw [Zaj F.aSS];exact F.ob,by rw [Zaj F.ne];exact F.st,Zag,F.ne⟩
theorem FrAt.setF (F:FrAt cF H f x vs) (y:FrS) (e:y.stack=x.stack):FrAt cF (upd H f.a (.ins cF f.dx (fldF f y))) f y vs :=
 ⟨Zag,by rw [Zaj (Ne.symm F.aST),e];exact F.st,by rw [Zaj (Ne.symm F.aSS)];exact F.ss,F.ne⟩
theorem FrAt.kept {X:Addr->Prop} (F:FrAt cF H f x vs) (k:KeptX X H H') (h1:¬ X f.a) (h2:¬ X f.ST) (h3:¬ X f.SS):FrAt cF H' f x vs :=
 ⟨k _ _ F.ob h1,k _ _ F.st h2,k _ _ F.ss h3,F.ne⟩
theorem FrAt.same (F:FrAt cF H f x vs) (s:Same H H'):FrAt cF H' f x vs:=⟨s _ _ F.ob,s _ _ F.st,s _ _ F.ss,F.ne⟩
theorem FrAt.put (F:FrAt cF H f x vs) {s:List Int} (k:KeptX (·=f.ST) H H') (e:H' f.ST=some (.lst (s.map V.int))):FrAt cF H' f { x with stack:=s } vs :=
 ⟨k _ _ F.ob F.aST,e,k _ _ F.ss (Ne.symm F.ne),F.ne⟩
end
noncomputable def frame0 (kind:Str) (who whose caller coin word given depth:Int) (looking:Bool):FrS:=⟨kind,who,whose,caller,coin,word,given,depth,looking,0,[],0,none,0⟩
def ZeW (cF:Addr):Sp:=fun vs H Q _=>∃ (a dx:Addr) (kind:Str) (who whose caller coin word given depth:Int) (looking:Bool),vs=[.ref a,.str kind,.int who,.int whose,.int caller,.int coin,.int word,.int given,.int depth,.bl looking]/\H a=some (.ins cF dx []) /\
 ∀ ST SS H',H ST=none->H SS=none->FrAt cF H' ⟨a,dx,ST,SS⟩ (frame0 kind who whose caller coin word given depth looking) []->KeptX (·=a) H H'->Q .non H'
def spLeft (cF:Addr):Sp:=fun vs H Q _=>∃ (f:FrI) (x:FrS) (ws:List V),vs=[.ref f.a]/\FrAt cF H f x ws/\Q (.int (x.given-x.used)) H
def Zk9 (K:PySem.W.Frag) (cF:Addr):Sp:=fun vs H Q _=>∃ (f:FrI) (x:FrS) (ws:List V) (p:Addr) (w:Str) (n:Option Int) (r t l pr d:Int),vs=[.ref f.a,.ref p]/\FrAt cF H f x ws/\Zbj K H p w n/\Zby w n=some r/\RT.lookup w=some (t,l,pr,d)/\Q (.bl (decide ((x.stack.length:Int)<t+r))) H
def spFull (K:PySem.W.Frag) (cF:Addr):Sp:=fun vs H Q _=>∃ (f:FrI) (x:FrS) (ws:List V) (p:Addr) (w:Str) (n:Option Int) (r t l pr d:Int),vs=[.ref f.a,.ref p]/\FrAt cF H f x ws/\Zbj K H p w n/\Zby w n=some r/\RT.lookup w=some (t,l,pr,d)/\Q (.bl (decide (24<(x.stack.length:Int)-(t+r)+(l+r)))) H
def ZbL (cF:Addr):Sp:=fun vs H Q _=>∃ (f:FrI) (x:FrS) (ws:List V) (s t:List Int),vs=[.ref f.a,.int (t.length:Nat)]/\FrAt cF H f x ws/\x.stack=s++t/\t.length<=1000 /\
 ∀ p H',H p=none->KeptX (·=f.ST) H H'->FrAt cF H' f { x with stack:=s } ws->H' p=some (.lst (t.map V.int))->Q (.ref p) H'
def spLay (cF:Addr):Sp:=fun vs H Q _=>∃ (f:FrI) (x:FrS) (ws:List V) (k:Int),vs=[.ref f.a,.int k]/\FrAt cF H f x ws/\x.stack.length<=1000/\∀ H',KeptX (·=f.ST) H H'->FrAt cF H' f { x with stack:=x.stack++[k] } ws->Q .non H'
def ZcI (cF:Addr):Sp:=fun vs H Q _=>∃ (f:FrI) (x:FrS) (ws:List V) (e:Str) (k:Int),vs=[.ref f.a,.str e,.int k]/\FrAt cF H f x ws/\∀ H',KeptX (·=f.a) H H'->FrAt cF H' f { x with fin:=some e,answer:=k } ws->Q .non H'
noncomputable def treeV (x:FrS) (L:Addr):List V:=[.str x.kind,.int x.who,.int x.whose,.int x.caller,.int x.coin,.int x.word,.int x.given,endV x.fin,.int x.answer,.int x.used,.ref L]
def spTree (cF:Addr):Sp:=fun vs H Q _=>∃ (f:FrI) (x:FrS) (ws:List V),vs=[.ref f.a]/\FrAt cF H f x ws/\∀ p L H',Same H H'->H p=none->H L=none->H' L=some (.lst ws)->H' p=some (.tup (treeV x L))->Q (.ref p) H'
section
variable {P:Program} {w:World} {K:PySem.W.Frag} {mg:Str->Option Value} {base:Heap}
theorem Zgb:FnScope ["self"] ["self"] (Zaf Zcu):=by walk_at "c"
theorem Zgc   {cFrame:Addr} (D:ZaG K cFrame "left" "Frame.left" Zcu) (tFrame:T_Frame K mg cFrame):MCal P w K mg base 1 cFrame "left" (spLeft cFrame):=by
 refine Za4 D tFrame.k.cl Zgb (fun vs H Q E h=>?_) (by walk_at "b") (fun f cdv A outer s H vs Q E hr h=>?_)
 .obtain ⟨f,x,ws,rfl,_⟩:=h;rfl
 .obtain ⟨fr,x,ws,rfl,F,k⟩:=h
  refine ⟨_,(Zae (Zak (Zax Zcb (Zao (pv 0) rfl) (Zao (pv 0) rfl)))),?_⟩
  walk_at "nx"
  walk_at "K"
  refine Zah F.ob tFrame.k.cl tFrame.n_given rfl ?_
  walk_at "K"
  refine Zah F.ob tFrame.k.cl tFrame.n_used rfl ?_
  walk_at "K"
  exact k
theorem Zdr:FnScope ["self", "row"] ["self", "row"] (Zaf Zbt):=by walk_at "c"
theorem Zds   {cFrame:Addr} (D:ZaG K cFrame "short_for" "Frame.short_for" Zbt) (tFrame:T_Frame K mg cFrame) (c_takes:Cal P w K mg base 2 "takes" (Zf5 K)) (n_len:mg "len" = none):MCal P w K mg base 3 cFrame "short_for" (Zk9 K cFrame):=by
 refine Za4 D tFrame.k.cl Zdr (fun vs H Q E h=>?_) (by walk_at "b") (fun f cdv A outer s H vs Q E hr h=>?_)
 .obtain ⟨f,x,ws,p,w,n,r,t,l,pr,d,rfl,_⟩:=h;rfl
 .obtain ⟨fr,x,ws,p,wd,n,r,t,l,pr,d,rfl,F,hp,e1,e2,k⟩:=h
  refine ⟨_,(Zae (Zak (ZaJ ZdZ (ZaO ZbC rfl n_len PySem.boot_len (Zaa (Zao (pv 0) rfl) Zad)) (ZaB c_takes (hr.mono (by decide)) rfl (Zaa (pv 1) Zad)) (nomark _)))),?_⟩
  walk_at "nx"
  have hST:=F.st
  walk_at "K"
  refine Zah F.ob tFrame.k.cl tFrame.n_stack rfl ?_
  walk_at "K"
  refine ⟨p,wd,n,r,t,l,pr,d,rfl,hp,e1,e2,?_⟩
  walk_at "K"
  rw [List.length_map]
  exact k
theorem ZcL:FnScope ["self", "row"] ["self", "row"] (Zaf Zbn):=by walk_at "c"
theorem ZcM   {cFrame:Addr} (D:ZaG K cFrame "full_behind" "Frame.full_behind" Zbn) (tFrame:T_Frame K mg cFrame) (c_leaves:Cal P w K mg base 2 "leaves" (ZiX K)) (c_takes:Cal P w K mg base 2 "takes" (Zf5 K)) (n_len:mg "len" = none) (g_MOST_ON_STACK:Za0 mg "MOST_ON_STACK" (.int 24)):MCal P w K mg base 3 cFrame "full_behind" (spFull K cFrame):=by
 refine Za4 D tFrame.k.cl ZcL (fun vs H Q E h=>?_) (by walk_at "b") (fun f cdv A outer s H vs Q E hr h=>?_)
 .obtain ⟨f,x,ws,p,w,n,r,t,l,pr,d,rfl,_⟩:=h;rfl
 .obtain ⟨fr,x,ws,p,wd,n,r,t,l,pr,d,rfl,F,hp,e1,e2,k⟩:=h
  refine ⟨_,(Zae (Zak (ZaJ Zer (Zax Zbc (Zax Zcb (ZaO ZbC rfl n_len PySem.boot_len (Zaa (Zao (pv 0) rfl) Zad)) (ZaB c_takes (hr.mono (by decide)) rfl (Zaa (pv 1) Zad))) (ZaB c_leaves (hr.mono (by decide)) rfl (Zaa (pv 1) Zad))) (ZbB rfl g_MOST_ON_STACK) (nomark _)))),?_⟩
  walk_at "nx"
  have hST:=F.st
  walk_at "K"
  refine Zah F.ob tFrame.k.cl tFrame.n_stack rfl ?_
  walk_at "K"
  refine ⟨p,wd,n,r,t,l,pr,d,rfl,hp,e1,e2,?_⟩
  walk_at "K"
  refine ⟨p,wd,n,r,t,l,pr,d,rfl,hp,e1,e2,?_⟩
  walk_at "K"
  rw [List.length_map]
  exact k
theorem ZbW:FnScope ["self", "many", "numbers", "turn"] ["self", "many"] (Zaf Zb7):=by walk_at "c"
theorem Zfi   {cFrame:Addr} (D:ZaG K cFrame "taken" "Frame.taken" Zb7) (tFrame:T_Frame K mg cFrame) (n_range:mg "range" = none) (n_list:mg "list" = none) (n_reversed:mg "reversed" = none):MCal P w K mg base 1 cFrame "taken" (ZbL cFrame):=by
 refine Za4 D tFrame.k.cl ZbW (fun vs H Q E h=>?_) (by walk_at "b") (fun f cdv A outer s H vs Q E hr h=>?_)
 .obtain ⟨f,x,ws,s,t,rfl,_⟩:=h;rfl
 .obtain ⟨fr,x,ws,s1,t,rfl,F,hx,ht,k⟩:=h
  refine ⟨_,(Zab (Zay (i:=2) ZbW.nd rfl (by first|exact Or.inl rfl|exact Or.inr rfl) (ZaM Zad))
   (Zab (ZiI PassesOwn.never rfl (Zce rfl n_range (Zaa (pv 1) Zad)) (Zcd (i:=3) ZbW.nd rfl (by first|exact Or.inl rfl|exact Or.inr rfl))
   (Zae (ZaF (Zjr PySem.F.plainAttrs_list PySem.F.slot_list_append PySem.F.type_list_append ZbF (pv 2) (Zaa (Zno PySem.F.plainAttrs_list PySem.F.slot_list_pop PySem.F.type_list_pop Znp (Zao (pv 0) rfl)) Zad)))))
   (Zae (Zak (Zjy rfl rfl n_list rfl n_reversed (Zaa (pv 2) Zad)))))),?_⟩
  walk_at "nx"
  walk_at "K"
  refine ⟨by decide,fun nl hnl=>?_⟩
  walk_at "K"
  refine ZiS (Zdm ?_)
  walk_at "K"
  refine ⟨_,rfl,by omega,by omega,?_⟩
  rw [Int.toNat_natCast]
  refine Zeo (fun i σ' H'=>KeptX (·=fr.ST) H H'/\H' nl=some (.lst (((t.drop (t.length-i)).reverse).map V.int))/\H' fr.ST=some (.lst ((s1++t.take (t.length-i)).map V.int))/\∃ v,σ'=[some (.ref fr.a),some (.int (t.length:Nat)),some (.ref nl),v]) ⟨KeptX.new hnl,?_,?_,_,rfl⟩ ?_ ?_
  .rw [Nat.sub_zero,List.drop_length];exact Zag
  .rw [Nat.sub_zero,List.take_length,Zaj (Zam F.st hnl),<- hx];exact F.st
  .rintro i σ' H' hi ⟨k1,h1,h2,v,rfl⟩
   obtain ⟨j,hj⟩:∃ j,t.length-i=j+1:=⟨t.length-i-1,by omega⟩
   have hjl:j<t.length:=by omega
   have e1:t.take (t.length-i)=t.take j++[t[j]]:=by rw [hj];exact List.take_succ_eq_append_getElem hjl
   have e2:t.drop j=t[j]::t.drop (t.length-i):=by rw [hj];exact List.drop_eq_getElem_cons hjl
   have e3:t.length-(i+1)=j:=by omega
   rw [e3,e2]
   rw [e1,<- List.append_assoc,List.map_append] at h2
   have hob:H' fr.a=some (.ins cFrame fr.dx (fldF fr x)):=k1 _ _ F.ob F.aST
   generalize t[j]=z at *
   have nln:nl≠fr.ST:=Ne.symm (Zam F.st hnl)
   walk_at "K"
   refine ⟨Zcj (Zaw h1),?_⟩
   walk_at "K"
   refine Zah hob tFrame.k.cl tFrame.n_stack rfl ?_
   refine ⟨Zcj (Zaw h2),?_⟩
   refine Znw h2 ?_
   walk_at "K"
   refine ZbY (xs:=((t.drop (t.length-i)).reverse).map V.int) (by rw [Zaj nln];exact h1) (by rw [List.length_map,List.length_reverse,List.length_drop];exact Nat.lt_of_le_of_lt (show _<=1000 by omega) (by decide)) ?_
   walk_at "K"
   refine ⟨fun b o e n=>by rw [Zaj (Zam e hnl),Zaj n];exact k1 b o e n,?_,?_,_,rfl⟩
   .rw [Zag,List.reverse_cons,List.map_append];rfl
   .rw [Zaj (Ne.symm nln),Zag]
  .rintro σ' H' ⟨k1,h1,h2,v,rfl⟩
   rw [Nat.sub_self,List.drop_zero] at h1
   rw [Nat.sub_self,List.take_zero,List.append_nil] at h2
   have F1:=F.put k1 h2
   walk_at "K"
   refine Zjx ?_
   walk_at "K"
   refine ⟨nl,_,rfl,Zaw h1,fun l hl=>?_⟩
   rw [<- List.map_reverse,List.reverse_reverse]
   have hlH:H l=none:=by
    cases e:H l with
    | none=>rfl
    | some o =>
     by_cases q:l=fr.ST
     .rw [q,h2] at hl;cases hl
     .rw [k1 l o e q] at hl;cases hl
   exact k l _ hlH (k1.trans (KeptX.new hl)) (F1.same (Same.new hl)) Zag
theorem Zhg:FnScope ["self", "number"] ["self", "number"] (Zaf Zc4):=by walk_at "c"
theorem Zhh   {cFrame:Addr} (D:ZaG K cFrame "lay" "Frame.lay" Zc4) (tFrame:T_Frame K mg cFrame):MCal P w K mg base 1 cFrame "lay" (spLay cFrame):=by
 refine Za4 D tFrame.k.cl Zhg (fun vs H Q E h=>?_) (by walk_at "b") (fun f cdv A outer s H vs Q E hr h=>?_)
 .obtain ⟨f,x,ws,k,rfl,_⟩:=h;rfl
 .obtain ⟨fr,x,ws,n,rfl,F,hl,k⟩:=h
  refine ⟨_,(Zae (ZaF (Zjr PySem.F.plainAttrs_list PySem.F.slot_list_append PySem.F.type_list_append ZbF (Zao (pv 0) rfl) (Zaa (pv 1) Zad)))),?_⟩
  walk_at "nx"
  walk_at "K"
  refine Zah F.ob tFrame.k.cl tFrame.n_stack rfl ?_
  refine ⟨Zcj (Zaw F.st),?_⟩
  walk_at "K"
  refine ZbY F.st (by rw [List.length_map];exact Nat.lt_of_le_of_lt hl (by decide)) ?_
  walk_at "K"
  have:=F.setST (x.stack++[n])
  rw [List.map_append] at this
  exact k _ (KeptX.upd rfl) this
theorem ZeX:FnScope ["self", "end", "answer"] ["self", "end", "answer"] (Zaf ZbT):=by walk_at "c"
theorem ZeY   {cFrame:Addr} (D:ZaG K cFrame "finish" "Frame.finish" ZbT) (tFrame:T_Frame K mg cFrame):MCal P w K mg base 1 cFrame "finish" (ZcI cFrame):=by
 refine Za4 D tFrame.k.cl ZeX (fun vs H Q E h=>?_) (by walk_at "b") (fun f cdv A outer s H vs Q E hr h=>?_)
 .obtain ⟨f,x,ws,e,k,rfl,_⟩:=h;rfl
 .obtain ⟨fr,x,ws,e,n,rfl,F,k⟩:=h
  refine ⟨_,(Zab (ZaS (pv 0) (pv 1) rfl)
   (Zae (ZaS (pv 0) (pv 2) rfl))),?_⟩
  walk_at "nx"
  walk_at "K"
  refine ZaD F.ob tFrame.k.cl tFrame.n_end (by show 15<1000;decide) ?_
  walk_at "K"
  refine ZaD Zag tFrame.k.cl tFrame.n_answer (by show 15<1000;decide) ?_
  rw [ZaT]
  exact k _ (KeptX.upd rfl) (F.setF { x with fin:=some e,answer:=n } rfl)
theorem Zgd:FnScope ["self"] ["self"] (Zaf Zcv):=by walk_at "c"
theorem Zge   {cFrame:Addr} (D:ZaG K cFrame "tree" "Frame.tree" Zcv) (tFrame:T_Frame K mg cFrame) (n_list:mg "list" = none):MCal P w K mg base 1 cFrame "tree" (spTree cFrame):=by
 refine Za4 D tFrame.k.cl Zgd (fun vs H Q E h=>?_) (by walk_at "b") (fun f cdv A outer s H vs Q E hr h=>?_)
 .obtain ⟨f,x,ws,rfl,_⟩:=h;rfl
 .obtain ⟨fr,x,ws,rfl,F,k⟩:=h
  refine ⟨_,(Zae (Zak (Zaz (Zaa (Zao (pv 0) rfl) (Zaa (Zao (pv 0) rfl) (Zaa (Zao (pv 0) rfl) (Zaa (Zao (pv 0) rfl) (Zaa (Zao (pv 0) rfl) (Zaa (Zao (pv 0) rfl) (Zaa (Zao (pv 0) rfl) (Zaa (Zao (pv 0) rfl) (Zaa (Zao (pv 0) rfl) (Zaa (Zao (pv 0) rfl) (Zaa (Zcg ZkK rfl n_list PyProof.Rows.boot_list (Zaa (Zao (pv 0) rfl) Zad)) Zad)))))))))))))),?_⟩
  walk_at "nx"
  walk_at "K"
  refine Zah F.ob tFrame.k.cl tFrame.n_kind rfl ?_
  walk_at "K"
  refine Zah F.ob tFrame.k.cl tFrame.n_who rfl ?_
  walk_at "K"
  refine Zah F.ob tFrame.k.cl tFrame.n_whose rfl ?_
  walk_at "K"
  refine Zah F.ob tFrame.k.cl tFrame.n_caller rfl ?_
  walk_at "K"
  refine Zah F.ob tFrame.k.cl tFrame.n_coin rfl ?_
  walk_at "K"
  refine Zah F.ob tFrame.k.cl tFrame.n_word rfl ?_
  walk_at "K"
  refine Zah F.ob tFrame.k.cl tFrame.n_given rfl ?_
  walk_at "K"
  refine Zah F.ob tFrame.k.cl tFrame.n_end rfl ?_
  walk_at "K"
  refine Zah F.ob tFrame.k.cl tFrame.n_answer rfl ?_
  walk_at "K"
  refine Zah F.ob tFrame.k.cl tFrame.n_used rfl ?_
  walk_at "K"
  refine Zah F.ob tFrame.k.cl tFrame.n_steps rfl ?_
  walk_at "Q"
  refine ZfO (Zaw F.ss) fun L hL=>?_
  walk_at "K"
  refine ⟨szl_11,fun p hp=>?_⟩
  have s1:Same H (upd H L (.lst ws)):=Same.new hL
  exact k p L _ (s1.newT hp) (s1.fresh hp) hL (by rw [Zaj (Zam Zag hp),Zag]) Zag
end
abbrev RD:=FrS->Str->Option Int->FrS->Prop
def rPush:RD:=fun x _ n x'=>∃ k,n=some k/\x'={ x with stack:=x.stack++[k] }
def rDrop:RD:=fun x _ _ x'=>∃ s k,x.stack=s++[k]/\x'={ x with stack:=s }
def rCopy:RD:=fun x _ n x'=>∃ (k:Nat) (v:Int),n=some (k:Int)/\k<x.stack.length/\x.stack[x.stack.length-1-k]?=some v/\x'={ x with stack:=x.stack++[v] }
def rSwap:RD:=fun x _ n x'=>∃ (s m:List Int) (a b:Int),n=some ((m.length+1:Nat):Int)/\x.stack=s++a::(m++[b])/\x'={ x with stack:=s++b::(m++[a]) }
def rReck:RD:=fun x w _ x'=>∃ (f:Int->Int->Int) (s:List Int) (a b:Int),RK.lookup w=some f/\x.stack=s++[a,b]/\ZaW a b/\x'={ x with stack:=s++[f a b] }
def rMe:RD:=fun x _ _ x'=>x'={ x with stack:=x.stack++[x.who] }
def rFrom:RD:=fun x _ _ x'=>x'={ x with stack:=x.stack++[x.caller] }
def rSent:RD:=fun x _ _ x'=>x'={ x with stack:=x.stack++[x.coin] }
def rWord:RD:=fun x _ _ x'=>x'={ x with stack:=x.stack++[x.word] }
def rJump:RD:=fun x _ n x'=>∃ k,n=some k/\x'={ x with row:=k }
def Zgf:RD:=fun x _ n x'=>∃ (k:Int) (s:List Int) (t:Int),n=some k/\x.stack=s++[t]/\x'={ x with stack:=s,row:=if t=0 then x.row else k }
def rGive:RD:=fun x _ _ x'=>∃ (s:List Int) (t:Int),x.stack=s++[t]/\x'={ x with stack:=s,fin:=some ("well" : Str),answer:=t }
def rFail:RD:=fun x _ _ x'=>∃ (s:List Int) (t:Int),x.stack=s++[t]/\x'={ x with stack:=s,fin:=some ("fail" : Str),answer:=t }
def inF (f:FrI) (b:Addr):Prop:=b=f.a\/b=f.ST
def spD (K:PySem.W.Frag) (cF:Addr) (R:RD):Sp:=fun vs H Q _=>∃ (vR vJ:V) (f:FrI) (x x':FrS) (ws:List V) (p:Addr) (w:Str) (n:Option Int),vs=[vR,vJ,.ref f.a,.ref p]/\FrAt cF H f x ws/\Zbj K H p w n/\R x w n x'/\x.stack.length<=900 /\
 ∀ H',KeptX (inF f) H H'->FrAt cF H' f x' ws->Q .non H'
theorem k_st {f:FrI} {H H':Hp} (k:KeptX (·=f.ST) H H'):KeptX (inF f) H H':=k.mono fun _ h=>.inr h
theorem k_a {f:FrI} {H H':Hp} (k:KeptX (·=f.a) H H'):KeptX (inF f) H H':=k.mono fun _ h=>.inl h
theorem Zb8 {K:PySem.W.Frag} {f:FrI} {cF:Addr} {H H':Hp} {x:FrS} {ws:List V} {p:Addr} {w:Str} {n:Option Int} (h:Zbj K H p w n) (F:FrAt cF H f x ws) (k:KeptX (inF f) H H'):Zbj K H' p w n:=by
 unfold Zbj at h |-
 refine SameI.tup (k.imm fun b o z e i=>?_) h
 rcases z with rfl|rfl
 .rw [F.ob] at e;cases e;exact ZcG i
 .rw [F.st] at e;cases e;exact Zbh i
theorem sw1 (s m:List Int) (a b c:Int):(List.map V.int (s++a::(m++[b]))).set s.length (.int c)=List.map V.int (s++c::(m++[b])):=by
 rw [List.map_append,List.set_append_right _ _ (by rw [List.length_map];exact Nat.le_refl _),List.length_map,Nat.sub_self,List.map_append];rfl
theorem sw2 (s m:List Int) (a b c:Int):(List.map V.int (s++a::(m++[b]))).set (s.length+1+m.length) (.int c)=List.map V.int (s++a::(m++[c])):=by
 rw [List.map_append,List.set_append_right _ _ (by rw [List.length_map];omega),List.length_map,List.map_append,List.map_cons,List.map_cons]
 rw [show s.length+1+m.length-s.length=m.length+1 by omega,List.set_cons_succ,List.map_append,List.set_append_right _ _ (by rw [List.length_map];omega),List.length_map,Nat.sub_self,List.map_append];rfl
theorem Zgg {xs:List Int} {k:Nat} {v:Int} (hk:k<xs.length) (e:xs[xs.length-1-k]?=some v):atI (xs.map V.int) (-1-(k:Int))=some (.int v):=by
 unfold atI
 rw [List.length_map,ZkN (j:=xs.length-1-k) (by omega) (by omega)]
 show (xs.map V.int)[xs.length-1-k]?=_
 rw [List.getElem?_map,e];rfl
section
variable {P:Program} {w:World} {K:PySem.W.Frag} {mg:Str->Option Value} {base:Heap}
theorem Zh5:FnScope ["rooms", "journal", "frame", "row"] ["rooms", "journal", "frame", "row"] (Zaf ZdB):=by walk_at "c"
theorem Zh6   {cFrame:Addr} (D:Zaq K mg "push_row" ZdB) (tFrame:T_Frame K mg cFrame) (m_Frame_lay:MCal P w K mg base 1 cFrame "lay" (spLay cFrame)):Cal P w K mg base 2 "push_row" (spD K cFrame rPush):=by
 refine ZaA D Zh5 (fun vs H Q E h=>?_) (by walk_at "b") (fun f cdv A outer s H vs Q E hr h=>?_)
 .obtain ⟨vR,vJ,f,x,x',ws,p,w,n,rfl,_⟩:=h;rfl
 .obtain ⟨vR,vJ,fr,x,x',ws,p,wd,n,rfl,F,hp,hR,hl,k⟩:=h
  obtain ⟨n0,rfl,rfl⟩:=hR
  refine ⟨_,(Zae (ZaF (ZaN m_Frame_lay (hr.mono (by decide)) (pv 2) (Zaa (Zan Zau (pv 3) Zac (fun _ _=>rfl)) Zad)))),?_⟩
  walk_at "nx"
  have hp':SqT K H p [.str wd,.int n0]:=hp
  walk_at "K"
  refine Zav F.ob rfl ?_
  walk_at "K"
  refine ⟨fr,_,ws,_,rfl,F,by show _<=1000;omega,fun H1 k1 F1=>?_⟩
  walk_at "K"
  exact k _ (k_st k1) F1
theorem Zh7:FnScope ["rooms", "journal", "frame", "row"] ["rooms", "journal", "frame", "row"] (Zaf ZdC):=by walk_at "c"
theorem Zh8   {cFrame:Addr} (D:Zaq K mg "drop_row" ZdC) (tFrame:T_Frame K mg cFrame) (m_Frame_taken:MCal P w K mg base 1 cFrame "taken" (ZbL cFrame)):Cal P w K mg base 2 "drop_row" (spD K cFrame rDrop):=by
 refine ZaA D Zh7 (fun vs H Q E h=>?_) (by walk_at "b") (fun f cdv A outer s H vs Q E hr h=>?_)
 .obtain ⟨vR,vJ,f,x,x',ws,p,w,n,rfl,_⟩:=h;rfl
 .obtain ⟨vR,vJ,fr,x,x',ws,p,wd,n,rfl,F,hp,hR,hl,k⟩:=h
  obtain ⟨s0,n0,e0,rfl⟩:=hR
  refine ⟨_,(Zae (ZaF (ZaN m_Frame_taken (hr.mono (by decide)) (pv 2) (Zaa Zac Zad)))),?_⟩
  walk_at "nx"
  walk_at "K"
  refine Zav F.ob rfl ?_
  walk_at "K"
  refine ⟨fr,x,ws,s0,[n0],rfl,F,e0,by show 1<=1000;decide,fun q H1 _ k1 F1 _=>?_⟩
  walk_at "K"
  exact k _ (k_st k1) F1
theorem Zh9:FnScope ["rooms", "journal", "frame", "row"] ["rooms", "journal", "frame", "row"] (Zaf ZdD):=by walk_at "c"
theorem Zia   {cFrame:Addr} (D:Zaq K mg "copy_row" ZdD) (tFrame:T_Frame K mg cFrame) (m_Frame_lay:MCal P w K mg base 1 cFrame "lay" (spLay cFrame)):Cal P w K mg base 2 "copy_row" (spD K cFrame rCopy):=by
 refine ZaA D Zh9 (fun vs H Q E h=>?_) (by walk_at "b") (fun f cdv A outer s H vs Q E hr h=>?_)
 .obtain ⟨vR,vJ,f,x,x',ws,p,w,n,rfl,_⟩:=h;rfl
 .obtain ⟨vR,vJ,fr,x,x',ws,p,wd,n,rfl,F,hp,hR,hl,k⟩:=h
  obtain ⟨n0,v0,rfl,hk,e0,rfl⟩:=hR
  refine ⟨_,(Zae (ZaF (ZaN m_Frame_lay (hr.mono (by decide)) (pv 2) (Zaa (Zan Zas (Zao (pv 2) rfl) (Zax Zcb (Zgw ZdX Zac) (Zan Zau (pv 3) Zac (fun _ _=>rfl))) (fun _ _=>rfl)) Zad)))),?_⟩
  walk_at "nx"
  have hp':SqT K H p [.str wd,.int n0]:=hp
  walk_at "K"
  refine Zav F.ob rfl ?_
  walk_at "K"
  refine Zah F.ob tFrame.k.cl tFrame.n_stack rfl ?_
  walk_at "K"
  refine ZaC (Zaw F.st) (Zgg hk e0) ?_
  walk_at "K"
  refine ⟨fr,_,ws,_,rfl,F,by show _<=1000;omega,fun H1 k1 F1=>?_⟩
  walk_at "K"
  exact k _ (k_st k1) F1
theorem Zb9:FnScope ["rooms", "journal", "frame", "row", "stack", "under", "deeper"] ["rooms", "journal", "frame", "row"] (Zaf ZdE):=by walk_at "c"
theorem Zib   {cFrame:Addr} (D:Zaq K mg "swap_row" ZdE) (tFrame:T_Frame K mg cFrame) (n_len:mg "len" = none):Cal P w K mg base 1 "swap_row" (spD K cFrame rSwap):=by
 refine ZaA D Zb9 (fun vs H Q E h=>?_) (by walk_at "b") (fun f cdv A outer s H vs Q E hr h=>?_)
 .obtain ⟨vR,vJ,f,x,x',ws,p,w,n,rfl,_⟩:=h;rfl
 .obtain ⟨vR,vJ,fr,x,x',ws,p,wd,n,rfl,F,hp,hR,hl,k⟩:=h
  obtain ⟨s0,m0,a0,b0,rfl,e0,rfl⟩:=hR
  refine ⟨_,(Zab (Zay (i:=4) Zb9.nd rfl (by first|exact Or.inl rfl|exact Or.inr rfl) (Zao (pv 2) rfl))
   (Zab (Zay (i:=5) Zb9.nd rfl (by first|exact Or.inl rfl|exact Or.inr rfl) (Zax Zcb (Zax Zcb (ZaO ZbC rfl n_len PySem.boot_len (Zaa (pv 4) Zad)) Zac) (Zan Zau (pv 3) Zac (fun _ _=>rfl))))
   (Zab (Zay (i:=6) Zb9.nd rfl (by first|exact Or.inl rfl|exact Or.inr rfl) (Zan Zas (pv 4) (pv 5) (fun _ _=>rfl)))
   (Zab (ZiH (Zan Zas (pv 4) (Zgw ZdX Zac) (fun _ _=>rfl)) (ZiG (pv 4) (pv 5) Zed))
   (Zae (ZiH (pv 6) (ZiG (pv 4) (Zgw ZdX Zac) Zed))))))),?_⟩
  walk_at "nx"
  have hp':SqT K H p [.str wd,.int ((m0.length+1:Nat):Int)]:=hp
  have hST:=F.st
  rw [e0] at hST
  walk_at "K"
  refine Zah F.ob tFrame.k.cl tFrame.n_stack rfl ?_
  walk_at "K"
  have eu:((List.map V.int (s0++a0::(m0++[b0]))).length:Int)-1-((m0.length+1:Nat):Int)=(s0.length:Int):=by
   simp only [List.length_map,List.length_append,List.length_cons,List.length_nil];omega
  have em:List.map V.int (s0++a0::(m0++[b0]))=List.map V.int (s0++a0::m0)++[V.int b0]:=by simp
  rw [eu]
  refine ZaC (v:=.int a0) (Zaw hST) (Zch (j:=s0.length) (by rw [List.getElem?_map,List.getElem?_append_right (Nat.le_refl _),Nat.sub_self];rfl)) ?_
  walk_at "K"
  refine ZaC (v:=.int b0) (Zaw hST) (by rw [em];exact Zmb _ _) ?_
  walk_at "K"
  refine ZfP hST (ZhM rfl (by simp only [List.length_map,List.length_append,List.length_cons,List.length_nil];omega)) ?_
  rw [sw1]
  walk_at "K"
  refine ZfP Zag (ZkN (j:=s0.length+1+m0.length) (by decide) (by simp only [List.length_map,List.length_append,List.length_cons,List.length_nil];omega)) ?_
  rw [sw2,ZaT]
  exact k _ (k_st (KeptX.upd rfl)) (F.setST _)
theorem Zdt:FnScope ["rooms", "journal", "frame", "row", "taken"] ["rooms", "journal", "frame", "row"] (Zaf Zcq):=by walk_at "c"
theorem Zgh   {cFrame:Addr} (D:Zaq K mg "reckon_row" Zcq) (tFrame:T_Frame K mg cFrame) (m_Frame_taken:MCal P w K mg base 1 cFrame "taken" (ZbL cFrame)) (m_Frame_lay:MCal P w K mg base 1 cFrame "lay" (spLay cFrame)) (c_reckon:Cal P w K mg base 2 "reckon" ZiW):Cal P w K mg base 3 "reckon_row" (spD K cFrame rReck):=by
 refine ZaA D Zdt (fun vs H Q E h=>?_) (by walk_at "b") (fun f cdv A outer s H vs Q E hr h=>?_)
 .obtain ⟨vR,vJ,f,x,x',ws,p,w,n,rfl,_⟩:=h;rfl
 .obtain ⟨vR,vJ,fr,x,x',ws,p,wd,n,rfl,F,hp,hR,hl,k⟩:=h
  obtain ⟨f0,s0,a0,b0,hf,e0,hi,rfl⟩:=hR
  refine ⟨_,(Zab (Zay (i:=4) Zdt.nd rfl (by first|exact Or.inl rfl|exact Or.inr rfl) (ZaN m_Frame_taken (hr.mono (by decide)) (pv 2) (Zaa Zac Zad)))
   (Zae (ZaF (ZaN m_Frame_lay (hr.mono (by decide)) (pv 2) (Zaa (ZaB c_reckon (hr.mono (by decide)) rfl (Zaa (Zan Zau (pv 3) Zac (fun _ _=>rfl)) (Zaa (Zan Zas (pv 4) Zac (fun _ _=>rfl)) (Zaa (Zan Zas (pv 4) Zac (fun _ _=>rfl)) Zad)))) Zad))))),?_⟩
  walk_at "nx"
  walk_at "K"
  refine Zav F.ob rfl ?_
  walk_at "K"
  refine ⟨fr,x,ws,s0,[a0,b0],rfl,F,e0,by show 2<=1000;decide,fun q H1 _ k1 F1 e1=>?_⟩
  have hp1:=Zb8 hp F (k_st k1)
  have e1':H1 q=some (.lst [.int a0,.int b0]):=e1
  walk_at "K"
  refine Zav F1.ob rfl ?_
  walk_at "W"
  refine ⟨wd,a0,b0,f0,rfl,hf,hi,?_⟩
  walk_at "K"
  have hl1:s0.length<=900:=by rw [e0,List.length_append] at hl;omega
  refine ⟨fr,_,ws,_,rfl,F1,Nat.le_trans hl1 (by decide),fun H2 k2 F2=>?_⟩
  walk_at "K"
  exact k _ (k_st (k1.trans k2)) F2
theorem Zic:FnScope ["rooms", "journal", "frame", "row"] ["rooms", "journal", "frame", "row"] (Zaf ZdF):=by walk_at "c"
theorem Zid   {cFrame:Addr} (D:Zaq K mg "jump_row" ZdF) (tFrame:T_Frame K mg cFrame):Cal P w K mg base 1 "jump_row" (spD K cFrame rJump):=by
 refine ZaA D Zic (fun vs H Q E h=>?_) (by walk_at "b") (fun f cdv A outer s H vs Q E hr h=>?_)
 .obtain ⟨vR,vJ,f,x,x',ws,p,w,n,rfl,_⟩:=h;rfl
 .obtain ⟨vR,vJ,fr,x,x',ws,p,wd,n,rfl,F,hp,hR,hl,k⟩:=h
  obtain ⟨n0,rfl,rfl⟩:=hR
  refine ⟨_,(Zae (ZaS (pv 2) (Zan Zau (pv 3) Zac (fun _ _=>rfl)) rfl)),?_⟩
  walk_at "nx"
  have hp':SqT K H p [.str wd,.int n0]:=hp
  walk_at "K"
  refine ZaD F.ob tFrame.k.cl tFrame.n_row (by show 15<1000;decide) ?_
  exact k _ (k_a (KeptX.upd rfl)) (F.setF { x with row:=n0 } rfl)
theorem Zdu:FnScope ["rooms", "journal", "frame", "row", "taken"] ["rooms", "journal", "frame", "row"] (Zaf Zcr):=by walk_at "c"
theorem Zgi   {cFrame:Addr} (D:Zaq K mg "jumpif_row" Zcr) (tFrame:T_Frame K mg cFrame) (m_Frame_taken:MCal P w K mg base 1 cFrame "taken" (ZbL cFrame)):Cal P w K mg base 2 "jumpif_row" (spD K cFrame Zgf):=by
 refine ZaA D Zdu (fun vs H Q E h=>?_) (by walk_at "b") (fun f cdv A outer s H vs Q E hr h=>?_)
 .obtain ⟨vR,vJ,f,x,x',ws,p,w,n,rfl,_⟩:=h;rfl
 .obtain ⟨vR,vJ,fr,x,x',ws,p,wd,n,rfl,F,hp,hR,hl,k⟩:=h
  obtain ⟨n0,s0,t0,rfl,e0,rfl⟩:=hR
  refine ⟨_,(Zab (Zay (i:=4) Zdu.nd rfl (by first|exact Or.inl rfl|exact Or.inr rfl) (ZaN m_Frame_taken (hr.mono (by decide)) (pv 2) (Zaa Zac Zad)))
   (Zae (ZaK (Zal ZfG (Zan Zas (pv 4) Zac (fun _ _=>rfl)) Zac (nomark _)) (Zae (ZaS (pv 2) (Zan Zau (pv 3) Zac (fun _ _=>rfl)) rfl)) Zap))),?_⟩
  walk_at "nx"
  walk_at "K"
  refine Zav F.ob rfl ?_
  walk_at "K"
  refine ⟨fr,x,ws,s0,[t0],rfl,F,e0,by show 1<=1000;decide,fun q H1 _ k1 F1 e1=>?_⟩
  have hp1:SqT K H1 p [.str wd,.int n0]:=Zb8 hp F (k_st k1)
  have e1':H1 q=some (.lst [.int t0]):=e1
  walk_at "K"
  .rename_i ht
   refine ZaD F1.ob tFrame.k.cl tFrame.n_row (by show 15<1000;decide) ?_
   have:=F1.setF { x with stack:=s0,row:=n0 } rfl
   rw [if_neg ht] at k
   exact k _ ((k_st k1).trans (k_a (KeptX.upd rfl))) this
  .rename_i ht
   rw [if_pos ht] at k
   exact k _ (k_st k1) F1
theorem Zla:FnScope ["rooms", "journal", "frame", "row"] ["rooms", "journal", "frame", "row"] (Zaf ZfU):=by walk_at "c"
theorem Zlb   {cFrame:Addr} (D:Zaq K mg "me_row" ZfU) (tFrame:T_Frame K mg cFrame) (m_Frame_lay:MCal P w K mg base 1 cFrame "lay" (spLay cFrame)):Cal P w K mg base 2 "me_row" (spD K cFrame rMe):=by
 refine ZaA D Zla (fun vs H Q E h=>?_) (by walk_at "b") (fun f cdv A outer s H vs Q E hr h=>?_)
 .obtain ⟨vR,vJ,f,x,x',ws,p,w,n,rfl,_⟩:=h;rfl
 .obtain ⟨vR,vJ,fr,x,x',ws,p,wd,n,rfl,F,hp,hR,hl,k⟩:=h
  obtain rfl:=hR
  refine ⟨_,(Zae (ZaF (ZaN m_Frame_lay (hr.mono (by decide)) (pv 2) (Zaa (Zao (pv 2) rfl) Zad)))),?_⟩
  walk_at "nx"
  walk_at "K"
  refine Zav F.ob rfl ?_
  walk_at "K"
  refine Zah F.ob tFrame.k.cl tFrame.n_who rfl ?_
  walk_at "K"
  refine ⟨fr,_,ws,_,rfl,F,by show _<=1000;omega,fun H1 k1 F1=>?_⟩
  walk_at "K"
  exact k _ (k_st k1) F1
theorem Zie:FnScope ["rooms", "journal", "frame", "row"] ["rooms", "journal", "frame", "row"] (Zaf ZdI):=by walk_at "c"
theorem Zif   {cFrame:Addr} (D:Zaq K mg "from_row" ZdI) (tFrame:T_Frame K mg cFrame) (m_Frame_lay:MCal P w K mg base 1 cFrame "lay" (spLay cFrame)):Cal P w K mg base 2 "from_row" (spD K cFrame rFrom):=by
 refine ZaA D Zie (fun vs H Q E h=>?_) (by walk_at "b") (fun f cdv A outer s H vs Q E hr h=>?_)
 .obtain ⟨vR,vJ,f,x,x',ws,p,w,n,rfl,_⟩:=h;rfl
 .obtain ⟨vR,vJ,fr,x,x',ws,p,wd,n,rfl,F,hp,hR,hl,k⟩:=h
  obtain rfl:=hR
  refine ⟨_,(Zae (ZaF (ZaN m_Frame_lay (hr.mono (by decide)) (pv 2) (Zaa (Zao (pv 2) rfl) Zad)))),?_⟩
  walk_at "nx"
  walk_at "K"
  refine Zav F.ob rfl ?_
  walk_at "K"
  refine Zah F.ob tFrame.k.cl tFrame.n_caller rfl ?_
  walk_at "K"
  refine ⟨fr,_,ws,_,rfl,F,by show _<=1000;omega,fun H1 k1 F1=>?_⟩
  walk_at "K"
  exact k _ (k_st k1) F1
theorem Zig:FnScope ["rooms", "journal", "frame", "row"] ["rooms", "journal", "frame", "row"] (Zaf ZdJ):=by walk_at "c"
theorem Zih   {cFrame:Addr} (D:Zaq K mg "sent_row" ZdJ) (tFrame:T_Frame K mg cFrame) (m_Frame_lay:MCal P w K mg base 1 cFrame "lay" (spLay cFrame)):Cal P w K mg base 2 "sent_row" (spD K cFrame rSent):=by
 refine ZaA D Zig (fun vs H Q E h=>?_) (by walk_at "b") (fun f cdv A outer s H vs Q E hr h=>?_)
 .obtain ⟨vR,vJ,f,x,x',ws,p,w,n,rfl,_⟩:=h;rfl
 .obtain ⟨vR,vJ,fr,x,x',ws,p,wd,n,rfl,F,hp,hR,hl,k⟩:=h
  obtain rfl:=hR
  refine ⟨_,(Zae (ZaF (ZaN m_Frame_lay (hr.mono (by decide)) (pv 2) (Zaa (Zao (pv 2) rfl) Zad)))),?_⟩
  walk_at "nx"
  walk_at "K"
  refine Zav F.ob rfl ?_
  walk_at "K"
  refine Zah F.ob tFrame.k.cl tFrame.n_coin rfl ?_
  walk_at "K"
  refine ⟨fr,_,ws,_,rfl,F,by show _<=1000;omega,fun H1 k1 F1=>?_⟩
  walk_at "K"
  exact k _ (k_st k1) F1
theorem Zii:FnScope ["rooms", "journal", "frame", "row"] ["rooms", "journal", "frame", "row"] (Zaf ZdK):=by walk_at "c"
theorem Zij   {cFrame:Addr} (D:Zaq K mg "word_row" ZdK) (tFrame:T_Frame K mg cFrame) (m_Frame_lay:MCal P w K mg base 1 cFrame "lay" (spLay cFrame)):Cal P w K mg base 2 "word_row" (spD K cFrame rWord):=by
 refine ZaA D Zii (fun vs H Q E h=>?_) (by walk_at "b") (fun f cdv A outer s H vs Q E hr h=>?_)
 .obtain ⟨vR,vJ,f,x,x',ws,p,w,n,rfl,_⟩:=h;rfl
 .obtain ⟨vR,vJ,fr,x,x',ws,p,wd,n,rfl,F,hp,hR,hl,k⟩:=h
  obtain rfl:=hR
  refine ⟨_,(Zae (ZaF (ZaN m_Frame_lay (hr.mono (by decide)) (pv 2) (Zaa (Zao (pv 2) rfl) Zad)))),?_⟩
  walk_at "nx"
  walk_at "K"
  refine Zav F.ob rfl ?_
  walk_at "K"
  refine Zah F.ob tFrame.k.cl tFrame.n_word rfl ?_
  walk_at "K"
  refine ⟨fr,_,ws,_,rfl,F,by show _<=1000;omega,fun H1 k1 F1=>?_⟩
  walk_at "K"
  exact k _ (k_st k1) F1
theorem ZeZ:FnScope ["rooms", "journal", "frame", "row", "taken"] ["rooms", "journal", "frame", "row"] (Zaf ZdN):=by walk_at "c"
theorem Zik   {cFrame:Addr} (D:Zaq K mg "give_row" ZdN) (tFrame:T_Frame K mg cFrame) (m_Frame_taken:MCal P w K mg base 1 cFrame "taken" (ZbL cFrame)) (m_Frame_finish:MCal P w K mg base 1 cFrame "finish" (ZcI cFrame)):Cal P w K mg base 2 "give_row" (spD K cFrame rGive):=by
 refine ZaA D ZeZ (fun vs H Q E h=>?_) (by walk_at "b") (fun f cdv A outer s H vs Q E hr h=>?_)
 .obtain ⟨vR,vJ,f,x,x',ws,p,w,n,rfl,_⟩:=h;rfl
 .obtain ⟨vR,vJ,fr,x,x',ws,p,wd,n,rfl,F,hp,hR,hl,k⟩:=h
  obtain ⟨s0,t0,e0,rfl⟩:=hR
  refine ⟨_,(Zab (Zay (i:=4) ZeZ.nd rfl (by first|exact Or.inl rfl|exact Or.inr rfl) (ZaN m_Frame_taken (hr.mono (by decide)) (pv 2) (Zaa Zac Zad)))
   (Zae (ZaF (ZaN m_Frame_finish (hr.mono (by decide)) (pv 2) (Zaa Zai (Zaa (Zan Zas (pv 4) Zac (fun _ _=>rfl)) Zad)))))),?_⟩
  walk_at "nx"
  walk_at "K"
  refine Zav F.ob rfl ?_
  walk_at "K"
  refine ⟨fr,x,ws,s0,[t0],rfl,F,e0,by show 1<=1000;decide,fun q H1 _ k1 F1 e1=>?_⟩
  have e1':H1 q=some (.lst [.int t0]):=e1
  walk_at "K"
  refine Zav F1.ob rfl ?_
  walk_at "K"
  refine ⟨fr,_,ws, "well", t0,rfl,F1,fun H2 k2 F2=>?_⟩
  walk_at "K"
  exact k _ ((k_st k1).trans (k_a k2)) F2
theorem Ze0:FnScope ["rooms", "journal", "frame", "row", "taken"] ["rooms", "journal", "frame", "row"] (Zaf ZdO):=by walk_at "c"
theorem Zil   {cFrame:Addr} (D:Zaq K mg "fail_row" ZdO) (tFrame:T_Frame K mg cFrame) (m_Frame_taken:MCal P w K mg base 1 cFrame "taken" (ZbL cFrame)) (m_Frame_finish:MCal P w K mg base 1 cFrame "finish" (ZcI cFrame)):Cal P w K mg base 2 "fail_row" (spD K cFrame rFail):=by
 refine ZaA D Ze0 (fun vs H Q E h=>?_) (by walk_at "b") (fun f cdv A outer s H vs Q E hr h=>?_)
 .obtain ⟨vR,vJ,f,x,x',ws,p,w,n,rfl,_⟩:=h;rfl
 .obtain ⟨vR,vJ,fr,x,x',ws,p,wd,n,rfl,F,hp,hR,hl,k⟩:=h
  obtain ⟨s0,t0,e0,rfl⟩:=hR
  refine ⟨_,(Zab (Zay (i:=4) Ze0.nd rfl (by first|exact Or.inl rfl|exact Or.inr rfl) (ZaN m_Frame_taken (hr.mono (by decide)) (pv 2) (Zaa Zac Zad)))
   (Zae (ZaF (ZaN m_Frame_finish (hr.mono (by decide)) (pv 2) (Zaa Zai (Zaa (Zan Zas (pv 4) Zac (fun _ _=>rfl)) Zad)))))),?_⟩
  walk_at "nx"
  walk_at "K"
  refine Zav F.ob rfl ?_
  walk_at "K"
  refine ⟨fr,x,ws,s0,[t0],rfl,F,e0,by show 1<=1000;decide,fun q H1 _ k1 F1 e1=>?_⟩
  have e1':H1 q=some (.lst [.int t0]):=e1
  walk_at "K"
  refine Zav F1.ob rfl ?_
  walk_at "K"
  refine ⟨fr,_,ws, "fail", t0,rfl,F1,fun H2 k2 F2=>?_⟩
  walk_at "K"
  exact k _ ((k_st k1).trans (k_a k2)) F2
end
def Zcy (x:FrS) (w:Str) (b:Bool):Prop:=(w ≠ "call" /\ b=false)\/(w = "call" /\ ∃ s c u v,x.stack=s++[c,u,v]/\b=decide (0<c))
def fillsR (A:Nat->Option AcI) (S:Nat->AcS) (x:FrS) (w:Str) (b:Bool):Prop:=(w ≠ "save" /\ b=false)\/(w = "save" /\ ∃ s p v,x.stack=s++[p,v]/\((v=0/\b=false)\/(v≠0/\∃ i y,x.who=((i:Nat):Int)/\i<16/\A i=some y/\b=decide ((S i).store p=0))))
def Zgj (K:PySem.W.Frag) (cF:Addr):Sp:=fun vs H Q _=>∃ (f:FrI) (x:FrS) (ws:List V) (p:Addr) (w:Str) (n:Option Int) (b:Bool),vs=[.ref f.a,.ref p]/\FrAt cF H f x ws/\Zbj K H p w n/\Zcy x w b/\Q (.bl b) H
def Zlc (K:PySem.W.Frag) (C cF:Addr):Sp:=fun vs H Q _=>∃ (R:Addr) (A:Nat->Option AcI) (S:Nat->AcS) (m:Nat) (f:FrI) (x:FrS) (ws:List V) (p:Addr) (w:Str) (n:Option Int) (b:Bool),vs=[.ref R,.ref f.a,.ref p]/\Rooms K C H R A S m/\FrAt cF H f x ws/\Zbj K H p w n/\fillsR A S x w b/\Q (.bl b) H
def ZcJ (K:PySem.W.Frag) (C cF:Addr):Sp:=fun vs H Q _=>∃ (R:Addr) (A:Nat->Option AcI) (S:Nat->AcS) (m:Nat) (f:FrI) (x:FrS) (ws:List V) (p:Addr) (w:Str) (n:Option Int) (b1 b2:Bool) (t l pr d:Int),vs=[.ref R,.ref f.a,.ref p]/\Rooms K C H R A S m/\FrAt cF H f x ws/\Zbj K H p w n/\Zcy x w b1/\fillsR A S x w b2/\RT.lookup w=some (t,l,pr,d)/\Q (.int (if (b1||b2)=true then d else pr)) H
noncomputable def barB (x:FrS) (w:Str) (b1:Bool):Bool:=x.looking&&(inS w ["save", "note"]||b1)
def Zi4 (K:PySem.W.Frag) (cF:Addr):Sp:=fun vs H Q _=>∃ (f:FrI) (x:FrS) (ws:List V) (p:Addr) (w:Str) (n:Option Int) (b1:Bool),vs=[.ref f.a,.ref p]/\FrAt cF H f x ws/\Zbj K H p w n/\Zcy x w b1/\∀ H',Same H H'->Q (.bl (barB x w b1)) H'
def aheadR (A:Nat->Option AcI) (S:Nat->AcS) (x:FrS) (w:Str) (n:Option Int) (e:Option Str):Prop:=∃ r t l pr d,Zby w n=some r/\RT.lookup w=some (t,l,pr,d) /\
 (((x.stack.length:Int)<t+r/\e=some ("short" : Str))\/(¬ (x.stack.length:Int)<t+r/\24<(x.stack.length:Int)-(t+r)+(l+r)/\e=some ("full" : Str))\/(¬ (x.stack.length:Int)<t+r/\¬ 24<(x.stack.length:Int)-(t+r)+(l+r) /\
  ∃ b1 b2,Zcy x w b1/\fillsR A S x w b2/\((barB x w b1=true/\e=some ("barred" : Str))\/(barB x w b1=false/\x.given-x.used<(if (b1||b2)=true then d else pr)/\e=some ("dry" : Str))\/(barB x w b1=false/\¬ x.given-x.used<(if (b1||b2)=true then d else pr)/\e=none))))
def Zim (K:PySem.W.Frag) (C cF:Addr):Sp:=fun vs H Q _=>∃ (R:Addr) (A:Nat->Option AcI) (S:Nat->AcS) (m:Nat) (f:FrI) (x:FrS) (ws:List V) (p:Addr) (w:Str) (n:Option Int) (e:Option Str),vs=[.ref R,.ref f.a,.ref p]/\Rooms K C H R A S m/\FrAt cF H f x ws/\Zbj K H p w n/\aheadR A S x w n e/\∀ H',Same H H'->Q (endV e) H'
theorem at_m3 {xs s:List Int} {c u v:Int} (e:xs=s++[c,u,v]):atI (xs.map V.int) (-3)=some (.int c):=by
 have h:atI (xs.map V.int) (-1-((2:Nat):Int))=some (.int c):=Zgg (by rw [e];simp) (by rw [e];simp)
 exact h
theorem at_m2 {xs s:List Int} {u v:Int} (e:xs=s++[u,v]):atI (xs.map V.int) (-2)=some (.int u):=by
 have h:atI (xs.map V.int) (-1-((1:Nat):Int))=some (.int u):=Zgg (by rw [e];simp) (by rw [e];simp)
 exact h
theorem at_m1 {xs s:List Int} {v:Int} (e:xs=s++[v]):atI (xs.map V.int) (-1)=some (.int v):=by
 have h:atI (xs.map V.int) (-1-((0:Nat):Int))=some (.int v):=Zgg (by rw [e];simp) (by rw [e];simp)
 exact h
section
variable {P:Program} {w:World} {K:PySem.W.Frag} {mg:Str->Option Value} {base:Heap}
theorem Zfj:FnScope ["frame", "row"] ["frame", "row"] (Zaf Zb5):=by walk_at "c"
theorem Zfk   {cFrame:Addr} (D:Zaq K mg "brings_coin" Zb5) (tFrame:T_Frame K mg cFrame):Cal P w K mg base 1 "brings_coin" (Zgj K cFrame):=by
 refine ZaA D Zfj (fun vs H Q E h=>?_) (by walk_at "b") (fun f cdv A outer s H vs Q E hr h=>?_)
 .obtain ⟨f,x,ws,p,w,n,b,rfl,_⟩:=h;rfl
 .obtain ⟨fr,x,ws,p,wd,n,b,rfl,F,hp,hb,k⟩:=h
  refine ⟨_,(Zae (Zak (Zbs (ZaJ ZaX (Zan Zau (pv 1) Zac (fun _ _=>rfl)) Zai (nomark _)) (Zbr (ZaJ Zer (Zan Zas (Zao (pv 0) rfl) (Zgw ZdX Zac) (fun _ _=>rfl)) Zac (nomark _)))))),?_⟩
  walk_at "nx"
  rcases hb with ⟨hw,rfl⟩|⟨rfl,s0,c,u,v,e0,rfl⟩
  .walk_at "W'"
   .exact absurd (by assumption) hw
   .exact k
  .walk_at "W'"
   .refine Zah F.ob tFrame.k.cl tFrame.n_stack rfl ?_
    walk_at "W"
    refine ZaC (Zaw F.st) (at_m3 e0) ?_
    walk_at "W"
    exact k
   .rename_i z;exact absurd rfl z
theorem Zfl:FnScope ["rooms", "frame", "row"] ["rooms", "frame", "row"] (Zaf Zb6):=by walk_at "c"
theorem Zfm   {cFrame:Addr} {cAccount:Addr} (D:Zaq K mg "fills_place" Zb6) (tFrame:T_Frame K mg cFrame) (tAccount:T_Account K mg cAccount) (m_Account_loaded:MCal P w K mg base 1 cAccount "loaded" (Zeg K cAccount)):Cal P w K mg base 2 "fills_place" (Zlc K cAccount cFrame):=by
 refine ZaA D Zfl (fun vs H Q E h=>?_) (by walk_at "b") (fun f cdv A outer s H vs Q E hr h=>?_)
 .obtain ⟨R,A,S,m,f,x,ws,p,w,n,b,rfl,_⟩:=h;rfl
 .obtain ⟨R,Ar,S,m,fr,x,ws,p,wd,n,b,rfl,r,F,hp,hb,k⟩:=h
  refine ⟨_,(Zab (ZaK (PW.pt (ZfE (Zal ZfG (Zan Zau (pv 2) Zac (fun _ _=>rfl)) Zai (nomark _)) (Zgv (Zal ZaX (Zan Zas (Zao (pv 1) rfl) (Zgw ZdX Zac) (fun _ _=>rfl)) Zac (nomark _))))) (Zae (Zak ZcQ)) Zap)
   (Zae (Zak (ZaJ ZaX (ZaN m_Account_loaded (hr.mono (by decide)) (Zan Zas (pv 0) (Zao (pv 1) rfl) (fun _ _=>rfl)) (Zaa (Zan Zas (Zao (pv 1) rfl) (Zgw ZdX Zac) (fun _ _=>rfl)) Zad)) Zac (nomark _))))),?_⟩
  walk_at "nx"
  rcases hb with ⟨hw,rfl⟩|⟨rfl,s0,pl,v,e0,hb⟩
  .walk_at "W'"
   .exact k
   .exact absurd (by assumption) hw
  .have e1:x.stack=(s0++[pl])++[v]:=by rw [e0];simp
   walk_at "W'"
   .rename_i z;exact absurd rfl z
   .refine Zah F.ob tFrame.k.cl tFrame.n_stack rfl ?_
    walk_at "W"
    refine ZaC (Zaw F.st) (at_m1 e1) ?_
    walk_at "W'"
    .rename_i z
     rcases hb with ⟨_,rfl⟩|⟨hv,_⟩
     .exact k
     .exact absurd z hv
    .rename_i z
     rcases hb with ⟨hv,_⟩|⟨_,i,y,ew,hi,hy,rfl⟩
     .exact absurd hv z
     .refine Zah F.ob tFrame.k.cl tFrame.n_who rfl ?_
      rw [ew]
      refine ZaC (Zaw r.ob) (r.at hi hy) ?_
      have ay:=r.ac i y hi hy
      refine Zav ay.ob rfl ?_
      walk_at "W"
      refine Zah F.ob tFrame.k.cl tFrame.n_stack rfl ?_
      walk_at "W"
      refine ZaC (Zaw F.st) (at_m2 e0) ?_
      walk_at "W"
      refine ⟨y.a,y.dx,y.pr,y.st,_,_,_,_,_,m,pl,rfl,ay,?_⟩
      walk_at "W"
      exact k
theorem Zhi:FnScope ["rooms", "frame", "row"] ["rooms", "frame", "row"] (Zaf ZcU):=by walk_at "c"
theorem Zhj    (D:Zaq K mg "row_price" ZcU) (cd2_price:CalD P w K mg base 1 "price" (Zk3 K) []) (c_brings_coin:Cal P w K mg base 1 "brings_coin" (Zgj K cFrame)) (c_fills_place:Cal P w K mg base 2 "fills_place" (Zlc K cAccount cFrame)):Cal P w K mg base 3 "row_price" (ZcJ K cAccount cFrame):=by
 refine ZaA D Zhi (fun vs H Q E h=>?_) (by walk_at "b") (fun f cdv A outer s H vs Q E hr h=>?_)
 .obtain ⟨R,A,S,m,f,x,ws,p,w,n,b1,b2,t,l,pr,d,rfl,_⟩:=h;rfl
 .obtain ⟨R,Ar,S,m,fr,x,ws,p,wd,n,b1,b2,t,l,pr,d,rfl,r,F,hp,hb1,hb2,ht,k⟩:=h
  refine ⟨_,(Zae (Zak (Zob cd2_price (hr.mono (by decide)) rfl (Zaa (pv 2) (Zaa (ZjX (ZaB c_brings_coin (hr.mono (by decide)) rfl (Zaa (pv 1) (Zaa (pv 2) Zad))) (Zbr (ZaB c_fills_place (hr.mono (by decide)) rfl (Zaa (pv 0) (Zaa (pv 1) (Zaa (pv 2) Zad)))))) Zad))))),?_⟩
  walk_at "nx"
  walk_at "W"
  refine ⟨fr,x,ws,p,wd,n,b1,rfl,F,hp,hb1,?_⟩
  cases b1 with
  | true =>
   walk_at "W"
   exact ⟨p,wd,n,t,l,pr,d,true,rfl,hp,ht,k⟩
  | false =>
   walk_at "W"
   refine ⟨R,Ar,S,m,fr,x,ws,p,wd,n,b2,rfl,r,F,hp,hb2,?_⟩
   walk_at "W"
   exact ⟨p,wd,n,t,l,pr,d,b2,rfl,hp,ht,k⟩
theorem Zhk:FnScope ["frame", "row"] ["frame", "row"] (Zaf ZcV):=by walk_at "c"
theorem Zhl   {cFrame:Addr} (D:Zaq K mg "is_barred" ZcV) (tFrame:T_Frame K mg cFrame) (c_brings_coin:Cal P w K mg base 1 "brings_coin" (Zgj K cFrame)):Cal P w K mg base 2 "is_barred" (Zi4 K cFrame):=by
 refine ZaA D Zhk (fun vs H Q E h=>?_) (by walk_at "b") (fun f cdv A outer s H vs Q E hr h=>?_)
 .obtain ⟨f,x,ws,p,w,n,b,rfl,_⟩:=h;rfl
 .obtain ⟨fr,x,ws,p,wd,n,b,rfl,F,hp,hb,k⟩:=h
  refine ⟨_,(Zae (Zak (Zbs (Zao (pv 0) rfl) (Zbr (ZjX (ZaJ ZaQ (Zan Zau (pv 1) Zac (fun _ _=>rfl)) (Zaz (Zaa Zai (Zaa Zai Zad))) rfl) (Zbr (ZaB c_brings_coin (hr.mono (by decide)) rfl (Zaa (pv 0) (Zaa (pv 1) Zad))))))))),?_⟩
  walk_at "nx"
  walk_at "W"
  refine Zah F.ob tFrame.k.cl tFrame.n_looking rfl ?_
  unfold barB at k
  cases e:x.looking with
  | false =>
   rw [e] at k
   walk_at "W"
   exact k H (Same.refl H)
  | true =>
   rw [e] at k
   walk_at "W"
   refine ⟨by decide,fun q hq=>?_⟩
   have s1:Same H (upd H q (.tup [.str "save", .str "note"])):=Same.new hq
   refine Za3 (xs:=["save", "note"]) Zkw ?_
   have F1:=F.same s1
   have hp1:Zbj K _ p wd n:=s1.tup hp
   generalize upd H q _=H1 at s1 F1 hp1
   cases e2:inS wd ["save", "note"] with
   | true =>
    rw [e2] at k
    walk_at "W"
    exact k H1 s1
   | false =>
    rw [e2] at k
    walk_at "W"
    exact ⟨fr,x,ws,p,wd,n,b,rfl,F1,hp1,hb,k H1 s1⟩
theorem Ze1:FnScope ["rooms", "frame", "row"] ["rooms", "frame", "row"] (Zaf ZbR):=by walk_at "c"
theorem Ze2   {cFrame:Addr} (D:Zaq K mg "end_ahead_of" ZbR) (tFrame:T_Frame K mg cFrame) (m_Frame_short_for:MCal P w K mg base 3 cFrame "short_for" (Zk9 K cFrame)) (m_Frame_full_behind:MCal P w K mg base 3 cFrame "full_behind" (spFull K cFrame)) (m_Frame_left:MCal P w K mg base 1 cFrame "left" (spLeft cFrame)) (c_is_barred:Cal P w K mg base 2 "is_barred" (Zi4 K cFrame)) (c_row_price:Cal P w K mg base 3 "row_price" (ZcJ K cAccount cFrame)):Cal P w K mg base 4 "end_ahead_of" (Zim K cAccount cFrame):=by
 refine ZaA D Ze1 (fun vs H Q E h=>?_) (by walk_at "b") (fun f cdv A outer s H vs Q E hr h=>?_)
 .obtain ⟨R,A,S,m,f,x,ws,p,w,n,e,rfl,_⟩:=h;rfl
 .obtain ⟨R,Ar,S,m,fr,x,ws,p,wd,n,e,rfl,r,F,hp,⟨rr,t,l,pr,d,hr1,hr2,ha⟩,k⟩:=h
  refine ⟨_,(Zab (ZaK (ZbP (ZaN m_Frame_short_for (hr.mono (by decide)) (pv 1) (Zaa (pv 2) Zad))) (Zae (Zak Zai)) Zap)
   (Zab (ZaK (ZbP (ZaN m_Frame_full_behind (hr.mono (by decide)) (pv 1) (Zaa (pv 2) Zad))) (Zae (Zak Zai)) Zap)
   (Zab (ZaK (ZbP (ZaB c_is_barred (hr.mono (by decide)) rfl (Zaa (pv 1) (Zaa (pv 2) Zad)))) (Zae (Zak Zai)) Zap)
   (Zab (ZaK (Zal Zer (ZaB c_row_price (hr.mono (by decide)) rfl (Zaa (pv 0) (Zaa (pv 1) (Zaa (pv 2) Zad)))) (Zdn m_Frame_left (hr.mono (by decide)) (pv 1)) (nomark _)) (Zae (Zak Zai)) Zap)
   (Zae (Zak Zca)))))),?_⟩
  walk_at "nx"
  rcases ha with ⟨h1,rfl⟩|⟨h1,h2,rfl⟩|⟨h1,h2,b1,b2,hb1,hb2,ha⟩
  .skip
   walk_at "Y"
   refine Zav F.ob rfl ?_
   walk_at "Y"
   refine ⟨fr,x,ws,p,wd,n,rr,t,l,pr,d,rfl,F,hp,hr1,hr2,?_⟩
   walk_at "Y"
   exact k H (Same.refl H)
  .skip
   walk_at "Y"
   refine Zav F.ob rfl ?_
   walk_at "Y"
   refine ⟨fr,x,ws,p,wd,n,rr,t,l,pr,d,rfl,F,hp,hr1,hr2,?_⟩
   walk_at "Y"
   refine Zav F.ob rfl ?_
   walk_at "Y"
   refine ⟨fr,x,ws,p,wd,n,rr,t,l,pr,d,rfl,F,hp,hr1,hr2,?_⟩
   walk_at "Y"
   exact k H (Same.refl H)
  .skip
   walk_at "Y"
   refine Zav F.ob rfl ?_
   walk_at "Y"
   refine ⟨fr,x,ws,p,wd,n,rr,t,l,pr,d,rfl,F,hp,hr1,hr2,?_⟩
   walk_at "Y"
   refine Zav F.ob rfl ?_
   walk_at "Y"
   refine ⟨fr,x,ws,p,wd,n,rr,t,l,pr,d,rfl,F,hp,hr1,hr2,?_⟩
   walk_at "Y"
   refine ⟨fr,x,ws,p,wd,n,b1,rfl,F,hp,hb1,fun H1 s1=>?_⟩
   have F1:=F.same s1
   have r1:=r.same s1
   have hp1:Zbj K H1 p wd n:=s1.tup hp
   rcases ha with ⟨hbar,rfl⟩|⟨hbar,hdr,rfl⟩|⟨hbar,hdr,rfl⟩
   .rw [hbar]
    walk_at "Y"
    exact k H1 s1
   .skip
    rw [hbar]
    walk_at "Y"
    refine ⟨R,Ar,S,m,fr,x,ws,p,wd,n,b1,b2,t,l,pr,d,rfl,r1,F1,hp1,hb1,hb2,hr2,?_⟩
    generalize (if (b1||b2)=true then d else pr)=z at hdr |-
    walk_at "Y"
    refine Zav F1.ob rfl ?_
    refine ⟨fr,x,ws,rfl,F1,?_⟩
    walk_at "Y"
    exact k H1 s1
   .skip
    rw [hbar]
    walk_at "Y"
    refine ⟨R,Ar,S,m,fr,x,ws,p,wd,n,b1,b2,t,l,pr,d,rfl,r1,F1,hp1,hb1,hb2,hr2,?_⟩
    generalize (if (b1||b2)=true then d else pr)=z at hdr |-
    walk_at "Y"
    refine Zav F1.ob rfl ?_
    refine ⟨fr,x,ws,rfl,F1,?_⟩
    walk_at "Y"
    exact k H1 s1
end
def inF3 (f:FrI) (b:Addr):Prop:=b=f.a\/b=f.ST\/b=f.SS
theorem k_F3 {f:FrI} {H H':Hp} (k:KeptX (inF f) H H'):KeptX (inF3 f) H H':=k.mono fun _ h=>h.elim .inl fun z=>.inr (.inl z)
noncomputable def ZaL (x:FrS) (c:Int):FrS:={ x with used:=x.used+c,row:=x.row+1 }
structure Ap (R L:Addr) (A:Nat->Option AcI) (f:FrI):Prop where
 tR:f.ST≠R
 sR:f.SS≠R
 tL:f.ST≠L
 sL:f.SS≠L
 p:∀ i y,i<16->A i=some y->f.ST≠y.pr/\f.SS≠y.pr
def goX (A:Nat->Option AcI) (L:Addr) (f:FrI) (b:Addr):Prop:=¬ Out A b\/b=L\/inF3 f b
section
variable {K:PySem.W.Frag} {C cJ cS cM cN cF:Addr} {H H':Hp} {j dx R L:Addr} {A:Nat->Option AcI} {S:Nat->AcS} {m:Nat} {es:List DI} {f:FrI} {x:FrS} {ws:List V}
theorem Zdv (k:KeptX (inF3 f) H H'):KeptX (goX A L f) H H':=k.mono fun _ h=>.inr (.inr h)
theorem Zld (k:∀ b,Out A b->b≠L->H' b=H b):KeptX (goX A L f) H H':=fun b o e n=>by
 have h1:Out A b:=Classical.byContradiction fun z=>n (.inl z)
 have h2:b≠L:=fun z=>n (.inr (.inl z))
 rw [k b h1 h2];exact e
theorem imm_F3 (F:FrAt cF H f x ws) (k:KeptX (inF3 f) H H'):SameI H H':=k.imm fun b o z e i=>by
 rcases z with rfl|rfl|rfl
 .rw [F.ob] at e;cases e;exact ZcG i
 .rw [F.st] at e;cases e;exact Zbh i
 .rw [F.ss] at e;cases e;exact Zbh i
theorem ZdT (F:FrAt cF H f x ws) {b C' dx':Addr} {fs:List (Str×V)} (h:H b=some (.ins C' dx' fs)) (n:fs.length≠15):¬ inF3 f b:=by
 rintro (z|z|z)
 .exact Zi0 h F.ob n z
 .exact Za6 h F.st (by intro z;cases z) z
 .exact Za6 h F.ss (by intro z;cases z) z
theorem Zle (F:FrAt cF H f x ws) {b:Addr} {kvs:List (Key×V)} (h:H b=some (.dK kvs)):¬ inF3 f b:=by
 rintro (z|z|z)
 .exact Za6 h F.ob (by intro z;cases z) z
 .exact Za6 h F.st (by intro z;cases z) z
 .exact Za6 h F.ss (by intro z;cases z) z
theorem ZdU (F:FrAt cF H f x ws) {b:Addr} {xs:List V} (h:H b=some (.lst xs)) (n1:f.ST≠b) (n2:f.SS≠b):¬ inF3 f b:=by
 rintro (z|z|z)
 .exact Za6 h F.ob (by intro z;cases z) z
 .exact n1 z.symm
 .exact n2 z.symm
theorem Rooms.frame (r:Rooms K C H R A S m) (F:FrAt cF H f x ws) (a:Ap R L A f) (k:KeptX (inF3 f) H H'):Rooms K C H' R A S m:=by
 have im:=imm_F3 F k
 refine ⟨k _ _ r.ob (ZdU F r.ob a.tR a.sR),fun i y hi hy=>?_,r.da,r.ds⟩
 have h:=r.ac i y hi hy
 obtain ⟨zs,e1,e2⟩:=h.pg
 obtain ⟨kvs,e3,e4⟩:=h.sto
 exact ⟨k _ _ h.ob (ZdT F h.ob (by show 5≠15;decide)),⟨zs,k _ _ e1 (ZdU F e1 (a.p i y hi hy).1 (a.p i y hi hy).2),e2.keep im⟩,kvs,k _ _ e3 (Zle F e3),e4⟩
theorem Jr.frame (J:Jr cJ cS cM cN H j dx R L A es) (F:FrAt cF H f x ws) (a:Ap R L A f) (k:KeptX (inF3 f) H H'):Jr cJ cS cM cN H' j dx R L A es :=
 ⟨k _ _ J.ob (ZdT F J.ob (by show 2≠15;decide)),k _ _ J.li (ZdU F J.li a.tL a.sL),fun e he=>⟨k _ _ (J.de e he).1 (ZdT F (J.de e he).1 (by have:=Zga e.d;omega)),(J.de e he).2⟩,J.nR,J.np⟩
theorem FrAt.out (F:FrAt cF H f x ws) (r:Rooms K C H R A S m) (a:Ap R L A f) (lL:H L=some (.lst (es.map fun e=>V.ref e.o))) (k:∀ b,Out A b->b≠L->H' b=H b):FrAt cF H' f x ws:=by
 have oa:Out A f.a:=fun i y hi hy=>⟨Zi0 F.ob (r.ac i y hi hy).ob (by show 15≠5;decide),let ⟨_,g,_⟩:=(r.ac i y hi hy).sto;Za6 F.ob g (by intro z;cases z)⟩
 exact ⟨by rw [k _ oa (Za6 F.ob lL (by intro z;cases z))];exact F.ob,by rw [k _ (r.outL F.st) a.tL];exact F.st,by rw [k _ (r.outL F.ss) a.sL];exact F.ss,F.ne⟩
end
def ZbM (K:PySem.W.Frag) (C cJ cS cM cN cF:Addr):Sp:=fun vs H Q _=>∃ (j dx R L:Addr) (A:Nat->Option AcI) (S:Nat->AcS) (m:Nat) (es:List DI) (e:DI) (f:FrI) (x:FrS) (ws:List V),vs=[.ref j,.ref f.a,.ref e.o]/\Jr cJ cS cM cN H j dx R L A es/\Rooms K C H R A S m/\H e.o=some (.ins (clsD cS cM cN e.d) e.dx (fldD e.d))/\fitsD A e.d/\m<=1000000/\es.length<1000000/\FrAt cF H f x ws/\Ap R L A f/\ws.length<=100000 /\
 ∀ t H',H t=none->KeptX (goX A L f) H H'->Rooms K C H' R A (doneS S e.d) (m+1)->Jr cJ cS cM cN H' j dx R L A (es++[e])->FrAt cF H' f x (ws++[.ref t])->H' t=some (.tup (tellV e.d))->Q .non H'
section
variable {P:Program} {w:World} {K:PySem.W.Frag} {mg:Str->Option Value} {base:Heap}
theorem Zgk:FnScope ["journal", "frame", "deed"] ["journal", "frame", "deed"] (Zaf Zcp):=by walk_at "c"
theorem Zgl   {cJournal:Addr} {cFrame:Addr} {cSave:Addr} {cMove:Addr} {cNote:Addr} (D:Zaq K mg "write_step" Zcp) (tJournal:T_Journal K mg cJournal) (tFrame:T_Frame K mg cFrame) (tSave:T_Save K mg cSave) (tMove:T_Move K mg cMove) (tNote:T_Note K mg cNote) (m_Journal_write:MCal P w K mg base 3 cJournal "write" (Zk7 K cAccount cJournal cSave cMove cNote)) (m_Save_told:MCal P w K mg base 1 cSave "told" (spTold cSave isSave)) (m_Move_told:MCal P w K mg base 1 cMove "told" (spTold cMove isMove)) (m_Note_told:MCal P w K mg base 1 cNote "told" (spTold cNote isNote)):Cal P w K mg base 4 "write_step" (ZbM K cAccount cJournal cSave cMove cNote cFrame):=by
 refine ZaA D Zgk (fun vs H Q E h=>?_) (by walk_at "b") (fun f cdv A outer s H vs Q E hr h=>?_)
 .obtain ⟨j,dx,R,L,A,S,m,es,e,f,x,ws,rfl,_⟩:=h;rfl
 .obtain ⟨j,dx,R,L,Ar,S,m,es,e,fr,x,ws,rfl,J,r,he,fit,hm,hel,F,ap,hw,k⟩:=h
  refine ⟨_,(Zab (ZaF (ZaN m_Journal_write (hr.mono (by decide)) (pv 0) (Zaa (pv 2) Zad)))
   (Zae (ZaF (Zjr PySem.F.plainAttrs_list PySem.F.slot_list_append PySem.F.type_list_append ZbF (Zao (pv 1) rfl) (Zaa (ZgS (T:=TTo cSave cMove cNote) (ZmJ m_Save_told m_Move_told m_Note_told) (hr.mono (by decide)) (pv 2)) Zad))))),?_⟩
  walk_at "nx"
  walk_at "K"
  refine Zav J.ob rfl ?_
  walk_at "K"
  refine ⟨j,dx,R,L,Ar,S,m,es,e,rfl,J,r,he,fit,hm,hel,fun H1 k1 r1 J1=>?_⟩
  have F1:=F.out r ap J.li k1
  have he1:=(J1.de e (List.mem_append.mpr (.inr (List.mem_singleton.mpr rfl)))).1
  walk_at "K"
  refine Zah F1.ob tFrame.k.cl tFrame.n_steps rfl ?_
  refine ⟨Zcj (Zaw F1.ss),?_⟩
  walk_at "K"
  refine Zeh ?_
  walk_at "K"
  refine ⟨e.o,clsD cSave cMove cNote e.d,e.dx,fldD e.d,_,rfl,he1,Zi3 e.d,ZnC cSave cMove cNote e.d,?_⟩
  walk_at "K"
  refine ⟨e.o,e.dx,e.d,rfl,Zdp e.d,he1,fun t ht=>?_⟩
  have s1:Same H1 (upd H1 t (.tup (tellV e.d))):=Same.new ht
  have r2:=r1.same s1
  have J2:=J1.same s1
  have F2:=F1.same s1
  have k2:KeptX (goX Ar L fr) H (upd H1 t (.tup (tellV e.d))):=(Zld k1).trans s1.keptX
  have et:(upd H1 t (.tup (tellV e.d))) t=some (.tup (tellV e.d)):=Zag
  have htH:H t=none:=by
   cases z:H t with
   | none=>rfl
   | some o =>
    exfalso
    by_cases q:Out Ar t/\t≠L
    .rw [k1 t q.1 q.2,z] at ht;cases ht
    .by_cases q2:t=L
     .rw [q2,J1.li] at ht;cases ht
     .refine q ⟨fun i y hi hy=>⟨?_,?_⟩,q2⟩
      .intro z2;rw [z2,(r1.ac i y hi hy).ob] at ht;cases ht
      .intro z2;obtain ⟨kv,g1,_⟩:=(r1.ac i y hi hy).sto;rw [z2,g1] at ht;cases ht
  generalize upd H1 t _=H2 at s1 r2 J2 F2 k2 et
  walk_at "K"
  refine ZbY F2.ss (Nat.lt_of_le_of_lt hw (by decide)) ?_
  walk_at "K"
  have k3:KeptX (inF3 fr) H2 (upd H2 fr.SS (.lst (ws++[.ref t]))):=KeptX.upd (.inr (.inr rfl))
  exact k t _ htH (k2.trans (Zdv k3)) (r2.frame F2 ap k3) (J2.frame F2 ap k3) (F2.setSS _) (by rw [Zaj (Za6 et F2.ss (by intro z;cases z))];exact et)
end
def spAt (K:PySem.W.Frag) (C:Addr):Sp:=fun vs H Q _=>∃ (R:Addr) (A:Nat->Option AcI) (S:Nat->AcS) (m:Nat) (s:Int),vs=[.ref R,.int s]/\Rooms K C H R A S m/\Q (if 0<=s/\s<16 then roomV (A s.toNat) else .non) H
def Ze3 (K:PySem.W.Frag) (C cF:Addr):Sp:=fun vs H Q _=>∃ (R L:Addr) (vJ:V) (A:Nat->Option AcI) (S:Nat->AcS) (m:Nat) (f:FrI) (x:FrS) (ws:List V) (vp:V) (i:Nat) (y:AcI) (s:List Int) (pl:Int),vs=[.ref R,vJ,.ref f.a,vp]/\Rooms K C H R A S m/\FrAt cF H f x ws/\Ap R L A f/\x.who=(i:Int)/\i<16/\A i=some y/\x.stack=s++[pl]/\x.stack.length<=900 /\
 ∀ H',KeptX (inF3 f) H H'->FrAt cF H' f { x with stack:=s++[(S i).store pl] } ws->Q .non H'
noncomputable def Ze4 (A:Nat->Option AcI) (S:Nat->AcS) (s:Int):Int:=if 0<=s/\s<16 then (match A s.toNat with|some _=>(S s.toNat).coin|none=>0) else 0
def Ze5 (K:PySem.W.Frag) (C cF:Addr):Sp:=fun vs H Q _=>∃ (R L:Addr) (vJ:V) (A:Nat->Option AcI) (S:Nat->AcS) (m:Nat) (f:FrI) (x:FrS) (ws:List V) (vp:V) (s:List Int) (sl:Int),vs=[.ref R,vJ,.ref f.a,vp]/\Rooms K C H R A S m/\FrAt cF H f x ws/\Ap R L A f/\x.stack=s++[sl]/\x.stack.length<=900 /\
 ∀ H',KeptX (inF3 f) H H'->FrAt cF H' f { x with stack:=s++[Ze4 A S sl] } ws->Q .non H'
def ZnD (K:PySem.W.Frag) (C cJ cS cM cN cF:Addr) (H:Hp) (j dx R L:Addr) (A:Nat->Option AcI) (S:Nat->AcS) (m:Nat) (es:List DI) (f:FrI) (x:FrS) (ws:List V) (d:Dd) (Q:VK):Prop :=
 ∀ t e H',e.d=d->H t=none->KeptX (goX A L f) H H'->Rooms K C H' R A (doneS S d) (m+1)->Jr cJ cS cM cN H' j dx R L A (es++[e])->FrAt cF H' f x (ws++[.ref t])->H' t=some (.tup (tellV d))->Q .non H'
def Ze6 (K:PySem.W.Frag) (C cJ cS cM cN cF:Addr):Sp:=fun vs H Q _=>∃ (j dx R L:Addr) (A:Nat->Option AcI) (S:Nat->AcS) (m:Nat) (es:List DI) (f:FrI) (x:FrS) (ws:List V) (vp:V) (i:Nat) (y:AcI) (s:List Int) (pl v:Int),vs=[.ref R,.ref j,.ref f.a,vp]/\Jr cJ cS cM cN H j dx R L A es/\Rooms K C H R A S m/\m<=1000000/\es.length<1000000/\FrAt cF H f x ws/\Ap R L A f/\ws.length<=100000/\x.who=(i:Int)/\i<16/\A i=some y/\x.stack=s++[pl,v] /\
 ZnD K C cJ cS cM cN cF H j dx R L A S m es f { x with stack:=s } ws (.save (i:Int) pl ((S i).store pl) v) Q
def Ze7 (K:PySem.W.Frag) (C cJ cS cM cN cF:Addr):Sp:=fun vs H Q _=>∃ (j dx R L:Addr) (A:Nat->Option AcI) (S:Nat->AcS) (m:Nat) (es:List DI) (f:FrI) (x:FrS) (ws:List V) (vp:V) (s:List Int) (v:Int),vs=[.ref R,.ref j,.ref f.a,vp]/\Jr cJ cS cM cN H j dx R L A es/\Rooms K C H R A S m/\m<=1000000/\es.length<1000000/\FrAt cF H f x ws/\Ap R L A f/\ws.length<=100000/\x.stack=s++[v] /\
 ZnD K C cJ cS cM cN cF H j dx R L A S m es f { x with stack:=s } ws (.note x.who v) Q
section
variable {P:Program} {w:World} {K:PySem.W.Frag} {mg:Str->Option Value} {base:Heap}
theorem Zgm:FnScope ["rooms", "slot"] ["rooms", "slot"] (Zaf Zcm):=by walk_at "c"
theorem Zgn    (D:Zaq K mg "account_at" Zcm) (n_len:mg "len" = none):Cal P w K mg base 1 "account_at" (spAt K cAccount):=by
 refine ZaA D Zgm (fun vs H Q E h=>?_) (by walk_at "b") (fun f cdv A outer s H vs Q E hr h=>?_)
 .obtain ⟨R,A,S,m,s,rfl,_⟩:=h;rfl
 .obtain ⟨R,Ar,S,m,s0,rfl,r,k⟩:=h
  refine ⟨_,(Zab (ZaK (Zl5 ZnM ZdZ Zac (pv 1) (ZaO ZbC rfl n_len PySem.boot_len (Zaa (pv 0) Zad))) (Zae (Zak (Zan Zas (pv 0) (pv 1) (fun _ _=>rfl)))) Zap)
   (Zae (Zak Zca))),?_⟩
  walk_at "nx"
  have hRs:=Zaw (K:=K) r.ob
  have hl16:(((List.range 16).map fun i=>roomV (Ar i)).length:Int)=16:=by rw [List.length_map,List.length_range];rfl
  repeat' walk_at "rdk"
  .rename_i h1 h2
   rw [hl16] at h2
   rw [if_pos ⟨h1,h2⟩] at k
   refine ZaC hRs (ZcD (i:=s0.toNat) (by rw [List.getElem?_map,List.getElem?_range (by omega)];rfl) (by omega)) ?_
   exact k
  .rename_i h1 h2
   rw [hl16] at h2
   rw [if_neg (fun z=>h2 z.2)] at k
   exact k
  .rename_i h1
   rw [if_neg (fun z=>h1 z.1)] at k
   exact k
theorem Ze8:FnScope ["rooms", "journal", "frame", "row", "taken"] ["rooms", "journal", "frame", "row"] (Zaf ZdG):=by walk_at "c"
theorem Zin   {cFrame:Addr} {cAccount:Addr} (D:Zaq K mg "load_row" ZdG) (tFrame:T_Frame K mg cFrame) (tAccount:T_Account K mg cAccount) (m_Frame_taken:MCal P w K mg base 1 cFrame "taken" (ZbL cFrame)) (m_Frame_lay:MCal P w K mg base 1 cFrame "lay" (spLay cFrame)) (m_Account_loaded:MCal P w K mg base 1 cAccount "loaded" (Zeg K cAccount)):Cal P w K mg base 2 "load_row" (Ze3 K cAccount cFrame):=by
 refine ZaA D Ze8 (fun vs H Q E h=>?_) (by walk_at "b") (fun f cdv A outer s H vs Q E hr h=>?_)
 .obtain ⟨R,L,vJ,A,S,m,f,x,ws,vp,i,y,s,pl,rfl,_⟩:=h;rfl
 .obtain ⟨R,L,vJ,Ar,S,m,fr,x,ws,vp,i,y,s0,pl,rfl,r,F,ap,ew,hi,hy,e0,hl,k⟩:=h
  refine ⟨_,(Zab (Zay (i:=4) Ze8.nd rfl (by first|exact Or.inl rfl|exact Or.inr rfl) (ZaN m_Frame_taken (hr.mono (by decide)) (pv 2) (Zaa Zac Zad)))
   (Zae (ZaF (ZaN m_Frame_lay (hr.mono (by decide)) (pv 2) (Zaa (ZaN m_Account_loaded (hr.mono (by decide)) (Zan Zas (pv 0) (Zao (pv 2) rfl) (fun _ _=>rfl)) (Zaa (Zan Zas (pv 4) Zac (fun _ _=>rfl)) Zad)) Zad))))),?_⟩
  walk_at "nx"
  walk_at "K"
  refine Zav F.ob rfl ?_
  walk_at "K"
  refine ⟨fr,x,ws,s0,[pl],rfl,F,e0,by show 1<=1000;decide,fun q H1 _ k1 F1 e1=>?_⟩
  have e1':H1 q=some (.lst [.int pl]):=e1
  have k1':KeptX (inF3 fr) H H1:=k1.mono fun _ h=>.inr (.inl h)
  have r1:=r.frame F ap k1'
  have ay:=r1.ac i y hi hy
  walk_at "K"
  refine Zav F1.ob rfl ?_
  walk_at "K"
  refine Zah F1.ob tFrame.k.cl tFrame.n_who rfl ?_
  rw [ew]
  refine ZaC (Zaw r1.ob) (r1.at hi hy) ?_
  refine Zav ay.ob rfl ?_
  walk_at "K"
  refine ⟨y.a,y.dx,y.pr,y.st,_,_,_,_,_,m,pl,rfl,ay,?_⟩
  walk_at "K"
  have hl1:s0.length<=1000:=by rw [e0,List.length_append] at hl;omega
  refine ⟨fr,_,ws,_,rfl,F1,hl1,fun H2 k2 F2=>?_⟩
  walk_at "K"
  exact k H2 (k1'.trans (k2.mono fun _ h=>.inr (.inl h))) F2
theorem Zda:FnScope ["rooms", "journal", "frame", "row", "taken", "account"] ["rooms", "journal", "frame", "row"] (Zaf ZdL):=by walk_at "c"
theorem Zio   {cFrame:Addr} {cAccount:Addr} (D:Zaq K mg "coin_row" ZdL) (tFrame:T_Frame K mg cFrame) (tAccount:T_Account K mg cAccount) (m_Frame_taken:MCal P w K mg base 1 cFrame "taken" (ZbL cFrame)) (m_Frame_lay:MCal P w K mg base 1 cFrame "lay" (spLay cFrame)) (c_account_at:Cal P w K mg base 1 "account_at" (spAt K cAccount)):Cal P w K mg base 2 "coin_row" (Ze5 K cAccount cFrame):=by
 refine ZaA D Zda (fun vs H Q E h=>?_) (by walk_at "b") (fun f cdv A outer s H vs Q E hr h=>?_)
 .obtain ⟨R,L,vJ,A,S,m,f,x,ws,vp,s,sl,rfl,_⟩:=h;rfl
 .obtain ⟨R,L,vJ,Ar,S,m,fr,x,ws,vp,s0,sl,rfl,r,F,ap,e0,hl,k⟩:=h
  refine ⟨_,(Zab (Zay (i:=4) Zda.nd rfl (by first|exact Or.inl rfl|exact Or.inr rfl) (ZaN m_Frame_taken (hr.mono (by decide)) (pv 2) (Zaa Zac Zad)))
   (Zab (Zay (i:=5) Zda.nd rfl (by first|exact Or.inl rfl|exact Or.inr rfl) (ZaB c_account_at (hr.mono (by decide)) rfl (Zaa (pv 0) (Zaa (Zan Zas (pv 4) Zac (fun _ _=>rfl)) Zad))))
   (Zae (ZaF (ZaN m_Frame_lay (hr.mono (by decide)) (pv 2) (Zaa (Zec (Zal ZeD (pv 5) Zca (nomark _)) Zac (Zao (pv 5) rfl)) Zad)))))),?_⟩
  walk_at "nx"
  walk_at "K"
  refine Zav F.ob rfl ?_
  walk_at "K"
  refine ⟨fr,x,ws,s0,[sl],rfl,F,e0,by show 1<=1000;decide,fun q H1 _ k1 F1 e1=>?_⟩
  have e1':H1 q=some (.lst [.int sl]):=e1
  have k1':KeptX (inF3 fr) H H1:=k1.mono fun _ h=>.inr (.inl h)
  have r1:=r.frame F ap k1'
  have hl1:s0.length<=1000:=by rw [e0,List.length_append] at hl;omega
  walk_at "K"
  refine ⟨R,Ar,S,m,sl,rfl,r1,?_⟩
  unfold Ze4 at k
  by_cases h0:0<=sl/\sl<16
  .rw [if_pos h0] at k |-
   cases hA:Ar sl.toNat with
   | none =>
    rw [hA] at k
    rw [show roomV none=V.non from rfl]
    walk_at "K"
    refine Zav F1.ob rfl ?_
    walk_at "K"
    refine ⟨fr,_,ws,_,rfl,F1,hl1,fun H2 k2 F2=>?_⟩
    walk_at "K"
    exact k H2 (k1'.trans (k2.mono fun _ h=>.inr (.inl h))) F2
   | some y =>
    rw [hA] at k
    rw [show roomV (some y)=V.ref y.a from rfl]
    have ay:=r1.ac sl.toNat y (by omega) hA
    walk_at "K"
    refine Zav F1.ob rfl ?_
    walk_at "K"
    refine Zah ay.ob tAccount.k.cl tAccount.n_coin rfl ?_
    walk_at "K"
    refine ⟨fr,_,ws,_,rfl,F1,hl1,fun H2 k2 F2=>?_⟩
    walk_at "K"
    exact k H2 (k1'.trans (k2.mono fun _ h=>.inr (.inl h))) F2
  .rw [if_neg h0] at k |-
   walk_at "K"
   refine Zav F1.ob rfl ?_
   walk_at "K"
   refine ⟨fr,_,ws,_,rfl,F1,hl1,fun H2 k2 F2=>?_⟩
   walk_at "K"
   exact k H2 (k1'.trans (k2.mono fun _ h=>.inr (.inl h))) F2
theorem Zdb:FnScope ["rooms", "journal", "frame", "row", "taken", "old"] ["rooms", "journal", "frame", "row"] (Zaf ZdH):=by walk_at "c"
theorem Zip   {cFrame:Addr} {cAccount:Addr} {cSave:Addr} (D:Zaq K mg "save_row" ZdH) (tFrame:T_Frame K mg cFrame) (tAccount:T_Account K mg cAccount) (tSave:T_Save K mg cSave) (m_Frame_taken:MCal P w K mg base 1 cFrame "taken" (ZbL cFrame)) (m_Account_loaded:MCal P w K mg base 1 cAccount "loaded" (Zeg K cAccount)) (i_Save:ICal P w K mg base 1 "Save" cSave (ZiY cSave)) (c_write_step:Cal P w K mg base 4 "write_step" (ZbM K cAccount cJournal cSave cMove cNote cFrame)):Cal P w K mg base 5 "save_row" (Ze6 K cAccount cJournal cSave cMove cNote cFrame):=by
 refine ZaA D Zdb (fun vs H Q E h=>?_) (by walk_at "b") (fun f cdv A outer s H vs Q E hr h=>?_)
 .obtain ⟨j,dx,R,L,A,S,m,es,f,x,ws,vp,i,y,s,pl,v,rfl,_⟩:=h;rfl
 .obtain ⟨j,dx,R,L,Ar,S,m,es,fr,x,ws,vp,i,y,s0,pl,v,rfl,J,r,hm,hel,F,ap,hw,ew,hi,hy,e0,k⟩:=h
  refine ⟨_,(Zab (Zay (i:=4) Zdb.nd rfl (by first|exact Or.inl rfl|exact Or.inr rfl) (ZaN m_Frame_taken (hr.mono (by decide)) (pv 2) (Zaa Zac Zad)))
   (Zab (Zay (i:=5) Zdb.nd rfl (by first|exact Or.inl rfl|exact Or.inr rfl) (ZaN m_Account_loaded (hr.mono (by decide)) (Zan Zas (pv 0) (Zao (pv 2) rfl) (fun _ _=>rfl)) (Zaa (Zan Zas (pv 4) Zac (fun _ _=>rfl)) Zad)))
   (Zae (ZaF (ZaB c_write_step (hr.mono (by decide)) rfl (Zaa (pv 1) (Zaa (pv 2) (Zaa (ZeF i_Save (hr.mono (by decide)) rfl (Zaa (Zao (pv 2) rfl) (Zaa (Zan Zas (pv 4) Zac (fun _ _=>rfl)) (Zaa (pv 5) (Zaa (Zan Zas (pv 4) Zac (fun _ _=>rfl)) Zad))))) Zad)))))))),?_⟩
  walk_at "nx"
  walk_at "K"
  refine Zav F.ob rfl ?_
  walk_at "K"
  refine ⟨fr,x,ws,s0,[pl,v],rfl,F,e0,by show 2<=1000;decide,fun q H1 _ k1 F1 e1=>?_⟩
  have e1':H1 q=some (.lst [.int pl,.int v]):=e1
  have k1':KeptX (inF3 fr) H H1:=k1.mono fun _ h=>.inr (.inl h)
  have r1:=r.frame F ap k1'
  have J1:=J.frame F ap k1'
  have ay:=r1.ac i y hi hy
  walk_at "K"
  refine Zah F1.ob tFrame.k.cl tFrame.n_who rfl ?_
  rw [ew]
  refine ZaC (Zaw r1.ob) (r1.at hi hy) ?_
  refine Zav ay.ob rfl ?_
  walk_at "K"
  refine ⟨y.a,y.dx,y.pr,y.st,_,_,_,_,_,m,pl,rfl,ay,?_⟩
  walk_at "K"
  refine Zah F1.ob tFrame.k.cl tFrame.n_who rfl ?_
  rw [ew]
  walk_at "K"
  intro ob odx hx hdx hne
  have hx2:(upd H1 odx (.own ob)) ob=none:=by rw [Zaj (Ne.symm hne)];exact hx
  refine ⟨ob,odx,(i:Int),pl,(S i).store pl,v,rfl,Zag,rfl,?_⟩
  rw [ZaT]
  have s1:Same H1 (upd (upd H1 odx (.own ob)) ob (.ins cSave odx (saveF (i:Int) pl ((S i).store pl) v))):=(Same.new hdx).newT hx2
  have eo:(upd (upd H1 odx (.own ob)) ob (.ins cSave odx (saveF (i:Int) pl ((S i).store pl) v))) ob=some (.ins cSave odx (saveF (i:Int) pl ((S i).store pl) v)):=Zag
  have J2:=J1.same s1
  have r2:=r1.same s1
  have F2:=F1.same s1
  generalize upd (upd H1 odx (.own ob)) ob (.ins cSave odx (saveF (i:Int) pl ((S i).store pl) v))=H2 at s1 eo J2 r2 F2
  walk_at "K"
  refine ⟨j,dx,R,L,Ar,S,m,es,⟨ob,odx,.save (i:Int) pl ((S i).store pl) v⟩,fr,_,ws,rfl,J2,r2,eo,⟨i,y,rfl,hi,hy⟩,hm,hel,F2,ap,hw,fun t H3 ht k3 r3 J3 F3 et=>?_⟩
  walk_at "K"
  have sk:KeptX (goX Ar L fr) H H2:=(Zdv k1').trans s1.keptX
  refine k t ⟨ob,odx,.save (i:Int) pl ((S i).store pl) v⟩ H3 rfl ?_ (sk.trans k3) r3 J3 F3 et
  cases z:H t with
  | none=>rfl
  | some oo =>
   exfalso
   by_cases q:t=fr.ST
   .rw [q,F2.st] at ht;cases ht
   .rw [s1 _ _ (k1 t oo z q)] at ht;cases ht
theorem Ze9:FnScope ["rooms", "journal", "frame", "row", "taken"] ["rooms", "journal", "frame", "row"] (Zaf ZdM):=by walk_at "c"
theorem Ziq   {cFrame:Addr} {cNote:Addr} (D:Zaq K mg "note_row" ZdM) (tFrame:T_Frame K mg cFrame) (tNote:T_Note K mg cNote) (m_Frame_taken:MCal P w K mg base 1 cFrame "taken" (ZbL cFrame)) (i_Note:ICal P w K mg base 1 "Note" cNote (ZiZ cNote)) (c_write_step:Cal P w K mg base 4 "write_step" (ZbM K cAccount cJournal cSave cMove cNote cFrame)):Cal P w K mg base 5 "note_row" (Ze7 K cAccount cJournal cSave cMove cNote cFrame):=by
 refine ZaA D Ze9 (fun vs H Q E h=>?_) (by walk_at "b") (fun f cdv A outer s H vs Q E hr h=>?_)
 .obtain ⟨j,dx,R,L,A,S,m,es,f,x,ws,vp,s,v,rfl,_⟩:=h;rfl
 .obtain ⟨j,dx,R,L,Ar,S,m,es,fr,x,ws,vp,s0,v,rfl,J,r,hm,hel,F,ap,hw,e0,k⟩:=h
  refine ⟨_,(Zab (Zay (i:=4) Ze9.nd rfl (by first|exact Or.inl rfl|exact Or.inr rfl) (ZaN m_Frame_taken (hr.mono (by decide)) (pv 2) (Zaa Zac Zad)))
   (Zae (ZaF (ZaB c_write_step (hr.mono (by decide)) rfl (Zaa (pv 1) (Zaa (pv 2) (Zaa (ZeF i_Note (hr.mono (by decide)) rfl (Zaa (Zao (pv 2) rfl) (Zaa (Zan Zas (pv 4) Zac (fun _ _=>rfl)) Zad))) Zad))))))),?_⟩
  walk_at "nx"
  walk_at "K"
  refine Zav F.ob rfl ?_
  walk_at "K"
  refine ⟨fr,x,ws,s0,[v],rfl,F,e0,by show 1<=1000;decide,fun q H1 _ k1 F1 e1=>?_⟩
  have e1':H1 q=some (.lst [.int v]):=e1
  have k1':KeptX (inF3 fr) H H1:=k1.mono fun _ h=>.inr (.inl h)
  have r1:=r.frame F ap k1'
  have J1:=J.frame F ap k1'
  walk_at "K"
  refine Zah F1.ob tFrame.k.cl tFrame.n_who rfl ?_
  walk_at "K"
  intro ob odx hx hdx hne
  have hx2:(upd H1 odx (.own ob)) ob=none:=by rw [Zaj (Ne.symm hne)];exact hx
  refine ⟨ob,odx,x.who,v,rfl,Zag,rfl,?_⟩
  rw [ZaT]
  have s1:Same H1 (upd (upd H1 odx (.own ob)) ob (.ins cNote odx (noteF x.who v))):=(Same.new hdx).newT hx2
  have eo:(upd (upd H1 odx (.own ob)) ob (.ins cNote odx (noteF x.who v))) ob=some (.ins cNote odx (noteF x.who v)):=Zag
  have J2:=J1.same s1
  have r2:=r1.same s1
  have F2:=F1.same s1
  generalize upd (upd H1 odx (.own ob)) ob (.ins cNote odx (noteF x.who v))=H2 at s1 eo J2 r2 F2
  walk_at "K"
  refine ⟨j,dx,R,L,Ar,S,m,es,⟨ob,odx,.note x.who v⟩,fr,_,ws,rfl,J2,r2,eo,trivial,hm,hel,F2,ap,hw,fun t H3 ht k3 r3 J3 F3 et=>?_⟩
  walk_at "K"
  have sk:KeptX (goX Ar L fr) H H2:=(Zdv k1').trans s1.keptX
  refine k t ⟨ob,odx,.note x.who v⟩ H3 rfl ?_ (sk.trans k3) r3 J3 F3 et
  cases z:H t with
  | none=>rfl
  | some oo =>
   exfalso
   by_cases q:t=fr.ST
   .rw [q,F2.st] at ht;cases ht
   .rw [s1 _ _ (k1 t oo z q)] at ht;cases ht
end
def Zhm (x:FrS) (w:Str) (s:List Int) (y:FrS):Prop :=
 (w = "call" /\ ∃ slot c asks word,x.stack=s++[slot,c,asks,word]/\y=frame0 "call" slot slot x.who c word asks (x.depth+1) x.looking) \/
 (w = "borrow" /\ ∃ slot asks word,x.stack=s++[slot,asks,word]/\y=frame0 "borrow" x.who slot x.caller x.coin word asks (x.depth+1) x.looking) \/
 (w = "look" /\ ∃ slot asks word,x.stack=s++[slot,asks,word]/\y=frame0 "look" slot slot x.who 0 word asks (x.depth+1) true)
def Zir (K:PySem.W.Frag) (cF:Addr):Sp:=fun vs H Q _=>∃ (f:FrI) (x y:FrS) (ws:List V) (p:Addr) (w:Str) (n:Option Int) (s:List Int),vs=[.ref f.a,.ref p]/\FrAt cF H f x ws/\Zbj K H p w n/\Zhm x w s y /\
 ∀ g H',H g.a=none->H g.ST=none->H g.SS=none->KeptX (·=f.ST) H H'->FrAt cF H' f { x with stack:=s } ws->FrAt cF H' g y []->Q (.ref g.a) H'
def ZdV (A:Nat->Option AcI) (S:Nat->AcS) (y:FrS) (e:Option Str):Prop :=
 ((if 0<=y.whose/\y.whose<16 then roomV (A y.whose.toNat) else .non)=.non/\e=some ("nobody" : Str)) \/
 (∃ ac,0<=y.whose/\y.whose<16/\A y.whose.toNat=some ac/\((8<y.depth/\e=some ("deep" : Str))\/(¬ 8<y.depth/\y.kind ≠ "call" /\ e=none) \/
  (¬ 8<y.depth/\y.kind = "call" /\ ∃ i z,y.caller=((i:Nat):Int)/\i<16/\A i=some z/\(((S i).coin<y.coin/\e=some ("poor" : Str))\/(¬ (S i).coin<y.coin/\e=none)))))
def Zgo (K:PySem.W.Frag) (C cF:Addr):Sp:=fun vs H Q _=>∃ (R:Addr) (A:Nat->Option AcI) (S:Nat->AcS) (m:Nat) (f:FrI) (y:FrS) (ws:List V) (e:Option Str),vs=[.ref R,.ref f.a]/\Rooms K C H R A S m/\FrAt cF H f y ws/\ZdV A S y e/\Q (endV e) H
section
variable {P:Program} {w:World} {K:PySem.W.Frag} {mg:Str->Option Value} {base:Heap}
local macro_rules|`(tactic| walk_at "rwx")=>`(tactic| first
 | walk_at "rdx"
 | ((with_reducible refine' L2.Zcc ?h ?e ?_);(case h=>assumption);(case e=>exact My.Zh1))
 | fail)
theorem Zbi:FnScope ["frame", "row", "taken", "slot", "asks", "word", "depth"] ["frame", "row"] (Zaf Zcs):=by walk_at "c"
theorem Zgp   {cFrame:Addr} (D:Zaq K mg "other_call" Zcs) (tFrame:T_Frame K mg cFrame) (m_Frame_taken:MCal P w K mg base 1 cFrame "taken" (ZbL cFrame)) (c_takes:Cal P w K mg base 2 "takes" (Zf5 K)) (iD9_Frame:ZhP P w K mg base 1 "Frame" cFrame (ZeW cFrame) []):Cal P w K mg base 3 "other_call" (Zir K cFrame):=by
 refine ZaA D Zbi (fun vs H Q E h=>?_) (by walk_at "b") (fun f cdv A outer s H vs Q E hr h=>?_)
 .obtain ⟨f,x,y,ws,p,w,n,s,rfl,_⟩:=h;rfl
 .obtain ⟨fr,x,y,ws,p,wd,n,s0,rfl,F,hp,hO,k⟩:=h
  refine ⟨_,(Zab (Zay (i:=2) Zbi.nd rfl (by first|exact Or.inl rfl|exact Or.inr rfl) (ZaN m_Frame_taken (hr.mono (by decide)) (pv 0) (Zaa (ZaB c_takes (hr.mono (by decide)) rfl (Zaa (pv 1) Zad)) Zad)))
   (Zab (Zay (i:=3) Zbi.nd rfl (by first|exact Or.inl rfl|exact Or.inr rfl) (Zan Zas (pv 2) Zac (fun _ _=>rfl)))
   (Zab (Zay (i:=4) Zbi.nd rfl (by first|exact Or.inl rfl|exact Or.inr rfl) (Zan Zas (pv 2) (Zgw ZdX Zac) (fun _ _=>rfl)))
   (Zab (Zay (i:=5) Zbi.nd rfl (by first|exact Or.inl rfl|exact Or.inr rfl) (Zan Zas (pv 2) (Zgw ZdX Zac) (fun _ _=>rfl)))
   (Zab (Zay (i:=6) Zbi.nd rfl (by first|exact Or.inl rfl|exact Or.inr rfl) (Zax Zbc (Zao (pv 0) rfl) Zac))
   (Zab (ZaK (Zal ZaX (Zan Zau (pv 1) Zac (fun _ _=>rfl)) Zai (nomark _)) (Zae (Zak (Zee iD9_Frame (hr.mono (by decide)) rfl (Zaa Zai (Zaa (pv 3) (Zaa (pv 3) (Zaa (Zao (pv 0) rfl) (Zaa (Zan Zas (pv 2) Zac (fun _ _=>rfl)) (Zaa (pv 5) (Zaa (pv 4) (Zaa (pv 6) (Zaa (Zao (pv 0) rfl) Zad)))))))))))) Zap)
   (Zab (ZaK (Zal ZaX (Zan Zau (pv 1) Zac (fun _ _=>rfl)) Zai (nomark _)) (Zae (Zak (Zee iD9_Frame (hr.mono (by decide)) rfl (Zaa Zai (Zaa (Zao (pv 0) rfl) (Zaa (pv 3) (Zaa (Zao (pv 0) rfl) (Zaa (Zao (pv 0) rfl) (Zaa (pv 5) (Zaa (pv 4) (Zaa (pv 6) (Zaa (Zao (pv 0) rfl) Zad)))))))))))) Zap)
   (Zae (Zak (Zee iD9_Frame (hr.mono (by decide)) rfl (Zaa Zai (Zaa (pv 3) (Zaa (pv 3) (Zaa (Zao (pv 0) rfl) (Zaa Zac (Zaa (pv 5) (Zaa (pv 4) (Zaa (pv 6) (Zaa ZcQ Zad))))))))))))))))))),?_⟩
  walk_at "nx"
  rcases hO with ⟨rfl,slot,c,asks,word,e0,rfl⟩|⟨rfl,slot,asks,word,e0,rfl⟩|⟨rfl,slot,asks,word,e0,rfl⟩
  .skip
   have hp0:=hp
   walk_at "W"
   refine Zav F.ob rfl ?_
   walk_at "W"
   refine ⟨p,_,n,0,4,2,8,12,rfl,hp,rfl,rfl,?_⟩
   rw [show (4:Int)+0=(([slot,c,asks,word]:List Int).length:Nat) from rfl]
   walk_at "W"
   refine ⟨fr,x,ws,s0,[slot,c,asks,word],rfl,F,e0,by show 4<=1000;decide,fun q H1 _ k1 F1 e1=>?_⟩
   have e1':H1 q=some (.lst [.int slot,.int c,.int asks,.int word]):=e1
   have hp1:=Zb8 hp F (k_st k1)
   walk_at "W'"
   refine Zah F1.ob tFrame.k.cl tFrame.n_depth rfl ?_
   repeat walk_at "rwx"
   refine Zah F1.ob tFrame.k.cl tFrame.n_who rfl ?_
   repeat walk_at "rwx"
   refine Zah F1.ob tFrame.k.cl tFrame.n_looking rfl ?_
   repeat walk_at "rwx"
   intro ga gdx hga hgdx hgne
   have hga2:(upd H1 gdx (.own ga)) ga=none:=by rw [Zaj (Ne.symm hgne)];exact hga
   have s1:Same H1 (upd (upd H1 gdx (.own ga)) ga (.ins cFrame gdx [])):=(Same.new hgdx).newT hga2
   refine ⟨ga,gdx, "call", slot,slot,x.who,c,word,asks,x.depth+1,x.looking,rfl,Zag,fun ST SS H2 hST hSS G2 kk=>⟨rfl,?_⟩⟩
   have sa:Same H1 H2:=fun b o e=>kk b o (s1 b o e) (Zam e hga)
   have fr1:∀ b,H1 b=none->H b=none:=fun b hb=>by
    cases z:H b with
    | none=>rfl
    | some oo =>
     exfalso
     by_cases q:b=fr.ST
     .rw [q,F1.st] at hb;cases hb
     .rw [k1 b oo z q] at hb;cases hb
   exact k ⟨ga,gdx,ST,SS⟩ H2 (fr1 _ hga) (fr1 _ (s1.fresh hST)) (fr1 _ (s1.fresh hSS)) (k1.trans sa.keptX) (F1.same sa) G2
  .skip
   have hp0:=hp
   walk_at "W"
   refine Zav F.ob rfl ?_
   walk_at "W"
   refine ⟨p,_,n,0,3,2,6,6,rfl,hp,rfl,rfl,?_⟩
   rw [show (3:Int)+0=(([slot,asks,word]:List Int).length:Nat) from rfl]
   walk_at "W"
   refine ⟨fr,x,ws,s0,[slot,asks,word],rfl,F,e0,by show 3<=1000;decide,fun q H1 _ k1 F1 e1=>?_⟩
   have e1':H1 q=some (.lst [.int slot,.int asks,.int word]):=e1
   have hp1:=Zb8 hp F (k_st k1)
   walk_at "W'"
   refine Zah F1.ob tFrame.k.cl tFrame.n_depth rfl ?_
   repeat walk_at "rwx"
   refine Zah F1.ob tFrame.k.cl tFrame.n_who rfl ?_
   repeat walk_at "rwx"
   refine Zah F1.ob tFrame.k.cl tFrame.n_caller rfl ?_
   repeat walk_at "rwx"
   refine Zah F1.ob tFrame.k.cl tFrame.n_coin rfl ?_
   repeat walk_at "rwx"
   refine Zah F1.ob tFrame.k.cl tFrame.n_looking rfl ?_
   repeat walk_at "rwx"
   intro ga gdx hga hgdx hgne
   have hga2:(upd H1 gdx (.own ga)) ga=none:=by rw [Zaj (Ne.symm hgne)];exact hga
   have s1:Same H1 (upd (upd H1 gdx (.own ga)) ga (.ins cFrame gdx [])):=(Same.new hgdx).newT hga2
   refine ⟨ga,gdx, "borrow", x.who,slot,x.caller,x.coin,word,asks,x.depth+1,x.looking,rfl,Zag,fun ST SS H2 hST hSS G2 kk=>⟨rfl,?_⟩⟩
   have sa:Same H1 H2:=fun b o e=>kk b o (s1 b o e) (Zam e hga)
   have fr1:∀ b,H1 b=none->H b=none:=fun b hb=>by
    cases z:H b with
    | none=>rfl
    | some oo =>
     exfalso
     by_cases q:b=fr.ST
     .rw [q,F1.st] at hb;cases hb
     .rw [k1 b oo z q] at hb;cases hb
   exact k ⟨ga,gdx,ST,SS⟩ H2 (fr1 _ hga) (fr1 _ (s1.fresh hST)) (fr1 _ (s1.fresh hSS)) (k1.trans sa.keptX) (F1.same sa) G2
  .skip
   have hp0:=hp
   walk_at "W"
   refine Zav F.ob rfl ?_
   walk_at "W"
   refine ⟨p,_,n,0,3,2,6,6,rfl,hp,rfl,rfl,?_⟩
   rw [show (3:Int)+0=(([slot,asks,word]:List Int).length:Nat) from rfl]
   walk_at "W"
   refine ⟨fr,x,ws,s0,[slot,asks,word],rfl,F,e0,by show 3<=1000;decide,fun q H1 _ k1 F1 e1=>?_⟩
   have e1':H1 q=some (.lst [.int slot,.int asks,.int word]):=e1
   have hp1:=Zb8 hp F (k_st k1)
   walk_at "W'"
   refine Zah F1.ob tFrame.k.cl tFrame.n_depth rfl ?_
   repeat walk_at "rwx"
   refine Zah F1.ob tFrame.k.cl tFrame.n_who rfl ?_
   repeat walk_at "rwx"
   intro ga gdx hga hgdx hgne
   have hga2:(upd H1 gdx (.own ga)) ga=none:=by rw [Zaj (Ne.symm hgne)];exact hga
   have s1:Same H1 (upd (upd H1 gdx (.own ga)) ga (.ins cFrame gdx [])):=(Same.new hgdx).newT hga2
   refine ⟨ga,gdx, "look", slot,slot,x.who,0,word,asks,x.depth+1,true,rfl,Zag,fun ST SS H2 hST hSS G2 kk=>⟨rfl,?_⟩⟩
   have sa:Same H1 H2:=fun b o e=>kk b o (s1 b o e) (Zam e hga)
   have fr1:∀ b,H1 b=none->H b=none:=fun b hb=>by
    cases z:H b with
    | none=>rfl
    | some oo =>
     exfalso
     by_cases q:b=fr.ST
     .rw [q,F1.st] at hb;cases hb
     .rw [k1 b oo z q] at hb;cases hb
   exact k ⟨ga,gdx,ST,SS⟩ H2 (fr1 _ hga) (fr1 _ (s1.fresh hST)) (fr1 _ (s1.fresh hSS)) (k1.trans sa.keptX) (F1.same sa) G2
theorem ZcN:FnScope ["rooms", "other"] ["rooms", "other"] (Zaf Zbm):=by walk_at "c"
theorem ZcO   {cFrame:Addr} {cAccount:Addr} (D:Zaq K mg "end_ahead_of_call" Zbm) (tFrame:T_Frame K mg cFrame) (tAccount:T_Account K mg cAccount) (c_account_at:Cal P w K mg base 1 "account_at" (spAt K cAccount)) (g_MOST_CALLS:Za0 mg "MOST_CALLS" (.int 8)):Cal P w K mg base 2 "end_ahead_of_call" (Zgo K cAccount cFrame):=by
 refine ZaA D ZcN (fun vs H Q E h=>?_) (by walk_at "b") (fun f cdv A outer s H vs Q E hr h=>?_)
 .obtain ⟨R,A,S,m,f,y,ws,e,rfl,_⟩:=h;rfl
 .obtain ⟨R,Ar,S,m,fr,y,ws,e,rfl,r,F,ha,k⟩:=h
  refine ⟨_,(Zab (ZaK (Zal ZeD (ZaB c_account_at (hr.mono (by decide)) rfl (Zaa (pv 0) (Zaa (Zao (pv 1) rfl) Zad))) Zca (nomark _)) (Zae (Zak Zai)) Zap)
   (Zab (ZaK (Zal Zer (Zao (pv 1) rfl) (ZbB rfl g_MOST_CALLS) (nomark _)) (Zae (Zak Zai)) Zap)
   (Zab (ZaK (PW.pt (ZiF (Zal ZaX (Zao (pv 1) rfl) Zai (nomark _)) (ZfD (Zal Zer (Zao (pv 1) rfl) (Zao (Zan Zas (pv 0) (Zao (pv 1) rfl) (fun _ _=>rfl)) rfl) (nomark _))))) (Zae (Zak Zai)) Zap)
   (Zae (Zak Zca))))),?_⟩
  walk_at "nx"
  walk_at "Y"
  refine Zah F.ob tFrame.k.cl tFrame.n_whose rfl ?_
  walk_at "Y"
  refine ⟨R,Ar,S,m,y.whose,rfl,r,?_⟩
  rcases ha with ⟨h1,rfl⟩|⟨ac,w0,w1,hA,ha⟩
  .rw [h1]
   walk_at "Y"
   exact k
  .rw [if_pos ⟨w0,w1⟩,hA,show roomV (some ac)=V.ref ac.a from rfl]
   walk_at "Y"
   refine Zah F.ob tFrame.k.cl tFrame.n_depth rfl ?_
   rcases ha with ⟨h2,rfl⟩|⟨h2,h3,rfl⟩|⟨h2,h3,i,z,ei,hi,hz,ha⟩
   .walk_at "Y"
    exact k
   .walk_at "Y"
    refine Zah F.ob tFrame.k.cl tFrame.n_kind rfl ?_
    repeat' walk_at "rz"
    .exact absurd (by assumption) h3
    .exact k
   .have az:=r.ac i z hi hz
    walk_at "Y"
    refine Zah F.ob tFrame.k.cl tFrame.n_kind rfl ?_
    repeat' walk_at "rz"
    .refine Zah F.ob tFrame.k.cl tFrame.n_coin rfl ?_
     walk_at "Y"
     refine Zah F.ob tFrame.k.cl tFrame.n_caller rfl ?_
     rw [ei]
     refine ZaC (Zaw r.ob) (r.at hi hz) ?_
     refine Zah az.ob tAccount.k.cl tAccount.n_coin rfl ?_
     rcases ha with ⟨h4,rfl⟩|⟨h4,rfl⟩
     .walk_at "Y"
      exact k
     .walk_at "Y"
      exact k
    .rename_i hq;exact absurd h3 hq
end
noncomputable def RDL:List (Str×RD):=[("push", rPush),("drop", rDrop),("copy", rCopy),("swap", rSwap),("add", rReck),("minus", rReck),("times", rReck),("over", rReck),("rest", rReck),("below", rReck),("same", rReck),("both", rReck),("either", rReck),("unlike", rReck),("up", rReck),("down", rReck),("jump", rJump),("jumpif", Zgf),("me", rMe),("from", rFrom),("sent", rSent),("word", rWord),("give", rGive),("fail", rFail)]
def DoSp (K:PySem.W.Frag) (C cJ cS cM cN cF:Addr) (w:Str) (sp:Sp):Prop:=(∃ R,RDL.lookup w=some R/\sp=spD K cF R)\/(w = "load" /\ sp=Ze3 K C cF)\/(w = "coin" /\ sp=Ze5 K C cF)\/(w = "save" /\ sp=Ze6 K C cJ cS cM cN cF)\/(w = "note" /\ sp=Ze7 K C cJ cS cM cN cF)
def DoOk (P:Program) (w:World) (K:PySem.W.Frag) (C cJ cS cM cN cF:Addr) (mg:Str->Option Value) (base:Heap) (aD:Addr):Prop :=
 ∃ vs,Zdl P w K aD vs/\∀ x sp,DoSp K C cJ cS cM cN cF x sp->∃ fa,valueAt vs (.inr x)=some (.ref fa)/\CalF P w K mg base 5 fa sp
def Zis (K:PySem.W.Frag) (C cJ cS cM cN cF:Addr):Sp:=fun vs H Q _=>∃ (vR vJ:V) (a p:Addr) (w:Str) (n:Option Int) (sp:Sp),vs=[vR,vJ,.ref a,.ref p]/\Zbj K H p w n/\DoSp K C cJ cS cM cN cF w sp/\sp vs H (fun _ H'=>Q .non H') E0
theorem Za8 {P:Program} {w:World} {K:PySem.W.Frag} {mg:Str->Option Value} {base:Heap} {x f:Str} {u:Value} {vs:List (Key×Value)} {sp:Sp} {k:Nat} (m:mg f=some u) (c:Cal P w K mg base k f sp) (hk:k<=5) (e:valueAt vs (.inr x)=some u):∃ fa,valueAt vs (.inr x)=some (.ref fa)/\CalF P w K mg base 5 fa sp:=by
 obtain ⟨fa,m',c'⟩:=Cal.mono c (k:=5) hk
 rw [m] at m'
 cases m'
 exact ⟨fa,e,c'⟩
section
variable {P:Program} {w:World} {K:PySem.W.Frag} {mg:Str->Option Value} {base:Heap}
theorem do_ok {cAccount cJournal cSave cMove cNote cFrame aD:Addr} {u1 u2 u3 u4 u5 u6 u7 u8 u9 u10 u11 u12 u13 u14 u15 u16 u17:Value} (dk:Zdl P w K aD [(Sum.inr "push", u1),(Sum.inr "drop", u2),(Sum.inr "copy", u3),(Sum.inr "swap", u4),(Sum.inr "add", u5),(Sum.inr "minus", u5),(Sum.inr "times", u5),(Sum.inr "over", u5),(Sum.inr "rest", u5),(Sum.inr "below", u5),(Sum.inr "same", u5),(Sum.inr "both", u5),(Sum.inr "either", u5),(Sum.inr "unlike", u5),(Sum.inr "up", u5),(Sum.inr "down", u5),(Sum.inr "jump", u6),(Sum.inr "jumpif", u7),(Sum.inr "load", u8),(Sum.inr "save", u9),(Sum.inr "me", u10),(Sum.inr "from", u11),(Sum.inr "sent", u12),(Sum.inr "word", u13),(Sum.inr "coin", u14),(Sum.inr "note", u15),(Sum.inr "give", u16),(Sum.inr "fail", u17)])
  (m_push_row:mg "push_row" = some u1) (m_drop_row:mg "drop_row" = some u2) (m_copy_row:mg "copy_row" = some u3) (m_swap_row:mg "swap_row" = some u4) (m_reckon_row:mg "reckon_row" = some u5) (m_jump_row:mg "jump_row" = some u6) (m_jumpif_row:mg "jumpif_row" = some u7) (m_load_row:mg "load_row" = some u8) (m_save_row:mg "save_row" = some u9) (m_me_row:mg "me_row" = some u10) (m_from_row:mg "from_row" = some u11) (m_sent_row:mg "sent_row" = some u12) (m_word_row:mg "word_row" = some u13) (m_coin_row:mg "coin_row" = some u14) (m_note_row:mg "note_row" = some u15) (m_give_row:mg "give_row" = some u16) (m_fail_row:mg "fail_row" = some u17)
  (c_push_row:Cal P w K mg base 2 "push_row" (spD K cFrame rPush)) (c_drop_row:Cal P w K mg base 2 "drop_row" (spD K cFrame rDrop)) (c_copy_row:Cal P w K mg base 2 "copy_row" (spD K cFrame rCopy)) (c_swap_row:Cal P w K mg base 1 "swap_row" (spD K cFrame rSwap)) (c_reckon_row:Cal P w K mg base 3 "reckon_row" (spD K cFrame rReck)) (c_jump_row:Cal P w K mg base 1 "jump_row" (spD K cFrame rJump)) (c_jumpif_row:Cal P w K mg base 2 "jumpif_row" (spD K cFrame Zgf)) (c_load_row:Cal P w K mg base 2 "load_row" (Ze3 K cAccount cFrame)) (c_save_row:Cal P w K mg base 5 "save_row" (Ze6 K cAccount cJournal cSave cMove cNote cFrame)) (c_me_row:Cal P w K mg base 2 "me_row" (spD K cFrame rMe)) (c_from_row:Cal P w K mg base 2 "from_row" (spD K cFrame rFrom)) (c_sent_row:Cal P w K mg base 2 "sent_row" (spD K cFrame rSent)) (c_word_row:Cal P w K mg base 2 "word_row" (spD K cFrame rWord)) (c_coin_row:Cal P w K mg base 2 "coin_row" (Ze5 K cAccount cFrame)) (c_note_row:Cal P w K mg base 5 "note_row" (Ze7 K cAccount cJournal cSave cMove cNote cFrame)) (c_give_row:Cal P w K mg base 2 "give_row" (spD K cFrame rGive)) (c_fail_row:Cal P w K mg base 2 "fail_row" (spD K cFrame rFail)):DoOk P w K cAccount cJournal cSave cMove cNote cFrame mg base aD:=by
 refine ⟨_,dk,fun x sp h=>?_⟩
 rcases h with ⟨R,h,rfl⟩|⟨rfl,rfl⟩|⟨rfl,rfl⟩|⟨rfl,rfl⟩|⟨rfl,rfl⟩
 .have hm:=Zbk h
  simp only [RDL,List.mem_cons,Prod.mk.injEq,List.not_mem_nil,or_false] at hm
  rcases hm with ⟨rfl,rfl⟩|⟨rfl,rfl⟩|⟨rfl,rfl⟩|⟨rfl,rfl⟩|⟨rfl,rfl⟩|⟨rfl,rfl⟩|⟨rfl,rfl⟩|⟨rfl,rfl⟩|⟨rfl,rfl⟩|⟨rfl,rfl⟩|⟨rfl,rfl⟩|⟨rfl,rfl⟩|⟨rfl,rfl⟩|⟨rfl,rfl⟩|⟨rfl,rfl⟩|⟨rfl,rfl⟩|⟨rfl,rfl⟩|⟨rfl,rfl⟩|⟨rfl,rfl⟩|⟨rfl,rfl⟩|⟨rfl,rfl⟩|⟨rfl,rfl⟩|⟨rfl,rfl⟩|⟨rfl,rfl⟩
  .exact Za8 m_push_row c_push_row (by decide) rfl
  .exact Za8 m_drop_row c_drop_row (by decide) rfl
  .exact Za8 m_copy_row c_copy_row (by decide) rfl
  .exact Za8 m_swap_row c_swap_row (by decide) rfl
  .exact Za8 m_reckon_row c_reckon_row (by decide) rfl
  .exact Za8 m_reckon_row c_reckon_row (by decide) rfl
  .exact Za8 m_reckon_row c_reckon_row (by decide) rfl
  .exact Za8 m_reckon_row c_reckon_row (by decide) rfl
  .exact Za8 m_reckon_row c_reckon_row (by decide) rfl
  .exact Za8 m_reckon_row c_reckon_row (by decide) rfl
  .exact Za8 m_reckon_row c_reckon_row (by decide) rfl
  .exact Za8 m_reckon_row c_reckon_row (by decide) rfl
  .exact Za8 m_reckon_row c_reckon_row (by decide) rfl
  .exact Za8 m_reckon_row c_reckon_row (by decide) rfl
  .exact Za8 m_reckon_row c_reckon_row (by decide) rfl
  .exact Za8 m_reckon_row c_reckon_row (by decide) rfl
  .exact Za8 m_jump_row c_jump_row (by decide) rfl
  .exact Za8 m_jumpif_row c_jumpif_row (by decide) rfl
  .exact Za8 m_me_row c_me_row (by decide) rfl
  .exact Za8 m_from_row c_from_row (by decide) rfl
  .exact Za8 m_sent_row c_sent_row (by decide) rfl
  .exact Za8 m_word_row c_word_row (by decide) rfl
  .exact Za8 m_give_row c_give_row (by decide) rfl
  .exact Za8 m_fail_row c_fail_row (by decide) rfl
 .exact Za8 m_load_row c_load_row (by decide) rfl
 .exact Za8 m_coin_row c_coin_row (by decide) rfl
 .exact Za8 m_save_row c_save_row (by decide) rfl
 .exact Za8 m_note_row c_note_row (by decide) rfl
theorem Zlf:FnScope ["rooms", "journal", "frame", "row"] ["rooms", "journal", "frame", "row"] (Zaf ZfV):=by walk_at "c"
theorem Zlg  {cAccount cJournal cSave cMove cNote cFrame aD:Addr} (DO:DoOk P w K cAccount cJournal cSave cMove cNote cFrame mg base aD)  (D:Zaq K mg "do_row" ZfV) (g_DOINGS:Za0 mg "DOINGS" (.ref aD)):Cal P w K mg base 6 "do_row" (Zis K cAccount cJournal cSave cMove cNote cFrame):=by
 refine ZaA D Zlf (fun vs H Q E h=>?_) (by walk_at "b") (fun f cdv A outer s H vs Q E hr h=>?_)
 .obtain ⟨vR,vJ,a,p,w,n,sp,rfl,_⟩:=h;rfl
 .obtain ⟨vR,vJ,a,p,wd,n,sp,rfl,hp,hS,k⟩:=h
  refine ⟨_,(Zae (ZaF (ZiR (k:=5) (hr.mono (by decide)) (Zfy (ZbB rfl g_DOINGS) (Zan Zau (pv 3) Zac (fun _ _=>rfl)) (fun _ _=>rfl)) (Zaa (pv 0) (Zaa (pv 1) (Zaa (pv 2) (Zaa (pv 3) Zad))))))),?_⟩
  walk_at "nx"
  obtain ⟨ts,dk,al⟩:=DO
  obtain ⟨fa,hv,cf⟩:=al wd sp hS
  refine Zkv ?_
  unfold tCallV
  walk_at "W"
  refine ZkC (v:=.ref fa) dk hv rfl ?_
  refine ⟨fa,_,rfl,cf,?_⟩
  walk_at "K"
  exact k
end
theorem Zi5:∀ (kvs:List (Key×V)),(∀ p∈kvs,∃ i n:Int,p=(Sum.inl i,.int n)/\n≠0)->∃ ks:List Int,kvs.map (·.1)=ks.map Sum.inl
 | [],_=>⟨[],rfl⟩
 | p::r,h=>by
  obtain ⟨i,n,rfl,_⟩:=h p (by simp)
  obtain ⟨ks,e⟩:=Zi5 r fun q hq=>h q (by simp [hq])
  exact ⟨i::ks,by rw [List.map_cons,e];rfl⟩
theorem ZmL {kvs:List (Key×V)} {k:Key} {v:V} (h:valV kvs k=some v):(k,v)∈kvs:=by
 unfold valV at h
 obtain ⟨p,hp,rfl⟩:=Option.map_eq_some_iff.mp h
 have h1:=List.find?_some hp
 have h2:=List.mem_of_find?_eq_some hp
 simp only [decide_eq_true_eq] at h1
 rw [<- h1]
 exact h2
noncomputable def placeD:Dd->Option Int
 | .save _ p _ _=>some p
 | _=>none
theorem Zlh (S:Nat->AcS) (d:Dd) (i:Nat) (p:Int) (h:(doneS S d i).store p≠0):(S i).store p≠0\/placeD d=some p:=by
 cases d with
 | save s q o n =>
  by_cases e:q=p
  .exact .inr (by rw [<- e];rfl)
  .refine .inl fun z=>h ?_
   show (setS S s.toNat _ i).store p=0
   unfold setS
   by_cases w:i=s.toNat
   .rw [if_pos w]
    show putFn _ q n p=0
    unfold putFn
    rw [if_neg (Ne.symm e),<- w]
    exact z
   .rw [if_neg w]
    exact z
 | move s t k =>
  refine .inl fun z=>h ?_
  show (moved S _ _ k i).store p=0
  rw [Zbu]
  exact z
 | note s n=>exact .inl h
theorem Zi6:∀ (ds:List Dd) (S:Nat->AcS) (i:Nat) (p:Int),(runS S ds i).store p≠0->(S i).store p≠0\/p∈ds.filterMap placeD
 | [],S,i,p,h=>.inl h
 | d::ds,S,i,p,h=>by
  rcases Zi6 ds (doneS S d) i p h with h|h
  .rcases Zlh S d i p h with h|h
   .exact .inl h
   .exact .inr (List.mem_filterMap.mpr ⟨d,by simp,h⟩)
  .obtain ⟨e,he,ep⟩:=List.mem_filterMap.mp h
   exact .inr (List.mem_filterMap.mpr ⟨e,by simp [he],ep⟩)
theorem Zhn:∀ (ks ps:List Int),ks.Nodup->(∀ k∈ks,k∈ps)->ks.length<=ps.length
 | [],ps,_,_=>Nat.zero_le _
 | k::ks,ps,hn,h=>by
  obtain ⟨n1,n2⟩:=List.nodup_cons.mp hn
  have hk:=h k (by simp)
  have:=Zhn ks (ps.erase k) n2 fun x hx=>(List.mem_erase_of_ne (fun z=>n1 (by rw [<- z];exact hx))).mpr (h x (by simp [hx]))
  rw [List.length_erase_of_mem hk] at this
  have:0<ps.length:=List.length_pos_of_mem hk
  simp only [List.length_cons]
  omega
theorem StoreAt.tight {H:Hp} {d:Addr} {f:Int->Int} {m:Nat} (h:StoreAt H d f m) {ps:List Int} (hp:∀ p,f p≠0->p∈ps):StoreAt H d f ps.length:=by
 obtain ⟨kvs,e1,e2,e3,e4,e5⟩:=h
 refine ⟨kvs,e1,?_,e3,e4,e5⟩
 obtain ⟨ks,hk⟩:=Zi5 kvs e4
 have hkn:ks.Nodup:=by
  rw [hk] at e3
  exact (List.pairwise_map.mp e3).imp fun h e=>h (by rw [e])
 have hl:kvs.length=ks.length:=by
  have:=congrArg List.length hk
  rw [List.length_map,List.length_map] at this
  exact this
 rw [hl]
 refine Zhn ks ps hkn fun k hk'=>hp k ?_
 have hm:(Sum.inl k:Key)∈kvs.map (·.1):=by rw [hk];exact List.mem_map.mpr ⟨k,hk',rfl⟩
 cases e:valV kvs (Sum.inl k:Key) with
 | none=>exact absurd hm (ZiQ e)
 | some v =>
  obtain ⟨j,n,z,hn0⟩:=e4 _ (ZmL e)
  cases z
  have:=e5 k
  rw [e] at this
  rw [<- V.int.inj (show V.int n=V.int (f k) from this)]
  exact hn0
def SupB (S0:Nat->AcS) (m0:Nat):Prop:=∀ i,∃ ps:List Int,ps.length<=m0/\∀ p,(S0 i).store p≠0->p∈ps
theorem Rooms.tight2 {K:PySem.W.Frag} {C:Addr} {H:Hp} {R:Addr} {A:Nat->Option AcI} {S0:Nat->AcS} {ds:List Dd} {m m0:Nat} (r:Rooms K C H R A (runS S0 ds) m) (z:SupB S0 m0):Rooms K C H R A (runS S0 ds) (m0+ds.length) :=
 ⟨r.ob,fun i x hi hx=>let h:=r.ac i x hi hx;let ⟨ps,e0,e9⟩:=z i;⟨h.ob,h.pg,let ⟨kvs,e1,e2,e3⟩:=StoreAt.tight h.sto (ps:=ps++ds.filterMap placeD) (fun p hp=>List.mem_append.mpr ((Zi6 ds S0 i p hp).imp (e9 p) id));⟨kvs,e1,Nat.le_trans e2 (by rw [List.length_append];exact Nat.add_le_add e0 (List.length_filterMap_le _ _)),e3⟩⟩,r.da,r.ds⟩
structure Wd (K:PySem.W.Frag) (C cJ cS cM cN:Addr) (H:Hp) (j dx R L:Addr) (A:Nat->Option AcI) (S0:Nat->AcS) (m0:Nat) (ds:List Dd):Prop where
 J:∃ es,es.map (·.d)=ds/\Jr cJ cS cM cN H j dx R L A es
 r:Rooms K C H R A (runS S0 ds) (m0+ds.length)
 ri:Zbl S0 ds
 ti:SupB S0 m0
 b:m0<=100000
noncomputable def newP (H0 H:Hp):Hp:=fun b=>match H0 b with
 | none=>H b
 | some _=>none
def Stp (K:PySem.W.Frag) (H0 H:Hp) (st:List Dt) (vs:List V):Prop:=DVs K (newP H0 H) st vs
theorem Zfa {H0 H:Hp} {b:Addr} {o:HO} (h0:H0 b=none) (h:H b=some o):newP H0 H b=some o:=by unfold newP;rw [h0];exact h
theorem Zit {H0 H:Hp} {b:Addr} {o:HO} (h:newP H0 H b=some o):H0 b=none/\H b=some o:=by
 unfold newP at h
 split at h
 .rename_i e;exact ⟨e,h⟩
 .cases h
theorem Zli {K:PySem.W.Frag} {H:Hp}:∀ {ds es:List Dt} {xs ys:List V},DVs K H ds xs->DVs K H es ys->DVs K H (ds++es) (xs++ys)
 | [],es,xs,ys,h,q=>by unfold DVs at h;subst h;exact q
 | d::ds,es,xs,ys,h,q=>by
  unfold DVs at h
  obtain ⟨x,t,rfl,h1,h2⟩:=h
  exact Zat h1 (Zli h2 q)
section
variable {K:PySem.W.Frag} {C cJ cS cM cN cF:Addr} {H H0 H1 H':Hp} {j dx R L:Addr} {A:Nat->Option AcI} {S0:Nat->AcS} {m0:Nat} {ds:List Dd} {f g:FrI} {x y:FrS} {ws vs:List V} {st:List Dt}
theorem Stp.nil:Stp K H0 H [] []:=Za7
theorem Stp.int (i:Int):Stp K H0 H [.int i] [.int i]:=Zat ZaU Za7
theorem Stp.app {s2:List Dt} {v2:List V} (a:Stp K H0 H st vs) (b:Stp K H0 H s2 v2):Stp K H0 H (st++s2) (vs++v2):=Zli a b
theorem Stp.kept {Y:Addr->Prop} (a:Stp K H0 H st vs) (k:KeptX Y H H') (d:∀ b,Y b->H0 b≠none):Stp K H0 H' st vs :=
 DVs.keep (fun b o e=>let ⟨e1,e2⟩:=Zit e;Zfa e1 (k b o e2 fun z=>d b z e1)) a
theorem Stp.same (a:Stp K H0 H st vs) (s:Same H H'):Stp K H0 H' st vs:=a.kept (Y:=fun _=>False) s.keptX fun _ z=>z.elim
theorem Stp.base (a:Stp K H1 H st vs) (d:∀ b,H1 b=none->H0 b=none):Stp K H0 H st vs:=DVs.keep (fun b o e=>let ⟨e1,e2⟩:=Zit e;Zfa (d b e1) e2) a
theorem Stp.tell {t:Addr} {d:Dd} (h0:H0 t=none) (h:H t=some (.tup (tellV d))):Stp K H0 H [tellD d] [.ref t]:=Zat (ZcP (Zar (Zfa h0 h)) (Zi1 d)) Za7
theorem Stp.dv {d:Dt} {v:V} (a:Stp K H0 H [d] [v]):DV K H d v:=by
 have h:DVs K H [d] [v]:=DVs.keep (fun b o e=>(Zit e).2) a
 unfold DVs at h
 obtain ⟨x,t,e,h,_⟩:=h
 cases e
 exact h
theorem Wd.same (W:Wd K C cJ cS cM cN H j dx R L A S0 m0 ds) (s:Same H H'):Wd K C cJ cS cM cN H' j dx R L A S0 m0 ds:=⟨let ⟨es,e,J⟩:=W.J;⟨es,e,J.same s⟩,W.r.same s,W.ri,W.ti,W.b⟩
theorem Wd.frame (W:Wd K C cJ cS cM cN H j dx R L A S0 m0 ds) (F:FrAt cF H f x ws) (a:Ap R L A f) (k:KeptX (inF3 f) H H'):Wd K C cJ cS cM cN H' j dx R L A S0 m0 ds:=⟨let ⟨es,e,J⟩:=W.J;⟨es,e,J.frame F a k⟩,W.r.frame F a k,W.ri,W.ti,W.b⟩
theorem Wd.wrote {e:DI} {es:List DI} {m:Nat} (W:Wd K C cJ cS cM cN H j dx R L A S0 m0 ds) (he:es.map (·.d)=ds) (r:Rooms K C H' R A (doneS (runS S0 ds) e.d) m) (J:Jr cJ cS cM cN H' j dx R L A (es++[e])) (h:rightD (runS S0 ds) e.d):Wd K C cJ cS cM cN H' j dx R L A S0 m0 (ds++[e.d]) :=
 ⟨⟨_,by rw [List.map_append,he];rfl,J⟩,Rooms.tight2 (by rw [Zdq];exact r) W.ti,(ZbD _ _ _).mpr ⟨W.ri,h⟩,W.ti,W.b⟩
theorem Zea (F:FrAt cF H f x ws) {b:Addr} (h:inF3 f b):H b≠none:=by
 rcases h with rfl|rfl|rfl
 .rw [F.ob];intro z;cases z
 .rw [F.st];intro z;cases z
 .rw [F.ss];intro z;cases z
theorem ZnE (W:Wd K C cJ cS cM cN H j dx R L A S0 m0 ds) {b:Addr} (h:¬ Out A b\/b=L):H b≠none:=fun z=>by
 rcases h with h|rfl
 .exact h (W.r.outN z)
 .obtain ⟨es,_,J⟩:=W.J
  rw [J.li] at z;cases z
theorem ZfA (W:Wd K C cJ cS cM cN H j dx R L A S0 m0 ds) (F:FrAt cF H f x ws) {b:Addr} (h:goX A L f b):H b≠none:=by
 rcases h with h|h|h
 .exact ZnE W (.inl h)
 .exact ZnE W (.inr h)
 .exact Zea F h
theorem Zfb {Y:Addr->Prop} (k:KeptX Y H0 H) (d:∀ b,Y b->H b≠none) (b:Addr) (h:H b=none):H0 b=none:=by
 cases z:H0 b with
 | none=>rfl
 | some o =>
  exfalso
  by_cases q:Y b
  .exact d b q h
  .rw [k b o z q] at h;cases h
structure NewF (H:Hp) (g:FrI):Prop where
 a:H g.a=none
 t:H g.ST=none
 s:H g.SS=none
theorem NewF.not (n:NewF H g) {b:Addr} (h:H b≠none):¬ inF3 g b:=by
 rintro (rfl|rfl|rfl)
 .exact h n.a
 .exact h n.t
 .exact h n.s
theorem NewF.ap (n:NewF H g) (W:Wd K C cJ cS cM cN H j dx R L A S0 m0 ds):Ap R L A g:=by
 obtain ⟨es,_,J⟩:=W.J
 exact ⟨Ne.symm (Zam W.r.ob n.t),Ne.symm (Zam W.r.ob n.s),Ne.symm (Zam J.li n.t),Ne.symm (Zam J.li n.s),fun i y hi hy=>by
   obtain ⟨xs,e1,_⟩:=(W.r.ac i y hi hy).pg
   exact ⟨Ne.symm (Zam e1 n.t),Ne.symm (Zam e1 n.s)⟩⟩
theorem FrAt.callee (F:FrAt cF H f x ws) (W:Wd K C cJ cS cM cN H j dx R L A S0 m0 ds) (a:Ap R L A f) (n:NewF H g) {x1:FrS} {ws1:List V} (F1:FrAt cF H1 f x1 ws1) (k:KeptX (goX A L g) H1 H'):FrAt cF H' f x1 ws1:=by
 obtain ⟨es,_,J⟩:=W.J
 have oa:Out A f.a:=fun i y hi hy=>⟨Zi0 F.ob (W.r.ac i y hi hy).ob (by show 15≠5;decide),let ⟨_,g,_⟩:=(W.r.ac i y hi hy).sto;Za6 F.ob g (by intro z;cases z)⟩
 refine F1.kept k ?_ ?_ ?_
 .rintro (z|z|z)
  .exact z oa
  .exact Za6 F.ob J.li (by intro z;cases z) z
  .exact n.not (Zea F (.inl rfl)) z
 .rintro (z|z|z)
  .exact z (W.r.outL F.st)
  .exact a.tL z
  .exact n.not (Zea F (.inr (.inl rfl))) z
 .rintro (z|z|z)
  .exact z (W.r.outL F.ss)
  .exact a.sL z
  .exact n.not (Zea F (.inr (.inr rfl))) z
theorem Zho (k1:KeptX (inF3 f) H H1) (n:NewF H g) (k:KeptX (goX A L g) H1 H'):KeptX (goX A L f) H H':=fun b o e nb=>k b o (k1 b o e fun z=>nb (.inr (.inr z))) fun z=>by
 rcases z with z|z|z
 .exact nb (.inl z)
 .exact nb (.inr (.inl z))
 .exact n.not (by rw [e];intro q;cases q) z
end
noncomputable def endD:Option Str->Dt
 | none=>.non
 | some s=>.str s
noncomputable def treeD (x:FrS) (st:List Dt):Dt:=.tup [.str x.kind,.int x.who,.int x.whose,.int x.caller,.int x.coin,.int x.word,.int x.given,endD x.fin,.int x.answer,.int x.used,.lst st]
theorem Stp.tree {K:PySem.W.Frag} {H0 H:Hp} {x:FrS} {st:List Dt} {vs:List V} {p T:Addr} (a:Stp K H0 H st vs) (hT:H0 T=none) (h1:H T=some (.lst vs)) (hp:H0 p=none) (h2:H p=some (.tup (treeV x T))):Stp K H0 H [treeD x st] [.ref p]:=by
 refine Zat (ZcP (Zar (Zfa hp h2)) (Zat ZdY (Zat ZaU (Zat ZaU (Zat ZaU (Zat ZaU (Zat ZaU (Zat ZaU (Zat ?_ (Zat ZaU (Zat ZaU (Zat (Zfz (Zaw (Zfa hT h1)) a) Za7)))))))))))) Za7
 cases e:x.fin with
 | none=>unfold endD DV;rfl
 | some s=>exact ZdY
noncomputable def wellI (e:Option Str):Int:=if e=some ("well" : Str) then 1 else 0
abbrev GR:=List Dd->FrS->List Dd->FrS->List Dt->Prop
def Zlj (A:Nat->Option AcI) (S0:Nat->AcS) (G:GR) (w:Str) (ds:List Dd) (x:FrS) (ds':List Dd) (x':FrS) (d:Dt):Prop:=∃ (s:List Int) (y y':FrS) (st:List Dt) (e:Option Str),Zhm x w s y/\x'={ x with stack:=s++[y'.answer,wellI y'.fin],used:=x.used+y'.used }/\d=treeD y' st/\s.length<=900/\ZdV A (runS S0 ds) y e /\
 ((∃ e1,e=some e1/\ds'=ds/\y'={ y with given:=0,fin:=some e1,answer:=0 }/\st=[])\/(e=none/\G ds { y with given:=if x.given-x.used<y.given then x.given-x.used else y.given } ds' y' st))
inductive DoW (A:Nat->Option AcI) (S0:Nat->AcS) (G:GR):Str->Option Int->List Dd->FrS->List Dd->FrS->List Dt->Prop
 | pure {w:Str} {n:Option Int} {ds:List Dd} {x x':FrS} {D:RD} (hC:inS w ["call", "borrow", "look"]=false) (h:RDL.lookup w=some D) (hD:D x w n x'):DoW A S0 G w n ds x ds x' []
 | load {n:Option Int} {ds:List Dd} {x:FrS} {s:List Int} {pl:Int} {i:Nat} {y:AcI} (ew:x.who=(i:Int)) (hi:i<16) (hy:A i=some y) (e:x.stack=s++[pl]):DoW A S0 G "load" n ds x ds { x with stack:=s++[(runS S0 ds i).store pl] } []
 | coin {n:Option Int} {ds:List Dd} {x:FrS} {s:List Int} {sl:Int} (e:x.stack=s++[sl]):DoW A S0 G "coin" n ds x ds { x with stack:=s++[Ze4 A (runS S0 ds) sl] } []
 | save {n:Option Int} {ds:List Dd} {x:FrS} {s:List Int} {pl v:Int} {i:Nat} {y:AcI} (ew:x.who=(i:Int)) (hi:i<16) (hy:A i=some y) (e:x.stack=s++[pl,v]):DoW A S0 G "save" n ds x (ds++[.save (i:Int) pl ((runS S0 ds i).store pl) v]) { x with stack:=s } [tellD (.save (i:Int) pl ((runS S0 ds i).store pl) v)]
 | note {n:Option Int} {ds:List Dd} {x:FrS} {s:List Int} {v:Int} (e:x.stack=s++[v]):DoW A S0 G "note" n ds x (ds++[.note x.who v]) { x with stack:=s } [tellD (.note x.who v)]
 | call {w:Str} {n:Option Int} {ds ds':List Dd} {x x':FrS} {d:Dt} (hC:inS w ["call", "borrow", "look"]=true) (h:Zlj A S0 G w ds x ds' x' d):DoW A S0 G w n ds x ds' x' [d]
def OnW (A:Nat->Option AcI) (S0:Nat->AcS) (G:GR) (rows:List Row) (ds:List Dd) (x:FrS) (ds':List Dd) (x':FrS) (add:List Dt):Prop :=
 ((rows.length:Int)<=x.row/\ds'=ds/\x'={ x with fin:=some ("well" : Str),answer:=0 }/\add=[])\/∃ (i:Nat) (w:Str) (n:Option Int),x.row=(i:Int)/\rows[i]?=some (w,n) /\
  ((∃ e,aheadR A (runS S0 ds) x w n (some e)/\ds'=ds/\x'={ x with fin:=some e,answer:=0 }/\add=[]) \/
   (aheadR A (runS S0 ds) x w n none/\∃ (b1 b2:Bool) (t l pr d:Int) (ad:List Dt),Zcy x w b1/\fillsR A (runS S0 ds) x w b2/\RT.lookup w=some (t,l,pr,d)/\DoW A S0 G w n ds (ZaL x (if (b1||b2)=true then d else pr)) ds' x' ad/\add=.int x.row::ad))
inductive RunW (A:Nat->Option AcI) (S0:Nat->AcS) (G:GR) (rows:List Row):Nat->List Dd->FrS->List Dd->FrS->List Dt->Prop
 | done {ds:List Dd} {x:FrS} (h:x.fin≠none):RunW A S0 G rows 0 ds x ds x []
 | step {n:Nat} {ds ds1 ds2:List Dd} {x x' y:FrS} {add st:List Dt} (h:x.fin=none) (o:OnW A S0 G rows ds x ds1 x' add) (l:x.stack.length<=900) (e:x'.whose=x.whose) (q:RunW A S0 G rows n ds1 x' ds2 y st):RunW A S0 G rows (n+1) ds x ds2 y (add++st)
noncomputable def mvD (x:FrS):Option Dd:=if x.kind = "call" /\ 0<x.coin then some (.move x.caller x.who x.coin) else none
def GoW (A:Nat->Option AcI) (S0:Nat->AcS):Nat->GR
 | 0=>fun _ _ _ _ _=>False
 | n+1=>fun ds x ds' y st=>∃ (i:Nat) (ac:AcI) (k:Nat) (ds1:List Dd) (st1:List Dt),x.fin=none/\x.whose=(i:Int)/\i<16/\A i=some ac/\(∀ d,mvD x=some d->fitsD A d)/\RunW A S0 (GoW A S0 n) (S0 i).rows k (ds++(mvD x).toList) x ds1 y st1/\k<=40000/\ds1.length<=100000/\ds'=(if y.fin=some ("well" : Str) then ds1 else ds)/\st=(mvD x).toList.map tellD++st1
def PreG (G:GR):Prop:=∀ ds x ds' y st,G ds x ds' y st->ds <+: ds'/\∃ e,y.fin=some e
theorem DoW.pre {A:Nat->Option AcI} {S0:Nat->AcS} {G:GR} (hG:PreG G) {w:Str} {n:Option Int} {ds ds':List Dd} {x x':FrS} {ad:List Dt} (h:DoW A S0 G w n ds x ds' x' ad):ds <+: ds'/\ad.length<=1:=by
 cases h with
 | pure=>exact ⟨List.prefix_rfl,Nat.zero_le _⟩
 | load=>exact ⟨List.prefix_rfl,Nat.zero_le _⟩
 | coin=>exact ⟨List.prefix_rfl,Nat.zero_le _⟩
 | save=>exact ⟨List.prefix_append _ _,Nat.le_refl _⟩
 | note=>exact ⟨List.prefix_append _ _,Nat.le_refl _⟩
 | call hC h =>
  obtain ⟨s,y,y',st,e,_,_,_,_,_,h⟩:=h
  rcases h with ⟨_,_,rfl,_⟩|⟨_,h⟩
  .exact ⟨List.prefix_rfl,Nat.le_refl _⟩
  .exact ⟨(hG _ _ _ _ _ h).1,Nat.le_refl _⟩
theorem OnW.pre {A:Nat->Option AcI} {S0:Nat->AcS} {G:GR} (hG:PreG G) {rows:List Row} {ds ds':List Dd} {x x':FrS} {ad:List Dt} (h:OnW A S0 G rows ds x ds' x' ad):ds <+: ds'/\ad.length<=2:=by
 rcases h with ⟨_,rfl,_,rfl⟩|⟨_,_,_,_,_,⟨_,_,rfl,_,rfl⟩|⟨_,_,_,_,_,_,_,_,_,_,_,h,rfl⟩⟩
 .exact ⟨List.prefix_rfl,Nat.zero_le _⟩
 .exact ⟨List.prefix_rfl,Nat.zero_le _⟩
 .exact ⟨(h.pre hG).1,Nat.succ_le_succ (h.pre hG).2⟩
theorem RunW.pre {A:Nat->Option AcI} {S0:Nat->AcS} {G:GR} (hG:PreG G) {rows:List Row}:∀ {n:Nat} {ds ds':List Dd} {x y:FrS} {st:List Dt},RunW A S0 G rows n ds x ds' y st->ds <+: ds'/\∃ e,y.fin=some e
 | _,_,_,_,_,_,.done h=>by
  rename_i x
  refine ⟨List.prefix_rfl,?_⟩
  cases e:x.fin with
  | none=>exact absurd e h
  | some e'=>exact ⟨e',rfl⟩
 | _,_,_,_,_,_,.step _ o _ _ q=>⟨(o.pre hG).1.trans (q.pre hG).1,(q.pre hG).2⟩
theorem GoW.pre {A:Nat->Option AcI} {S0:Nat->AcS}:∀ n,PreG (GoW A S0 n)
 | 0=>fun _ _ _ _ _ h=>h.elim
 | n+1=>fun ds x ds' y st h=>by
  obtain ⟨i,ac,k,ds1,st1,_,_,_,_,_,h,_,_,rfl,_⟩:=h
  have:=h.pre (GoW.pre n)
  refine ⟨?_,this.2⟩
  split
  .exact (List.prefix_append _ _).trans this.1
  .exact List.prefix_rfl
theorem Zlk (S:Nat->AcS) (d:Dd) (i:Nat):(doneS S d i).rows=(S i).rows:=by
 cases d with
 | save s p o n =>
  show (setS S s.toNat _ i).rows=_
  unfold setS
  by_cases w:i=s.toNat
  .rw [if_pos w,<- w]
  .rw [if_neg w]
 | move s t k=>show (moved S _ _ k i).rows=_;rw [Zbu]
 | note s n=>rfl
theorem Zi7:∀ (ds:List Dd) (S:Nat->AcS) (i:Nat),(runS S ds i).rows=(S i).rows
 | [],_,_=>rfl
 | d::ds,S,i=>(Zi7 ds (doneS S d) i).trans (Zlk S d i)
def Post (K:PySem.W.Frag) (C cJ cS cM cN cF:Addr) (H:Hp) (j dx R L:Addr) (A:Nat->Option AcI) (S0:Nat->AcS) (m0:Nat) (f:FrI) (ws:List V) (ds':List Dd) (x':FrS) (add:List Dt) (Q:VK):Prop :=
 ∀ vs H',Wd K C cJ cS cM cN H' j dx R L A S0 m0 ds'->FrAt cF H' f x' (ws++vs)->Stp K H H' add vs->KeptX (goX A L f) H H'->Q .non H'
def spGoW (K:PySem.W.Frag) (C cJ cS cM cN cF:Addr) (n:Nat):Sp:=fun vs H Q _=>∃ (j dx R L:Addr) (A:Nat->Option AcI) (S0:Nat->AcS) (m0:Nat) (ds:List Dd) (f:FrI) (x:FrS) (ds':List Dd) (y:FrS) (st:List Dt),vs=[.ref R,.ref j,.ref f.a]/\Wd K C cJ cS cM cN H j dx R L A S0 m0 ds/\FrAt cF H f x []/\Ap R L A f/\GoW A S0 n ds x ds' y st/\Post K C cJ cS cM cN cF H j dx R L A S0 m0 f [] ds' y st Q
def Zhp (K:PySem.W.Frag) (C cJ cS cM cN cF:Addr) (n:Nat):Sp:=fun vs H Q _=>∃ (j dx R L:Addr) (A:Nat->Option AcI) (S0:Nat->AcS) (m0:Nat) (ds:List Dd) (f:FrI) (x:FrS) (ws:List V) (p:Addr) (w:Str) (nn:Option Int) (ds':List Dd) (x':FrS) (d:Dt),vs=[.ref R,.ref j,.ref f.a,.ref p]/\Wd K C cJ cS cM cN H j dx R L A S0 m0 ds/\FrAt cF H f x ws/\Ap R L A f/\Zbj K H p w nn/\Zlj A S0 (GoW A S0 n) w ds x ds' x' d/\ws.length<=99000/\Post K C cJ cS cM cN cF H j dx R L A S0 m0 f ws ds' x' [d] Q
def Zi8 (K:PySem.W.Frag) (C cJ cS cM cN cF:Addr) (n:Nat):Sp:=fun vs H Q _=>∃ (j dx R L:Addr) (A:Nat->Option AcI) (S0:Nat->AcS) (m0:Nat) (ds:List Dd) (f:FrI) (x:FrS) (ws:List V) (p:Addr) (w:Str) (nn:Option Int) (ds':List Dd) (x':FrS) (ad:List Dt) (b1 b2:Bool) (t l pr d:Int),vs=[.ref R,.ref j,.ref f.a,.ref p]/\Wd K C cJ cS cM cN H j dx R L A S0 m0 ds/\FrAt cF H f x ws/\Ap R L A f/\Zbj K H p w nn/\Zcy x w b1/\fillsR A (runS S0 ds) x w b2/\RT.lookup w=some (t,l,pr,d)/\DoW A S0 (GoW A S0 n) w nn ds (ZaL x (if (b1||b2)=true then d else pr)) ds' x' ad/\x.stack.length<=900/\ws.length<=90000/\ds.length<=100000/\Post K C cJ cS cM cN cF H j dx R L A S0 m0 f ws ds' x' (.int x.row::ad) Q
def Zll (K:PySem.W.Frag) (C cJ cS cM cN cF:Addr) (n:Nat):Sp:=fun vs H Q _=>∃ (j dx R L:Addr) (A:Nat->Option AcI) (S0:Nat->AcS) (m0:Nat) (ds:List Dd) (f:FrI) (x:FrS) (ws:List V) (ds':List Dd) (x':FrS) (add:List Dt) (i:Nat) (y:AcI),vs=[.ref R,.ref j,.ref f.a]/\Wd K C cJ cS cM cN H j dx R L A S0 m0 ds/\FrAt cF H f x ws/\Ap R L A f/\x.whose=(i:Int)/\i<16/\A i=some y/\OnW A S0 (GoW A S0 n) (S0 i).rows ds x ds' x' add/\x.stack.length<=900/\ws.length<=90000/\ds.length<=100000/\Post K C cJ cS cM cN cF H j dx R L A S0 m0 f ws ds' x' add Q
section
end
section
variable {P:Program} {w:World} {K:PySem.W.Frag} {mg:Str->Option Value} {base:Heap}
theorem Zdc:FnScope ["rooms", "journal", "frame", "row", "other", "end"] ["rooms", "journal", "frame", "row"] (Zaf ZcH):=by walk_at "c"
theorem Ziu  {k n:Nat} {cAccount cJournal cSave cMove cNote:Addr} {cFrame:Addr} (D:Zaq K mg "call_row" ZcH) (tFrame:T_Frame K mg cFrame) (m_Frame_left:MCal P w K mg base 1 cFrame "left" (spLeft cFrame)) (m_Frame_finish:MCal P w K mg base 1 cFrame "finish" (ZcI cFrame)) (m_Frame_tree:MCal P w K mg base 1 cFrame "tree" (spTree cFrame)) (m_Frame_lay:MCal P w K mg base 1 cFrame "lay" (spLay cFrame)) (c_other_call:Cal P w K mg base 3 "other_call" (Zir K cFrame)) (c_end_ahead_of_call:Cal P w K mg base 2 "end_ahead_of_call" (Zgo K cAccount cFrame)) (c_go:Cal P w K mg base (k+8) "go" (spGoW K cAccount cJournal cSave cMove cNote cFrame n)) (n_min:mg "min" = none):Cal P w K mg base (k+9) "call_row" (Zhp K cAccount cJournal cSave cMove cNote cFrame n):=by
 refine ZaA D Zdc (fun vs H Q E h=>?_) (by walk_at "b") (fun f cdv A outer s H vs Q E hr h=>?_)
 .obtain ⟨j,dx,R,L,A,S0,m0,ds,f,x,ws,p,w,nn,ds',x',d,rfl,_⟩:=h;rfl
 .obtain ⟨j,dx,R,L,Ar,S0,m0,ds,fr,x,ws,p,wd,nn,ds',x',d,rfl,W,F,ap,hp,⟨s0,y,y',st,e,hO,rfl,rfl,hs,ha,hC⟩,hw,kk⟩:=h
  refine ⟨_,(Zab (Zay (i:=4) Zdc.nd rfl (by first|exact Or.inl rfl|exact Or.inr rfl) (ZaB c_other_call (hr.mono (by omega)) rfl (Zaa (pv 2) (Zaa (pv 3) Zad))))
   (Zab (Zay (i:=5) Zdc.nd rfl (by first|exact Or.inl rfl|exact Or.inr rfl) (ZaB c_end_ahead_of_call (hr.mono (by omega)) rfl (Zaa (pv 0) (Zaa (pv 4) Zad))))
   (Zab (ZkY (ZaK (Zal ZeD (pv 5) Zca (nomark _)) (Zab (ZaS (pv 4) (ZaO (cn_min rfl) rfl n_min PyProof.Rows.boot_min (Zaa (Zao (pv 4) rfl) (Zaa (Zdn m_Frame_left (hr.mono (by omega)) (pv 2)) Zad))) rfl)
   (Zae (ZaF (ZaB c_go (hr.mono (by omega)) rfl (Zaa (pv 0) (Zaa (pv 1) (Zaa (pv 4) Zad))))))) (Zab (ZaS (pv 4) Zac rfl)
   (Zae (ZaF (ZaN m_Frame_finish (hr.mono (by omega)) (pv 4) (Zaa (pv 5) (Zaa Zac Zad))))))))
   (Zab (Zcf (pv 2) (Zao (pv 4) rfl) ZiJ)
   (Zab (ZaF (Zjr PySem.F.plainAttrs_list PySem.F.slot_list_append PySem.F.type_list_append ZbF (Zao (pv 2) rfl) (Zaa (Zdn m_Frame_tree (hr.mono (by omega)) (pv 4)) Zad)))
   (Zab (ZaF (ZaN m_Frame_lay (hr.mono (by omega)) (pv 2) (Zaa (Zao (pv 4) rfl) Zad)))
   (Zae (ZaF (ZaN m_Frame_lay (hr.mono (by omega)) (pv 2) (Zaa (Zec (Zal ZaX (Zao (pv 4) rfl) Zai (nomark _)) Zac Zac) Zad)))))))))),?_⟩
  walk_at "nx"
  obtain ⟨e0,he0⟩:∃ e0,y'.fin=some e0:=by
   rcases hC with ⟨e1,_,_,rfl,_⟩|⟨_,h⟩
   .exact ⟨e1,rfl⟩
   .exact (GoW.pre n _ _ _ _ _ h).2
  walk_at "W"
  refine ⟨fr,x,y,ws,p,wd,nn,s0,rfl,F,hp,hO,fun gf H1 ga gt gs k1 F1 G1=>?_⟩
  have nf:NewF H gf:=⟨ga,gt,gs⟩
  have k1':KeptX (inF3 fr) H H1:=k1.mono fun _ h=>.inr (.inl h)
  have W1:=W.frame F ap k1'
  have apg:=nf.ap W
  have d1:=Zfb k1' fun b z=>Zea F1 z
  walk_at "W"
  refine ⟨R,Ar,_,_,gf,y,[],e,rfl,W1.r,G1,ha,?_⟩
  walk_at "W"
  refine ZkX (fun σ' H'=>∃ vs v,Wd K cAccount cJournal cSave cMove cNote H' j dx R L Ar S0 m0 ds'/\FrAt cFrame H' fr { x with stack:=s0 } ws/\FrAt cFrame H' gf y' vs/\Stp K H H' st vs/\KeptX (goX Ar L fr) H H'/\σ'=[some (.ref R),some (.ref j),some (.ref fr.a),some (.ref p),some (.ref gf.a),v]) ?_ ?_
  .rcases hC with ⟨e1,rfl,rfl,rfl,rfl⟩|⟨rfl,hG⟩
   .rw [show endV (some e1)=V.str e1 from rfl]
    walk_at "W"
    refine ⟨rfl,?_⟩
    rw [decide_eq_false (show ¬ V.str e1=V.non by intro z;cases z)]
    walk_at "W"
    refine ZaD G1.ob tFrame.k.cl tFrame.n_given (by show 15<1000;decide) ?_
    have G2:=G1.setF { y with given:=0 } rfl
    have e2:putF "given" (.int 0) (fldF gf y)=fldF gf { y with given:=0 }:=rfl
    rw [e2]
    have k2:KeptX (inF3 gf) H1 (upd H1 gf.a (.ins cFrame gf.dx (fldF gf { y with given:=0 }))):=KeptX.upd (.inl rfl)
    generalize upd H1 gf.a _=H2 at G2 k2
    walk_at "W"
    refine Zav G2.ob rfl ?_
    walk_at "W"
    refine ⟨gf,_,[],e1,0,rfl,G2,fun H3 k3 G3=>?_⟩
    have k3':KeptX (inF3 gf) H1 H3:=k2.trans (k3.mono fun _ h=>.inl h)
    walk_at "W"
    exact ⟨[],_,W1.frame G1 apg k3',F.callee W ap nf F1 (Zdv k3'),G3,Stp.nil,Zho k1' nf (Zdv k3'),rfl⟩
   .rw [show endV none=V.non from rfl]
    walk_at "W"
    refine Zah G1.ob tFrame.k.cl tFrame.n_given rfl ?_
    walk_at "W"
    refine Zav F1.ob rfl ?_
    refine ⟨fr,_,ws,rfl,F1,?_⟩
    generalize hgv:(if x.given-x.used<y.given then x.given-x.used else y.given)=gv at hG
    walk_at "W"
    try (refine ZkA ?_;walk_at "W")
    refine ZaD G1.ob tFrame.k.cl tFrame.n_given (by show 15<1000;decide) ?_
    have G2:=G1.setF { y with given:=gv } rfl
    have e2:putF "given" (.int (if x.given-x.used<y.given then x.given-x.used else y.given)) (fldF gf y)=fldF gf { y with given:=gv }:=by rw [hgv];rfl
    rw [e2]
    have k2:KeptX (inF3 gf) H1 (upd H1 gf.a (.ins cFrame gf.dx (fldF gf { y with given:=gv }))):=KeptX.upd (.inl rfl)
    generalize upd H1 gf.a _=H2 at G2 k2
    have W2:=W1.frame G1 apg k2
    have d2:∀ b,H2 b=none->H b=none:=fun b h=>d1 b (Zfb k2 (fun b z=>Zea G2 z) b h)
    walk_at "W"
    refine ⟨j,dx,R,L,Ar,S0,m0,ds,gf,_,ds',y',st,rfl,W2,G2,apg,hG,fun vs H3 W3 G3 S3 k3=>?_⟩
    have k3':=(Zdv (A:=Ar) (L:=L) k2).trans k3
    walk_at "W"
    exact ⟨vs,_,W3,F.callee W ap nf F1 k3',G3,S3.base d2,Zho k1' nf k3',rfl⟩
  rintro σ3 H3 ⟨vs,v,W3,F3,G3,S3,k3,rfl⟩
  have fl:∀ fs,fs=fldF gf y'->fs.lookup (Str.ofString "end")=some (V.str e0):=fun fs q=>by rw [q];show some (endV y'.fin)=_;rw [he0];rfl
  have d3:=Zfb k3 fun b z=>ZfA W3 F3 z
  walk_at "W"
  refine Zdo F3.ob tFrame.k.cl tFrame.n_used rfl ?_
  walk_at "W"
  refine Zah G3.ob tFrame.k.cl tFrame.n_used rfl ?_
  walk_at "W"
  refine ⟨fr.dx,_,F3.ob,by show 15<1000;decide,?_⟩
  have F4:=F3.setF { x with stack:=s0,used:=x.used+y'.used } rfl
  have e4:putF "used" (.int (x.used+y'.used)) (fldF fr { x with stack:=s0 })=fldF fr { x with stack:=s0,used:=x.used+y'.used }:=rfl
  rw [e4]
  have k4:KeptX (inF3 fr) H3 (upd H3 fr.a (.ins cFrame fr.dx (fldF fr { x with stack:=s0,used:=x.used+y'.used }))):=KeptX.upd (.inl rfl)
  generalize upd H3 fr.a _=H4 at F4 k4
  have gk:∀ {Ha Hb:Hp} {xs:List V},FrAt cFrame Ha gf y' xs->KeptX (inF3 fr) Ha Hb->FrAt cFrame Hb gf y' xs:=fun q kq=>q.kept kq (fun z=>nf.not (Zea F z) (.inl rfl)) (fun z=>nf.not (Zea F z) (.inr (.inl rfl))) (fun z=>nf.not (Zea F z) (.inr (.inr rfl)))
  have G4:=gk G3 k4
  have W4:=W3.frame F3 ap k4
  have S4:=S3.kept k4 fun b z=>Zea F z
  have kk4:=k3.trans (Zdv k4)
  have d4:=Zfb kk4 fun b z=>ZfA W4 F4 z
  walk_at "W"
  refine Zah F4.ob tFrame.k.cl tFrame.n_steps rfl ?_
  refine ⟨Zcj (Zaw F4.ss),?_⟩
  walk_at "W"
  refine Zav G4.ob rfl ?_
  refine ⟨gf,y',vs,rfl,G4,fun q T H5 s5 hq hT h1 h2=>?_⟩
  have F5:=F4.same s5
  have G5:=G4.same s5
  have W5:=W4.same s5
  have S5:=(S4.same s5).tree (d4 _ hT) h1 (d4 _ hq) h2
  walk_at "W"
  refine ZbY F5.ss (Nat.lt_of_le_of_lt hw (by decide)) ?_
  have F6:=F5.setSS (ws++[.ref q])
  have k6:KeptX (inF3 fr) H5 (upd H5 fr.SS (.lst (ws++[.ref q]))):=KeptX.upd (.inr (.inr rfl))
  have G6:=gk G5 k6
  generalize upd H5 fr.SS _=H6 at F6 k6 G6
  walk_at "W"
  refine Zav F6.ob rfl ?_
  walk_at "W"
  refine Zah G6.ob tFrame.k.cl tFrame.n_answer rfl ?_
  walk_at "W"
  refine ⟨fr,_,_,_,rfl,F6,Nat.le_trans hs (by decide),fun H7 k7 F7=>?_⟩
  have k7':KeptX (inF3 fr) H5 H7:=k6.trans (k7.mono fun _ h=>.inr (.inl h))
  have G7:=gk G5 k7'
  have fin:∀ z H8,z=wellI y'.fin->KeptX (·=fr.ST) H7 H8->FrAt cFrame H8 fr { x with stack:=s0++[y'.answer]++[z],used:=x.used+y'.used } (ws++[.ref q])->Q .non H8:=fun z H8 ez k8 F8=>by
   have k8':=k7'.trans (k8.mono fun _ h=>.inr (.inl h))
   rw [List.append_assoc,ez] at F8
   exact kk [.ref q] H8 (W5.frame F5 ap k8') F8 (S5.kept k8' fun b z=>Zea F z) (kk4.trans (s5.keptX.trans (Zdv k8')))
  have hl7:(s0++[y'.answer]).length<=1000:=by rw [List.length_append];exact Nat.add_le_add hs (by show 1<=100;decide)
  walk_at "W"
  refine Zav F7.ob rfl ?_
  walk_at "W"
  refine Zah G7.ob tFrame.k.cl tFrame.n_end (fl _ rfl) ?_
  walk_at "W'"
  .rename_i hz
   refine ⟨fr,_,_,_,rfl,F7,hl7,fun H8 k8 F8=>?_⟩
   walk_at "W"
   exact fin 1 H8 (by unfold wellI;rw [he0,hz,if_pos rfl]) k8 F8
  .rename_i hz
   refine ⟨fr,_,_,_,rfl,F7,hl7,fun H8 k8 F8=>?_⟩
   walk_at "W"
   exact fin 0 H8 (by unfold wellI;rw [he0,if_neg (fun q=>hz (Option.some.inj q))]) k8 F8
end
section
variable {P:Program} {w:World} {K:PySem.W.Frag} {mg:Str->Option Value} {base:Heap}
theorem Zlm:FnScope ["rooms", "journal", "frame", "row"] ["rooms", "journal", "frame", "row"] (Zaf Zef):=by walk_at "c"
theorem Zln  {k n:Nat} {cAccount cJournal cSave cMove cNote:Addr} {aC:Addr} (tC3:TupK K aC ((["call", "borrow", "look"]:List Str).map V.str)) {cFrame:Addr} (D:Zaq K mg "go_row" Zef) (tFrame:T_Frame K mg cFrame) (c_row_price:Cal P w K mg base 3 "row_price" (ZcJ K cAccount cFrame)) (c_call_row:Cal P w K mg base (k+9) "call_row" (Zhp K cAccount cJournal cSave cMove cNote cFrame n)) (c_do_row:Cal P w K mg base 6 "do_row" (Zis K cAccount cJournal cSave cMove cNote cFrame)) (g_CALLING:Za0 mg "CALLING" (.ref aC)):Cal P w K mg base (k+10) "go_row" (Zi8 K cAccount cJournal cSave cMove cNote cFrame n):=by
 refine ZaA D Zlm (fun vs H Q E h=>?_) (by walk_at "b") (fun f cdv A outer s H vs Q E hr h=>?_)
 .obtain ⟨j,dx,R,L,A,S0,m0,ds,f,x,ws,p,w,nn,ds',x',ad,b1,b2,t,l,pr,d,rfl,_⟩:=h;rfl
 .obtain ⟨j,dx,R,L,Ar,S0,m0,ds,fr,x,ws,p,wd,nn,ds',x',ad,b1,b2,t,l,pr,d,rfl,W,F,ap,hp,hb1,hb2,hT,hD,hl,hw,hdl,kk⟩:=h
  refine ⟨_,(Zab (Zcf (pv 2) (ZaB c_row_price (hr.mono (by omega)) rfl (Zaa (pv 0) (Zaa (pv 2) (Zaa (pv 3) Zad)))) ZiJ)
   (Zab (ZaF (Zjr PySem.F.plainAttrs_list PySem.F.slot_list_append PySem.F.type_list_append ZbF (Zao (pv 2) rfl) (Zaa (Zao (pv 2) rfl) Zad)))
   (Zab (Zcf (pv 2) Zac ZiJ)
   (Zae (ZaK (Zal ZaQ (Zan Zau (pv 3) Zac (fun _ _=>rfl)) (ZbB rfl g_CALLING) rfl) (Zae (ZaF (ZaB c_call_row (hr.mono (by omega)) rfl (Zaa (pv 0) (Zaa (pv 1) (Zaa (pv 2) (Zaa (pv 3) Zad))))))) (Zae (ZaF (ZaB c_do_row (hr.mono (by omega)) rfl (Zaa (pv 0) (Zaa (pv 1) (Zaa (pv 2) (Zaa (pv 3) Zad)))))))))))),?_⟩
  walk_at "nx"
  walk_at "W"
  refine Zdo F.ob tFrame.k.cl tFrame.n_used rfl ?_
  walk_at "W"
  refine ⟨R,Ar,_,_,fr,x,ws,p,wd,nn,b1,b2,t,l,pr,d,rfl,W.r,F,hp,hb1,hb2,hT,?_⟩
  generalize (if (b1||b2)=true then d else pr)=c at hD |-
  walk_at "W"
  refine ⟨fr.dx,_,F.ob,by show 15<1000;decide,?_⟩
  have F1:=F.setF { x with used:=x.used+c } rfl
  have e1:putF "used" (.int (x.used+c)) (fldF fr x)=fldF fr { x with used:=x.used+c }:=rfl
  rw [e1]
  have k1:KeptX (inF3 fr) H (upd H fr.a (.ins cFrame fr.dx (fldF fr { x with used:=x.used+c }))):=KeptX.upd (.inl rfl)
  have hp1:Zbj K (upd H fr.a (.ins cFrame fr.dx (fldF fr { x with used:=x.used+c }))) p wd nn:=Zb8 hp F (KeptX.upd (.inl rfl))
  generalize upd H fr.a _=H1 at F1 k1 hp1
  walk_at "W"
  refine Zah F1.ob tFrame.k.cl tFrame.n_steps rfl ?_
  refine ⟨Zcj (Zaw F1.ss),?_⟩
  walk_at "W"
  refine Zah F1.ob tFrame.k.cl tFrame.n_row rfl ?_
  walk_at "W"
  refine ZbY F1.ss (Nat.lt_of_le_of_lt hw (by decide)) ?_
  have F2:=F1.setSS (ws++[.int x.row])
  have k2:KeptX (inF3 fr) H (upd H1 fr.SS (.lst (ws++[.int x.row]))):=k1.trans (KeptX.upd (.inr (.inr rfl)))
  have hp2:Zbj K (upd H1 fr.SS (.lst (ws++[.int x.row]))) p wd nn:=(SameI.upd F1.ss Zbh).tup hp1
  generalize upd H1 fr.SS _=H2 at F2 k2 hp2
  walk_at "W"
  refine Zdo F2.ob tFrame.k.cl tFrame.n_row rfl ?_
  walk_at "W"
  refine ⟨fr.dx,_,F2.ob,by show 15<1000;decide,?_⟩
  have F3:=F2.setF (ZaL x c) rfl
  have e3:putF "row" (.int (x.row+1)) (fldF fr { x with used:=x.used+c })=fldF fr (ZaL x c):=rfl
  rw [e3]
  have k3:KeptX (inF3 fr) H (upd H2 fr.a (.ins cFrame fr.dx (fldF fr (ZaL x c)))):=k2.trans (KeptX.upd (.inl rfl))
  have hp3:Zbj K (upd H2 fr.a (.ins cFrame fr.dx (fldF fr (ZaL x c)))) p wd nn:=Zb8 hp2 F2 (KeptX.upd (.inl rfl))
  generalize upd H2 fr.a _=H3 at F3 k3 hp3
  have W3:=W.frame F ap k3
  have d3:=Zfb k3 fun b z=>Zea F3 z
  obtain ⟨es,hes,J3⟩:=W3.J
  have pure:∀ H4,KeptX (inF3 fr) H3 H4->ds'=ds->ad=[]->FrAt cFrame H4 fr x' (ws++[.int x.row])->Q .non H4:=fun H4 k4 e1 e2 F4=>by
   subst e1 e2
   exact kk _ H4 (W3.frame F3 ap k4) F4 (Stp.int x.row) (Zdv (k3.trans k4))
  walk_at "W"
  refine Za3 (tC3.sqt H3) ?_
  cases hD with
  | pure hC hR hDx =>
   rw [hC]
   walk_at "W"
   refine ⟨.ref R,.ref j,fr.a,p,_,nn,_,rfl,hp3,.inl ⟨_,hR,rfl⟩,?_⟩
   exact ⟨.ref R,.ref j,fr,_,x',_,p,wd,nn,rfl,F3,hp3,hDx,hl,fun H4 k4 F4=>pure H4 (k_F3 k4) rfl rfl F4⟩
  | load ew hi hy e =>
   rw [show inS "load" ["call", "borrow", "look"]=false from rfl]
   walk_at "W"
   refine ⟨.ref R,.ref j,fr.a,p,_,nn,_,rfl,hp3,.inr (.inl ⟨rfl,rfl⟩),?_⟩
   exact ⟨R,L,.ref j,Ar,_,_,fr,_,_,.ref p,_,_,_,_,rfl,W3.r,F3,ap,ew,hi,hy,e,hl,fun H4 k4 F4=>pure H4 k4 rfl rfl F4⟩
  | coin e =>
   rw [show inS "coin" ["call", "borrow", "look"]=false from rfl]
   walk_at "W"
   refine ⟨.ref R,.ref j,fr.a,p,_,nn,_,rfl,hp3,.inr (.inr (.inl ⟨rfl,rfl⟩)),?_⟩
   exact ⟨R,L,.ref j,Ar,_,_,fr,_,_,.ref p,_,_,rfl,W3.r,F3,ap,e,hl,fun H4 k4 F4=>pure H4 k4 rfl rfl F4⟩
  | save ew hi hy e =>
   rename_i s0 pl v i yy
   rw [show inS "save" ["call", "borrow", "look"]=false from rfl]
   walk_at "W"
   refine ⟨.ref R,.ref j,fr.a,p,_,nn,_,rfl,hp3,.inr (.inr (.inr (.inl ⟨rfl,rfl⟩))),?_⟩
   refine ⟨j,dx,R,L,Ar,_,_,es,fr,_,_,.ref p,i,yy,s0,pl,v,rfl,J3,W3.r,by have:=W.b;omega,by rw [<- hes,List.length_map] at hdl;omega,F3,ap,by rw [List.length_append];show ws.length+1<=_;omega,ew,hi,hy,e,fun t e H4 he ht k4 r4 J4 F4 et=>?_⟩
   have W4:=W3.wrote hes (e:=e) (by rw [he];exact r4) J4 (by rw [he];show (runS S0 ds (i:Int).toNat).store pl=_;rw [Int.toNat_natCast])
   rw [he] at W4
   rw [List.append_assoc] at F4
   exact kk _ H4 W4 F4 ((Stp.int x.row).app (Stp.tell (d3 _ ht) et)) ((Zdv k3).trans k4)
  | note e =>
   rename_i s0 v
   rw [show inS "note" ["call", "borrow", "look"]=false from rfl]
   walk_at "W"
   refine ⟨.ref R,.ref j,fr.a,p,_,nn,_,rfl,hp3,.inr (.inr (.inr (.inr ⟨rfl,rfl⟩))),?_⟩
   refine ⟨j,dx,R,L,Ar,_,_,es,fr,_,_,.ref p,s0,v,rfl,J3,W3.r,by have:=W.b;omega,by rw [<- hes,List.length_map] at hdl;omega,F3,ap,by rw [List.length_append];show ws.length+1<=_;omega,e,fun t e H4 he ht k4 r4 J4 F4 et=>?_⟩
   have W4:=W3.wrote hes (e:=e) (by rw [he];exact r4) J4 (by rw [he];trivial)
   rw [he] at W4
   rw [List.append_assoc] at F4
   exact kk _ H4 W4 F4 ((Stp.int x.row).app (Stp.tell (d3 _ ht) et)) ((Zdv k3).trans k4)
  | call hC hX =>
   rw [hC]
   walk_at "W"
   refine ⟨j,dx,R,L,Ar,S0,m0,ds,fr,_,_,p,wd,nn,ds',x',_,rfl,W3,F3,ap,hp3,hX,by rw [List.length_append];show ws.length+1<=_;omega,fun vs H4 W4 F4 S4 k4=>?_⟩
   walk_at "W"
   rw [List.append_assoc] at F4
   exact kk _ H4 W4 F4 ((Stp.int x.row).app (S4.base d3)) ((Zdv k3).trans k4)
end
section
variable {P:Program} {w:World} {K:PySem.W.Frag} {mg:Str->Option Value} {base:Heap}
theorem Zei:FnScope ["rooms", "journal", "frame", "program", "row", "end"] ["rooms", "journal", "frame"] (Zaf ZfW):=by walk_at "c"
theorem ZmM  {k n:Nat} {cJournal cSave cMove cNote:Addr} {cAccount:Addr} {cFrame:Addr} (D:Zaq K mg "go_on" ZfW) (tAccount:T_Account K mg cAccount) (tFrame:T_Frame K mg cFrame) (m_Frame_finish:MCal P w K mg base 1 cFrame "finish" (ZcI cFrame)) (c_end_ahead_of:Cal P w K mg base 4 "end_ahead_of" (Zim K cAccount cFrame)) (c_go_row:Cal P w K mg base (k+10) "go_row" (Zi8 K cAccount cJournal cSave cMove cNote cFrame n)) (n_len:mg "len" = none):Cal P w K mg base (k+11) "go_on" (Zll K cAccount cJournal cSave cMove cNote cFrame n):=by
 refine ZaA D Zei (fun vs H Q E h=>?_) (by walk_at "b") (fun f cdv A outer s H vs Q E hr h=>?_)
 .obtain ⟨j,dx,R,L,A,S0,m0,ds,f,x,ws,ds',x',add,i,y,rfl,_⟩:=h;rfl
 .obtain ⟨j,dx,R,L,Ar,S0,m0,ds,fr,x,ws,ds',x',add,iw,y,rfl,W,F,ap,ew,hi,hy,ho,hl,hw,hdl,kk⟩:=h
  refine ⟨_,(Zab (Zay (i:=3) Zei.nd rfl (by first|exact Or.inl rfl|exact Or.inr rfl) (Zao (Zan Zas (pv 0) (Zao (pv 2) rfl) (fun _ _=>rfl)) rfl))
   (Zab (ZaK (Zal Zl4 (Zao (pv 2) rfl) (ZaO ZbC rfl n_len PySem.boot_len (Zaa (pv 3) Zad)) (nomark _)) (Zab (ZaF (ZaN m_Frame_finish (hr.mono (by omega)) (pv 2) (Zaa Zai (Zaa Zac Zad))))
   (Zae ZnL)) Zap)
   (Zab (Zay (i:=4) Zei.nd rfl (by first|exact Or.inl rfl|exact Or.inr rfl) (Zan Zas (pv 3) (Zao (pv 2) rfl) (fun _ _=>rfl)))
   (Zab (Zay (i:=5) Zei.nd rfl (by first|exact Or.inl rfl|exact Or.inr rfl) (ZaB c_end_ahead_of (hr.mono (by omega)) rfl (Zaa (pv 0) (Zaa (pv 2) (Zaa (pv 4) Zad)))))
   (Zae (ZaK (Zal ZeD (pv 5) Zca (nomark _)) (Zae (ZaF (ZaB c_go_row (hr.mono (by omega)) rfl (Zaa (pv 0) (Zaa (pv 1) (Zaa (pv 2) (Zaa (pv 4) Zad))))))) (Zae (ZaF (ZaN m_Frame_finish (hr.mono (by omega)) (pv 2) (Zaa (pv 5) (Zaa Zac Zad))))))))))),?_⟩
  walk_at "nx"
  have ay:=W.r.ac iw y hi hy
  obtain ⟨xs,hx1,hx2⟩:=ay.pg
  rw [Zi7] at hx2
  have hlen:=hx2.1
  walk_at "W"
  refine Zah F.ob tFrame.k.cl tFrame.n_whose rfl ?_
  rw [ew]
  refine ZaC (Zaw W.r.ob) (W.r.at hi hy) ?_
  refine Zah ay.ob tAccount.k.cl tAccount.n_program rfl ?_
  walk_at "W"
  refine Zah F.ob tFrame.k.cl tFrame.n_row rfl ?_
  rcases ho with ⟨h1,rfl,rfl,rfl⟩|⟨i,wd,nn,er,hrow,ho⟩
  .walk_at "Y"
   refine Zav F.ob rfl ?_
   walk_at "W"
   refine ⟨fr,x,ws, "well", 0,rfl,F,fun H1 k1 F1=>?_⟩
   walk_at "W"
   have k1':KeptX (inF3 fr) H H1:=k1.mono fun _ h=>.inl h
   exact kk [] H1 (W.frame F ap k1') (by rw [List.append_nil];exact F1) Stp.nil (Zdv k1')
  .have hil:i<(S0 iw).rows.length:=(List.getElem?_eq_some_iff.mp hrow).1
   obtain ⟨pt,ep,hpt⟩:=hx2.2 i _ _ hrow (List.getElem?_eq_getElem (by rw [<- hlen];exact hil))
   have exi:atI xs x.row=some (.ref pt):=ZcD (i:=i) (by rw [List.getElem?_eq_getElem (by rw [<- hlen];exact hil),ep]) er
   have hp:Zbj K H pt wd nn:=hpt
   walk_at "Y"
   refine Zah F.ob tFrame.k.cl tFrame.n_row rfl ?_
   refine ZaC (Zaw hx1) exi ?_
   walk_at "W"
   rcases ho with ⟨e,ha,rfl,rfl,rfl⟩|⟨ha,b1,b2,t,l,pr,d,ad,hb1,hb2,hT,hD,rfl⟩
   .refine ⟨R,Ar,_,_,fr,x,ws,pt,wd,nn,some e,rfl,W.r,F,hp,ha,fun H1 s1=>?_⟩
    have F1:=F.same s1
    rw [show endV (some e)=V.str e from rfl]
    walk_at "W"
    refine ⟨rfl,?_⟩
    rw [decide_eq_false (show ¬ V.str e=V.non by intro z;cases z)]
    walk_at "W"
    refine Zav F1.ob rfl ?_
    walk_at "W"
    refine ⟨fr,x,ws,e,0,rfl,F1,fun H2 k2 F2=>?_⟩
    walk_at "W"
    have k2':KeptX (inF3 fr) H1 H2:=k2.mono fun _ h=>.inl h
    exact kk [] H2 ((W.same s1).frame F1 ap k2') (by rw [List.append_nil];exact F2) Stp.nil (s1.keptX.trans (Zdv k2'))
   .refine ⟨R,Ar,_,_,fr,x,ws,pt,wd,nn,none,rfl,W.r,F,hp,ha,fun H1 s1=>?_⟩
    have F1:=F.same s1
    have hp1:Zbj K H1 pt wd nn:=s1.tup hp
    rw [show endV none=V.non from rfl]
    walk_at "W"
    refine ⟨j,dx,R,L,Ar,S0,m0,ds,fr,x,ws,pt,wd,nn,ds',x',ad,b1,b2,t,l,pr,d,rfl,W.same s1,F1,ap,hp1,hb1,hb2,hT,hD,hl,hw,hdl,fun vs H2 W2 F2 S2 k2=>?_⟩
    walk_at "W"
    exact kk vs H2 W2 F2 (S2.base fun b h=>s1.fresh h) (s1.keptX.trans k2)
end
section
variable {P:Program} {w:World} {K:PySem.W.Frag} {mg:Str->Option Value} {base:Heap}
theorem ZoC:FnScope ["rooms", "journal", "frame", "mark"] ["rooms", "journal", "frame"] (Zaf s_go):=by walk_at "c"
theorem ZoD  {k n:Nat} {cAccount cSave cNote:Addr} {cJournal:Addr} {cFrame:Addr} {cMove:Addr} (D:Zaq K mg "go" s_go) (tJournal:T_Journal K mg cJournal) (tFrame:T_Frame K mg cFrame) (tMove:T_Move K mg cMove) (m_Journal_mark:MCal P w K mg base 1 cJournal "mark" (spMark cJournal)) (i_Move:ICal P w K mg base 1 "Move" cMove (Zf8 cMove)) (m_Journal_back:MCal P w K mg base 3 cJournal "back" (spBack K cAccount cJournal cSave cMove cNote)) (c_write_step:Cal P w K mg base 4 "write_step" (ZbM K cAccount cJournal cSave cMove cNote cFrame)) (c_go_on:Cal P w K mg base (k+11) "go_on" (Zll K cAccount cJournal cSave cMove cNote cFrame n)):Cal P w K mg base (k+12) "go" (spGoW K cAccount cJournal cSave cMove cNote cFrame (n+1)):=by
 refine ZaA D ZoC (fun vs H Q E h=>?_) (by walk_at "b") (fun f cdv A outer s H vs Q E hr h=>?_)
 .obtain ⟨j,dx,R,L,A,S0,m0,ds,f,x,ds',y,st,rfl,_⟩:=h;rfl
 .obtain ⟨j,dx,R,L,Ar,S0,m0,ds,fr,x,ds',y,st,rfl,W,F,ap,⟨iw,ac,kt,ds1,st1,hfin,ew,hi,hac,hfit,hrun,hkt,hd1,rfl,rfl⟩,kk⟩:=h
  refine ⟨_,(Zab (Zay (i:=3) ZoC.nd rfl (by first|exact Or.inl rfl|exact Or.inr rfl) (Zdn m_Journal_mark (hr.mono (by omega)) (pv 1)))
   (Zab (ZkY (ZaK (PW.pt (ZiF (Zal ZaX (Zao (pv 2) rfl) Zai (nomark _)) (ZfD (Zal Zer (Zao (pv 2) rfl) Zac (nomark _))))) (Zae (ZaF (ZaB c_write_step (hr.mono (by omega)) rfl (Zaa (pv 1) (Zaa (pv 2) (Zaa (ZeF i_Move (hr.mono (by omega)) rfl (Zaa (Zao (pv 2) rfl) (Zaa (Zao (pv 2) rfl) (Zaa (Zao (pv 2) rfl) Zad)))) Zad)))))) Zap))
   (Zab (ZfF PassesOwn.never (Zal ZeD (Zao (pv 2) rfl) Zca (nomark _))
   (Zae (ZaF (ZaB c_go_on (hr.mono (by omega)) rfl (Zaa (pv 0) (Zaa (pv 1) (Zaa (pv 2) Zad)))))))
   (Zae (ZaK (Zal ZfG (Zao (pv 2) rfl) Zai (nomark _)) (Zae (ZaF (ZaN m_Journal_back (hr.mono (by omega)) (pv 1) (Zaa (pv 3) Zad)))) Zap))))),?_⟩
  walk_at "nx"
  obtain ⟨es,hes,J⟩:=W.J
  have hpr:=(hrun.pre (GoW.pre n)).1
  have hdl:ds.length<=100000:=Nat.le_trans (((List.prefix_append _ _).trans hpr).length_le) hd1
  have hel:es.length=ds.length:=by rw [<- hes,List.length_map]
  have hb:=W.b
  walk_at "W"
  refine Zav J.ob rfl ?_
  walk_at "W"
  refine ⟨j,dx,R,L,_,rfl,J.ob,J.li,?_⟩
  rw [List.length_map]
  walk_at "W"
  refine ZkX (fun σ' H'=>∃ pre,Wd K cAccount cJournal cSave cMove cNote H' j dx R L Ar S0 m0 (ds++(mvD x).toList)/\FrAt cFrame H' fr x pre/\Stp K H H' ((mvD x).toList.map tellD) pre/\KeptX (goX Ar L fr) H H'/\σ'=[some (.ref R),some (.ref j),some (.ref fr.a),some (.int (es.length:Nat))]) ?_ ?_
  .have nomv:mvD x=none->(∃ pre,Wd K cAccount cJournal cSave cMove cNote H j dx R L Ar S0 m0 (ds++(mvD x).toList)/\FrAt cFrame H fr x pre/\Stp K H H ((mvD x).toList.map tellD) pre/\KeptX (goX Ar L fr) H H/\[some (V.ref R),some (V.ref j),some (V.ref fr.a),some (V.int (es.length:Nat))]=[some (.ref R),some (.ref j),some (.ref fr.a),some (.int (es.length:Nat))]):=fun e=>by
    rw [e]
    exact ⟨[],by rw [show (none:Option Dd).toList=[] from rfl,List.append_nil];exact W,F,Stp.nil,KeptX.refl,rfl⟩
   walk_at "W"
   refine Zah F.ob tFrame.k.cl tFrame.n_kind rfl ?_
   walk_at "W'"
   .rename_i hk
    refine Zah F.ob tFrame.k.cl tFrame.n_coin rfl ?_
    walk_at "W'"
    .rename_i hc
     have hmv:mvD x=some (.move x.caller x.who x.coin):=by unfold mvD;rw [if_pos ⟨hk,hc⟩]
     refine Zah F.ob tFrame.k.cl tFrame.n_caller rfl ?_
     walk_at "W"
     refine Zah F.ob tFrame.k.cl tFrame.n_who rfl ?_
     walk_at "W"
     refine Zah F.ob tFrame.k.cl tFrame.n_coin rfl ?_
     walk_at "W"
     intro o odx hx hdx hne
     have hx2:(upd H odx (.own o)) o=none:=by rw [Zaj (Ne.symm hne)];exact hx
     refine ⟨o,odx,x.caller,x.who,x.coin,rfl,Zag,rfl,?_⟩
     rw [ZaT]
     have s1:Same H (upd (upd H odx (.own o)) o (.ins cMove odx (moveF x.caller x.who x.coin))):=(Same.new hdx).newT hx2
     have eo:(upd (upd H odx (.own o)) o (.ins cMove odx (moveF x.caller x.who x.coin))) o=some (.ins cMove odx (moveF x.caller x.who x.coin)):=Zag
     have J1:=J.same s1
     have W1:=W.same s1
     have F1:=F.same s1
     generalize upd (upd H odx (.own o)) o (.ins cMove odx (moveF x.caller x.who x.coin))=H1 at s1 eo J1 W1 F1
     walk_at "W"
     refine ⟨j,dx,R,L,Ar,_,_,es,⟨o,odx,.move x.caller x.who x.coin⟩,fr,x,[],rfl,J1,W1.r,eo,hfit _ hmv,by omega,by omega,F1,ap,Nat.zero_le _,fun t H2 ht k2 r2 J2 F2 et=>?_⟩
     walk_at "W"
     rw [hmv]
     exact ⟨[.ref t],W1.wrote hes r2 J2 trivial,F2,Stp.tell (s1.fresh ht) et,s1.keptX.trans k2,rfl⟩
    .rename_i hc
     exact nomv (by unfold mvD;rw [if_neg (fun z=>hc z.2)])
   .rename_i hk
    exact nomv (by unfold mvD;rw [if_neg (fun z=>hk z.1)])
  rintro σ1 H1 ⟨pre,W1,F1,S1,k1,rfl⟩
  have hpl:pre.length<=1:=by
   have:=DVs.length S1
   rw [List.length_map] at this
   cases e:mvD x with
   | none=>rw [e] at this;rw [<- this];exact Nat.zero_le _
   | some d=>rw [e] at this;rw [<- this];exact Nat.le_refl _
  generalize (mvD x).toList.map tellD=st0 at S1 kk
  walk_at "W"
  refine ⟨fun nn σ' H'=>∃ dx1 xx wz sa sb,RunW Ar S0 (GoW Ar S0 n) (S0 iw).rows nn dx1 xx ds1 y sb/\ds <+: dx1/\sa++sb=st0++st1/\Stp K H H' sa wz/\xx.whose=(iw:Int)/\2*nn+wz.length<=80001/\Wd K cAccount cJournal cSave cMove cNote H' j dx R L Ar S0 m0 dx1/\FrAt cFrame H' fr xx wz/\KeptX (goX Ar L fr) H H'/\σ'=[some (.ref R),some (.ref j),some (.ref fr.a),some (.int (es.length:Nat))],⟨kt,_,x,pre,st0,st1,hrun,List.prefix_append _ _,rfl,S1,ew,by omega,W1,F1,k1,rfl⟩,?_⟩
  rintro nn σ' H2 ⟨dx1,xx,wz,sa,sb,hrun2,hp2,esb,S2,ew2,hl2,W2,F2,k2,rfl⟩
  have hob:=F2.ob
  cases hrun2 with
  | done hf =>
   obtain ⟨ee,hee⟩:∃ e,y.fin=some e:=by
    cases e:y.fin with
    | none=>exact absurd e hf
    | some e'=>exact ⟨e',rfl⟩
   rw [List.append_nil] at esb
   subst esb
   have fl:(fldF fr y).lookup (Str.ofString "end")=some (V.str ee):=by show some (endV y.fin)=_;rw [hee];rfl
   walk_at "W"
   refine Zah F2.ob tFrame.k.cl tFrame.n_end fl ?_
   walk_at "W"
   refine ⟨rfl,?_⟩
   rw [decide_eq_false (show ¬ V.str ee=V.non by intro z;cases z)]
   walk_at "W"
   refine Zah F2.ob tFrame.k.cl tFrame.n_end fl ?_
   walk_at "W'"
   .rename_i hne
    have hw:¬ y.fin=some ("well" : Str):=by rw [hee];intro z;exact hne (Option.some.inj z)
    rw [if_neg hw] at kk
    obtain ⟨es2,hes2,J2⟩:=W2.J
    have hel2:es2.length=ds1.length:=by rw [<- hes2,List.length_map]
    refine Zav J2.ob rfl ?_
    walk_at "W"
    have r2:=W2.r
    have ri2:=W2.ri
    rw [<- hes2] at r2 ri2
    refine ⟨j,dx,R,L,Ar,S0,_,es2,(es.length:Nat),rfl,J2,r2,ri2,by rw [List.length_map];omega,fun H3 k3 r3 ri3 J3=>?_⟩
    have etk:(es2.take es.length).map (·.d)=ds:=by rw [List.map_take,hes2,hel];exact (List.prefix_iff_eq_take.mp hp2).symm
    rw [Int.toNat_natCast] at r3 ri3 J3
    rw [etk] at r3 ri3
    walk_at "W"
    have F3:=F2.out W2.r ap J2.li k3
    exact kk wz H3 ⟨⟨_,etk,J3⟩,r3.tight2 W.ti,ri3,W.ti,W.b⟩ F3 (S2.kept (Zld (f:=fr) k3) fun b z=>ZfA W F z) (k2.trans (Zld k3))
   .rename_i he
    subst he
    rw [if_pos hee] at kk
    exact kk wz H2 W2 F2 S2 k2
  | step hf o hl e q =>
   rename_i n1 dsn x' add sn
   have fl:(fldF fr xx).lookup (Str.ofString "end")=some V.non:=by show some (endV xx.fin)=_;rw [hf];rfl
   have op:=o.pre (GoW.pre n)
   have hdn:dx1.length<=100000:=Nat.le_trans ((op.1.trans (q.pre (GoW.pre n)).1).length_le) hd1
   walk_at "W"
   refine Zah F2.ob tFrame.k.cl tFrame.n_end fl ?_
   walk_at "W"
   refine ⟨fun σ' H'=>∃ m',m'<n1+1/\_,fun _ _ h=>h,?_⟩
   walk_at "W"
   refine ⟨j,dx,R,L,Ar,S0,m0,dx1,fr,xx,wz,dsn,x',add,iw,ac,rfl,W2,F2,ap,ew2,hi,hac,o,hl,by omega,hdn,fun vs H3 W3 F3 S3 k3=>?_⟩
   have d2:=Zfb k2 fun b z=>ZfA W2 F2 z
   have ln:=DVs.length S3
   have ol:=op.2
   walk_at "W"
   exact ⟨n1,Nat.lt_succ_self _,dsn,x',wz++vs,sa++add,sn,q,hp2.trans op.1,by rw [List.append_assoc];exact esb,(S2.kept k3 fun b z=>ZfA W F z).app (S3.base d2),by rw [e];exact ew2,by rw [List.length_append];omega,W3,F3,k2.trans k3,rfl⟩
theorem go_no {cAccount cJournal cSave cMove cNote cFrame:Addr} (D:Zaq K mg "go" s_go):Cal P w K mg base 8 "go" (spGoW K cAccount cJournal cSave cMove cNote cFrame 0) :=
 ZaA D ZoC (fun vs H Q E h=>by obtain ⟨j,dx,R,L,A,S0,m0,ds,f,x,ds',y,st,rfl,_⟩:=h;rfl) (by walk_at "b") (fun _ _ _ _ _ _ _ _ _ _ h=>by obtain ⟨_,_,_,_,_,_,_,_,_,_,_,_,_,_,_,_,_,h,_⟩:=h;exact h.elim)
theorem ZnF {cAccount cJournal cSave cMove cNote cFrame aC:Addr} (tC3:TupK K aC ((["call", "borrow", "look"]:List Str).map V.str)) (D_call_row:Zaq K mg "call_row" ZcH) (tFrame:T_Frame K mg cFrame) (m_Frame_left:MCal P w K mg base 1 cFrame "left" (spLeft cFrame)) (m_Frame_finish:MCal P w K mg base 1 cFrame "finish" (ZcI cFrame)) (m_Frame_tree:MCal P w K mg base 1 cFrame "tree" (spTree cFrame)) (m_Frame_lay:MCal P w K mg base 1 cFrame "lay" (spLay cFrame)) (c_other_call:Cal P w K mg base 3 "other_call" (Zir K cFrame)) (c_end_ahead_of_call:Cal P w K mg base 2 "end_ahead_of_call" (Zgo K cAccount cFrame)) (n_min:mg "min" = none) (D_go_row:Zaq K mg "go_row" Zef) (c_row_price:Cal P w K mg base 3 "row_price" (ZcJ K cAccount cFrame)) (c_do_row:Cal P w K mg base 6 "do_row" (Zis K cAccount cJournal cSave cMove cNote cFrame)) (g_CALLING:Za0 mg "CALLING" (.ref aC)) (D_go_on:Zaq K mg "go_on" ZfW) (tAccount:T_Account K mg cAccount) (c_end_ahead_of:Cal P w K mg base 4 "end_ahead_of" (Zim K cAccount cFrame)) (n_len:mg "len" = none) (D_go:Zaq K mg "go" s_go) (tJournal:T_Journal K mg cJournal) (tMove:T_Move K mg cMove) (m_Journal_mark:MCal P w K mg base 1 cJournal "mark" (spMark cJournal)) (i_Move:ICal P w K mg base 1 "Move" cMove (Zf8 cMove)) (m_Journal_back:MCal P w K mg base 3 cJournal "back" (spBack K cAccount cJournal cSave cMove cNote)) (c_write_step:Cal P w K mg base 4 "write_step" (ZbM K cAccount cJournal cSave cMove cNote cFrame)):∀ n,Cal P w K mg base (4*n+8) "go" (spGoW K cAccount cJournal cSave cMove cNote cFrame n)
 | 0=>go_no D_go
 | n+1 =>
  have c:=ZnF tC3 D_call_row tFrame m_Frame_left m_Frame_finish m_Frame_tree m_Frame_lay c_other_call c_end_ahead_of_call n_min D_go_row c_row_price c_do_row g_CALLING D_go_on tAccount c_end_ahead_of n_len D_go tJournal tMove m_Journal_mark i_Move m_Journal_back c_write_step n
  have c1:=Ziu (k:=4*n) (n:=n) D_call_row tFrame m_Frame_left m_Frame_finish m_Frame_tree m_Frame_lay c_other_call c_end_ahead_of_call (c) n_min
  have c2:=Zln (k:=4*n) (n:=n) tC3 D_go_row tFrame c_row_price (c1) c_do_row g_CALLING
  have c3:=ZmM (k:=4*n) (n:=n) D_go_on tAccount tFrame m_Frame_finish c_end_ahead_of (c2) n_len
  ZoD (k:=4*n) (n:=n) D_go tJournal tFrame tMove m_Journal_mark i_Move m_Journal_back c_write_step (c3)
end
def Zi9 (K:PySem.W.Frag) (C cJ cS cM cN:Addr):Sp:=fun vs H Q _=>∃ (j dx R L:Addr) (A:Nat->Option AcI) (S0:Nat->AcS) (m0:Nat) (ds:List Dd) (caller who coin word given:Int) (ds':List Dd) (y:FrS) (st:List Dt),vs=[.ref R,.ref j,.int caller,.int who,.int coin,.int word,.int given]/\Wd K C cJ cS cM cN H j dx R L A S0 m0 ds/\GoW A S0 10 ds (frame0 "call" who who caller coin word given 1 false) ds' y st /\
 ∀ p H',Wd K C cJ cS cM cN H' j dx R L A S0 m0 ds'->Stp K H H' [treeD y st] [.ref p]->KeptX (fun b=>¬ Out A b\/b=L) H H'->Q (.ref p) H'
section
variable {P:Program} {w:World} {K:PySem.W.Frag} {mg:Str->Option Value} {base:Heap}
theorem Zja:FnScope ["rooms", "journal", "caller", "who", "coin", "word", "given", "frame"] ["rooms", "journal", "caller", "who", "coin", "word", "given"] (Zaf ZhU):=by walk_at "c"
theorem ZmN   {cFrame:Addr} (D:Zaq K mg "enter" ZhU) (tFrame:T_Frame K mg cFrame) (m_Frame_tree:MCal P w K mg base 1 cFrame "tree" (spTree cFrame)) (c_go:Cal P w K mg base 48 "go" (spGoW K cAccount cJournal cSave cMove cNote cFrame 10)) (iD7_Frame:ZhP P w K mg base 1 "Frame" cFrame (ZeW cFrame) [.int 1,.bl false]):Cal P w K mg base 49 "enter" (Zi9 K cAccount cJournal cSave cMove cNote):=by
 refine ZaA D Zja (fun vs H Q E h=>?_) (by walk_at "b") (fun f cdv A outer s H vs Q E hr h=>?_)
 .obtain ⟨j,dx,R,L,A,S0,m0,ds,caller,who,coin,word,given,ds',y,st,rfl,_⟩:=h;rfl
 .obtain ⟨j,dx,R,L,Ar,S0,m0,ds,caller,who,coin,word,given,ds',y,st,rfl,W,hG,k⟩:=h
  refine ⟨_,(Zab (Zay (i:=7) Zja.nd rfl (by first|exact Or.inl rfl|exact Or.inr rfl) (Zee iD7_Frame (hr.mono (by decide)) rfl (Zaa Zai (Zaa (pv 3) (Zaa (pv 3) (Zaa (pv 2) (Zaa (pv 4) (Zaa (pv 5) (Zaa (pv 6) Zad)))))))))
   (Zab (ZaF (ZaB c_go (hr.mono (by decide)) rfl (Zaa (pv 0) (Zaa (pv 1) (Zaa (pv 7) Zad)))))
   (Zae (Zak (Zdn m_Frame_tree (hr.mono (by decide)) (pv 7)))))),?_⟩
  walk_at "nx"
  walk_at "W"
  refine Zmz ?_
  walk_at "W"
  intro a adx ha hadx hne
  have ha2:(upd H adx (.own a)) a=none:=by rw [Zaj (Ne.symm hne)];exact ha
  have s1:Same H (upd (upd H adx (.own a)) a (.ins cFrame adx [])):=(Same.new hadx).newT ha2
  refine ⟨a,adx, "call", who,who,caller,coin,word,given,1,false,rfl,Zag,fun ST SS H1 hST hSS F1 k1=>?_⟩
  have nf:NewF H ⟨a,adx,ST,SS⟩:=⟨ha,s1.fresh hST,s1.fresh hSS⟩
  have sa:Same H H1:=fun b o e=>k1 b o (s1 b o e) (Zam e ha)
  have W1:=W.same sa
  refine ⟨rfl,?_⟩
  walk_at "W"
  refine ⟨j,dx,R,L,Ar,S0,m0,ds,⟨a,adx,ST,SS⟩,_,ds',y,st,rfl,W1,F1,nf.ap W,hG,fun vs H2 W2 F2 S2 k2=>?_⟩
  rw [List.nil_append] at F2
  have d2:∀ b,H2 b=none->H b=none:=fun b h=>sa.fresh (Zfb k2 (fun b z=>ZfA W2 F2 z) b h)
  have kX:KeptX (fun b=>¬ Out Ar b\/b=L) H H2:=fun b o e nb=>k2 b o (sa b o e) fun z=>by
   rcases z with z|z|z
   .exact nb (.inl z)
   .exact nb (.inr z)
   .exact nf.not (by rw [e];intro q;cases q) z
  walk_at "W"
  refine Zav F2.ob rfl ?_
  refine ⟨⟨a,adx,ST,SS⟩,y,_,rfl,F2,fun p T H3 s3 hp hT e1 e2=>?_⟩
  exact k p H3 (W2.same s3) (((S2.base fun b h=>sa.fresh h).same s3).tree (d2 _ hT) e1 (d2 _ hp) e2) (kX.trans s3.keptX)
end
section
variable {A:Nat->Option AcI} {S0:Nat->AcS} {G:GR} {rows:List Row} {n i i':Nat} {ds ds' ds1 ds2:List Dd} {x x' y:FrS} {s:List Dt} {st st':List Int} {w:Str} {nn:Option Int} {u u' r t l c:Int}
theorem ZbZ (a:List Int) (b:Int):(a++[b]).length=a.length+1:=by rw [List.length_append];rfl
end
theorem Ziv (S:Nat->AcS) (a b:List Dd):runS S (a++b)=runS (runS S a) b:=by unfold runS;rw [List.foldl_append]
theorem Zlo (S:Nat->AcS) (a b:Nat) (k:Int) (j:Nat):(doneS S (.move (a:Int) (b:Int) k) j).coin=(S j).coin-(if j=a then k else 0)+(if j=b then k else 0)/\(doneS S (.move (a:Int) (b:Int) k) j).store=(S j).store:=by
 show (moved S _ _ k j).coin=_/\(moved S _ _ k j).store=_
 rw [Zbu,Int.toNat_natCast,Int.toNat_natCast];exact ⟨rfl,rfl⟩
theorem Zlp (S:Nat->AcS) (a:Nat) (p o v:Int) (j:Nat):(doneS S (.save (a:Int) p o v) j).coin=(S j).coin/\∀ q,(doneS S (.save (a:Int) p o v) j).store q=if j=a/\q=p then v else (S j).store q:=by
 show (setS S _ _ j).coin=_/\∀ q,(setS S _ _ j).store q=_
 rw [Int.toNat_natCast]
 unfold setS
 by_cases e:j=a
 .rw [if_pos e,<- e]
  refine ⟨rfl,fun q=>?_⟩
  show putFn (S j).store p v q=_
  unfold putFn
  by_cases e2:q=p
  .rw [if_pos e2,if_pos ⟨rfl,e2⟩]
  .rw [if_neg e2,if_neg (fun z=>e2 z.2)]
 .rw [if_neg e];exact ⟨rfl,fun q=>by rw [if_neg (fun z=>e z.1)]⟩
section
end
theorem ZmO {A:Nat->Option AcI} {S0:Nat->AcS} {G:GR} {w:Str} {ds ds':List Dd} {x y y':FrS} {s:List Int} {st:List Dt} (gv:Int) (hO:Zhm x w s y) (hl:s.length<=900) (ha:ZdV A (runS S0 ds) y none) (hgv:(if x.given-x.used<y.given then x.given-x.used else y.given)=gv) (hG:G ds { y with given:=gv } ds' y' st):Zlj A S0 G w ds x ds' { x with stack:=s++[y'.answer,wellI y'.fin],used:=x.used+y'.used } (treeD y' st) :=
 ⟨s,y,y',st,none,hO,rfl,rfl,hl,ha,.inr ⟨rfl,by rw [hgv];exact hG⟩⟩
theorem ZmP {A:Nat->Option AcI} {S0:Nat->AcS} {G:GR} {w:Str} {ds:List Dd} {x y:FrS} {s:List Int} {e:Str} (hO:Zhm x w s y) (hl:s.length<=900) (ha:ZdV A (runS S0 ds) y (some e)):Zlj A S0 G w ds x ds { x with stack:=s++[0,wellI (some e)],used:=x.used+y.used } (treeD { y with given:=0,fin:=some e,answer:=0 } []) :=
 ⟨s,y,_,[],some e,hO,rfl,rfl,hl,ha,.inl ⟨e,rfl,rfl,rfl,rfl⟩⟩
noncomputable def totalC (ss:List Nat) (S:Nat->AcS):Int:=(ss.map fun i=>(S i).coin).sum
theorem Zfc (f g h:Nat->Int):∀ ss:List Nat,(ss.map fun n=>f n-g n+h n).sum=(ss.map f).sum-(ss.map g).sum+(ss.map h).sum
 | []=>by simp
 | s::ss=>by
  have:=Zfc f g h ss
  simp only [List.map_cons,List.sum_cons]
  omega
theorem Zlq (i:Nat) (k:Int):∀ ss:List Nat,i∉ss->(ss.map fun n=>if n=i then k else 0).sum=0
 | [],_=>by simp
 | s::ss,h=>by
  have h1:s≠i:=fun z=>h (by simp [z])
  have:=Zlq i k ss fun z=>h (by simp [z])
  rw [List.map_cons,List.sum_cons,if_neg h1,this]
  rfl
theorem Zhq (i:Nat) (k:Int):∀ ss:List Nat,ss.Nodup->i∈ss->(ss.map fun n=>if n=i then k else 0).sum=k
 | [],_,h=>by simp at h
 | s::ss,hn,h=>by
  obtain ⟨n1,n2⟩:=List.nodup_cons.mp hn
  rw [List.map_cons,List.sum_cons]
  rcases List.mem_cons.mp h with rfl|h
  .rw [if_pos rfl,Zlq _ k ss n1];omega
  .rw [if_neg (fun z=>n1 (by rw [z];exact h)),Zhq i k ss n2 h];omega
theorem ZjO {A:Nat->Option AcI} {ss:List Nat} (hn:ss.Nodup) (hA:∀ i x,i<16->A i=some x->i∈ss) {S:Nat->AcS} {d:Dd} (hf:fitsD A d):totalC ss (doneS S d)=totalC ss S:=by
 unfold totalC
 cases d with
 | save s p o n =>
  have:(fun i=>(doneS S (.save s p o n) i).coin)=fun i=>(S i).coin:=by
   funext i
   show (setS S s.toNat _ i).coin=_
   unfold setS
   by_cases z:i=s.toNat
   .rw [if_pos z,z]
   .rw [if_neg z]
  rw [this]
 | move s t k =>
  obtain ⟨⟨i,x,rfl,hi,hx⟩,j,y,rfl,hj,hy⟩:=hf
  have:(fun n=>(doneS S (.move i j k) n).coin)=fun n=>(S n).coin-(if n=i then k else 0)+(if n=j then k else 0):=by
   funext n
   show (moved S _ _ k n).coin=_
   rw [Zbu,Int.toNat_natCast,Int.toNat_natCast]
  rw [this,Zfc,Zhq i k ss hn (hA i x hi hx),Zhq j k ss hn (hA j y hj hy)]
  omega
 | note s n=>rfl
theorem ZoE {S0:Nat->AcS} {ds:List Dd} {d:Dd} (h:∀ q i,0<=(runS S0 (ds.take q) i).coin) (h2:∀ i,0<=(doneS (runS S0 ds) d i).coin) (q i:Nat):0<=(runS S0 ((ds++[d]).take q) i).coin:=by
 by_cases z:q<=ds.length
 .rw [List.take_append_of_le_length z];exact h q i
 .rw [List.take_of_length_le (by rw [List.length_append];show ds.length+1<=q;omega),Zdq];exact h2 i
structure Wk (K:PySem.W.Frag) (C cJ cS cM cN:Addr) (H0 H:Hp) (j dx R L:Addr) (A:Nat->Option AcI) (S0:Nat->AcS) (es:List DI) (m:Nat):Prop where
 jr:Jr cJ cS cM cN H j dx R L A es
 ro:Rooms K C H R A (runS S0 (es.map (·.d))) m
 ri:Zbl S0 (es.map (·.d))
 nn:∀ q i,0<=(runS S0 ((es.map (·.d)).take q) i).coin
 fr:∀ b o,Out A b->b≠L->H0 b=some o->H b=some o
section
variable {K:PySem.W.Frag} {C cJ cS cM cN:Addr} {H0 H H':Hp} {j dx R L:Addr} {A:Nat->Option AcI} {S0:Nat->AcS} {es:List DI} {m:Nat}
theorem Wk.same (W:Wk K C cJ cS cM cN H0 H j dx R L A S0 es m) (s:Same H H'):Wk K C cJ cS cM cN H0 H' j dx R L A S0 es m:=⟨W.jr.same s,W.ro.same s,W.ri,W.nn,fun b o h1 h2 h3=>s _ _ (W.fr b o h1 h2 h3)⟩
theorem Wk.write (W:Wk K C cJ cS cM cN H0 H j dx R L A S0 es m) {e:DI} (k:∀ b,Out A b->b≠L->H' b=H b) (r:Rooms K C H' R A (doneS (runS S0 (es.map (·.d))) e.d) (m+1)) (J:Jr cJ cS cM cN H' j dx R L A (es++[e])) (hr:rightD (runS S0 (es.map (·.d))) e.d) (hn:∀ i,0<=(doneS (runS S0 (es.map (·.d))) e.d i).coin):Wk K C cJ cS cM cN H0 H' j dx R L A S0 (es++[e]) (m+1):=by
 have em:(es++[e]).map (·.d)=es.map (·.d)++[e.d]:=by rw [List.map_append];rfl
 refine ⟨J,by rw [em,Zdq];exact r,by rw [em];exact (ZbD _ _ _).mpr ⟨W.ri,hr⟩,by rw [em];exact ZoE W.nn hn,fun b o h1 h2 h3=>?_⟩
 rw [k b h1 h2]
 exact W.fr b o h1 h2 h3
theorem Wk.back {m':Nat} (W:Wk K C cJ cS cM cN H0 H j dx R L A S0 es m) {n:Nat} (k:∀ b,Out A b->b≠L->H' b=H b) (r:Rooms K C H' R A (runS S0 ((es.take n).map (·.d))) m') (ri:Zbl S0 ((es.take n).map (·.d))) (J:Jr cJ cS cM cN H' j dx R L A (es.take n)):Wk K C cJ cS cM cN H0 H' j dx R L A S0 (es.take n) m':=by
 refine ⟨J,r,ri,fun q i=>?_,fun b o h1 h2 h3=>?_⟩
 .rw [List.map_take,List.take_take];exact W.nn _ i
 .rw [k b h1 h2];exact W.fr b o h1 h2 h3
end
theorem coin_move {S:Nat->AcS} {i j:Nat} {k:Int} (h:∀ n,0<=(S n).coin) (h0:0<=k) (h1:k<=(S i).coin) (n:Nat):0<=(doneS S (.move i j k) n).coin:=by
 show 0<=(moved S _ _ k n).coin
 rw [Zbu,Int.toNat_natCast,Int.toNat_natCast]
 have:=h n
 dsimp only
 by_cases z:n=i
 .subst z
  rw [if_pos rfl]
  split<;>omega
 .rw [if_neg z]
  split<;>omega
theorem Zhr (f:Nat->Int):∀ l:List Nat,(∀ i∈l,0<=f i)->0<=(l.map f).sum/\∀ i∈l,f i<=(l.map f).sum
 | [],_=>⟨by simp,fun _ h=>nomatch h⟩
 | j::l,h=>by
  obtain ⟨a,b⟩:=Zhr f l fun i hi=>h i (List.mem_cons_of_mem _ hi)
  have hj:=h j (List.mem_cons_self ..)
  rw [List.map_cons,List.sum_cons]
  refine ⟨by omega,fun i hi=>?_⟩
  rcases List.mem_cons.1 hi with rfl|hi
  .omega
  .have:=b i hi;omega
structure SOk (S:Nat->AcS):Prop where
 st:∀ i q,In64 ((S i).store q)
 co:∀ i,i<16->0<=(S i).coin
 to:totalC (List.range 16) S<18446744073709551616
theorem SOk.coin {S:Nat->AcS} (h:SOk S) {i:Nat} (hi:i<16):In64 ((S i).coin):=by
 have g:=(Zhr (fun i=>(S i).coin) (List.range 16) fun i hi=>h.co i (List.mem_range.1 hi)).2 i (List.mem_range.2 hi)
 have:=h.co i hi
 have ht:=h.to
 unfold totalC at ht
 exact ⟨this,by show _<_;omega⟩
theorem SOk.note {S:Nat->AcS} (h:SOk S) (a b:Int):SOk (doneS S (.note a b)):=h
theorem SOk.save {S:Nat->AcS} (h:SOk S) (i:Nat) (p o v:Int) (hv:In64 v):SOk (doneS S (.save (i:Int) p o v)):=by
 have e:=Zlp S i p o v
 refine ⟨fun j q=>?_,fun j hj=>?_,?_⟩
 .rw [(e j).2];split
  .exact hv
  .exact h.st j q
 .rw [(e j).1];exact h.co j hj
 .have:totalC (List.range 16) (doneS S (.save (i:Int) p o v))=totalC (List.range 16) S:=by
   unfold totalC
   rw [show (fun j=>(doneS S (.save (i:Int) p o v) j).coin)=fun j=>(S j).coin from funext fun j=>(e j).1]
  rw [this];exact h.to
theorem SOk.move {S:Nat->AcS} {A:Nat->Option AcI} (h:SOk S) {i j:Nat} {x y:AcI} (hi:i<16) (hj:j<16) (hx:A i=some x) (hy:A j=some y) {c:Int} (c0:0<=c) (hc:c<=(S i).coin):SOk (doneS S (.move (i:Int) (j:Int) c)):=by
 have e:=Zlo S i j c
 refine ⟨fun n q=>?_,fun n hn=>?_,?_⟩
 .rw [(e n).2];exact h.st n q
 .rw [(e n).1]
  have:=h.co n hn
  by_cases z:n=i
  .rw [if_pos z,z];split<;>omega
  .rw [if_neg z];split<;>omega
 .rw [ZjO (A:=A) (d:=.move (i:Int) (j:Int) c) (List.nodup_range) (fun n _ hn _=>List.mem_range.2 hn) ⟨⟨i,x,rfl,hi,hx⟩,j,y,rfl,hj,hy⟩];exact h.to
def Zbo (r:Row):Prop:=(∃ q,RT.lookup r.1=some q)/\(r.1 = "push" -> ∃ k,r.2=some k/\In64 k)/\(inS r.1 ["copy", "swap"]=true->∃ k,r.2=some k/\0<=k/\(r.1 = "swap" -> 1<=k))/\(inS r.1 ["jump", "jumpif"]=true->∃ k,r.2=some k/\0<=k)
structure FOk (A:Nat->Option AcI) (x:FrS):Prop where
 fin:x.fin=none
 who:∃ i y,x.who=((i:Nat):Int)/\i<16/\A i=some y
 cal:In64 x.caller
 coi:In64 x.coin
 wor:In64 x.word
 stk:∀ k∈x.stack,In64 k
 len:x.stack.length<=24
 row:0<=x.row
 use:0<=x.used/\x.used<=x.given
 dep:1<=x.depth/\x.depth<=8
structure InOk (A:Nat->Option AcI) (S:Nat->AcS) (y:FrS):Prop where
 ok:FOk A y
 wh:∃ i z,y.whose=((i:Nat):Int)/\i<16/\A i=some z
 z:y.used=0
 mv:y.kind = "call" -> 0<y.coin->(∃ i z,y.caller=((i:Nat):Int)/\i<16/\A i=some z/\y.coin<=(S i).coin)
structure Outc (S0:Nat->AcS) (ds:List Dd) (x:FrS) (ds':List Dd) (y:FrS):Prop where
 fin:∃ e,y.fin=some e
 ans:In64 y.answer
 use:x.used<=y.used/\y.used<=x.given
 giv:y.given=x.given
 so:SOk (runS S0 ds')
 len:ds'.length<=ds.length+1+(y.used-x.used).toNat
def GOk (A:Nat->Option AcI) (S0:Nat->AcS) (G:GR) (dd:Int):Prop:=∀ ds y,SOk (runS S0 ds)->InOk A (runS S0 ds) y->y.depth=dd+1->(ds.length:Int)+y.given<=89999->y.given<=30000->∃ ds' y' st,G ds y ds' y' st/\Outc S0 ds y ds' y'
theorem Zjb (e:Option Str):In64 (wellI e):=by unfold wellI;split<;>exact ⟨by decide,by decide⟩
def Did (A:Nat->Option AcI) (S0:Nat->AcS) (G:GR) (ds:List Dd) (x:FrS) (w:Str) (n:Option Int):Prop:=∃ ds' x' ad,DoW A S0 G w n ds x ds' x' ad/\x'.whose=x.whose/\x'.given=x.given/\x'.depth=x.depth/\(x.used<=x'.used/\x'.used<=x.given)/\SOk (runS S0 ds')/\ds'.length<=ds.length+1+(x'.used-x.used).toNat/\((∃ e,x'.fin=some e/\In64 x'.answer)\/FOk A x')
section
variable {A:Nat->Option AcI} {S0:Nat->AcS} {G:GR} {ds:List Dd} {x:FrS}
theorem t_sn {s:List Int} {v:Int} {l:List Int} (h:x.stack=s++l) (X:FOk A x):(∀ k∈s,In64 k)/\(∀ k∈l,In64 k)/\s.length+l.length=x.stack.length:=⟨fun k hk=>X.stk k (by rw [h];exact List.mem_append.2 (.inl hk)),fun k hk=>X.stk k (by rw [h];exact List.mem_append.2 (.inr hk)),by rw [h,List.length_append]⟩
theorem sn1' {st:List Int} (h:1<=st.length):∃ s v,st=s++[v]:=⟨st.dropLast,st.getLast (by intro z;rw [z] at h;simp at h),(List.dropLast_concat_getLast _).symm⟩
theorem sn2' {st:List Int} (h:2<=st.length):∃ s a b,st=s++[a,b]:=by
 obtain ⟨s,v,rfl⟩:=sn1' (st:=st) (by omega)
 obtain ⟨s2,v2,rfl⟩:=sn1' (st:=s) (by rw [ZbZ] at h;omega)
 exact ⟨s2,v2,v,by rw [List.append_assoc];rfl⟩
theorem sn3' {st:List Int} (h:3<=st.length):∃ s a b c,st=s++[a,b,c]:=by
 obtain ⟨s,v,rfl⟩:=sn1' (st:=st) (by omega)
 obtain ⟨s2,a,b,rfl⟩:=sn2' (st:=s) (by rw [ZbZ] at h;omega)
 exact ⟨s2,a,b,v,by rw [List.append_assoc];rfl⟩
theorem sn4' {st:List Int} (h:4<=st.length):∃ s a b c d,st=s++[a,b,c,d]:=by
 obtain ⟨s,v,rfl⟩:=sn1' (st:=st) (by omega)
 obtain ⟨s2,a,b,c,rfl⟩:=sn3' (st:=s) (by rw [ZbZ] at h;omega)
 exact ⟨s2,a,b,c,v,by rw [List.append_assoc];rfl⟩
theorem FOk.put (X:FOk A x) {s:List Int} {r:Int} (h:∀ k∈s,In64 k) (hl:s.length<=24) (hr:0<=r):FOk A { x with stack:=s,row:=r }:=⟨X.fin,X.who,X.cal,X.coi,X.wor,h,hl,hr,X.use,X.dep⟩
theorem tin {s:List Int} {l:List Int} (h:∀ k∈s,In64 k) (h2:∀ k∈l,In64 k):∀ k∈s++l,In64 k:=fun k hk=>(List.mem_append.1 hk).elim (h k) (h2 k)
theorem tin1 {v:Int} (h:In64 v):∀ k∈[v],In64 k:=fun k hk=>by rw [List.mem_singleton.1 hk];exact h
theorem ZdW {w:Str} {n:Option Int} {D:RD} {x':FrS} (X:FOk A x) (S:SOk (runS S0 ds)) (hC:inS w ["call", "borrow", "look"]=false) (hR:RDL.lookup w=some D) (hD:D x w n x') (h1:x'.whose=x.whose/\x'.given=x.given/\x'.depth=x.depth/\x'.used=x.used) (hz:(∃ e,x'.fin=some e/\In64 x'.answer)\/FOk A x'):Did A S0 G ds x w n :=
 ⟨ds,x',[],.pure hC hR hD,h1.1,h1.2.1,h1.2.2.1,by rw [h1.2.2.2];exact ⟨Int.le_refl _,X.use.2⟩,S,by omega,hz⟩
theorem did_me (X:FOk A x) (S:SOk (runS S0 ds)) {n:Option Int} (hl:x.stack.length+1<=24):Did A S0 G ds x "me" n:=by
 exact ZdW (D:=rMe) X S rfl rfl rfl ⟨rfl,rfl,rfl,rfl⟩ (.inr (X.put (r:=x.row) (tin X.stk (tin1 (by obtain ⟨i,_,e,h,_⟩:=X.who;rw [e];exact ⟨by omega,by show _<_;omega⟩))) (by rw [ZbZ];exact hl) X.row))
theorem ZmQ (X:FOk A x) (S:SOk (runS S0 ds)) {n:Option Int} (hl:x.stack.length+1<=24):Did A S0 G ds x "from" n:=by
 exact ZdW (D:=rFrom) X S rfl rfl rfl ⟨rfl,rfl,rfl,rfl⟩ (.inr (X.put (r:=x.row) (tin X.stk (tin1 X.cal)) (by rw [ZbZ];exact hl) X.row))
theorem ZmR (X:FOk A x) (S:SOk (runS S0 ds)) {n:Option Int} (hl:x.stack.length+1<=24):Did A S0 G ds x "sent" n:=by
 exact ZdW (D:=rSent) X S rfl rfl rfl ⟨rfl,rfl,rfl,rfl⟩ (.inr (X.put (r:=x.row) (tin X.stk (tin1 X.coi)) (by rw [ZbZ];exact hl) X.row))
theorem ZmS (X:FOk A x) (S:SOk (runS S0 ds)) {n:Option Int} (hl:x.stack.length+1<=24):Did A S0 G ds x "word" n:=by
 exact ZdW (D:=rWord) X S rfl rfl rfl ⟨rfl,rfl,rfl,rfl⟩ (.inr (X.put (r:=x.row) (tin X.stk (tin1 X.wor)) (by rw [ZbZ];exact hl) X.row))
theorem ZmT (X:FOk A x) (S:SOk (runS S0 ds)) {k:Int} (hk:In64 k) (hl:x.stack.length+1<=24):Did A S0 G ds x "push" (some k):=by
 exact ZdW (D:=rPush) X S rfl rfl ⟨k,rfl,rfl⟩ ⟨rfl,rfl,rfl,rfl⟩ (.inr (X.put (r:=x.row) (tin X.stk (tin1 hk)) (by rw [ZbZ];exact hl) X.row))
theorem ZmU (X:FOk A x) (S:SOk (runS S0 ds)) {k:Int} (hk:0<=k):Did A S0 G ds x "jump" (some k):=by
 exact ZdW (D:=rJump) X S rfl rfl ⟨k,rfl,rfl⟩ ⟨rfl,rfl,rfl,rfl⟩ (.inr (X.put (s:=x.stack) X.stk X.len hk))
theorem ZmV (X:FOk A x) (S:SOk (runS S0 ds)) {n:Option Int} (hl:1<=x.stack.length):Did A S0 G ds x "drop" n:=by
 obtain ⟨s,v,e⟩:=sn1' hl
 have t:=t_sn (v:=v) e X
 have hx:=X.len
 exact ZdW (D:=rDrop) X S rfl rfl ⟨s,v,e,rfl⟩ ⟨rfl,rfl,rfl,rfl⟩ (.inr (X.put (r:=x.row) t.1 (by have:=t.2.2;omega) X.row))
theorem ZjP (X:FOk A x) (S:SOk (runS S0 ds)) {k:Int} (hk:0<=k) (hl:1<=x.stack.length):Did A S0 G ds x "jumpif" (some k):=by
 obtain ⟨s,v,e⟩:=sn1' hl
 have t:=t_sn (v:=v) e X
 have hx:=X.len
 exact ZdW (D:=Zgf) X S rfl rfl ⟨k,s,v,rfl,e,rfl⟩ ⟨rfl,rfl,rfl,rfl⟩ (.inr (X.put (r:=if v=0 then x.row else k) t.1 (by have:=t.2.2;omega) (by have h1:=X.row;split<;>assumption)))
theorem ZmW (X:FOk A x) (S:SOk (runS S0 ds)) {n:Option Int} (hl:1<=x.stack.length):Did A S0 G ds x "give" n:=by
 obtain ⟨s,v,e⟩:=sn1' hl
 have t:=t_sn (v:=v) e X
 exact ZdW (D:=rGive) X S rfl rfl ⟨s,v,e,rfl⟩ ⟨rfl,rfl,rfl,rfl⟩ (.inl ⟨_,rfl,t.2.1 v (List.mem_singleton.2 rfl)⟩)
theorem ZmX (X:FOk A x) (S:SOk (runS S0 ds)) {n:Option Int} (hl:1<=x.stack.length):Did A S0 G ds x "fail" n:=by
 obtain ⟨s,v,e⟩:=sn1' hl
 have t:=t_sn (v:=v) e X
 exact ZdW (D:=rFail) X S rfl rfl ⟨s,v,e,rfl⟩ ⟨rfl,rfl,rfl,rfl⟩ (.inl ⟨_,rfl,t.2.1 v (List.mem_singleton.2 rfl)⟩)
theorem ZmY (X:FOk A x) (S:SOk (runS S0 ds)) {k:Int} (hk:0<=k) (hl:1+k<=(x.stack.length:Int)) (h2:x.stack.length+1<=24):Did A S0 G ds x "copy" (some k):=by
 obtain ⟨k,rfl⟩:∃ m:Nat,k=(m:Int):=⟨k.toNat,by omega⟩
 obtain ⟨v,hv⟩:∃ v,x.stack[x.stack.length-1-k]?=some v:=⟨_,List.getElem?_eq_getElem (by omega)⟩
 exact ZdW (D:=rCopy) X S rfl rfl ⟨k,v,rfl,by omega,hv,rfl⟩ ⟨rfl,rfl,rfl,rfl⟩ (.inr (X.put (r:=x.row) (tin X.stk (tin1 (X.stk v (List.mem_of_getElem? hv)))) (by rw [ZbZ];exact h2) X.row))
theorem Zlr {st:List Int} {k:Nat} (h:k+1<st.length):∃ s m a b,m.length=k/\st=s++a::(m++[b]):=by
 obtain ⟨s0,b,rfl⟩:=sn1' (st:=st) (by omega)
 rw [ZbZ] at h
 refine ⟨s0.take (s0.length-1-k),s0.drop (s0.length-k),s0[s0.length-1-k]'(by omega),b,by rw [List.length_drop];omega,?_⟩
 have e:=List.take_append_drop (s0.length-1-k) s0
 rw [List.drop_eq_getElem_cons (by omega),show s0.length-1-k+1=s0.length-k by omega] at e
 exact (congrArg (·++[b]) e).symm.trans (by rw [List.append_assoc];rfl)
theorem ZmZ (X:FOk A x) (S:SOk (runS S0 ds)) {k:Int} (hk:1<=k) (hl:1+k<=(x.stack.length:Int)):Did A S0 G ds x "swap" (some k):=by
 obtain ⟨k,rfl⟩:∃ m:Nat,k=((m+1:Nat):Int):=⟨(k-1).toNat,by omega⟩
 obtain ⟨s,m,a,b,hml,e⟩:=Zlr (st:=x.stack) (k:=k) (by omega)
 subst hml
 have hs:=X.stk
 have hx:=X.len
 rw [e] at hs hx
 refine ZdW (D:=rSwap) (x':={ x with stack:=s++b::(m++[a]) }) X S rfl rfl ⟨s,m,a,b,rfl,e,rfl⟩ ⟨rfl,rfl,rfl,rfl⟩ (.inr (X.put (r:=x.row) (fun k hk=>hs k ?_) ?_ X.row))
 .simp only [List.mem_append,List.mem_cons,List.not_mem_nil,or_false] at hk |-
  rcases hk with h|h|h|h
  .exact .inl h
  .exact .inr (.inr (.inr h))
  .exact .inr (.inr (.inl h))
  .exact .inr (.inl h)
 .simp at hx |-;omega
theorem Zbz {w:Str} {n:Option Int} {f:Int->Int->Int} (X:FOk A x) (S:SOk (runS S0 ds)) (hk:RK.lookup w=some f) (hR:RDL.lookup w=some rReck) (hC:inS w ["call", "borrow", "look"]=false) (hf:∀ a b,ZaW a b->In64 (f a b)) (hl:2<=x.stack.length):Did A S0 G ds x w n:=by
 obtain ⟨s,a,b,e⟩:=sn2' hl
 have t:=t_sn (v:=a) e X
 have hx:=X.len
 have hab:ZaW a b:=⟨t.2.1 a (by simp),t.2.1 b (by simp)⟩
 exact ZdW (D:=rReck) X S hC hR ⟨f,s,a,b,hk,e,hab,rfl⟩ ⟨rfl,rfl,rfl,rfl⟩ (.inr (X.put (r:=x.row) (tin t.1 (tin1 (hf a b hab))) (by have:=t.2.2;rw [ZbZ];simp at this;omega) X.row))
theorem Zm0 (X:FOk A x) (S:SOk (runS S0 ds)) {n:Option Int} (hl:1<=x.stack.length):Did A S0 G ds x "load" n:=by
 obtain ⟨s,v,e⟩:=sn1' hl
 have t:=t_sn (v:=v) e X
 have hx:=X.len
 obtain ⟨i,y,ew,hi,hy⟩:=X.who
 exact ⟨ds,_,[],.load ew hi hy e,rfl,rfl,rfl,⟨Int.le_refl _,X.use.2⟩,S,by omega,.inr (X.put (r:=x.row) (tin t.1 (tin1 (S.st i v))) (by have:=t.2.2;rw [ZbZ];simp at this;omega) X.row)⟩
theorem ZoF (S:SOk (runS S0 ds)) (A:Nat->Option AcI) (v:Int):In64 (Ze4 A (runS S0 ds) v):=by
 unfold Ze4
 split
 .rename_i h
  split
  .exact S.coin (by omega)
  .exact ⟨by decide,by decide⟩
 .exact ⟨by decide,by decide⟩
theorem Zm1 (X:FOk A x) (S:SOk (runS S0 ds)) {n:Option Int} (hl:1<=x.stack.length):Did A S0 G ds x "coin" n:=by
 obtain ⟨s,v,e⟩:=sn1' hl
 have t:=t_sn (v:=v) e X
 have hx:=X.len
 exact ⟨ds,_,[],.coin e,rfl,rfl,rfl,⟨Int.le_refl _,X.use.2⟩,S,by omega,.inr (X.put (r:=x.row) (tin t.1 (tin1 (ZoF S A v))) (by have:=t.2.2;rw [ZbZ];simp at this;omega) X.row)⟩
theorem Zm2 (X:FOk A x) (S:SOk (runS S0 ds)) {n:Option Int} (hl:1<=x.stack.length):Did A S0 G ds x "note" n:=by
 obtain ⟨s,v,e⟩:=sn1' hl
 have t:=t_sn (v:=v) e X
 have hx:=X.len
 exact ⟨ds++[_],_,[_],.note e,rfl,rfl,rfl,⟨Int.le_refl _,X.use.2⟩,by rw [Ziv];exact S.note x.who v,by rw [List.length_append];show ds.length+1<=_;omega,.inr (X.put (r:=x.row) t.1 (by have:=t.2.2;omega) X.row)⟩
theorem Zm3 (X:FOk A x) (S:SOk (runS S0 ds)) {n:Option Int} (hl:2<=x.stack.length):Did A S0 G ds x "save" n:=by
 obtain ⟨s,p,v,e⟩:=sn2' hl
 have t:=t_sn (v:=v) e X
 have hx:=X.len
 obtain ⟨i,y,ew,hi,hy⟩:=X.who
 exact ⟨ds++[_],_,[_],.save ew hi hy e,rfl,rfl,rfl,⟨Int.le_refl _,X.use.2⟩,by rw [Ziv];exact S.save i p ((runS S0 ds i).store p) v (t.2.1 v (by simp)),by rw [List.length_append];show ds.length+1<=_;omega,.inr (X.put (r:=x.row) t.1 (by have:=t.2.2;simp at this;omega) X.row)⟩
theorem Zfd {w:Str} {n:Option Int} {s:List Int} {y:FrS} (X:FOk A x) (S:SOk (runS S0 ds)) (hG:GOk A S0 G x.depth) (hB:(ds.length:Int)+(x.given-x.used)<=89999/\x.given-x.used<=30000) (hC:inS w ["call", "borrow", "look"]=true) (hO:Zhm x w s y) (hs:∀ k∈s,In64 k) (hl:s.length+2<=24) (y0:y.fin=none/\y.used=0/\y.stack=[]/\y.row=0/\y.depth=x.depth+1/\In64 y.whose/\In64 y.given/\In64 y.caller/\In64 y.coin/\In64 y.word)
  (hw:(y.who=y.whose/\(y.kind = "call" -> y.caller=x.who))\/(y.who=x.who/\y.kind ≠ "call")):Did A S0 G ds x w n:=by
 obtain ⟨f0,u0,st0,r0,d0,w0,g0,c0,k0,o0⟩:=y0
 have hl9:s.length<=900:=by omega
 obtain ⟨iw,aw,ew,hiw,haw⟩:=X.who
 have ux:=X.use
 have hd:=X.dep.1
 have no:∀ e,ZdV A (runS S0 ds) y (some e)->Did A S0 G ds x w n:=fun e ha=>by
  have h:=ZmP (A:=A) (S0:=S0) (G:=G) (w:=w) hO hl9 ha
  refine ⟨ds,_,[_],.call hC h,rfl,rfl,rfl,?_,S,by omega,.inr ?_⟩
  .show x.used<=x.used+y.used/\x.used+y.used<=x.given;rw [u0];omega
  .exact ⟨X.fin,X.who,X.cal,X.coi,X.wor,tin hs (fun k hk=>by
    rcases List.mem_cons.1 hk with rfl|hk
    .exact ⟨by decide,by decide⟩
    .rw [List.mem_singleton.1 hk];exact Zjb _),by rw [List.length_append];exact hl,X.row,by show 0<=x.used+y.used/\x.used+y.used<=x.given;rw [u0];omega,X.dep⟩
 by_cases hn:(if 0<=y.whose/\y.whose<16 then roomV (A y.whose.toNat) else .non)=.non
 .exact no "nobody" (.inl ⟨hn,rfl⟩)
 obtain ⟨ac,h0,h16,hA⟩:∃ ac,0<=y.whose/\y.whose<16/\A y.whose.toNat=some ac:=by
  by_cases q:0<=y.whose/\y.whose<16
  .rw [if_pos q] at hn
   cases e:A y.whose.toNat with
   | none=>rw [e] at hn;exact absurd rfl hn
   | some ac=>exact ⟨ac,q.1,q.2,rfl⟩
  .rw [if_neg q] at hn;exact absurd rfl hn
 by_cases hdp:8<y.depth
 .exact no "deep" (.inr ⟨ac,h0,h16,hA,.inl ⟨hdp,rfl⟩⟩)
 have go:ZdV A (runS S0 ds) y none->(y.kind = "call" -> 0<y.coin->∃ i z,y.caller=((i:Nat):Int)/\i<16/\A i=some z/\y.coin<=(runS S0 ds i).coin)->Did A S0 G ds x w n:=fun ha hm=>by
  obtain ⟨gv,hgv⟩:∃ g:Int,(if x.given-x.used<y.given then x.given-x.used else y.given)=g:=⟨_,rfl⟩
  have gb:0<=gv/\gv<=x.given-x.used:=by
   have:=g0.1
   rw [<- hgv];split<;>omega
  have wh:∃ i z,y.whose=((i:Nat):Int)/\i<16/\A i=some z:=⟨y.whose.toNat,ac,by omega,by omega,hA⟩
  have I:InOk A (runS S0 ds) { y with given:=gv }:=⟨⟨f0,by
   rcases hw with ⟨h,_⟩|⟨h,_⟩
   .obtain ⟨i,z,e1,e2,e3⟩:=wh
    exact ⟨i,z,by show y.who=_;rw [h];exact e1,e2,e3⟩
   .exact ⟨iw,aw,by show y.who=_;rw [h];exact ew,hiw,haw⟩,c0,k0,o0,(by show ∀ k∈y.stack,In64 k;rw [st0];exact (fun _ h=>nomatch h)),by show y.stack.length<=24;rw [st0];decide,by show 0<=y.row;rw [r0];exact Int.le_refl 0,by show 0<=y.used/\y.used<=gv;rw [u0];exact ⟨Int.le_refl 0,gb.1⟩,by show 1<=y.depth/\y.depth<=8;omega⟩,wh,u0,hm⟩
  obtain ⟨ds',y',st,hg,O⟩:=hG ds _ S I d0 (by show (ds.length:Int)+gv<=89999;omega) (by show gv<=30000;omega)
  have h:=ZmO (A:=A) (S0:=S0) (G:=G) (w:=w) gv hO hl9 ha hgv hg
  have uy:0<=y'.used/\y'.used<=gv:=⟨by have:=O.use.1;rw [show ({ y with given:=gv }:FrS).used=y.used from rfl,u0] at this;exact this,O.use.2⟩
  have hlen:=O.len
  rw [show ({ y with given:=gv }:FrS).used=y.used from rfl,u0] at hlen
  refine ⟨ds',_,[_],.call hC h,rfl,rfl,rfl,?_,O.so,?_,.inr ?_⟩
  .show x.used<=x.used+y'.used/\x.used+y'.used<=x.given;omega
  .show ds'.length<=ds.length+1+(x.used+y'.used-x.used).toNat;omega
  .exact ⟨X.fin,X.who,X.cal,X.coi,X.wor,tin hs (fun k hk=>by
    rcases List.mem_cons.1 hk with rfl|hk
    .exact O.ans
    .rw [List.mem_singleton.1 hk];exact Zjb _),by rw [List.length_append];exact hl,X.row,by show 0<=x.used+y'.used/\x.used+y'.used<=x.given;omega,X.dep⟩
 by_cases hk:y.kind = "call"
 .have hcal:y.caller=(iw:Int):=by
   rcases hw with ⟨_,h⟩|⟨_,h⟩
   .rw [h hk,ew]
   .exact absurd hk h
  by_cases hp:(runS S0 ds iw).coin<y.coin
  .exact no "poor" (.inr ⟨ac,h0,h16,hA,.inr (.inr ⟨hdp,hk,iw,aw,hcal,hiw,haw,.inl ⟨hp,rfl⟩⟩)⟩)
  .exact go (.inr ⟨ac,h0,h16,hA,.inr (.inr ⟨hdp,hk,iw,aw,hcal,hiw,haw,.inr ⟨hp,rfl⟩⟩)⟩) fun _ _=>⟨iw,aw,hcal,hiw,haw,Int.not_lt.mp hp⟩
 .exact go (.inr ⟨ac,h0,h16,hA,.inr (.inl ⟨hdp,hk,rfl⟩)⟩) fun h=>absurd h hk
end
section
end
theorem Zjc {a b:Int} (ha:0<=a) (hb:0<=b):Builtin.bitAnd a b=((a.toNat &&& b.toNat:Nat):Int):=by
 unfold Builtin.bitAnd
 rw [decide_eq_true ha,decide_eq_true hb]
theorem Zls {a b:Int} (ha:0<=a) (hb:0<=b):Builtin.bitOr a b=((a.toNat ||| b.toNat:Nat):Int):=by
 have n1:Builtin.bitNot (Builtin.bitNot a)=a:=by unfold Builtin.bitNot;omega
 have n2:Builtin.bitNot (Builtin.bitNot b)=b:=by unfold Builtin.bitNot;omega
 unfold Builtin.bitOr Builtin.bitAnd
 rw [decide_eq_false (show ¬ 0<=Builtin.bitNot a by unfold Builtin.bitNot;omega),decide_eq_false (show ¬ 0<=Builtin.bitNot b by unfold Builtin.bitNot;omega)]
 show Builtin.bitNot (Builtin.bitNot _)=_
 rw [n1,n2]
 unfold Builtin.bitNot
 omega
theorem Zlt (A B:Nat):(A &&& B)=(A % 2)*(B % 2)+2*(A / 2 &&& B / 2):=by
 have h:=Nat.div_add_mod (A &&& B) 2
 rw [Nat.and_div_two] at h
 have m:(A &&& B) % 2=A % 2*(B % 2):=by
  have e:(A &&& B) % 2=(A % 2) &&& (B % 2):=by simpa using Nat.and_mod_two_pow (a:=A) (b:=B) (n:=1)
  rw [e]
  rcases Nat.mod_two_eq_zero_or_one A with p|p<;>rcases Nat.mod_two_eq_zero_or_one B with q|q<;>rw [p,q]<;>rfl
 omega
theorem Zm4 (A B:Nat):(A ||| B)=max (A % 2) (B % 2)+2*(A / 2 ||| B / 2):=by
 have h:=Nat.div_add_mod (A ||| B) 2
 rw [Nat.or_div_two] at h
 have m:(A ||| B) % 2=max (A % 2) (B % 2):=by
  have e:(A ||| B) % 2=(A % 2) ||| (B % 2):=by simpa using Nat.or_mod_two_pow (a:=A) (b:=B) (n:=1)
  rw [e]
  rcases Nat.mod_two_eq_zero_or_one A with p|p<;>rcases Nat.mod_two_eq_zero_or_one B with q|q<;>rw [p,q]<;>rfl
 omega
theorem Zlu (A B:Nat):(A ^^^ B)=(A % 2+B % 2) % 2+2*(A / 2 ^^^ B / 2):=by
 have h:=Nat.div_add_mod (A ^^^ B) 2
 rw [Nat.xor_div_two] at h
 have m:(A ^^^ B) % 2=(A % 2+B % 2) % 2:=by
  have e:(A ^^^ B) % 2=(A % 2) ^^^ (B % 2):=by simpa using Nat.xor_mod_two_pow (a:=A) (b:=B) (n:=1)
  rw [e]
  rcases Nat.mod_two_eq_zero_or_one A with p|p<;>rcases Nat.mod_two_eq_zero_or_one B with q|q<;>rw [p,q]<;>rfl
 omega
theorem Zlv:∀ (n A B:Nat),A+B<=n->(A &&& B)+(A ||| B)=A+B/\(A &&& B)+(A ^^^ B)=(A ||| B):=by
 intro n
 induction n with
 | zero =>
  intro A B h
  have hA:A=0:=by omega
  have hB:B=0:=by omega
  subst hA hB
  decide
 | succ n ih =>
  intro A B h
  by_cases z:A+B=0
  .have hA:A=0:=by omega
   have hB:B=0:=by omega
   subst hA hB
   decide
  .obtain ⟨i1,i2⟩:=ih (A / 2) (B / 2) (by omega)
   have e1:=Zlt A B
   have e2:=Zm4 A B
   have e3:=Zlu A B
   have m:A % 2*(B % 2)=min (A % 2) (B % 2):=by
    rcases Nat.mod_two_eq_zero_or_one A with p|p<;>rcases Nat.mod_two_eq_zero_or_one B with q|q<;>rw [p,q]<;>rfl
   rw [m] at e1
   constructor<;>omega
theorem Zm5 {a b:Int} (ha:0<=a) (hb:0<=b):Builtin.bitXor a b=((a.toNat ^^^ b.toNat:Nat):Int):=by
 unfold Builtin.bitXor
 rw [Zjc ha hb,Zls ha hb]
 have:=(Zlv _ a.toNat b.toNat (Nat.le_refl _)).2
 omega
theorem lt64 {a:Int} (h:In64 a):a.toNat<2 ^ 64:=by
 obtain ⟨h0,h1⟩:=h
 omega
theorem in_and {a b:Int} (h:ZaW a b):In64 (rkAnd a b):=by
 have:=Nat.and_lt_two_pow a.toNat (lt64 h.2)
 unfold rkAnd
 rw [Zjc h.1.1 h.2.1]
 exact ⟨by omega,by omega⟩
theorem in_or {a b:Int} (h:ZaW a b):In64 (rkOr a b):=by
 have:=Nat.or_lt_two_pow (lt64 h.1) (lt64 h.2)
 unfold rkOr
 rw [Zls h.1.1 h.2.1]
 exact ⟨by omega,by omega⟩
theorem in_xor {a b:Int} (h:ZaW a b):In64 (rkXor a b):=by
 have:=Nat.xor_lt_two_pow (lt64 h.1) (lt64 h.2)
 unfold rkXor
 rw [Zm5 h.1.1 h.2.1]
 exact ⟨by omega,by omega⟩
theorem Zbw (c:Int):In64 (c % 18446744073709551616):=⟨by omega,by omega⟩
theorem Zhs {a b:Int} (h:ZaW a b) (hb:¬ b=0):In64 (rkDiv a b)/\In64 (rkMod a b)/\rkAdd (rkMul (rkDiv a b) b) (rkMod a b)=a:=by
 obtain ⟨⟨a0,a1⟩,b0,b1⟩:=h
 have p:0<b:=by omega
 have d1:=Int.ediv_nonneg a0 b0
 have d2:=Int.ediv_le_self b a0
 have m1:=Int.emod_nonneg a hb
 have m2:=Int.emod_lt_of_pos a p
 have e:=Int.mul_ediv_add_emod a b
 rw [Int.mul_comm] at e
 unfold rkDiv rkMod rkMul rkAdd
 rw [if_neg hb,if_neg hb]
 have q:0<=a / b*b:=Int.mul_nonneg d1 b0
 generalize a / b*b=c at e q |-
 exact ⟨⟨d1,by omega⟩,⟨m1,by omega⟩,by omega⟩
theorem Zeb {w:Str} {f:Int->Int->Int} (h:RK.lookup w=some f) (a b:Int) (hab:ZaW a b):In64 (f a b):=by
 have hm:=Zbk h
 simp only [RK,List.mem_cons,Prod.mk.injEq,List.not_mem_nil,or_false] at hm
 have z01:∀ p:Prop,[Decidable p]->In64 (if p then (1:Int) else 0):=fun p _=>by split<;>exact ⟨by decide,by decide⟩
 rcases hm with ⟨_,rfl⟩|⟨_,rfl⟩|⟨_,rfl⟩|⟨_,rfl⟩|⟨_,rfl⟩|⟨_,rfl⟩|⟨_,rfl⟩|⟨_,rfl⟩|⟨_,rfl⟩|⟨_,rfl⟩|⟨_,rfl⟩|⟨_,rfl⟩
 .exact Zbw _
 .exact Zbw _
 .exact Zbw _
 .by_cases hb:b=0
  .unfold rkDiv;rw [if_pos hb];exact ⟨by decide,by decide⟩
  .exact (Zhs hab hb).1
 .by_cases hb:b=0
  .unfold rkMod;rw [if_pos hb];exact ⟨by decide,by decide⟩
  .exact (Zhs hab hb).2.1
 .exact z01 _
 .exact z01 _
 .exact in_and hab
 .exact in_or hab
 .exact in_xor hab
 .unfold rkUp
  split
  .exact ⟨by decide,by decide⟩
  .exact Zbw _
 .unfold rkDown
  split
  .exact ⟨by decide,by decide⟩
  .obtain ⟨⟨a0,a1⟩,_⟩:=hab
   have p:(0:Int)<=2 ^ b.toNat:=Int.le_of_lt (Int.pow_pos (by decide))
   exact ⟨Int.ediv_nonneg a0 p,Int.lt_of_le_of_lt (Int.ediv_le_self _ a0) a1⟩
section
variable {A:Nat->Option AcI} {S0:Nat->AcS} {G:GR} {ds:List Dd} {x:FrS}
theorem ZnG (X:FOk A x):In64 x.who:=by obtain ⟨i,_,e,h,_⟩:=X.who;rw [e];exact ⟨by omega,by show _<_;omega⟩
theorem Zm6 (X:FOk A x) (S:SOk (runS S0 ds)) (hG:GOk A S0 G x.depth) (hB:(ds.length:Int)+(x.given-x.used)<=89999/\x.given-x.used<=30000) {n:Option Int} (hl:4<=x.stack.length):Did A S0 G ds x "call" n:=by
 obtain ⟨s,a,c,g,v,e⟩:=sn4' hl
 have t:=t_sn (v:=v) e X
 have hx:=X.len
 exact Zfd X S hG hB rfl (.inl ⟨rfl,a,c,g,v,e,rfl⟩) t.1 (by have:=t.2.2;simp at this;omega) ⟨rfl,rfl,rfl,rfl,rfl,t.2.1 a (by simp),t.2.1 g (by simp),ZnG X,t.2.1 c (by simp),t.2.1 v (by simp)⟩ (.inl ⟨rfl,fun _=>rfl⟩)
theorem ZjQ (X:FOk A x) (S:SOk (runS S0 ds)) (hG:GOk A S0 G x.depth) (hB:(ds.length:Int)+(x.given-x.used)<=89999/\x.given-x.used<=30000) {n:Option Int} (hl:3<=x.stack.length):Did A S0 G ds x "borrow" n:=by
 obtain ⟨s,a,g,v,e⟩:=sn3' hl
 have t:=t_sn (v:=v) e X
 have hx:=X.len
 exact Zfd X S hG hB rfl (.inr (.inl ⟨rfl,a,g,v,e,rfl⟩)) t.1 (by have:=t.2.2;simp at this;omega) ⟨rfl,rfl,rfl,rfl,rfl,t.2.1 a (by simp),t.2.1 g (by simp),X.cal,X.coi,t.2.1 v (by simp)⟩ (.inr ⟨rfl,by show ("borrow" : Str) ≠ "call";decide⟩)
theorem Zm7 (X:FOk A x) (S:SOk (runS S0 ds)) (hG:GOk A S0 G x.depth) (hB:(ds.length:Int)+(x.given-x.used)<=89999/\x.given-x.used<=30000) {n:Option Int} (hl:3<=x.stack.length):Did A S0 G ds x "look" n:=by
 obtain ⟨s,a,g,v,e⟩:=sn3' hl
 have t:=t_sn (v:=v) e X
 have hx:=X.len
 exact Zfd X S hG hB rfl (.inr (.inr ⟨rfl,a,g,v,e,rfl⟩)) t.1 (by have:=t.2.2;simp at this;omega) ⟨rfl,rfl,rfl,rfl,rfl,t.2.1 a (by simp),t.2.1 g (by simp),ZnG X,⟨show (0:Int)<=0 by decide,show (0:Int)<18446744073709551616 by decide⟩,t.2.1 v (by simp)⟩ (.inl ⟨rfl,fun h=>absurd h (by show ¬ ("look" : Str) = "call";decide)⟩)
theorem Zm8 (X:FOk A x) (S:SOk (runS S0 ds)) (hG:GOk A S0 G x.depth) (hB:(ds.length:Int)+(x.given-x.used)<=89999/\x.given-x.used<=30000) {w:Str} {n:Option Int} {t l pr d r:Int} (hf:Zbo (w,n)) (e2:RT.lookup w=some (t,l,pr,d)) (e1:Zby w n=some r) (h1:t+r<=(x.stack.length:Int)) (h2:(x.stack.length:Int)-t+l<=24):Did A S0 G ds x w n:=by
 have hm:=Zbk e2
 simp only [RT,List.mem_cons,Prod.mk.injEq,List.not_mem_nil,or_false] at hm
 have hxl:=X.len
 rcases hm with ⟨rfl,rfl,rfl,rfl,rfl⟩|⟨rfl,rfl,rfl,rfl,rfl⟩|⟨rfl,rfl,rfl,rfl,rfl⟩|⟨rfl,rfl,rfl,rfl,rfl⟩|⟨rfl,rfl,rfl,rfl,rfl⟩|⟨rfl,rfl,rfl,rfl,rfl⟩|⟨rfl,rfl,rfl,rfl,rfl⟩|⟨rfl,rfl,rfl,rfl,rfl⟩|⟨rfl,rfl,rfl,rfl,rfl⟩|⟨rfl,rfl,rfl,rfl,rfl⟩|⟨rfl,rfl,rfl,rfl,rfl⟩|⟨rfl,rfl,rfl,rfl,rfl⟩|⟨rfl,rfl,rfl,rfl,rfl⟩|⟨rfl,rfl,rfl,rfl,rfl⟩|⟨rfl,rfl,rfl,rfl,rfl⟩|⟨rfl,rfl,rfl,rfl,rfl⟩|⟨rfl,rfl,rfl,rfl,rfl⟩|⟨rfl,rfl,rfl,rfl,rfl⟩|⟨rfl,rfl,rfl,rfl,rfl⟩|⟨rfl,rfl,rfl,rfl,rfl⟩|⟨rfl,rfl,rfl,rfl,rfl⟩|⟨rfl,rfl,rfl,rfl,rfl⟩|⟨rfl,rfl,rfl,rfl,rfl⟩|⟨rfl,rfl,rfl,rfl,rfl⟩|⟨rfl,rfl,rfl,rfl,rfl⟩|⟨rfl,rfl,rfl,rfl,rfl⟩|⟨rfl,rfl,rfl,rfl,rfl⟩|⟨rfl,rfl,rfl,rfl,rfl⟩|⟨rfl,rfl,rfl,rfl,rfl⟩|⟨rfl,rfl,rfl,rfl,rfl⟩|⟨rfl,rfl,rfl,rfl,rfl⟩
 .obtain ⟨k,rfl,hk⟩:=hf.2.1 rfl;have hr:r=0:=(Option.some.inj e1).symm;exact ZmT X S hk (by omega)
 .have hr:r=0:=(Option.some.inj e1).symm;exact ZmV X S (by omega)
 .obtain ⟨k,rfl,h0,_⟩:=hf.2.2.1 rfl;have hr:k=r:=Option.some.inj e1;exact ZmY X S h0 (by omega) (by omega)
 .obtain ⟨k,rfl,h0,hs⟩:=hf.2.2.1 rfl;have hr:k=r:=Option.some.inj e1;exact ZmZ X S (hs rfl) (by omega)
 .have hr:r=0:=(Option.some.inj e1).symm;exact Zbz X S rfl rfl rfl (Zeb (w := "add") rfl) (by omega)
 .have hr:r=0:=(Option.some.inj e1).symm;exact Zbz X S rfl rfl rfl (Zeb (w := "minus") rfl) (by omega)
 .have hr:r=0:=(Option.some.inj e1).symm;exact Zbz X S rfl rfl rfl (Zeb (w := "times") rfl) (by omega)
 .have hr:r=0:=(Option.some.inj e1).symm;exact Zbz X S rfl rfl rfl (Zeb (w := "over") rfl) (by omega)
 .have hr:r=0:=(Option.some.inj e1).symm;exact Zbz X S rfl rfl rfl (Zeb (w := "rest") rfl) (by omega)
 .have hr:r=0:=(Option.some.inj e1).symm;exact Zbz X S rfl rfl rfl (Zeb (w := "below") rfl) (by omega)
 .have hr:r=0:=(Option.some.inj e1).symm;exact Zbz X S rfl rfl rfl (Zeb (w := "same") rfl) (by omega)
 .have hr:r=0:=(Option.some.inj e1).symm;exact Zbz X S rfl rfl rfl (Zeb (w := "both") rfl) (by omega)
 .have hr:r=0:=(Option.some.inj e1).symm;exact Zbz X S rfl rfl rfl (Zeb (w := "either") rfl) (by omega)
 .have hr:r=0:=(Option.some.inj e1).symm;exact Zbz X S rfl rfl rfl (Zeb (w := "unlike") rfl) (by omega)
 .have hr:r=0:=(Option.some.inj e1).symm;exact Zbz X S rfl rfl rfl (Zeb (w := "up") rfl) (by omega)
 .have hr:r=0:=(Option.some.inj e1).symm;exact Zbz X S rfl rfl rfl (Zeb (w := "down") rfl) (by omega)
 .obtain ⟨k,rfl,h0⟩:=hf.2.2.2 rfl;exact ZmU X S h0
 .obtain ⟨k,rfl,h0⟩:=hf.2.2.2 rfl;have hr:r=0:=(Option.some.inj e1).symm;exact ZjP X S h0 (by omega)
 .have hr:r=0:=(Option.some.inj e1).symm;exact Zm0 X S (by omega)
 .have hr:r=0:=(Option.some.inj e1).symm;exact Zm3 X S (by omega)
 .have hr:r=0:=(Option.some.inj e1).symm;exact did_me X S (by omega)
 .have hr:r=0:=(Option.some.inj e1).symm;exact ZmQ X S (by omega)
 .have hr:r=0:=(Option.some.inj e1).symm;exact ZmR X S (by omega)
 .have hr:r=0:=(Option.some.inj e1).symm;exact ZmS X S (by omega)
 .have hr:r=0:=(Option.some.inj e1).symm;exact Zm1 X S (by omega)
 .have hr:r=0:=(Option.some.inj e1).symm;exact Zm2 X S (by omega)
 .have hr:r=0:=(Option.some.inj e1).symm;exact Zm6 X S hG hB (by omega)
 .have hr:r=0:=(Option.some.inj e1).symm;exact ZjQ X S hG hB (by omega)
 .have hr:r=0:=(Option.some.inj e1).symm;exact Zm7 X S hG hB (by omega)
 .have hr:r=0:=(Option.some.inj e1).symm;exact ZmW X S (by omega)
 .have hr:r=0:=(Option.some.inj e1).symm;exact ZmX X S (by omega)
theorem Zlw {w:Str} {t l pr d:Int} (e2:RT.lookup w=some (t,l,pr,d)):1<=pr/\1<=d:=by
 have hm:=Zbk e2
 simp only [RT,List.mem_cons,Prod.mk.injEq,List.not_mem_nil,or_false] at hm
 rcases hm with ⟨rfl,rfl,rfl,rfl,rfl⟩|⟨rfl,rfl,rfl,rfl,rfl⟩|⟨rfl,rfl,rfl,rfl,rfl⟩|⟨rfl,rfl,rfl,rfl,rfl⟩|⟨rfl,rfl,rfl,rfl,rfl⟩|⟨rfl,rfl,rfl,rfl,rfl⟩|⟨rfl,rfl,rfl,rfl,rfl⟩|⟨rfl,rfl,rfl,rfl,rfl⟩|⟨rfl,rfl,rfl,rfl,rfl⟩|⟨rfl,rfl,rfl,rfl,rfl⟩|⟨rfl,rfl,rfl,rfl,rfl⟩|⟨rfl,rfl,rfl,rfl,rfl⟩|⟨rfl,rfl,rfl,rfl,rfl⟩|⟨rfl,rfl,rfl,rfl,rfl⟩|⟨rfl,rfl,rfl,rfl,rfl⟩|⟨rfl,rfl,rfl,rfl,rfl⟩|⟨rfl,rfl,rfl,rfl,rfl⟩|⟨rfl,rfl,rfl,rfl,rfl⟩|⟨rfl,rfl,rfl,rfl,rfl⟩|⟨rfl,rfl,rfl,rfl,rfl⟩|⟨rfl,rfl,rfl,rfl,rfl⟩|⟨rfl,rfl,rfl,rfl,rfl⟩|⟨rfl,rfl,rfl,rfl,rfl⟩|⟨rfl,rfl,rfl,rfl,rfl⟩|⟨rfl,rfl,rfl,rfl,rfl⟩|⟨rfl,rfl,rfl,rfl,rfl⟩|⟨rfl,rfl,rfl,rfl,rfl⟩|⟨rfl,rfl,rfl,rfl,rfl⟩|⟨rfl,rfl,rfl,rfl,rfl⟩|⟨rfl,rfl,rfl,rfl,rfl⟩|⟨rfl,rfl,rfl,rfl,rfl⟩
 all_goals exact ⟨by decide,by decide⟩
theorem Zm9 {w:Str} {n:Option Int} (hf:Zbo (w,n)):∃ r,Zby w n=some r/\0<=r:=by
 unfold Zby
 cases h:inS w ["copy", "swap"] with
 | true =>
  obtain ⟨k,hk,h0,_⟩:=hf.2.2.1 h
  exact ⟨k,by rw [if_pos rfl];exact hk,h0⟩
 | false=>exact ⟨0,by rw [if_neg (by decide)],Int.le_refl 0⟩
end
section
end
noncomputable def tkW (r:Row):Int:=(match RT.lookup r.1 with|some (t,_,_,_)=>t|none=>0)+(if inS r.1 ["copy", "swap"]=true then r.2.getD 0 else 0)
noncomputable def hgW (w:Str) (m:Int):Int:=match RT.lookup w with|some (t,l,_,_)=>m-t+l|none=>m
noncomputable def pcW (w:Str) (b:Bool):Int:=match RT.lookup w with|some (_,_,pr,d)=>(if b=true then d else pr)|none=>0
noncomputable def nxW (r:Row) (i:Int):List Int:=if r.1 = "jump" then [r.2.getD 0] else if r.1 = "jumpif" then [r.2.getD 0,i+1] else if r.1 = "give" \/ r.1 = "fail" then [] else [i+1]
structure SameH (x y:FrS):Prop where
 kind:y.kind=x.kind
 who:y.who=x.who
 whose:y.whose=x.whose
 caller:y.caller=x.caller
 coin:y.coin=x.coin
 given:y.given=x.given
 looking:y.looking=x.looking
 word:y.word=x.word
theorem SameH.refl (x:FrS):SameH x x:=⟨rfl,rfl,rfl,rfl,rfl,rfl,rfl,rfl⟩
theorem SameH.trans {x y z:FrS} (a:SameH x y) (b:SameH y z):SameH x z:=⟨b.kind.trans a.kind,b.who.trans a.who,b.whose.trans a.whose,b.caller.trans a.caller,b.coin.trans a.coin,b.given.trans a.given,b.looking.trans a.looking,b.word.trans a.word⟩
def ZjR (f:FrS) (w:Str) (d:Dt) (b:Bool):Prop :=
 (w = "save" /\ ∃ p o v:Int,d=.tup [.str "save", .int f.who,.int p,.int o,.int v]/\b=(decide (o=0)&&decide (v≠0)))\/(w = "note" /\ ∃ v:Int,d=.tup [.str "note", .int f.who,.int v]/\b=false)
def Zdd (f:FrS) (w:Str) (y:FrS) (b:Bool):Prop :=
 y.kind=w/\((w = "call" /\ y.who=y.whose/\y.caller=f.who/\b=decide (0<y.coin))\/(w = "borrow" /\ y.who=f.who/\y.caller=f.caller/\y.coin=f.coin/\b=false)\/(w = "look" /\ y.who=y.whose/\y.caller=f.who/\y.coin=0/\b=false))
inductive Wlk (f:FrS) (rows:List Row) (sub:Int->Bool->FrS->List Dt->Prop):List Int->Str->Int->Int->List Dt->List Int->Str->Int->Int->Prop
 | nil {ns:List Int} {l:Str} {m u:Int}:Wlk f rows sub ns l m u [] ns l m u
 | one {ns:List Int} {l:Str} {m u:Int} {i:Nat} {r:Row} {st:List Dt} {ns':List Int} {l':Str} {m' u':Int} (hi:(i:Int)∈ns) (hr:rows[i]?=some r) (hw:inS r.1 ["save", "note", "call", "borrow", "look"]=false) (h1:tkW r<=m) (h2:hgW r.1 m<=24) (q:Wlk f rows sub (nxW r (i:Int)) r.1 (hgW r.1 m) (u+pcW r.1 false) st ns' l' m' u'):Wlk f rows sub ns l m u (.int (i:Int)::st) ns' l' m' u'
 | deed {ns:List Int} {l:Str} {m u:Int} {i:Nat} {r:Row} {d:Dt} {b:Bool} {st:List Dt} {ns':List Int} {l':Str} {m' u':Int} (hi:(i:Int)∈ns) (hr:rows[i]?=some r) (hd:ZjR f r.1 d b) (h1:tkW r<=m) (h2:hgW r.1 m<=24) (q:Wlk f rows sub (nxW r (i:Int)) r.1 (hgW r.1 m) (u+pcW r.1 b) st ns' l' m' u'):Wlk f rows sub ns l m u (.int (i:Int)::d::st) ns' l' m' u'
 | call {ns:List Int} {l:Str} {m u:Int} {i:Nat} {r:Row} {y:FrS} {s:List Dt} {b:Bool} {st:List Dt} {ns':List Int} {l':Str} {m' u':Int} (hi:(i:Int)∈ns) (hr:rows[i]?=some r) (hc:Zdd f r.1 y b) (hs:sub (f.given-(u+pcW r.1 b)) (f.looking||decide (r.1 = "look")) y s) (h1:tkW r<=m) (h2:hgW r.1 m<=24) (q:Wlk f rows sub (nxW r (i:Int)) r.1 (hgW r.1 m) (u+pcW r.1 b+y.used) st ns' l' m' u'):Wlk f rows sub ns l m u (.int (i:Int)::treeD y s::st) ns' l' m' u'
def EndW (f y:FrS) (rows:List Row) (m:Int) (i:Int):Prop:=y.answer=0 /\
 ((i=(rows.length:Int)/\y.fin=some ("well" : Str))\/∃ (j:Nat) (r:Row),i=(j:Int)/\rows[j]?=some r /\
  ((m<tkW r/\y.fin=some ("short" : Str))\/(¬ m<tkW r/\24<hgW r.1 m/\y.fin=some ("full" : Str)) \/
   (¬ m<tkW r/\¬ 24<hgW r.1 m/\f.looking=true/\inS r.1 ["save", "note"]=true/\y.fin=some ("barred" : Str)) \/
   (¬ m<tkW r/\¬ 24<hgW r.1 m/\¬ (f.looking=true/\inS r.1 ["save", "note"]=true)/\((y.fin=some ("barred" : Str)/\f.looking=true/\r.1 = "call")\/(y.fin=some ("dry" : Str)/\y.given-y.used<pcW r.1 true)))))
def ZoG (f y:FrS) (rows:List Row) (ns:List Int) (l:Str) (m:Int):Prop:=(l = "give" /\ y.fin=some ("well" : Str))\/(l = "fail" /\ y.fin=some ("fail" : Str))\/(l ≠ "give" /\ l ≠ "fail" /\ ∃ i∈ns,EndW f y rows m i)
def BadE (e:Str):Prop:=e = "nobody" \/ e = "deep" \/ e = "poor"
def NoB (y:FrS) (st:List Dt):Prop:=∃ e,y.fin=some e/\BadE e/\y.given=0/\y.answer=0/\y.used=0/\st=[]
def WkN (A:Nat->Option AcI) (S0:Nat->AcS):Nat->Int->Bool->FrS->List Dt->Prop
 | 0=>fun _ _ y st=>NoB y st
 | n+1=>fun g lk y st=>NoB y st\/∃ e,y.fin=some e/\¬ BadE e/\st.length<=200000/\y.looking=lk/\y.given<=g/\y.used<=y.given/\∃ (i:Nat) (ac:AcI) (rest:List Dt) (ns:List Int) (l:Str) (m:Int),y.whose=(i:Int)/\i<16/\A i=some ac/\st=(mvD y).toList.map tellD++rest/\Wlk y (S0 i).rows (WkN A S0 n) [0] "" 0 0 rest ns l m y.used/\ZoG y y (S0 i).rows ns l m
theorem WkN.no {A:Nat->Option AcI} {S0:Nat->AcS} {n:Nat} {g:Int} {lk:Bool} {y:FrS} {st:List Dt} (h:NoB y st):WkN A S0 n g lk y st:=by
 cases n with
 | zero=>exact h
 | succ n=>exact .inl h
def GoX (A:Nat->Option AcI) (S0:Nat->AcS):Nat->GR
 | 0=>fun _ _ _ _ _=>False
 | n+1=>fun ds x ds' y st=>y.used<=y.given/\∃ (i:Nat) (ac:AcI) (k:Nat) (ds1:List Dd) (st1:List Dt),x.fin=none/\x.whose=(i:Int)/\i<16/\A i=some ac/\(∀ d,mvD x=some d->fitsD A d)/\RunW A S0 (GoX A S0 n) (S0 i).rows k (ds++(mvD x).toList) x ds1 y st1/\k<=40000/\ds1.length<=100000/\ds'=(if y.fin=some ("well" : Str) then ds1 else ds)/\st=(mvD x).toList.map tellD++st1
theorem DoW.mono {A:Nat->Option AcI} {S0:Nat->AcS} {G G':GR} (hG:∀ ds x ds' y st,G ds x ds' y st->G' ds x ds' y st) {w:Str} {n:Option Int} {ds ds':List Dd} {x x':FrS} {ad:List Dt} (h:DoW A S0 G w n ds x ds' x' ad):DoW A S0 G' w n ds x ds' x' ad:=by
 cases h with
 | pure hC h hD=>exact .pure hC h hD
 | load ew hi hy e=>exact .load ew hi hy e
 | coin e=>exact .coin e
 | save ew hi hy e=>exact .save ew hi hy e
 | note e=>exact .note e
 | call hC h =>
  obtain ⟨s,y,y',st,e,h1,h2,h3,h4,h5,h6⟩:=h
  exact .call hC ⟨s,y,y',st,e,h1,h2,h3,h4,h5,h6.imp id fun z=>⟨z.1,hG _ _ _ _ _ z.2⟩⟩
theorem RunW.mono {A:Nat->Option AcI} {S0:Nat->AcS} {G G':GR} (hG:∀ ds x ds' y st,G ds x ds' y st->G' ds x ds' y st) {rows:List Row} {k:Nat} {ds ds':List Dd} {x x':FrS} {ad:List Dt} (h:RunW A S0 G rows k ds x ds' x' ad):RunW A S0 G' rows k ds x ds' x' ad:=by
 induction h with
 | done h=>exact .done h
 | step h o l e q ih =>
  refine .step h ?_ l e ih
  rcases o with o|⟨i,w,n,e1,e2,o|⟨o1,b1,b2,t,l2,pr,d,ad,k1,k2,k3,k4,k5⟩⟩
  .exact .inl o
  .exact .inr ⟨i,w,n,e1,e2,.inl o⟩
  .exact .inr ⟨i,w,n,e1,e2,.inr ⟨o1,b1,b2,t,l2,pr,d,ad,k1,k2,k3,k4.mono hG,k5⟩⟩
theorem GoX.goW {A:Nat->Option AcI} {S0:Nat->AcS}:∀ n ds x ds' y st,GoX A S0 n ds x ds' y st->GoW A S0 n ds x ds' y st
 | 0,_,_,_,_,_,h=>h.elim
 | n+1,_,_,_,_,_,⟨_,i,ac,k,ds1,st1,h1,h2,h3,h4,h5,h6,h7⟩=>⟨i,ac,k,ds1,st1,h1,h2,h3,h4,h5,h6.mono (GoX.goW n),h7⟩
section
variable {A:Nat->Option AcI} {S0:Nat->AcS} {G:GR} {rows:List Row}
theorem Zlx {A:Nat->Option AcI} {x:FrS} {w:Str} {t l pr d:Int} (e2:RT.lookup w=some (t,l,pr,d)) (h:t<=(x.stack.length:Int)):∃ b,Zcy x w b:=by
 by_cases q:w = "call"
 .subst q
  have e:((4:Int),(2:Int),(8:Int),(12:Int))=(t,l,pr,d):=Option.some.inj e2
  cases e
  obtain ⟨s,a,c,g,v,e⟩:=sn4' (st:=x.stack) (by omega)
  exact ⟨_,.inr ⟨rfl,s++[a],c,g,v,by rw [e,List.append_assoc];rfl,rfl⟩⟩
 .exact ⟨false,.inl ⟨q,rfl⟩⟩
theorem Zna {x:FrS} {S:Nat->AcS} {w:Str} {t l pr d:Int} (X:FOk A x) (e2:RT.lookup w=some (t,l,pr,d)) (h:t<=(x.stack.length:Int)):∃ b,fillsR A S x w b:=by
 by_cases q:w = "save"
 .subst q
  have e:((2:Int),(0:Int),(5:Int),(12:Int))=(t,l,pr,d):=Option.some.inj e2
  cases e
  obtain ⟨s,p,v,e⟩:=sn2' (st:=x.stack) (by omega)
  obtain ⟨i,y,ew,hi,hy⟩:=X.who
  by_cases hv:v=0
  .exact ⟨false,.inr ⟨rfl,s,p,v,e,.inl ⟨hv,rfl⟩⟩⟩
  .exact ⟨_,.inr ⟨rfl,s,p,v,e,.inr ⟨hv,i,y,ew,hi,hy,rfl⟩⟩⟩
 .exact ⟨false,.inl ⟨q,rfl⟩⟩
theorem turn (hr:∀ r∈rows,Zbo r) {ds:List Dd} {x:FrS} (hG:GOk A S0 G x.depth) (X:FOk A x) (S:SOk (runS S0 ds)) (hB:(ds.length:Int)+(x.given-x.used)<=90000/\x.given-x.used<=30000):∃ ds1 x' add,OnW A S0 G rows ds x ds1 x' add/\x'.whose=x.whose/\x'.given=x.given/\x'.depth=x.depth/\SOk (runS S0 ds1)/\(x.used<=x'.used/\x'.used<=x.given)/\ds1.length<=ds.length+(x'.used-x.used).toNat/\((∃ e,x'.fin=some e/\In64 x'.answer)\/(FOk A x'/\x.used<x'.used)):=by
 have ux:=X.use
 have z0:In64 0:=⟨by decide,by decide⟩
 by_cases h:(rows.length:Int)<=x.row
 .exact ⟨ds,{ x with fin:=some ("well" : Str),answer:=0 },[],.inl ⟨h,rfl,rfl,rfl⟩,rfl,rfl,rfl,S,⟨Int.le_refl _,ux.2⟩,Nat.le_add_right _ _,.inl ⟨_,rfl,z0⟩⟩
 obtain ⟨i,hi⟩:∃ i:Nat,x.row=(i:Int):=⟨x.row.toNat,by have:=X.row;omega⟩
 obtain ⟨⟨w,n⟩,hw⟩:∃ r,rows[i]?=some r:=⟨_,List.getElem?_eq_getElem (by omega)⟩
 have hf:=hr (w,n) (List.mem_of_getElem? hw)
 obtain ⟨⟨t,l,pr,d⟩,e2⟩:=hf.1
 have e2:RT.lookup w=some (t,l,pr,d):=e2
 obtain ⟨r,e1,r0⟩:=Zm9 hf
 have en:∀ e,aheadR A (runS S0 ds) x w n (some e)->∃ ds1 x' add,OnW A S0 G rows ds x ds1 x' add/\x'.whose=x.whose/\x'.given=x.given/\x'.depth=x.depth/\SOk (runS S0 ds1)/\(x.used<=x'.used/\x'.used<=x.given)/\ds1.length<=ds.length+(x'.used-x.used).toNat/\((∃ e,x'.fin=some e/\In64 x'.answer)\/(FOk A x'/\x.used<x'.used)):=fun e ha =>
  ⟨ds,{ x with fin:=some e,answer:=0 },[],.inr ⟨i,w,n,hi,hw,.inl ⟨e,ha,rfl,rfl,rfl⟩⟩,rfl,rfl,rfl,S,⟨Int.le_refl _,ux.2⟩,Nat.le_add_right _ _,.inl ⟨_,rfl,z0⟩⟩
 by_cases c1:(x.stack.length:Int)<t+r
 .exact en "short" ⟨r,t,l,pr,d,e1,e2,.inl ⟨c1,rfl⟩⟩
 by_cases c2:24<(x.stack.length:Int)-(t+r)+(l+r)
 .exact en "full" ⟨r,t,l,pr,d,e1,e2,.inr (.inl ⟨c1,c2,rfl⟩)⟩
 obtain ⟨b1,hb1⟩:=Zlx (A:=A) (x:=x) e2 (by omega)
 obtain ⟨b2,hb2⟩:=Zna (S:=runS S0 ds) X e2 (by omega)
 cases hb:barB x w b1 with
 | true=>exact en "barred" ⟨r,t,l,pr,d,e1,e2,.inr (.inr ⟨c1,c2,b1,b2,hb1,hb2,.inl ⟨hb,rfl⟩⟩)⟩
 | false =>
  have pp:=Zlw e2
  by_cases c3:x.given-x.used<(if (b1||b2)=true then d else pr)
  .exact en "dry" ⟨r,t,l,pr,d,e1,e2,.inr (.inr ⟨c1,c2,b1,b2,hb1,hb2,.inr (.inl ⟨hb,c3,rfl⟩)⟩)⟩
  have ahead:aheadR A (runS S0 ds) x w n none:=⟨r,t,l,pr,d,e1,e2,.inr (.inr ⟨c1,c2,b1,b2,hb1,hb2,.inr (.inr ⟨hb,c3,rfl⟩)⟩)⟩
  obtain ⟨c,hc⟩:∃ c:Int,(if (b1||b2)=true then d else pr)=c:=⟨_,rfl⟩
  have c0:1<=c:=by rw [<- hc];split;exact pp.2;exact pp.1
  rw [hc] at c3
  have X1:FOk A (ZaL x c):=⟨X.fin,X.who,X.cal,X.coi,X.wor,X.stk,X.len,by have:=X.row;show 0<=x.row+1;omega,by show 0<=x.used+c/\x.used+c<=x.given;omega,X.dep⟩
  obtain ⟨ds',x',ad,hD,a1,a2,a3,a4,a5,a6,a7⟩:=Zm8 X1 S hG (by show (ds.length:Int)+(x.given-(x.used+c))<=89999/\x.given-(x.used+c)<=30000;omega) hf e2 e1 (by show t+r<=(x.stack.length:Int);omega) (by show (x.stack.length:Int)-t+l<=24;omega)
  have a4:x.used+c<=x'.used/\x'.used<=x.given:=a4
  have a6:ds'.length<=ds.length+1+(x'.used-(x.used+c)).toNat:=a6
  refine ⟨ds',x',.int x.row::ad,.inr ⟨i,w,n,hi,hw,.inr ⟨ahead,b1,b2,t,l,pr,d,ad,hb1,hb2,e2,by rw [hc];exact hD,rfl⟩⟩,a1,a2,a3,a5,by omega,by omega,?_⟩
  rcases a7 with h|h
  .exact .inl h
  .exact .inr ⟨h,by omega⟩
theorem Zly {dd:Int} (hG:GOk A S0 G dd) (hr:∀ r∈rows,Zbo r):∀ (m:Nat) (ds:List Dd) (x:FrS),x.depth=dd->FOk A x->SOk (runS S0 ds)->((ds.length:Int)+(x.given-x.used)<=90000/\x.given-x.used<=30000)->(x.given-x.used).toNat<=m->∃ k ds2 y s,RunW A S0 G rows k ds x ds2 y s/\k<=m+1/\(∃ e,y.fin=some e)/\In64 y.answer/\(x.used<=y.used/\y.used<=x.given)/\y.given=x.given/\SOk (runS S0 ds2)/\ds2.length<=ds.length+(y.used-x.used).toNat:=by
 intro m
 induction m with
 | zero =>
  intro ds x ed X S hB hm
  obtain ⟨ds1,x',add,o,w,g,dp,s1,u,l,h⟩:=turn hr (by rw [ed];exact hG) X S hB
  rcases h with ⟨e,he,ha⟩|⟨_,h⟩
  .exact ⟨1,ds1,x',add++[],.step X.fin o (Nat.le_trans X.len (by decide)) w (.done (by rw [he];intro z;cases z)),by omega,⟨e,he⟩,ha,u,g,s1,l⟩
  .exfalso;omega
 | succ m ih =>
  intro ds x ed X S hB hm
  obtain ⟨ds1,x',add,o,w,g,dp,s1,u,l,h⟩:=turn hr (by rw [ed];exact hG) X S hB
  rcases h with ⟨e,he,ha⟩|⟨X',h⟩
  .exact ⟨1,ds1,x',add++[],.step X.fin o (Nat.le_trans X.len (by decide)) w (.done (by rw [he];intro z;cases z)),by omega,⟨e,he⟩,ha,u,g,s1,l⟩
  .obtain ⟨k,ds2,y,s,hr2,hk,hf,ha,hu,hg,hs,hl⟩:=ih ds1 x' (dp.trans ed) X' s1 (by rw [g];omega) (by rw [g];omega)
   exact ⟨k+1,ds2,y,add++s,.step X.fin o (Nat.le_trans X.len (by decide)) w hr2,by omega,hf,ha,by omega,hg.trans g,hs,by omega⟩
theorem go_of (hr:∀ i y,i<16->A i=some y->∀ r∈(S0 i).rows,Zbo r) {n:Nat} {ds:List Dd} {x:FrS} (hG:GOk A S0 (GoX A S0 n) x.depth) (S:SOk (runS S0 ds)) (I:InOk A (runS S0 ds) x) (hb1:(ds.length:Int)+x.given<=89999) (hb2:x.given<=30000):∃ ds' y st,GoX A S0 (n+1) ds x ds' y st/\Outc S0 ds x ds' y:=by
 obtain ⟨i,ac,ewh,hi,hA⟩:=I.wh
 have X:=I.ok
 have ux:=X.use
 have uz:=I.z
 have key:(∀ d,mvD x=some d->fitsD A d)->SOk (runS S0 (ds++(mvD x).toList))->(ds++(mvD x).toList).length<=ds.length+1->∃ ds' y st,GoX A S0 (n+1) ds x ds' y st/\Outc S0 ds x ds' y:=fun hfit S1 hl1=>by
  obtain ⟨k,ds2,y,s,hrun,hk,hf,ha,hu,hg,hs,hl⟩:=Zly hG (hr i ac hi hA) (x.given-x.used).toNat (ds++(mvD x).toList) x rfl X S1 (by omega) (Nat.le_refl _)
  refine ⟨(if y.fin=some ("well" : Str) then ds2 else ds),y,_,⟨(by rw [hg];exact hu.2),i,ac,k,ds2,s,X.fin,ewh,hi,hA,hfit,hrun,by omega,by omega,rfl,rfl⟩,hf,ha,hu,hg,?_,?_⟩
  .split
   .exact hs
   .exact S
  .split
   .omega
   .omega
 by_cases hm:x.kind = "call" /\ 0<x.coin
 .have e:mvD x=some (.move x.caller x.who x.coin):=if_pos hm
  obtain ⟨ic,zc,ec,hic,hac,hle⟩:=I.mv hm.1 hm.2
  obtain ⟨iw,aw,ew,hiw,haw⟩:=X.who
  refine key (fun d hd=>?_) ?_ ?_
  .rw [e] at hd;cases hd
   rw [ec,ew]
   exact ⟨⟨ic,zc,rfl,hic,hac⟩,iw,aw,rfl,hiw,haw⟩
  .rw [e,ec,ew,Ziv]
   exact S.move (A:=A) hic hiw hac haw (by omega) hle
  .rw [e,List.length_append];exact Nat.le_refl _
 .have e:mvD x=none:=if_neg hm
  refine key (fun d hd=>by rw [e] at hd;(cases hd)) ?_ ?_
  .rw [e,show ds++(none:Option Dd).toList=ds from List.append_nil _];exact S
  .rw [e,show ds++(none:Option Dd).toList=ds from List.append_nil _];omega
theorem Znb (hr:∀ i y,i<16->A i=some y->∀ r∈(S0 i).rows,Zbo r):∀ (n:Nat) (ds:List Dd) (x:FrS),SOk (runS S0 ds)->InOk A (runS S0 ds) x->8<=x.depth+(n:Int)->(ds.length:Int)+x.given<=89999->x.given<=30000->∃ ds' y st,GoX A S0 (n+1) ds x ds' y st/\Outc S0 ds x ds' y:=by
 intro n
 induction n with
 | zero =>
  intro ds x S I hd hb1 hb2
  exact go_of hr (fun ds y _ I2 h _ _=>by have:=I2.ok.dep.2;exfalso;omega) S I hb1 hb2
 | succ n ih =>
  intro ds x S I hd hb1 hb2
  exact go_of hr (fun ds y S2 I2 h h1 h2=>ih ds y S2 I2 (by omega) h1 h2) S I hb1 hb2
end
def ShP (x x':FrS) (w:Str) (n:Option Int) (i:Nat) (c:Int):Prop:=SameH x x'/\(x'.stack.length:Int)=hgW w (x.stack.length:Int)/\((x'.fin=none/\x'.row∈nxW (w,n) (i:Int)/\w ≠ "give" /\ w ≠ "fail")\/(w = "give" /\ x'.fin=some ("well" : Str))\/(w = "fail" /\ x'.fin=some ("fail" : Str)))/\x'.used=x.used+c/\inS w ["save", "note", "call", "borrow", "look"]=false
theorem ZjS {w:Str} {D:RD} (h:RDL.lookup w=some D) {x x':FrS} {n:Option Int} {i:Nat} {c:Int} (hi:x.row=(i:Int)) (hf:x.fin=none) (hD:D (ZaL x c) w n x'):ShP x x' w n i c:=by
 have hm:=Zbk h
 simp only [RDL,List.mem_cons,Prod.mk.injEq,List.not_mem_nil,or_false] at hm
 rcases hm with ⟨rfl,rfl⟩|⟨rfl,rfl⟩|⟨rfl,rfl⟩|⟨rfl,rfl⟩|⟨rfl,rfl⟩|⟨rfl,rfl⟩|⟨rfl,rfl⟩|⟨rfl,rfl⟩|⟨rfl,rfl⟩|⟨rfl,rfl⟩|⟨rfl,rfl⟩|⟨rfl,rfl⟩|⟨rfl,rfl⟩|⟨rfl,rfl⟩|⟨rfl,rfl⟩|⟨rfl,rfl⟩|⟨rfl,rfl⟩|⟨rfl,rfl⟩|⟨rfl,rfl⟩|⟨rfl,rfl⟩|⟨rfl,rfl⟩|⟨rfl,rfl⟩|⟨rfl,rfl⟩|⟨rfl,rfl⟩
 .obtain ⟨_,rfl,rfl⟩:=hD
  exact ⟨⟨rfl,rfl,rfl,rfl,rfl,rfl,rfl,rfl⟩,by show ((List.length _:Nat):Int)=(x.stack.length:Int)-_+_;simp only [ZaL,List.length_append,List.length_cons,List.length_nil];omega,.inl ⟨hf,List.mem_singleton.2 (by show x.row+1=_;rw [hi]),by decide,by decide⟩,rfl,rfl⟩
 .obtain ⟨s0,k0,es,rfl⟩:=hD
  have es:x.stack=_:=es
  exact ⟨⟨rfl,rfl,rfl,rfl,rfl,rfl,rfl,rfl⟩,by show ((List.length _:Nat):Int)=(x.stack.length:Int)-_+_;simp only [ZaL,List.length_append,List.length_cons,List.length_nil,es];omega,.inl ⟨hf,List.mem_singleton.2 (by show x.row+1=_;rw [hi]),by decide,by decide⟩,rfl,rfl⟩
 .obtain ⟨_,_,rfl,_,_,rfl⟩:=hD
  exact ⟨⟨rfl,rfl,rfl,rfl,rfl,rfl,rfl,rfl⟩,by show ((List.length _:Nat):Int)=(x.stack.length:Int)-_+_;simp only [ZaL,List.length_append,List.length_cons,List.length_nil];omega,.inl ⟨hf,List.mem_singleton.2 (by show x.row+1=_;rw [hi]),by decide,by decide⟩,rfl,rfl⟩
 .obtain ⟨s0,m0,a0,b0,rfl,es,rfl⟩:=hD
  have es:x.stack=_:=es
  exact ⟨⟨rfl,rfl,rfl,rfl,rfl,rfl,rfl,rfl⟩,by show ((List.length _:Nat):Int)=(x.stack.length:Int)-_+_;simp only [ZaL,List.length_append,List.length_cons,List.length_nil,es];omega,.inl ⟨hf,List.mem_singleton.2 (by show x.row+1=_;rw [hi]),by decide,by decide⟩,rfl,rfl⟩
 .obtain ⟨_,s0,a0,b0,_,es,_,rfl⟩:=hD
  have es:x.stack=_:=es
  exact ⟨⟨rfl,rfl,rfl,rfl,rfl,rfl,rfl,rfl⟩,by show ((List.length _:Nat):Int)=(x.stack.length:Int)-_+_;simp only [ZaL,List.length_append,List.length_cons,List.length_nil,es];omega,.inl ⟨hf,List.mem_singleton.2 (by show x.row+1=_;rw [hi]),by decide,by decide⟩,rfl,rfl⟩
 .obtain ⟨_,s0,a0,b0,_,es,_,rfl⟩:=hD
  have es:x.stack=_:=es
  exact ⟨⟨rfl,rfl,rfl,rfl,rfl,rfl,rfl,rfl⟩,by show ((List.length _:Nat):Int)=(x.stack.length:Int)-_+_;simp only [ZaL,List.length_append,List.length_cons,List.length_nil,es];omega,.inl ⟨hf,List.mem_singleton.2 (by show x.row+1=_;rw [hi]),by decide,by decide⟩,rfl,rfl⟩
 .obtain ⟨_,s0,a0,b0,_,es,_,rfl⟩:=hD
  have es:x.stack=_:=es
  exact ⟨⟨rfl,rfl,rfl,rfl,rfl,rfl,rfl,rfl⟩,by show ((List.length _:Nat):Int)=(x.stack.length:Int)-_+_;simp only [ZaL,List.length_append,List.length_cons,List.length_nil,es];omega,.inl ⟨hf,List.mem_singleton.2 (by show x.row+1=_;rw [hi]),by decide,by decide⟩,rfl,rfl⟩
 .obtain ⟨_,s0,a0,b0,_,es,_,rfl⟩:=hD
  have es:x.stack=_:=es
  exact ⟨⟨rfl,rfl,rfl,rfl,rfl,rfl,rfl,rfl⟩,by show ((List.length _:Nat):Int)=(x.stack.length:Int)-_+_;simp only [ZaL,List.length_append,List.length_cons,List.length_nil,es];omega,.inl ⟨hf,List.mem_singleton.2 (by show x.row+1=_;rw [hi]),by decide,by decide⟩,rfl,rfl⟩
 .obtain ⟨_,s0,a0,b0,_,es,_,rfl⟩:=hD
  have es:x.stack=_:=es
  exact ⟨⟨rfl,rfl,rfl,rfl,rfl,rfl,rfl,rfl⟩,by show ((List.length _:Nat):Int)=(x.stack.length:Int)-_+_;simp only [ZaL,List.length_append,List.length_cons,List.length_nil,es];omega,.inl ⟨hf,List.mem_singleton.2 (by show x.row+1=_;rw [hi]),by decide,by decide⟩,rfl,rfl⟩
 .obtain ⟨_,s0,a0,b0,_,es,_,rfl⟩:=hD
  have es:x.stack=_:=es
  exact ⟨⟨rfl,rfl,rfl,rfl,rfl,rfl,rfl,rfl⟩,by show ((List.length _:Nat):Int)=(x.stack.length:Int)-_+_;simp only [ZaL,List.length_append,List.length_cons,List.length_nil,es];omega,.inl ⟨hf,List.mem_singleton.2 (by show x.row+1=_;rw [hi]),by decide,by decide⟩,rfl,rfl⟩
 .obtain ⟨_,s0,a0,b0,_,es,_,rfl⟩:=hD
  have es:x.stack=_:=es
  exact ⟨⟨rfl,rfl,rfl,rfl,rfl,rfl,rfl,rfl⟩,by show ((List.length _:Nat):Int)=(x.stack.length:Int)-_+_;simp only [ZaL,List.length_append,List.length_cons,List.length_nil,es];omega,.inl ⟨hf,List.mem_singleton.2 (by show x.row+1=_;rw [hi]),by decide,by decide⟩,rfl,rfl⟩
 .obtain ⟨_,s0,a0,b0,_,es,_,rfl⟩:=hD
  have es:x.stack=_:=es
  exact ⟨⟨rfl,rfl,rfl,rfl,rfl,rfl,rfl,rfl⟩,by show ((List.length _:Nat):Int)=(x.stack.length:Int)-_+_;simp only [ZaL,List.length_append,List.length_cons,List.length_nil,es];omega,.inl ⟨hf,List.mem_singleton.2 (by show x.row+1=_;rw [hi]),by decide,by decide⟩,rfl,rfl⟩
 .obtain ⟨_,s0,a0,b0,_,es,_,rfl⟩:=hD
  have es:x.stack=_:=es
  exact ⟨⟨rfl,rfl,rfl,rfl,rfl,rfl,rfl,rfl⟩,by show ((List.length _:Nat):Int)=(x.stack.length:Int)-_+_;simp only [ZaL,List.length_append,List.length_cons,List.length_nil,es];omega,.inl ⟨hf,List.mem_singleton.2 (by show x.row+1=_;rw [hi]),by decide,by decide⟩,rfl,rfl⟩
 .obtain ⟨_,s0,a0,b0,_,es,_,rfl⟩:=hD
  have es:x.stack=_:=es
  exact ⟨⟨rfl,rfl,rfl,rfl,rfl,rfl,rfl,rfl⟩,by show ((List.length _:Nat):Int)=(x.stack.length:Int)-_+_;simp only [ZaL,List.length_append,List.length_cons,List.length_nil,es];omega,.inl ⟨hf,List.mem_singleton.2 (by show x.row+1=_;rw [hi]),by decide,by decide⟩,rfl,rfl⟩
 .obtain ⟨_,s0,a0,b0,_,es,_,rfl⟩:=hD
  have es:x.stack=_:=es
  exact ⟨⟨rfl,rfl,rfl,rfl,rfl,rfl,rfl,rfl⟩,by show ((List.length _:Nat):Int)=(x.stack.length:Int)-_+_;simp only [ZaL,List.length_append,List.length_cons,List.length_nil,es];omega,.inl ⟨hf,List.mem_singleton.2 (by show x.row+1=_;rw [hi]),by decide,by decide⟩,rfl,rfl⟩
 .obtain ⟨_,s0,a0,b0,_,es,_,rfl⟩:=hD
  have es:x.stack=_:=es
  exact ⟨⟨rfl,rfl,rfl,rfl,rfl,rfl,rfl,rfl⟩,by show ((List.length _:Nat):Int)=(x.stack.length:Int)-_+_;simp only [ZaL,List.length_append,List.length_cons,List.length_nil,es];omega,.inl ⟨hf,List.mem_singleton.2 (by show x.row+1=_;rw [hi]),by decide,by decide⟩,rfl,rfl⟩
 .obtain ⟨_,rfl,rfl⟩:=hD
  exact ⟨⟨rfl,rfl,rfl,rfl,rfl,rfl,rfl,rfl⟩,by show (x.stack.length:Int)=(x.stack.length:Int)-0+0;omega,.inl ⟨hf,List.mem_singleton.2 rfl,by decide,by decide⟩,rfl,rfl⟩
 .obtain ⟨k0,s0,t0,rfl,es,rfl⟩:=hD
  have es:x.stack=_:=es
  exact ⟨⟨rfl,rfl,rfl,rfl,rfl,rfl,rfl,rfl⟩,by show ((List.length _:Nat):Int)=(x.stack.length:Int)-_+_;simp only [ZaL,List.length_append,List.length_cons,List.length_nil,es];omega,.inl ⟨hf,(by show (if t0=0 then x.row+1 else k0)∈[k0,(i:Int)+1];split<;>simp [hi]),by decide,by decide⟩,rfl,rfl⟩
 .rw [show x'=_ from hD]
  exact ⟨⟨rfl,rfl,rfl,rfl,rfl,rfl,rfl,rfl⟩,by show ((List.length _:Nat):Int)=(x.stack.length:Int)-_+_;simp only [ZaL,List.length_append,List.length_cons,List.length_nil];omega,.inl ⟨hf,List.mem_singleton.2 (by show x.row+1=_;rw [hi]),by decide,by decide⟩,rfl,rfl⟩
 .rw [show x'=_ from hD]
  exact ⟨⟨rfl,rfl,rfl,rfl,rfl,rfl,rfl,rfl⟩,by show ((List.length _:Nat):Int)=(x.stack.length:Int)-_+_;simp only [ZaL,List.length_append,List.length_cons,List.length_nil];omega,.inl ⟨hf,List.mem_singleton.2 (by show x.row+1=_;rw [hi]),by decide,by decide⟩,rfl,rfl⟩
 .rw [show x'=_ from hD]
  exact ⟨⟨rfl,rfl,rfl,rfl,rfl,rfl,rfl,rfl⟩,by show ((List.length _:Nat):Int)=(x.stack.length:Int)-_+_;simp only [ZaL,List.length_append,List.length_cons,List.length_nil];omega,.inl ⟨hf,List.mem_singleton.2 (by show x.row+1=_;rw [hi]),by decide,by decide⟩,rfl,rfl⟩
 .rw [show x'=_ from hD]
  exact ⟨⟨rfl,rfl,rfl,rfl,rfl,rfl,rfl,rfl⟩,by show ((List.length _:Nat):Int)=(x.stack.length:Int)-_+_;simp only [ZaL,List.length_append,List.length_cons,List.length_nil];omega,.inl ⟨hf,List.mem_singleton.2 (by show x.row+1=_;rw [hi]),by decide,by decide⟩,rfl,rfl⟩
 .obtain ⟨s0,t0,es,rfl⟩:=hD
  have es:x.stack=_:=es
  exact ⟨⟨rfl,rfl,rfl,rfl,rfl,rfl,rfl,rfl⟩,by show ((List.length _:Nat):Int)=(x.stack.length:Int)-_+_;simp only [ZaL,List.length_append,List.length_cons,List.length_nil,es];omega,.inr (.inl ⟨rfl,rfl⟩),rfl,rfl⟩
 .obtain ⟨s0,t0,es,rfl⟩:=hD
  have es:x.stack=_:=es
  exact ⟨⟨rfl,rfl,rfl,rfl,rfl,rfl,rfl,rfl⟩,by show ((List.length _:Nat):Int)=(x.stack.length:Int)-_+_;simp only [ZaL,List.length_append,List.length_cons,List.length_nil,es];omega,.inr (.inr ⟨rfl,rfl⟩),rfl,rfl⟩
section
variable {A:Nat->Option AcI} {S0:Nat->AcS} {G:GR} {rows:List Row}
theorem Zjd {w:Str} {n:Option Int} {ds ds1:List Dd} {x x':FrS} {ad:List Dt} {b1 b2:Bool} {c:Int} {i:Nat} (h:DoW A S0 G w n ds (ZaL x c) ds1 x' ad) (hb1:Zcy x w b1) (hb2:fillsR A (runS S0 ds) x w b2) (hi:x.row=(i:Int)) (hf:x.fin=none) :
  (ShP x x' w n i c/\ad=[]/\(b1||b2)=false)\/(SameH x x'/\(x'.stack.length:Int)=hgW w (x.stack.length:Int)/\x'.fin=none/\x'.row∈nxW (w,n) (i:Int)/\w ≠ "give" /\ w ≠ "fail" /\ x'.used=x.used+c/\∃ d,ad=[d]/\ZjR x w d (b1||b2))\/(inS w ["call", "borrow", "look"]=true/\∃ d,ad=[d]/\Zlj A S0 G w ds (ZaL x c) ds1 x' d/\b2=false):=by
 have nb1:w ≠ "call" -> b1=false:=fun hw=>by
  rcases hb1 with ⟨_,h⟩|⟨h,_⟩
  .exact h
  .exact absurd h hw
 have nb2:w ≠ "save" -> b2=false:=fun hw=>by
  rcases hb2 with ⟨_,h⟩|⟨h,_⟩
  .exact h
  .exact absurd h hw
 cases h with
 | pure hC h hD =>
  have q:=ZjS h hi hf hD
  refine .inl ⟨q,rfl,?_⟩
  have q5:=q.2.2.2.2
  rw [nb1 (fun e=>by rw [e] at q5;exact absurd q5 (by decide)),nb2 (fun e=>by rw [e] at q5;exact absurd q5 (by decide))]
  rfl
 | load ew h1 hy e =>
  have e:x.stack=_:=e
  refine .inl ⟨⟨⟨rfl,rfl,rfl,rfl,rfl,rfl,rfl,rfl⟩,?_,.inl ⟨hf,List.mem_singleton.2 (by show x.row+1=_;rw [hi]),by decide,by decide⟩,rfl,rfl⟩,rfl,by rw [nb1 (by decide),nb2 (by decide)];rfl⟩
  show ((List.length _:Nat):Int)=(x.stack.length:Int)-1+1
  simp only [ZaL,e,List.length_append,List.length_cons,List.length_nil];omega
 | coin e =>
  have e:x.stack=_:=e
  refine .inl ⟨⟨⟨rfl,rfl,rfl,rfl,rfl,rfl,rfl,rfl⟩,?_,.inl ⟨hf,List.mem_singleton.2 (by show x.row+1=_;rw [hi]),by decide,by decide⟩,rfl,rfl⟩,rfl,by rw [nb1 (by decide),nb2 (by decide)];rfl⟩
  show ((List.length _:Nat):Int)=(x.stack.length:Int)-1+1
  simp only [ZaL,e,List.length_append,List.length_cons,List.length_nil];omega
 | @save _ _ _ s pl v j y ew hj hy e =>
  have e:x.stack=s++[pl,v]:=e
  have ew:x.who=(j:Int):=ew
  refine .inr (.inl ⟨⟨rfl,rfl,rfl,rfl,rfl,rfl,rfl,rfl⟩,?_,hf,List.mem_singleton.2 (by show x.row+1=_;rw [hi]),by decide,by decide,rfl,_,rfl,.inl ⟨rfl,pl,_,v,by rw [ew];rfl,?_⟩⟩)
  .show ((s.length:Nat):Int)=(x.stack.length:Int)-2+0
   simp only [ZaL,e,List.length_append,List.length_cons,List.length_nil];omega
  .rw [nb1 (by decide),Bool.false_or]
   rcases hb2 with ⟨h,_⟩|⟨_,s2,p2,v2,e2,h⟩
   .exact absurd rfl h
   .rw [e] at e2
    obtain ⟨rfl,e3⟩:=List.append_inj' e2 rfl
    cases e3
    rcases h with ⟨rfl,rfl⟩|⟨hv,i2,y2,ei,_,_,rfl⟩
    .simp
    .have:i2=j:=by omega
     rw [this]
     simp [hv]
 | @note _ _ _ s v e =>
  have e:x.stack=s++[v]:=e
  refine .inr (.inl ⟨⟨rfl,rfl,rfl,rfl,rfl,rfl,rfl,rfl⟩,?_,hf,List.mem_singleton.2 (by show x.row+1=_;rw [hi]),by decide,by decide,rfl,_,rfl,.inr ⟨rfl,v,rfl,by rw [nb1 (by decide),nb2 (by decide)];rfl⟩⟩)
  show ((s.length:Nat):Int)=(x.stack.length:Int)-1+0
  simp only [ZaL,e,List.length_append,List.length_cons,List.length_nil];omega
 | call hC h=>exact .inr (.inr ⟨hC,_,rfl,h,nb2 fun e=>by rw [e] at hC;exact absurd hC (by decide)⟩)
def JB (rows:List Row):Prop:=∀ r∈rows,inS r.1 ["jump", "jumpif"]=true->0<=r.2.getD 0/\r.2.getD 0<=(rows.length:Int)
theorem nx_le (hJ:JB rows) {i:Nat} {r:Row} (hr:rows[i]?=some r):∀ j∈nxW r (i:Int),0<=j/\j<=(rows.length:Int):=fun j hj=>by
 have hi:=(List.getElem?_eq_some_iff.mp hr).1
 have hm:=hJ r (List.mem_of_getElem? hr)
 unfold nxW at hj
 split at hj
 .rename_i e
  rw [List.mem_singleton.1 hj]
  exact hm (by rw [e];rfl)
 split at hj
 .rename_i e
  rcases List.mem_cons.1 hj with rfl|hj
  .exact hm (by rw [e];rfl)
  .rw [List.mem_singleton.1 hj];omega
 split at hj
 .cases hj
 .rw [List.mem_singleton.1 hj];omega
theorem tk_eq {w:Str} {n:Option Int} {r t l pr d:Int} (h:Zby w n=some r) (h2:RT.lookup w=some (t,l,pr,d)):tkW (w,n)=t+r:=by
 unfold tkW
 rw [h2]
 unfold Zby at h
 split at h
 .rename_i e
  rw [if_pos e,h];rfl
 .rename_i e
  rw [if_neg e]
  cases h;rfl
theorem hg_eq {w:Str} {t l pr d:Int} (m:Int) (h2:RT.lookup w=some (t,l,pr,d)):hgW w m=m-t+l:=by unfold hgW;rw [h2]
theorem pc_eq {w:Str} {t l pr d:Int} (b:Bool) (h2:RT.lookup w=some (t,l,pr,d)):pcW w b=if b=true then d else pr:=by unfold pcW;rw [h2]
theorem pr_le {w:Str} {t l pr d:Int} (h2:RT.lookup w=some (t,l,pr,d)):pr<=d:=by
 have q:∀ p∈RT,p.2.2.2.1<=p.2.2.2.2:=by decide
 exact q _ (Zbk h2)
theorem on_hdr {ds ds1:List Dd} {x x':FrS} {add:List Dt} (o:OnW A S0 G rows ds x ds1 x' add) (hf:x.fin=none):SameH x x'/\add.length<=2:=by
 rcases o with ⟨_,_,rfl,rfl⟩|⟨i,w,n,hi,_,h⟩
 .exact ⟨⟨rfl,rfl,rfl,rfl,rfl,rfl,rfl,rfl⟩,by decide⟩
 rcases h with ⟨e,_,_,rfl,rfl⟩|⟨_,b1,b2,t,l,pr,d,ad,hb1,hb2,_,hD,rfl⟩
 .exact ⟨⟨rfl,rfl,rfl,rfl,rfl,rfl,rfl,rfl⟩,by decide⟩
 rcases Zjd hD hb1 hb2 hi hf with ⟨q,rfl,_⟩|⟨q,_,_,_,_,_,_,d,rfl,_⟩|⟨_,d,rfl,hC,_⟩
 .exact ⟨q.1,show 1<=2 by decide⟩
 .exact ⟨q,show 2<=2 by decide⟩
 .obtain ⟨s,y,y',st,e,_,rfl,_⟩:=hC
  exact ⟨⟨rfl,rfl,rfl,rfl,rfl,rfl,rfl,rfl⟩,show 2<=2 by decide⟩
theorem ZoH:∀ {k:Nat} {ds ds2:List Dd} {x y:FrS} {s:List Dt},RunW A S0 G rows k ds x ds2 y s->SameH x y/\s.length<=2*k:=by
 intro k ds ds2 x y s h
 induction h with
 | done h=>exact ⟨SameH.refl _,Nat.zero_le _⟩
 | step h o l e q ih =>
  have z:=on_hdr o h
  exact ⟨z.1.trans ih.1,by rw [List.length_append];have:=z.2;have:=ih.2;omega⟩
theorem Zgq {k:Nat} {ds ds2:List Dd} {x y:FrS} {s:List Dt} (h:RunW A S0 G rows k ds x ds2 y s) {e:Str} (hf:x.fin=some e):y=x/\s=[]:=by
 cases h with
 | done h=>exact ⟨rfl,rfl⟩
 | step h=>rw [h] at hf;cases hf
def Fresh (x:FrS):Prop:=x.used=0/\x.stack=[]/\x.row=0
def GS (sub:Int->Bool->FrS->List Dt->Prop) (G:GR):Prop:=∀ ds x ds' y st,G ds x ds' y st->Fresh x->SameH x y/\∀ g,x.given<=g->sub g x.looking y st
theorem Zde {e:Str} (h:e = "well" \/ e = "fail" \/ e = "short" \/ e = "full" \/ e = "barred" \/ e = "dry"):¬ BadE e:=by
 unfold BadE
 rcases h with rfl|rfl|rfl|rfl|rfl|rfl<;>decide
theorem Zlz {f x y:FrS} {S:Nat->AcS} {w:Str} {n:Option Int} {e:Str} {i:Nat} (hH:SameH f x) (hy:y={ x with fin:=some e,answer:=0 }) (hr:rows[i]?=some (w,n)) (h:aheadR A S x w n (some e)):EndW f y rows (x.stack.length:Int) (i:Int)/\¬ BadE e:=by
 subst hy
 obtain ⟨r,t,l,pr,d,h1,h2,h⟩:=h
 have tk:=tk_eq h1 h2
 have hg:=hg_eq (x.stack.length:Int) h2
 have fl:f.looking=x.looking:=hH.looking.symm
 rcases h with ⟨a,e0⟩|⟨a,b,e0⟩|⟨a,b,b1,b2,k1,k2,h⟩
 .cases e0
  exact ⟨⟨rfl,.inr ⟨i,_,rfl,hr,.inl ⟨by rw [tk];exact a,rfl⟩⟩⟩,Zde (by simp)⟩
 .cases e0
  exact ⟨⟨rfl,.inr ⟨i,_,rfl,hr,.inr (.inl ⟨by rw [tk];exact a,by rw [hg];omega,rfl⟩)⟩⟩,Zde (by simp)⟩
 .have a':¬ (x.stack.length:Int)<tkW (w,n):=by rw [tk];exact a
  have b':¬ 24<hgW w (x.stack.length:Int):=by rw [hg];omega
  rcases h with ⟨c,e0⟩|⟨c,dr,e0⟩|⟨_,_,e0⟩
  .cases e0
   unfold barB at c
   rw [Bool.and_eq_true,Bool.or_eq_true] at c
   refine ⟨⟨rfl,.inr ⟨i,_,rfl,hr,.inr (.inr ?_)⟩⟩,Zde (by simp)⟩
   by_cases sn:inS w ["save", "note"]=true
   .exact .inl ⟨a',b',fl.trans c.1,sn,rfl⟩
   .refine .inr ⟨a',b',fun z=>sn z.2,.inl ⟨rfl,fl.trans c.1,?_⟩⟩
    rcases c.2 with z|z
    .exact absurd z sn
    .rcases k1 with ⟨_,q⟩|⟨q,_⟩
     .rw [q] at z;cases z
     .exact q
  .cases e0
   unfold barB at c
   refine ⟨⟨rfl,.inr ⟨i,_,rfl,hr,.inr (.inr (.inr ⟨a',b',fun z=>?_,.inr ⟨rfl,?_⟩⟩))⟩⟩,Zde (by simp)⟩
   .rw [<- fl,z.1,z.2] at c;cases c
   .rw [pc_eq true h2]
    have:=pr_le h2
    show x.given-x.used<d
    split at dr<;>omega
  .cases e0
theorem Znc {sub:Int->Bool->FrS->List Dt->Prop} (hN:∀ g lk y st,NoB y st->sub g lk y st) (hG:GS sub G) (hJ:JB rows) {f:FrS}:∀ {k:Nat} {ds ds2:List Dd} {x y:FrS} {s:List Dt},RunW A S0 G rows k ds x ds2 y s->SameH f x->x.fin=none->∀ (ns:List Int) (l:Str),x.row∈ns->(∀ i∈ns,0<=i/\i<=(rows.length:Int))->l ≠ "give" -> l ≠ "fail" -> ∃ ns' l' m',Wlk f rows sub ns l (x.stack.length:Int) x.used s ns' l' m' y.used/\ZoG f y rows ns' l' m'/\∃ e,y.fin=some e/\¬ BadE e:=by
 intro k ds ds2 x y s h
 induction h with
 | done h=>intro _ hf;exact absurd hf h
 | @step k ds ds1 ds2 x x' y add st h o l e q ih =>
  intro hH hf ns l0 hns hle n1 n2
  rcases o with ⟨hrow,_,ex',rfl⟩|⟨i,w,n,hi,hr,o⟩
  .obtain ⟨rfl,rfl⟩:=Zgq q (e := "well") (by rw [ex'])
   subst ex'
   refine ⟨ns,l0,_,.nil,.inr (.inr ⟨n1,n2,x.row,hns,rfl,.inl ⟨?_,rfl⟩⟩),_,rfl,Zde (by simp)⟩
   have:=(hle _ hns).2
   omega
  rcases o with ⟨e1,ha,_,ex',rfl⟩|⟨ha,b1,b2,t,l1,pr,d,ad,hb1,hb2,hRT,hD,rfl⟩
  .obtain ⟨rfl,rfl⟩:=Zgq q (e:=e1) (by rw [ex'])
   have z:=Zlz hH ex' hr ha
   subst ex'
   rw [hi] at hns
   exact ⟨ns,l0,_,.nil,.inr (.inr ⟨n1,n2,(i:Int),hns,z.1⟩),_,rfl,z.2⟩
  have hi':(i:Int)∈ns:=by rw [<- hi];exact hns
  obtain ⟨tk,hg⟩:tkW (w,n)<=(x.stack.length:Int)/\hgW w (x.stack.length:Int)<=24:=by
   obtain ⟨r,t2,l2,pr2,d2,h1,h2,ha⟩:=ha
   rw [tk_eq h1 h2,hg_eq _ h2]
   rcases ha with ⟨_,z⟩|⟨_,_,z⟩|⟨a,b,_⟩
   .cases z
   .cases z
   .exact ⟨by omega,by omega⟩
  have nl:=nx_le hJ hr
  have pc:=pc_eq (b1||b2) hRT
  rw [<- pc] at hD
  rcases Zjd hD hb1 hb2 hi hf with ⟨sh,rfl,hb⟩|⟨sH,sl,sf,sr,sg,sfa,su,d2,rfl,hd⟩|⟨hC,d2,rfl,hC2,hb⟩
  .obtain ⟨sH,sl,sf,su,sw⟩:=sh
   rw [hb] at su
   rcases sf with ⟨sf,sr,sg,sfa⟩|⟨rfl,sf⟩|⟨rfl,sf⟩
   .obtain ⟨ns',l',m',hw,hl,he⟩:=ih (hH.trans sH) sf _ w sr nl sg sfa
    rw [sl,su] at hw
    refine ⟨ns',l',m',?_,hl,he⟩
    rw [hi]
    exact .one hi' hr sw tk hg hw
   .obtain ⟨rfl,rfl⟩:=Zgq q sf
    refine ⟨nxW (("give" : Str),n) (i:Int), "give", hgW "give" (x.stack.length:Int),?_,.inl ⟨rfl,sf⟩,_,sf,Zde (by simp)⟩
    rw [hi,su]
    exact .one hi' hr sw tk hg .nil
   .obtain ⟨rfl,rfl⟩:=Zgq q sf
    refine ⟨nxW (("fail" : Str),n) (i:Int), "fail", hgW "fail" (x.stack.length:Int),?_,.inr (.inl ⟨rfl,sf⟩),_,sf,Zde (by simp)⟩
    rw [hi,su]
    exact .one hi' hr sw tk hg .nil
  .obtain ⟨ns',l',m',hw,hl,he⟩:=ih (hH.trans sH) sf _ w sr nl sg sfa
   rw [sl,su] at hw
   refine ⟨ns',l',m',?_,hl,he⟩
   rw [hi]
   refine .deed (b:=b1||b2) hi' hr ?_ tk hg hw
   unfold ZjR at hd |-
   rw [<- hH.who]
   exact hd
  .obtain ⟨s0,y0,y',s',e1,hO,hx',rfl,_,haC,hb3⟩:=hC2
   rw [hb,Bool.or_false] at hO hx' hb3 pc
   have ew:w ≠ "give" /\ w ≠ "fail" /\ nxW (w,n) (i:Int)=[(i:Int)+1]:=by
    rcases hO with ⟨rfl,_⟩|⟨rfl,_⟩|⟨rfl,_⟩<;>exact ⟨by decide,by decide,rfl⟩
   have sl:(x'.stack.length:Int)=hgW w (x.stack.length:Int):=by
    rw [hx']
    rcases hO with ⟨rfl,a1,a2,a3,a4,es,_⟩|⟨rfl,a1,a2,a3,es,_⟩|⟨rfl,a1,a2,a3,es,_⟩
    .have es:x.stack=_:=es
     show (((s0++[_,_]).length:Nat):Int)=(x.stack.length:Int)-4+2
     simp only [es,List.length_append,List.length_cons,List.length_nil];omega
    .have es:x.stack=_:=es
     show (((s0++[_,_]).length:Nat):Int)=(x.stack.length:Int)-3+2
     simp only [es,List.length_append,List.length_cons,List.length_nil];omega
    .have es:x.stack=_:=es
     show (((s0++[_,_]).length:Nat):Int)=(x.stack.length:Int)-3+2
     simp only [es,List.length_append,List.length_cons,List.length_nil];omega
   have su:x'.used=x.used+pcW w b1+y'.used:=by rw [hx'];rfl
   have sH:SameH x x':=by rw [hx'];exact ⟨rfl,rfl,rfl,rfl,rfl,rfl,rfl,rfl⟩
   have sf:x'.fin=none:=by rw [hx'];exact hf
   have sr:x'.row∈nxW (w,n) (i:Int):=by rw [ew.2.2,hx'];exact List.mem_singleton.2 (by show x.row+1=_;rw [hi])
   have fr:Fresh y0/\y0.looking=(f.looking||decide (w = "look")):=by
    have fl:=hH.looking
    rcases hO with ⟨rfl,a1,a2,a3,a4,es,rfl⟩|⟨rfl,a1,a2,a3,es,rfl⟩|⟨rfl,a1,a2,a3,es,rfl⟩
    .exact ⟨⟨rfl,rfl,rfl⟩,by show x.looking=(f.looking||false);rw [Bool.or_false];exact fl⟩
    .exact ⟨⟨rfl,rfl,rfl⟩,by show x.looking=(f.looking||false);rw [Bool.or_false];exact fl⟩
    .exact ⟨⟨rfl,rfl,rfl⟩,by show true=(f.looking||true);rw [Bool.or_true]⟩
   have cal:∀ y2:FrS,y2.kind=y0.kind->y2.who=y0.who->y2.whose=y0.whose->y2.caller=y0.caller->y2.coin=y0.coin->Zdd f w y2 b1:=fun y2 g1 g2 g3 g4 g5=>by
    unfold Zdd
    rw [g1,g2,g3,g4,g5,<- hH.who,<- hH.caller,<- hH.coin]
    have nb:w ≠ "call" -> b1=false:=fun hw=>by
     rcases hb1 with ⟨_,h⟩|⟨h,_⟩
     .exact h
     .exact absurd h hw
    rcases hO with ⟨rfl,a1,a2,a3,a4,es,rfl⟩|⟨rfl,a1,a2,a3,es,rfl⟩|⟨rfl,a1,a2,a3,es,rfl⟩
    .refine ⟨rfl,.inl ⟨rfl,rfl,rfl,?_⟩⟩
     rcases hb1 with ⟨h,_⟩|⟨_,s2,c2,u2,v2,e3,hc2⟩
     .exact absurd rfl h
     .have es:x.stack=s0++[a1,a2,a3,a4]:=es
      rw [es] at e3
      have:s0++[a1]++[a2,a3,a4]=s2++[c2,u2,v2]:=by rw [List.append_assoc];exact e3
      have q:=(List.append_inj' this rfl).2
      cases q
      exact hc2
    .exact ⟨rfl,.inr (.inl ⟨rfl,rfl,rfl,rfl,nb (by decide)⟩)⟩
    .exact ⟨rfl,.inr (.inr ⟨rfl,rfl,rfl,rfl,nb (by decide)⟩)⟩
   obtain ⟨ns',l',m',hw,hl,he⟩:=ih (hH.trans sH) sf _ w sr nl ew.1 ew.2.1
   rw [sl,su] at hw
   have both:Zdd f w y' b1/\sub (f.given-(x.used+pcW w b1)) (f.looking||decide (w = "look")) y' s':=by
    rcases hb3 with ⟨e2,rfl,_,rfl,rfl⟩|⟨rfl,hg2⟩
    .refine ⟨cal _ rfl rfl rfl rfl rfl,hN _ _ _ _ ⟨e2,rfl,?_,rfl,rfl,fr.1.1,rfl⟩⟩
     rcases haC with ⟨_,z⟩|⟨_,_,_,_,z|z|z⟩
     .cases z;exact .inl rfl
     .cases z.2;exact .inr (.inl rfl)
     .cases z.2.2
     .obtain ⟨_,_,_,_,_,_,_,z|z⟩:=z
      .cases z.2;exact .inr (.inr rfl)
      .cases z.2
    .have q2:=hG _ _ _ _ _ hg2 ⟨fr.1.1,fr.1.2.1,fr.1.2.2⟩
     refine ⟨cal _ q2.1.kind q2.1.who q2.1.whose q2.1.caller q2.1.coin,?_⟩
     have q3:=q2.2 (f.given-(x.used+pcW w b1)) (by
      rw [<- hH.given]
      show (if x.given-(x.used+pcW w b1)<y0.given then x.given-(x.used+pcW w b1) else y0.given)<=_
      split<;>omega)
     rw [<- fr.2]
     exact q3
   refine ⟨ns',l',m',?_,hl,he⟩
   rw [hi]
   exact .call (b:=b1) hi' hr both.1 both.2 tk hg hw
theorem ZlA (hJ:∀ i y,i<16->A i=some y->JB (S0 i).rows):∀ n,GS (WkN A S0 n) (GoX A S0 n)
 | 0=>fun _ _ _ _ _ h=>h.elim
 | n+1=>fun ds x ds' y st h hF=>by
  obtain ⟨hu,i,ac,k,ds1,st1,h1,h2,h3,h4,h5,h6,h7,h8,h9,rfl⟩:=h
  have hd:=ZoH h6
  have sy:SameH y x:=⟨hd.1.kind.symm,hd.1.who.symm,hd.1.whose.symm,hd.1.caller.symm,hd.1.coin.symm,hd.1.given.symm,hd.1.looking.symm,hd.1.word.symm⟩
  have mv:mvD y=mvD x:=by unfold mvD;rw [hd.1.kind,hd.1.coin,hd.1.caller,hd.1.who]
  obtain ⟨ns',l',m',hw,hl,e,he,hb⟩:=Znc (sub:=WkN A S0 n) (fun g lk y st hn=>WkN.no hn) (ZlA hJ n) (hJ i ac h3 h4) h6 sy h1 [0] "" (by rw [hF.2.2];exact List.mem_singleton.2 rfl) (fun j hj=>by rw [List.mem_singleton.1 hj];omega) (by decide) (by decide)
  rw [hF.1,hF.2.1] at hw
  refine ⟨hd.1,fun g hg=>.inr ⟨e,he,hb,?_,hd.1.looking,by rw [hd.1.given];exact hg,hu,i,ac,st1,ns',l',m',by rw [hd.1.whose];exact h2,h3,h4,by rw [mv],hw,hl⟩⟩
  have:(mvD x).toList.length<=1:=by cases mvD x<;>simp
  rw [List.length_append,List.length_map]
  have:=hd.2
  omega
end
section
end
def Has (H:Hp):List (Addr×HO)->Prop
 | []=>True
 | p::r=>H p.1=some p.2/\Has H r
theorem Has.same {H H':Hp} (s:Same H H'):∀ {fs:List (Addr×HO)},Has H fs->Has H' fs
 | [],_=>trivial
 | _::_,h=>⟨s _ _ h.1,Has.same s h.2⟩
structure Gw (H0 H:Hp) (fs:List (Addr×HO)):Prop where
 s:Same H0 H
 h:Has H fs
section
variable {H0 H H':Hp} {fs:List (Addr×HO)} {p:Addr} {o:HO}
theorem Gw.start:Gw H H []:=⟨Same.refl _,trivial⟩
theorem Gw.new (g:Gw H0 H fs) (n:H p=none):Gw H0 (upd H p o) ((p,o)::fs):=⟨g.s.newT n,Zag,g.h.same (Same.new n)⟩
theorem Gw.newE (g:Gw H0 H fs) (n:H p=none) (e:upd H p o=H'):Gw H0 H' ((p,o)::fs):=by rw [<- e];exact g.new n
theorem Gw.same (g:Gw H0 H fs) (s:Same H H'):Gw H0 H' fs:=⟨g.s.trans s,g.h.same s⟩
theorem Gw.add (g:Gw H0 H fs) (e:H p=some o):Gw H0 H ((p,o)::fs):=⟨g.s,e,g.h⟩
theorem Gw.fresh (g:Gw H0 H fs) (n:H p=none):H0 p=none:=g.s.fresh n
end
theorem ZlB {w:Str} (h:(RT.lookup w).isSome=true) (h2:inS w ["push", "copy", "swap", "jump", "jumpif"]=false):Zbo (w,none):=by
 unfold inS at h2
 simp only [List.any_cons,List.any_nil,Bool.or_false,Bool.or_eq_false_iff] at h2
 refine ⟨Option.isSome_iff_exists.mp h,fun z=>?_,fun z=>?_,fun z=>?_⟩
 .have z:w = "push" := z
  rw [z] at h2;exact absurd h2.1 (by decide)
 .have z:inS w ["copy", "swap"]=true:=z
  unfold inS at z
  simp only [List.any_cons,List.any_nil,Bool.or_false,Bool.or_eq_true] at z
  rcases z with z|z
  .rw [h2.2.1] at z;cases z
  .rw [h2.2.2.1] at z;cases z
 .have z:inS w ["jump", "jumpif"]=true:=z
  unfold inS at z
  simp only [List.any_cons,List.any_nil,Bool.or_false,Bool.or_eq_true] at z
  rcases z with z|z
  .rw [h2.2.2.2.1] at z;cases z
  .rw [h2.2.2.2.2] at z;cases z
theorem ZlC {k:Int} (h:In64 k):Zbo ("push", some k):=⟨⟨_,rfl⟩,fun _=>⟨k,rfl,h⟩,fun z=>absurd z (by show ¬ inS ("push" : Str) ["copy", "swap"]=true;decide),fun z=>absurd z (by show ¬ inS ("push" : Str) ["jump", "jumpif"]=true;decide)⟩
theorem ZlD {k:Int} (h:0<=k):Zbo ("copy", some k):=⟨⟨_,rfl⟩,fun z=>absurd z (by show ¬ ("copy" : Str) = "push";decide),fun _=>⟨k,rfl,h,fun z=>absurd z (by show ¬ ("copy" : Str) = "swap";decide)⟩,fun z=>absurd z (by show ¬ inS ("copy" : Str) ["jump", "jumpif"]=true;decide)⟩
theorem ZlE {k:Int} (h:1<=k):Zbo ("swap", some k):=⟨⟨_,rfl⟩,fun z=>absurd z (by show ¬ ("swap" : Str) = "push";decide),fun _=>⟨k,rfl,by omega,fun _=>h⟩,fun z=>absurd z (by show ¬ inS ("swap" : Str) ["jump", "jumpif"]=true;decide)⟩
theorem ZlF {w:Str} {k:Int} (hw:w = "jump" \/ w = "jumpif") (h:0<=k):Zbo (w,some k):=by
 rcases hw with rfl|rfl
 .exact ⟨⟨_,rfl⟩,fun z=>absurd z (by show ¬ ("jump" : Str) = "push";decide),fun z=>absurd z (by show ¬ inS ("jump" : Str) ["copy", "swap"]=true;decide),fun _=>⟨k,rfl,h⟩⟩
 .exact ⟨⟨_,rfl⟩,fun z=>absurd z (by show ¬ ("jumpif" : Str) = "push";decide),fun z=>absurd z (by show ¬ inS ("jumpif" : Str) ["copy", "swap"]=true;decide),fun _=>⟨k,rfl,h⟩⟩
def RowFit2 (b:Int) (r:Row):Prop:=Zbo r/\(inS r.1 ["jump", "jumpif"]=true->0<=r.2.getD 0/\r.2.getD 0<=b)
theorem RowFit2.mono {b c:Int} {r:Row} (h:RowFit2 b r) (hb:b<=c):RowFit2 c r:=⟨h.1,fun z=>⟨(h.2 z).1,Int.le_trans (h.2 z).2 hb⟩⟩
theorem Zje {b:Int} {r:Row} (h:Zbo r) (h2:inS r.1 ["jump", "jumpif"]=false):RowFit2 b r:=⟨h,fun z=>by rw [h2] at z;cases z⟩
theorem ZaI {b:Int} {w:Str} (h:(RT.lookup w).isSome=true) (h2:inS w ["push", "copy", "swap", "jump", "jumpif"]=false):RowFit2 b (w,none):=by
 refine Zje (ZlB h h2) ?_
 unfold inS at h2 |-
 simp only [List.any_cons,List.any_nil,Bool.or_false,Bool.or_eq_false_iff] at h2 |-
 exact ⟨h2.2.2.2.1,h2.2.2.2.2⟩
theorem Za2 {b k:Int} (h:In64 k):RowFit2 b ("push", some k):=Zje (ZlC h) rfl
theorem Zjf {b k:Int} (h:0<=k):RowFit2 b ("copy", some k):=Zje (ZlD h) rfl
theorem Znd {b k:Int} (h:1<=k):RowFit2 b ("swap", some k):=Zje (ZlE h) rfl
theorem Zgr {b:Int} {w:Str} {k:Int} (hw:w = "jump" \/ w = "jumpif") (h:0<=k) (hb:k<=b):RowFit2 b (w,some k):=⟨ZlF hw h,fun _=>⟨h,hb⟩⟩
noncomputable def SW37:List Str:=["add", "minus", "times", "over", "rest", "below", "same", "both", "either", "unlike", "up", "down"]
def Zht (K:PySem.W.Frag):Sp:=fun vs H Q _=>∃ c:Int,vs=[.int c]/\∀ w H',Same H H'->w∈SW37->Q (.str w) H'
theorem sw_fit {b:Int} {w:Str} (h:w∈SW37):RowFit2 b (w,none):=by
 have:∀ w∈SW37,(RT.lookup w).isSome=true/\inS w ["push", "copy", "swap", "jump", "jumpif"]=false:=by decide +kernel
 exact ZaI (this w h).1 (this w h).2
theorem sw_at (c:Int):∃ w∈SW37,atI (SW37.map V.str) (c % 12)=some (.str w):=by
 obtain ⟨i,hi,e⟩:∃ i:Nat,i<12/\c % 12=(i:Int):=⟨(c % 12).toNat,by omega,by omega⟩
 have hl:SW37.length=12:=rfl
 refine ⟨SW37[i]'(by rw [hl];exact hi),List.getElem_mem _,?_⟩
 rw [e]
 exact Zch (by rw [List.getElem?_map,List.getElem?_eq_getElem (by rw [hl];exact hi)];rfl)
def Ziw (K:PySem.W.Frag) (H:Hp) (m:Nat) (b:Int) (Q:VK):Prop:=∀ q xs rs H',Same H H'->H' q=some (.lst xs)->RowsAt K H' rs xs->(∀ r∈rs,RowFit2 (b+(rs.length:Int)) r)->rs.length<=m->Q (.ref q) H'
def spOdd (K:PySem.W.Frag):Sp:=fun vs H Q _=>∃ c:Int,vs=[.int c]/\Ziw K H 7 0 Q
theorem ten (c:Int):c % 10=0\/c % 10=1\/c % 10=2\/c % 10=3\/c % 10=4\/c % 10=5\/c % 10=6\/c % 10=7\/c % 10=8\/c % 10=9:=by omega
theorem Za9 {b:Int}:∀ r∈([]:List Row),RowFit2 b r:=fun _ h=>nomatch h
theorem all_cons {b:Int} {r:Row} {rs:List Row} (h:RowFit2 b r) (h2:∀ r∈rs,RowFit2 b r):∀ q∈r::rs,RowFit2 b q:=fun q hq=>(List.mem_cons.1 hq).elim (fun e=>by rw [e];exact h) (h2 q)
section
variable {P:Program} {w:World} {K:PySem.W.Frag} {mg:Str->Option Value} {base:Heap}
theorem Zcz:FnScope ["_law_cell", "_law_some"] ["_law_cell"] (Zaf ZcW):=by walk_at "c"
theorem Zhu    (D:Zaq K mg "_law_sum_word" ZcW):Cal P w K mg base 1 "_law_sum_word" (Zht K):=by
 refine ZaA D Zcz (fun vs H Q E h=>?_) (by walk_at "b") (fun f cdv A outer s H vs Q E hr h=>?_)
 .obtain ⟨c,rfl,_⟩:=h;rfl
 .obtain ⟨c,rfl,k⟩:=h
  refine' ⟨_,?der,?_⟩
  case der=>refine' Zab ?h18 ?h19;(case h18=>refine' Zay (i:=1) ?h3 ?h4 ?h5 ?h6;(case h3=>exact Zcz.nd);(case h4=>rfl);(case h5=>(first|exact Or.inl rfl|exact Or.inr rfl));case h6=>refine' ZaM ?h2;case h2=>refine' Zd1 (vs:=[.str "add", .str "minus", .str "times", .str "over", .str "rest", .str "below"]) ?h1;case h1=>rfl);case h19=>refine' Zab ?h16 ?h17;(case h16=>refine' Zay (i:=1) ?h12 ?h13 ?h14 ?h15;(case h12=>exact Zcz.nd);(case h13=>rfl);(case h14=>(first|exact Or.inl rfl|exact Or.inr rfl));case h15=>refine' Zax ?h9 ?h10 ?h11;(case h9=>exact Zfs);(case h10=>exact (pv 1));case h11=>refine' ZaM ?h8;case h8=>refine' Zd1 (vs:=[.str "same", .str "both", .str "either", .str "unlike", .str "up", .str "down"]) ?h7;case h7=>rfl);case h17=>exact (Zae (Zak (Zan Zas (pv 1) (Zax ZaV (pv 0) Zac) (fun _ _=>rfl))))
  walk_at "nx"
  have h0:Gw H H []:=Gw.start
  walk_at "K"
  refine ⟨szl_6,fun A1 q_A1=>?_⟩
  generalize e_:upd _ A1 _=H1;have h1:=h0.newE q_A1 e_;clear e_;walk_at "K"
  refine ⟨szl_6,fun A2 q_A2=>?_⟩
  generalize e_:upd _ A2 _=H2;have h2:=h1.newE q_A2 e_;clear e_;walk_at "K"
  refine Zfw h2.h.2.1 h2.h.1 (by simp only [List.length_append,List.length_cons,List.length_nil];decide) fun C1 q_C1=>?_
  generalize e_:upd _ C1 _=H3;have h3:=h2.newE q_C1 e_;clear e_;walk_at "K"
  obtain ⟨wd,hw,ew⟩:=sw_at c
  refine ZaC (Zaw h3.h.1) ew ?_
  walk_at "K"
  exact k wd _ h3.s hw
theorem ZcA:FnScope ["_law_cell", "_law_some"] ["_law_cell"] (Zaf ZcX):=by walk_at "c"
theorem Zhv    (D:Zaq K mg "_law_odd_rows" ZcX):Cal P w K mg base 1 "_law_odd_rows" (spOdd K):=by
 refine ZaA D ZcA (fun vs H Q E h=>?_) (by walk_at "b") (fun f cdv A outer s H vs Q E hr h=>?_)
 .obtain ⟨c,rfl,_⟩:=h;rfl
 .obtain ⟨c,rfl,k⟩:=h
  refine' ⟨_,?der,?_⟩
  case der=>refine' Zab ?h128 ?h129;(case h128=>refine' Zay (i:=1) ?h81 ?h82 ?h83 ?h84;(case h81=>exact ZcA.nd);(case h82=>rfl);(case h83=>(first|exact Or.inl rfl|exact Or.inr rfl));case h84=>refine' ZaM ?h80;case h80=>refine' Zaa ?h78 ?h79;(case h78=>refine' ZaM ?h25;case h25=>refine' Zaa ?h23 ?h24;(case h23=>refine' Zaz ?h22;case h22=>refine' Zaa ?h20 ?h21;(case h20=>exact Zai);case h21=>exact Zad);case h24=>exact Zad);case h79=>refine' Zaa ?h76 ?h77;(case h76=>refine' ZaM ?h31;case h31=>refine' Zaa ?h29 ?h30;(case h29=>refine' Zaz ?h28;case h28=>refine' Zaa ?h26 ?h27;(case h26=>exact Zai);case h27=>exact Zad);case h30=>exact Zad);case h77=>refine' Zaa ?h74 ?h75;(case h74=>refine' ZaM ?h37;case h37=>refine' Zaa ?h35 ?h36;(case h35=>refine' Zaz ?h34;case h34=>refine' Zaa ?h32 ?h33;(case h32=>exact Zai);case h33=>exact Zad);case h36=>exact Zad);case h75=>refine' Zaa ?h72 ?h73;(case h72=>refine' ZaM ?h43;case h43=>refine' Zaa ?h41 ?h42;(case h41=>refine' Zaz ?h40;case h40=>refine' Zaa ?h38 ?h39;(case h38=>exact Zai);case h39=>exact Zad);case h42=>exact Zad);case h73=>refine' Zaa ?h70 ?h71;(case h70=>refine' ZaM ?h49;case h49=>refine' Zaa ?h47 ?h48;(case h47=>refine' Zaz ?h46;case h46=>refine' Zaa ?h44 ?h45;(case h44=>exact Zai);case h45=>exact Zad);case h48=>exact Zad);case h71=>refine' Zaa ?h68 ?h69;(case h68=>refine' ZaM ?h57;case h57=>refine' Zaa ?h55 ?h56;(case h55=>refine' Zaz ?h54;case h54=>refine' Zaa ?h52 ?h53;(case h52=>exact Zai);case h53=>refine' Zaa ?h50 ?h51;(case h50=>exact Zac);case h51=>exact Zad);case h56=>exact Zad);case h69=>refine' Zaa ?h66 ?h67;(case h66=>refine' ZaM ?h65;case h65=>refine' Zaa ?h63 ?h64;(case h63=>refine' Zaz ?h62;case h62=>refine' Zaa ?h60 ?h61;(case h60=>exact Zai);case h61=>refine' Zaa ?h58 ?h59;(case h58=>exact Zac);case h59=>exact Zad);case h64=>exact Zad);case h67=>exact Zad);case h129=>refine' Zab ?h126 ?h127;(case h126=>refine' Zay (i:=1) ?h122 ?h123 ?h124 ?h125;(case h122=>exact ZcA.nd);(case h123=>rfl);(case h124=>(first|exact Or.inl rfl|exact Or.inr rfl));case h125=>refine' Zax ?h119 ?h120 ?h121;(case h119=>exact Zfs);(case h120=>exact (pv 1));case h121=>refine' ZaM ?h118;case h118=>refine' Zaa ?h116 ?h117;(case h116=>refine' ZaM ?h97;case h97=>refine' Zaa ?h95 ?h96;(case h95=>refine' Zaz ?h87;case h87=>refine' Zaa ?h85 ?h86;(case h85=>exact Zai);case h86=>exact Zad);case h96=>refine' Zaa ?h93 ?h94;(case h93=>refine' Zaz ?h92;case h92=>refine' Zaa ?h90 ?h91;(case h90=>exact Zai);case h91=>refine' Zaa ?h88 ?h89;(case h88=>exact Zac);case h89=>exact Zad);case h94=>exact Zad);case h117=>refine' Zaa ?h114 ?h115;(case h114=>refine' ZaM ?h103;case h103=>refine' Zaa ?h101 ?h102;(case h101=>refine' Zaz ?h100;case h100=>refine' Zaa ?h98 ?h99;(case h98=>exact Zai);case h99=>exact Zad);case h102=>exact Zad);case h115=>refine' Zaa ?h112 ?h113;(case h112=>refine' ZaM ?h111;case h111=>refine' Zaa ?h109 ?h110;(case h109=>refine' Zaz ?h108;case h108=>refine' Zaa ?h106 ?h107;(case h106=>exact Zai);case h107=>refine' Zaa ?h104 ?h105;(case h104=>exact Zac);case h105=>exact Zad);case h110=>exact Zad);case h113=>exact Zad);case h127=>exact (Zae (Zak (Zan Zas (pv 1) (Zax ZaV (pv 0) Zac) (fun _ _=>rfl))))
  walk_at "nx"
  have h0:Gw H H []:=Gw.start
  walk_at "K"
  refine ⟨szl_1,fun t0_0 q_t0_0=>?_⟩
  generalize e_:upd _ t0_0 _=H1;have h1:=h0.newE q_t0_0 e_;clear e_;walk_at "K"
  refine ⟨szl_1,fun l0 q_l0=>?_⟩
  generalize e_:upd _ l0 _=H2;have h2:=h1.newE q_l0 e_;clear e_;walk_at "K"
  refine ⟨szl_1,fun t1_0 q_t1_0=>?_⟩
  generalize e_:upd _ t1_0 _=H3;have h3:=h2.newE q_t1_0 e_;clear e_;walk_at "K"
  refine ⟨szl_1,fun l1 q_l1=>?_⟩
  generalize e_:upd _ l1 _=H4;have h4:=h3.newE q_l1 e_;clear e_;walk_at "K"
  refine ⟨szl_1,fun t2_0 q_t2_0=>?_⟩
  generalize e_:upd _ t2_0 _=H5;have h5:=h4.newE q_t2_0 e_;clear e_;walk_at "K"
  refine ⟨szl_1,fun l2 q_l2=>?_⟩
  generalize e_:upd _ l2 _=H6;have h6:=h5.newE q_l2 e_;clear e_;walk_at "K"
  refine ⟨szl_1,fun t3_0 q_t3_0=>?_⟩
  generalize e_:upd _ t3_0 _=H7;have h7:=h6.newE q_t3_0 e_;clear e_;walk_at "K"
  refine ⟨szl_1,fun l3 q_l3=>?_⟩
  generalize e_:upd _ l3 _=H8;have h8:=h7.newE q_l3 e_;clear e_;walk_at "K"
  refine ⟨szl_1,fun t4_0 q_t4_0=>?_⟩
  generalize e_:upd _ t4_0 _=H9;have h9:=h8.newE q_t4_0 e_;clear e_;walk_at "K"
  refine ⟨szl_1,fun l4 q_l4=>?_⟩
  generalize e_:upd _ l4 _=H10;have h10:=h9.newE q_l4 e_;clear e_;walk_at "K"
  refine ⟨szl_2,fun t5_0 q_t5_0=>?_⟩
  generalize e_:upd _ t5_0 _=H11;have h11:=h10.newE q_t5_0 e_;clear e_;walk_at "K"
  refine ⟨szl_1,fun l5 q_l5=>?_⟩
  generalize e_:upd _ l5 _=H12;have h12:=h11.newE q_l5 e_;clear e_;walk_at "K"
  refine ⟨szl_2,fun t6_0 q_t6_0=>?_⟩
  generalize e_:upd _ t6_0 _=H13;have h13:=h12.newE q_t6_0 e_;clear e_;walk_at "K"
  refine ⟨szl_1,fun l6 q_l6=>?_⟩
  generalize e_:upd _ l6 _=H14;have h14:=h13.newE q_l6 e_;clear e_;walk_at "K"
  refine ⟨szl_7,fun S1 q_S1=>?_⟩
  generalize e_:upd _ S1 _=H15;have h15:=h14.newE q_S1 e_;clear e_;walk_at "K"
  refine ⟨szl_1,fun t7_0 q_t7_0=>?_⟩
  generalize e_:upd _ t7_0 _=H16;have h16:=h15.newE q_t7_0 e_;clear e_;walk_at "K"
  refine ⟨szl_2,fun t7_1 q_t7_1=>?_⟩
  generalize e_:upd _ t7_1 _=H17;have h17:=h16.newE q_t7_1 e_;clear e_;walk_at "K"
  refine ⟨szl_2,fun l7 q_l7=>?_⟩
  generalize e_:upd _ l7 _=H18;have h18:=h17.newE q_l7 e_;clear e_;walk_at "K"
  refine ⟨szl_1,fun t8_0 q_t8_0=>?_⟩
  generalize e_:upd _ t8_0 _=H19;have h19:=h18.newE q_t8_0 e_;clear e_;walk_at "K"
  refine ⟨szl_1,fun l8 q_l8=>?_⟩
  generalize e_:upd _ l8 _=H20;have h20:=h19.newE q_l8 e_;clear e_;walk_at "K"
  refine ⟨szl_2,fun t9_0 q_t9_0=>?_⟩
  generalize e_:upd _ t9_0 _=H21;have h21:=h20.newE q_t9_0 e_;clear e_;walk_at "K"
  refine ⟨szl_1,fun l9 q_l9=>?_⟩
  generalize e_:upd _ l9 _=H22;have h22:=h21.newE q_l9 e_;clear e_;walk_at "K"
  refine ⟨szl_3,fun S2 q_S2=>?_⟩
  generalize e_:upd _ S2 _=H23;have h23:=h22.newE q_S2 e_;clear e_;walk_at "K"
  refine Zfw h23.h.2.2.2.2.2.2.2.2.1 h23.h.1 (by simp only [List.length_append,List.length_cons,List.length_nil];decide) fun S3 q_S3=>?_
  generalize e_:upd _ S3 _=H24;have h24:=h23.newE q_S3 e_;clear e_;walk_at "K"
  rcases ten c with e|e|e|e|e|e|e|e|e|e
  .refine ZaC (Zaw h24.h.1) (v:=.ref l0) (by rw [e];rfl) ?_
   walk_at "K"
   exact k l0 _ [("drop", none)] _ h24.s h24.h.2.2.2.2.2.2.2.2.2.2.2.2.2.2.2.2.2.2.2.2.2.2.1 (RowsAt.cons ⟨_,rfl,Zar h24.h.2.2.2.2.2.2.2.2.2.2.2.2.2.2.2.2.2.2.2.2.2.2.2.1⟩ RowsAt.nil) (all_cons (ZaI rfl rfl) Za9) (by decide)
  .refine ZaC (Zaw h24.h.1) (v:=.ref l1) (by rw [e];rfl) ?_
   walk_at "K"
   exact k l1 _ [("add", none)] _ h24.s h24.h.2.2.2.2.2.2.2.2.2.2.2.2.2.2.2.2.2.2.2.2.1 (RowsAt.cons ⟨_,rfl,Zar h24.h.2.2.2.2.2.2.2.2.2.2.2.2.2.2.2.2.2.2.2.2.2.1⟩ RowsAt.nil) (all_cons (ZaI rfl rfl) Za9) (by decide)
  .refine ZaC (Zaw h24.h.1) (v:=.ref l2) (by rw [e];rfl) ?_
   walk_at "K"
   exact k l2 _ [("save", none)] _ h24.s h24.h.2.2.2.2.2.2.2.2.2.2.2.2.2.2.2.2.2.2.1 (RowsAt.cons ⟨_,rfl,Zar h24.h.2.2.2.2.2.2.2.2.2.2.2.2.2.2.2.2.2.2.2.1⟩ RowsAt.nil) (all_cons (ZaI rfl rfl) Za9) (by decide)
  .refine ZaC (Zaw h24.h.1) (v:=.ref l3) (by rw [e];rfl) ?_
   walk_at "K"
   exact k l3 _ [("give", none)] _ h24.s h24.h.2.2.2.2.2.2.2.2.2.2.2.2.2.2.2.2.1 (RowsAt.cons ⟨_,rfl,Zar h24.h.2.2.2.2.2.2.2.2.2.2.2.2.2.2.2.2.2.1⟩ RowsAt.nil) (all_cons (ZaI rfl rfl) Za9) (by decide)
  .refine ZaC (Zaw h24.h.1) (v:=.ref l4) (by rw [e];rfl) ?_
   walk_at "K"
   exact k l4 _ [("fail", none)] _ h24.s h24.h.2.2.2.2.2.2.2.2.2.2.2.2.2.2.1 (RowsAt.cons ⟨_,rfl,Zar h24.h.2.2.2.2.2.2.2.2.2.2.2.2.2.2.2.1⟩ RowsAt.nil) (all_cons (ZaI rfl rfl) Za9) (by decide)
  .refine ZaC (Zaw h24.h.1) (v:=.ref l5) (by rw [e];rfl) ?_
   walk_at "K"
   exact k l5 _ [("copy", some 3)] _ h24.s h24.h.2.2.2.2.2.2.2.2.2.2.2.2.1 (RowsAt.cons ⟨_,rfl,Zar h24.h.2.2.2.2.2.2.2.2.2.2.2.2.2.1⟩ RowsAt.nil) (all_cons (Zjf (by decide)) Za9) (by decide)
  .refine ZaC (Zaw h24.h.1) (v:=.ref l6) (by rw [e];rfl) ?_
   walk_at "K"
   exact k l6 _ [("jump", some 0)] _ h24.s h24.h.2.2.2.2.2.2.2.2.2.2.1 (RowsAt.cons ⟨_,rfl,Zar h24.h.2.2.2.2.2.2.2.2.2.2.2.1⟩ RowsAt.nil) (all_cons (Zgr (.inl rfl) (by decide) (by decide)) Za9) (by decide)
  .refine ZaC (Zaw h24.h.1) (v:=.ref l7) (by rw [e];rfl) ?_
   walk_at "K"
   exact k l7 _ [("me", none),("jump", some 0)] _ h24.s h24.h.2.2.2.2.2.2.1 (RowsAt.cons ⟨_,rfl,Zar h24.h.2.2.2.2.2.2.2.2.1⟩ (RowsAt.cons ⟨_,rfl,Zar h24.h.2.2.2.2.2.2.2.1⟩ RowsAt.nil)) (all_cons (ZaI rfl rfl) (all_cons (Zgr (.inl rfl) (by decide) (by decide)) Za9)) (by decide)
  .refine ZaC (Zaw h24.h.1) (v:=.ref l8) (by rw [e];rfl) ?_
   walk_at "K"
   exact k l8 _ [("sent", none)] _ h24.s h24.h.2.2.2.2.1 (RowsAt.cons ⟨_,rfl,Zar h24.h.2.2.2.2.2.1⟩ RowsAt.nil) (all_cons (ZaI rfl rfl) Za9) (by decide)
  .refine ZaC (Zaw h24.h.1) (v:=.ref l9) (by rw [e];rfl) ?_
   walk_at "K"
   exact k l9 _ [("swap", some 1)] _ h24.s h24.h.2.2.1 (RowsAt.cons ⟨_,rfl,Zar h24.h.2.2.2.1⟩ RowsAt.nil) (all_cons (Znd (by decide)) Za9) (by decide)
end
theorem pick3 (a b c m:Int):∃ v,atI [V.int a,.int b,.int c] (m % 3)=some (.int v)/\(v=a\/v=b\/v=c):=by
 rcases (by omega:m % 3=0\/m % 3=1\/m % 3=2) with h|h|h
 .exact ⟨a,by rw [h];rfl,.inl rfl⟩
 .exact ⟨b,by rw [h];rfl,.inr (.inl rfl)⟩
 .exact ⟨c,by rw [h];rfl,.inr (.inr rfl)⟩
theorem pick4 (a b c d m:Int):∃ v,atI [V.int a,.int b,.int c,.int d] (m % 4)=some (.int v)/\(v=a\/v=b\/v=c\/v=d):=by
 rcases (by omega:m % 4=0\/m % 4=1\/m % 4=2\/m % 4=3) with h|h|h|h
 .exact ⟨a,by rw [h];rfl,.inl rfl⟩
 .exact ⟨b,by rw [h];rfl,.inr (.inl rfl)⟩
 .exact ⟨c,by rw [h];rfl,.inr (.inr (.inl rfl))⟩
 .exact ⟨d,by rw [h];rfl,.inr (.inr (.inr rfl))⟩
theorem pick6 (a b c d e f m:Int):∃ v,atI [V.int a,.int b,.int c,.int d,.int e,.int f] (m % 6)=some (.int v)/\(v=a\/v=b\/v=c\/v=d\/v=e\/v=f):=by
 rcases (by omega:m % 6=0\/m % 6=1\/m % 6=2\/m % 6=3\/m % 6=4\/m % 6=5) with h|h|h|h|h|h
 .exact ⟨a,by rw [h];rfl,.inl rfl⟩
 .exact ⟨b,by rw [h];rfl,.inr (.inl rfl)⟩
 .exact ⟨c,by rw [h];rfl,.inr (.inr (.inl rfl))⟩
 .exact ⟨d,by rw [h];rfl,.inr (.inr (.inr (.inl rfl)))⟩
 .exact ⟨e,by rw [h];rfl,.inr (.inr (.inr (.inr (.inl rfl))))⟩
 .exact ⟨f,by rw [h];rfl,.inr (.inr (.inr (.inr (.inr rfl))))⟩
theorem tell4 (m:Int):∃ w:Str,atI [V.str "me", .str "from", .str "sent", .str "word"] (m % 4)=some (.str w)/\∀ b,RowFit2 b (w,none):=by
 rcases (by omega:m % 4=0\/m % 4=1\/m % 4=2\/m % 4=3) with h|h|h|h
 .exact ⟨"me", by rw [h];rfl,fun _=>ZaI rfl rfl⟩
 .exact ⟨"from", by rw [h];rfl,fun _=>ZaI rfl rfl⟩
 .exact ⟨"sent", by rw [h];rfl,fun _=>ZaI rfl rfl⟩
 .exact ⟨"word", by rw [h];rfl,fun _=>ZaI rfl rfl⟩
theorem p64N:(2:Int) ^ Int.toNat 64=18446744073709551616:=by decide
theorem Zbb {v:Int} (h:0<=v) (h2:v<1000000):In64 v:=⟨h,by show _<_;omega⟩
def Zjg (K:PySem.W.Frag):Sp:=fun vs H Q _=>∃ way mixed number slot asked:Int,vs=[.int way,.int mixed,.int number,.int slot,.int asked]/\4<=way/\way<=8/\In64 number/\In64 slot/\In64 asked/\Ziw K H 7 0 Q
def spSnip (K:PySem.W.Frag):Sp:=fun vs H Q _=>∃ (cell:Int) (SL PA:Addr) (s0 s1 s2 s3 p0 p1 p2 at':Int),vs=[.int cell,.ref SL,.ref PA,.int at']/\SqL K H SL [.int s0,.int s1,.int s2,.int s3]/\SqL K H PA [.int p0,.int p1,.int p2]/\In64 s0/\In64 s1/\In64 s2/\In64 s3/\In64 p0/\In64 p1/\In64 p2/\0<=at'/\Ziw K H 7 at' Q
section
variable {P:Program} {w:World} {K:PySem.W.Frag} {mg:Str->Option Value} {base:Heap}
theorem ZcK:FnScope ["_law_way", "_law_mixed", "_law_number", "_law_slot", "_law_asked", "_law_coin", "_law_rows", "_law_word"] ["_law_way", "_law_mixed", "_law_number", "_law_slot", "_law_asked"] (Zaf ZeK):=by walk_at "c"
theorem ZjT    (D:Zaq K mg "_law_asking" ZeK):Cal P w K mg base 1 "_law_asking" (Zjg K):=by
 refine ZaA D ZcK (fun vs H Q E h=>?_) (by walk_at "b") (fun f cdv A outer s H vs Q E hr h=>?_)
 .obtain ⟨way,mixed,number,slot,asked,rfl,_⟩:=h;rfl
 .obtain ⟨way,mixed,number,slot,asked,rfl,w4,w8,i1,i2,i3,k⟩:=h
  refine' ⟨_,?der,?_⟩
  case der=>refine' Zab ?h262 ?h263;(case h262=>refine' ZaK ?h205 ?h206 ?h207;(case h205=>exact (Zal ZdZ (pv 0) Zac (nomark _)));(case h206=>refine' Zab ?h203 ?h204;(case h203=>refine' Zay (i:=5) ?h143 ?h144 ?h145 ?h146;(case h143=>exact ZcK.nd);(case h144=>rfl);(case h145=>(first|exact Or.inl rfl|exact Or.inr rfl));case h146=>refine' Zan ?h139 ?h140 ?h141 ?h142;(case h139=>exact Zas);(case h140=>refine' ZaM ?h138;case h138=>refine' Zaa ?h136 ?h137;(case h136=>exact Zac);case h137=>refine' Zaa ?h134 ?h135;(case h134=>exact Zac);case h135=>refine' Zaa ?h132 ?h133;(case h132=>exact (Zax ZaV (Zax Za5 (pv 1) Zac) Zac));case h133=>refine' Zaa ?h130 ?h131;(case h130=>exact (pv 2));case h131=>exact Zad);(case h141=>exact (Zax ZaV (Zax Za5 (pv 1) Zac) Zac));case h142=>exact fun _ _=>rfl);case h204=>refine' Zab ?h201 ?h202;(case h201=>refine' Zay (i:=6) ?h181 ?h182 ?h183 ?h184;(case h181=>exact ZcK.nd);(case h182=>rfl);(case h183=>(first|exact Or.inl rfl|exact Or.inr rfl));case h184=>refine' ZaM ?h180;case h180=>refine' Zaa ?h178 ?h179;(case h178=>refine' Zaz ?h151;case h151=>refine' Zaa ?h149 ?h150;(case h149=>exact Zai);case h150=>refine' Zaa ?h147 ?h148;(case h147=>exact (pv 3));case h148=>exact Zad);case h179=>refine' Zaa ?h176 ?h177;(case h176=>refine' Zaz ?h156;case h156=>refine' Zaa ?h154 ?h155;(case h154=>exact Zai);case h155=>refine' Zaa ?h152 ?h153;(case h152=>exact (pv 5));case h153=>exact Zad);case h177=>refine' Zaa ?h174 ?h175;(case h174=>refine' Zaz ?h161;case h161=>refine' Zaa ?h159 ?h160;(case h159=>exact Zai);case h160=>refine' Zaa ?h157 ?h158;(case h157=>exact (pv 4));case h158=>exact Zad);case h175=>refine' Zaa ?h172 ?h173;(case h172=>refine' Zaz ?h166;case h166=>refine' Zaa ?h164 ?h165;(case h164=>exact Zai);case h165=>refine' Zaa ?h162 ?h163;(case h162=>exact (pv 2));case h163=>exact Zad);case h173=>refine' Zaa ?h170 ?h171;(case h170=>refine' Zaz ?h169;case h169=>refine' Zaa ?h167 ?h168;(case h167=>exact Zai);case h168=>exact Zad);case h171=>exact Zad);case h202=>refine' Zae ?h200;case h200=>refine' Zak ?h199;case h199=>refine' Zax ?h196 ?h197 ?h198;(case h196=>exact Zfs);(case h197=>exact (pv 6));case h198=>refine' ZaM ?h195;case h195=>refine' Zaa ?h193 ?h194;(case h193=>refine' Zaz ?h187;case h187=>refine' Zaa ?h185 ?h186;(case h185=>exact Zai);case h186=>exact Zad);case h194=>refine' Zaa ?h191 ?h192;(case h191=>refine' Zaz ?h190;case h190=>refine' Zaa ?h188 ?h189;(case h188=>exact Zai);case h189=>exact Zad);case h192=>exact Zad);case h207=>exact Zap);case h263=>refine' Zab ?h260 ?h261;(case h260=>refine' Zay (i:=7) ?h217 ?h218 ?h219 ?h220;(case h217=>exact ZcK.nd);(case h218=>rfl);(case h219=>(first|exact Or.inl rfl|exact Or.inr rfl));case h220=>refine' Zan ?h213 ?h214 ?h215 ?h216;(case h213=>exact Zas);(case h214=>refine' ZaM ?h212;case h212=>refine' Zaa ?h210 ?h211;(case h210=>exact Zai);case h211=>refine' Zaa ?h208 ?h209;(case h208=>exact Zai);case h209=>exact Zad);(case h215=>exact (Zax Zcb (pv 0) Zac));case h216=>exact fun _ _=>rfl);case h261=>refine' Zae ?h259;case h259=>refine' Zak ?h258;case h258=>refine' ZaM ?h257;case h257=>refine' Zaa ?h255 ?h256;(case h255=>refine' Zaz ?h225;case h225=>refine' Zaa ?h223 ?h224;(case h223=>exact Zai);case h224=>refine' Zaa ?h221 ?h222;(case h221=>exact (pv 3));case h222=>exact Zad);case h256=>refine' Zaa ?h253 ?h254;(case h253=>refine' Zaz ?h230;case h230=>refine' Zaa ?h228 ?h229;(case h228=>exact Zai);case h229=>refine' Zaa ?h226 ?h227;(case h226=>exact (pv 4));case h227=>exact Zad);case h254=>refine' Zaa ?h251 ?h252;(case h251=>refine' Zaz ?h235;case h235=>refine' Zaa ?h233 ?h234;(case h233=>exact Zai);case h234=>refine' Zaa ?h231 ?h232;(case h231=>exact (pv 2));case h232=>exact Zad);case h252=>refine' Zaa ?h249 ?h250;(case h249=>refine' Zaz ?h238;case h238=>refine' Zaa ?h236 ?h237;(case h236=>exact (pv 7));case h237=>exact Zad);case h250=>refine' Zaa ?h247 ?h248;(case h247=>refine' Zaz ?h241;case h241=>refine' Zaa ?h239 ?h240;(case h239=>exact Zai);case h240=>exact Zad);case h248=>refine' Zaa ?h245 ?h246;(case h245=>refine' Zaz ?h244;case h244=>refine' Zaa ?h242 ?h243;(case h242=>exact Zai);case h243=>exact Zad);case h246=>exact Zad
  walk_at "nx"
  by_cases h7:way<7
  .have h0:Gw H H []:=Gw.start
   walk_at "Z"
   refine ⟨szl_4,fun CL q_CL=>?_⟩
   generalize e_:upd _ CL _=H1;have h1:=h0.newE q_CL e_;clear e_;walk_at "K"
   obtain ⟨coin,ec,hc⟩:=pick4 0 1 (mixed / 7 % 40) number (mixed / 6000)
   have ic:In64 coin:=by
    rcases hc with rfl|rfl|rfl|rfl
    .exact Zbb (by decide) (by decide)
    .exact Zbb (by decide) (by decide)
    .exact Zbb (by omega) (by omega)
    .exact i1
   refine ZaC (Zaw h1.h.1) ec ?_
   walk_at "K"
   refine ⟨szl_2,fun a0 q_a0=>?_⟩
   generalize e_:upd _ a0 _=H2;have h2:=h1.newE q_a0 e_;clear e_;walk_at "K"
   refine ⟨szl_2,fun a1 q_a1=>?_⟩
   generalize e_:upd _ a1 _=H3;have h3:=h2.newE q_a1 e_;clear e_;walk_at "K"
   refine ⟨szl_2,fun a2 q_a2=>?_⟩
   generalize e_:upd _ a2 _=H4;have h4:=h3.newE q_a2 e_;clear e_;walk_at "K"
   refine ⟨szl_2,fun a3 q_a3=>?_⟩
   generalize e_:upd _ a3 _=H5;have h5:=h4.newE q_a3 e_;clear e_;walk_at "K"
   refine ⟨szl_1,fun a4 q_a4=>?_⟩
   generalize e_:upd _ a4 _=H6;have h6:=h5.newE q_a4 e_;clear e_;walk_at "K"
   refine ⟨szl_5,fun la q_la=>?_⟩
   generalize e_:upd _ la _=H7;have h7:=h6.newE q_la e_;clear e_;walk_at "K"
   refine ⟨szl_1,fun b0 q_b0=>?_⟩
   generalize e_:upd _ b0 _=H8;have h8:=h7.newE q_b0 e_;clear e_;walk_at "K"
   refine ⟨szl_1,fun b1 q_b1=>?_⟩
   generalize e_:upd _ b1 _=H9;have h9:=h8.newE q_b1 e_;clear e_;walk_at "K"
   refine ⟨szl_2,fun lb q_lb=>?_⟩
   generalize e_:upd _ lb _=H10;have h10:=h9.newE q_lb e_;clear e_;walk_at "K"
   refine Zfw h10.h.2.2.2.1 h10.h.1 (by simp only [List.length_append,List.length_cons,List.length_nil];decide) fun lc q_lc=>?_
   generalize e_:upd _ lc _=H11;have h11:=h10.newE q_lc e_;clear e_;walk_at "K"
   exact k lc _ [("push", some (slot)),("push", some (coin)),("push", some (asked)),("push", some (number)),("call", none),("note", none),("drop", none)] _ h11.s h11.h.1 (RowsAt.cons ⟨_,rfl,Zar h11.h.2.2.2.2.2.2.2.2.2.1⟩ (RowsAt.cons ⟨_,rfl,Zar h11.h.2.2.2.2.2.2.2.2.1⟩ (RowsAt.cons ⟨_,rfl,Zar h11.h.2.2.2.2.2.2.2.1⟩ (RowsAt.cons ⟨_,rfl,Zar h11.h.2.2.2.2.2.2.1⟩ (RowsAt.cons ⟨_,rfl,Zar h11.h.2.2.2.2.2.1⟩ (RowsAt.cons ⟨_,rfl,Zar h11.h.2.2.2.1⟩ (RowsAt.cons ⟨_,rfl,Zar h11.h.2.2.1⟩ RowsAt.nil))))))) (all_cons (Za2 i2) (all_cons (Za2 ic) (all_cons (Za2 i3) (all_cons (Za2 i1) (all_cons (ZaI rfl rfl) (all_cons (ZaI rfl rfl) (all_cons (ZaI rfl rfl) Za9))))))) (by show 7<=7;decide)
  rcases (by omega:way=7\/way=8) with rfl|rfl
  .have h0:Gw H H []:=Gw.start
   walk_at "Z"
   refine ⟨szl_2,fun WL q_WL=>?_⟩
   generalize e_:upd _ WL _=H1;have h1:=h0.newE q_WL e_;clear e_;walk_at "K"
   refine ZaC (Zaw h1.h.1) (v:=.str "borrow") rfl ?_
   walk_at "K"
   refine ⟨szl_2,fun a0 q_a0=>?_⟩
   generalize e_:upd _ a0 _=H2;have h2:=h1.newE q_a0 e_;clear e_;walk_at "K"
   refine ⟨szl_2,fun a1 q_a1=>?_⟩
   generalize e_:upd _ a1 _=H3;have h3:=h2.newE q_a1 e_;clear e_;walk_at "K"
   refine ⟨szl_2,fun a2 q_a2=>?_⟩
   generalize e_:upd _ a2 _=H4;have h4:=h3.newE q_a2 e_;clear e_;walk_at "K"
   refine ⟨szl_1,fun a3 q_a3=>?_⟩
   generalize e_:upd _ a3 _=H5;have h5:=h4.newE q_a3 e_;clear e_;walk_at "K"
   refine ⟨szl_1,fun a4 q_a4=>?_⟩
   generalize e_:upd _ a4 _=H6;have h6:=h5.newE q_a4 e_;clear e_;walk_at "K"
   refine ⟨szl_1,fun a5 q_a5=>?_⟩
   generalize e_:upd _ a5 _=H7;have h7:=h6.newE q_a5 e_;clear e_;walk_at "K"
   refine ⟨szl_6,fun la q_la=>?_⟩
   generalize e_:upd _ la _=H8;have h8:=h7.newE q_la e_;clear e_;walk_at "K"
   exact k la _ [("push", some (slot)),("push", some (asked)),("push", some (number)),("borrow", none),("drop", none),("note", none)] _ h8.s h8.h.1 (RowsAt.cons ⟨_,rfl,Zar h8.h.2.2.2.2.2.2.1⟩ (RowsAt.cons ⟨_,rfl,Zar h8.h.2.2.2.2.2.1⟩ (RowsAt.cons ⟨_,rfl,Zar h8.h.2.2.2.2.1⟩ (RowsAt.cons ⟨_,rfl,Zar h8.h.2.2.2.1⟩ (RowsAt.cons ⟨_,rfl,Zar h8.h.2.2.1⟩ (RowsAt.cons ⟨_,rfl,Zar h8.h.2.1⟩ RowsAt.nil)))))) (all_cons (Za2 i2) (all_cons (Za2 i3) (all_cons (Za2 i1) (all_cons (ZaI rfl rfl) (all_cons (ZaI rfl rfl) (all_cons (ZaI rfl rfl) Za9)))))) (by show 6<=7;decide)
  .have h0:Gw H H []:=Gw.start
   walk_at "Z"
   refine ⟨szl_2,fun WL q_WL=>?_⟩
   generalize e_:upd _ WL _=H1;have h1:=h0.newE q_WL e_;clear e_;walk_at "K"
   refine ZaC (Zaw h1.h.1) (v:=.str "look") rfl ?_
   walk_at "K"
   refine ⟨szl_2,fun a0 q_a0=>?_⟩
   generalize e_:upd _ a0 _=H2;have h2:=h1.newE q_a0 e_;clear e_;walk_at "K"
   refine ⟨szl_2,fun a1 q_a1=>?_⟩
   generalize e_:upd _ a1 _=H3;have h3:=h2.newE q_a1 e_;clear e_;walk_at "K"
   refine ⟨szl_2,fun a2 q_a2=>?_⟩
   generalize e_:upd _ a2 _=H4;have h4:=h3.newE q_a2 e_;clear e_;walk_at "K"
   refine ⟨szl_1,fun a3 q_a3=>?_⟩
   generalize e_:upd _ a3 _=H5;have h5:=h4.newE q_a3 e_;clear e_;walk_at "K"
   refine ⟨szl_1,fun a4 q_a4=>?_⟩
   generalize e_:upd _ a4 _=H6;have h6:=h5.newE q_a4 e_;clear e_;walk_at "K"
   refine ⟨szl_1,fun a5 q_a5=>?_⟩
   generalize e_:upd _ a5 _=H7;have h7:=h6.newE q_a5 e_;clear e_;walk_at "K"
   refine ⟨szl_6,fun la q_la=>?_⟩
   generalize e_:upd _ la _=H8;have h8:=h7.newE q_la e_;clear e_;walk_at "K"
   exact k la _ [("push", some (slot)),("push", some (asked)),("push", some (number)),("look", none),("drop", none),("note", none)] _ h8.s h8.h.1 (RowsAt.cons ⟨_,rfl,Zar h8.h.2.2.2.2.2.2.1⟩ (RowsAt.cons ⟨_,rfl,Zar h8.h.2.2.2.2.2.1⟩ (RowsAt.cons ⟨_,rfl,Zar h8.h.2.2.2.2.1⟩ (RowsAt.cons ⟨_,rfl,Zar h8.h.2.2.2.1⟩ (RowsAt.cons ⟨_,rfl,Zar h8.h.2.2.1⟩ (RowsAt.cons ⟨_,rfl,Zar h8.h.2.1⟩ RowsAt.nil)))))) (all_cons (Za2 i2) (all_cons (Za2 i3) (all_cons (Za2 i1) (all_cons (ZaI rfl rfl) (all_cons (ZaI rfl rfl) (all_cons (ZaI rfl rfl) Za9)))))) (by show 6<=7;decide)
theorem Zbf:FnScope ["_law_cell", "_law_slots", "_law_places", "_law_at", "_law_mixed", "_law_way", "_law_place", "_law_slot", "_law_asked", "_law_number", "_law_rows"] ["_law_cell", "_law_slots", "_law_places", "_law_at"] (Zaf ZdQ):=by walk_at "c"
theorem Zix    (D:Zaq K mg "_law_snippet" ZdQ) (c_Lodd_rows:Cal P w K mg base 1 "_law_odd_rows" (spOdd K)) (c_Lasking:Cal P w K mg base 1 "_law_asking" (Zjg K)) (c_Lsum_word:Cal P w K mg base 1 "_law_sum_word" (Zht K)):Cal P w K mg base 2 "_law_snippet" (spSnip K):=by
 refine ZaA D Zbf (fun vs H Q E h=>?_) (by walk_at "b") (fun f cdv A outer s H vs Q E hr h=>?_)
 .obtain ⟨cell,SL,PA,s0,s1,s2,s3,p0,p1,p2,at',rfl,_⟩:=h;rfl
 .obtain ⟨cell,SL,PA,s0,s1,s2,s3,p0,p1,p2,at',rfl,hSL,hPA,j0,j1,j2,j3,q0,q1,q2,hat,k⟩:=h
  refine' ⟨_,?der,?_⟩
  case der=>refine' Zab ?h508 ?h509;(case h508=>exact (Zay (i:=4) Zbf.nd rfl (by first|exact Or.inl rfl|exact Or.inr rfl) (Zax ZaV (Zax Zep (pv 0) Zac) Zac)));case h509=>refine' Zab ?h506 ?h507;(case h506=>exact (Zay (i:=5) Zbf.nd rfl (by first|exact Or.inl rfl|exact Or.inr rfl) (Zax ZaV (pv 4) Zac)));case h507=>refine' Zab ?h504 ?h505;(case h504=>exact (Zay (i:=6) Zbf.nd rfl (by first|exact Or.inl rfl|exact Or.inr rfl) (Zan Zas (pv 2) (Zax ZaV (Zax Za5 (pv 4) Zac) Zac) (fun _ _=>rfl))));case h505=>refine' Zab ?h502 ?h503;(case h502=>exact (Zay (i:=7) Zbf.nd rfl (by first|exact Or.inl rfl|exact Or.inr rfl) (Zan Zas (pv 1) (Zax ZaV (Zax Za5 (pv 4) Zac) Zac) (fun _ _=>rfl))));case h503=>refine' Zab ?h500 ?h501;(case h500=>refine' Zay (i:=8) ?h281 ?h282 ?h283 ?h284;(case h281=>exact Zbf.nd);(case h282=>rfl);(case h283=>(first|exact Or.inl rfl|exact Or.inr rfl));case h284=>refine' Zan ?h277 ?h278 ?h279 ?h280;(case h277=>exact Zas);(case h278=>refine' ZaM ?h276;case h276=>refine' Zaa ?h274 ?h275;(case h274=>exact Zac);case h275=>refine' Zaa ?h272 ?h273;(case h272=>exact Zac);case h273=>refine' Zaa ?h270 ?h271;(case h270=>exact Zac);case h271=>refine' Zaa ?h268 ?h269;(case h268=>exact Zac);case h269=>refine' Zaa ?h266 ?h267;(case h266=>exact Zac);case h267=>refine' Zaa ?h264 ?h265;(case h264=>exact (Zax ZaV (pv 0) (Zax Zeq Zac Zac)));case h265=>exact Zad);(case h279=>exact (Zax ZaV (Zax Za5 (pv 4) Zac) Zac));case h280=>exact fun _ _=>rfl);case h501=>refine' Zab ?h498 ?h499;(case h498=>refine' Zay (i:=9) ?h298 ?h299 ?h300 ?h301;(case h298=>exact Zbf.nd);(case h299=>rfl);(case h300=>(first|exact Or.inl rfl|exact Or.inr rfl));case h301=>refine' Zan ?h294 ?h295 ?h296 ?h297;(case h294=>exact Zas);(case h295=>refine' ZaM ?h293;case h293=>refine' Zaa ?h291 ?h292;(case h291=>exact Zac);case h292=>refine' Zaa ?h289 ?h290;(case h289=>exact Zac);case h290=>refine' Zaa ?h287 ?h288;(case h287=>exact (Zax ZaV (Zax Za5 (pv 4) Zac) Zac));case h288=>refine' Zaa ?h285 ?h286;(case h285=>exact (Zax ZaV (pv 0) (Zax Zeq Zac Zac)));case h286=>exact Zad);(case h296=>exact (Zax ZaV (Zax Za5 (pv 4) Zac) Zac));case h297=>exact fun _ _=>rfl);case h499=>refine' Zab ?h496 ?h497;(case h496=>refine' ZaK ?h324 ?h325 ?h326;(case h324=>exact (Zal ZdZ (pv 5) Zac (nomark _)));(case h325=>refine' Zae ?h323;case h323=>refine' Zak ?h322;case h322=>refine' ZaM ?h321;case h321=>refine' Zaa ?h319 ?h320;(case h319=>refine' Zaz ?h306;case h306=>refine' Zaa ?h304 ?h305;(case h304=>exact Zai);case h305=>refine' Zaa ?h302 ?h303;(case h302=>exact (pv 6));case h303=>exact Zad);case h320=>refine' Zaa ?h317 ?h318;(case h317=>refine' Zaz ?h311;case h311=>refine' Zaa ?h309 ?h310;(case h309=>exact Zai);case h310=>refine' Zaa ?h307 ?h308;(case h307=>exact (pv 9));case h308=>exact Zad);case h318=>refine' Zaa ?h315 ?h316;(case h315=>refine' Zaz ?h314;case h314=>refine' Zaa ?h312 ?h313;(case h312=>exact Zai);case h313=>exact Zad);case h316=>exact Zad);case h326=>exact Zap);case h497=>refine' Zab ?h494 ?h495;(case h494=>refine' ZaK ?h347 ?h348 ?h349;(case h347=>exact (Zal ZaX (pv 5) Zac (nomark _)));(case h348=>refine' Zae ?h346;case h346=>refine' Zak ?h345;case h345=>refine' ZaM ?h344;case h344=>refine' Zaa ?h342 ?h343;(case h342=>refine' Zaz ?h331;case h331=>refine' Zaa ?h329 ?h330;(case h329=>exact Zai);case h330=>refine' Zaa ?h327 ?h328;(case h327=>exact (pv 6));case h328=>exact Zad);case h343=>refine' Zaa ?h340 ?h341;(case h340=>refine' Zaz ?h334;case h334=>refine' Zaa ?h332 ?h333;(case h332=>exact Zai);case h333=>exact Zad);case h341=>refine' Zaa ?h338 ?h339;(case h338=>refine' Zaz ?h337;case h337=>refine' Zaa ?h335 ?h336;(case h335=>exact Zai);case h336=>exact Zad);case h339=>exact Zad);case h349=>exact Zap);case h495=>refine' Zab ?h492 ?h493;(case h492=>exact (ZaK (Zal ZdZ (pv 5) Zac (nomark _)) (Zae (Zak (ZaB c_Lasking (hr.mono (by decide)) rfl (Zaa (pv 5) (Zaa (pv 4) (Zaa (pv 9) (Zaa (pv 7) (Zaa (pv 8) Zad)))))))) Zap));case h493=>refine' Zab ?h490 ?h491;(case h490=>refine' ZaK ?h377 ?h378 ?h379;(case h377=>exact (Zal ZaX (pv 5) Zac (nomark _)));(case h378=>refine' Zae ?h376;case h376=>refine' Zak ?h375;case h375=>refine' ZaM ?h374;case h374=>refine' Zaa ?h372 ?h373;(case h372=>refine' Zaz ?h354;case h354=>refine' Zaa ?h352 ?h353;(case h352=>exact Zai);case h353=>refine' Zaa ?h350 ?h351;(case h350=>exact (pv 6));case h351=>exact Zad);case h373=>refine' Zaa ?h370 ?h371;(case h370=>refine' Zaz ?h359;case h359=>refine' Zaa ?h357 ?h358;(case h357=>exact Zai);case h358=>refine' Zaa ?h355 ?h356;(case h355=>exact (pv 7));case h356=>exact Zad);case h371=>refine' Zaa ?h368 ?h369;(case h368=>refine' Zaz ?h362;case h362=>refine' Zaa ?h360 ?h361;(case h360=>exact Zai);case h361=>exact Zad);case h369=>refine' Zaa ?h366 ?h367;(case h366=>refine' Zaz ?h365;case h365=>refine' Zaa ?h363 ?h364;(case h363=>exact Zai);case h364=>exact Zad);case h367=>exact Zad);case h379=>exact Zap);case h491=>refine' Zab ?h488 ?h489;(case h488=>refine' ZaK ?h407 ?h408 ?h409;(case h407=>exact (Zal ZaX (pv 5) Zac (nomark _)));(case h408=>refine' Zae ?h406;case h406=>refine' Zak ?h405;case h405=>refine' ZaM ?h404;case h404=>refine' Zaa ?h402 ?h403;(case h402=>refine' Zaz ?h382;case h382=>refine' Zaa ?h380 ?h381;(case h380=>exact Zai);case h381=>exact Zad);case h403=>refine' Zaa ?h400 ?h401;(case h400=>refine' Zaz ?h387;case h387=>refine' Zaa ?h385 ?h386;(case h385=>exact Zai);case h386=>refine' Zaa ?h383 ?h384;(case h383=>exact (Zax Zbc (pv 3) Zac));case h384=>exact Zad);case h401=>refine' Zaa ?h398 ?h399;(case h398=>refine' Zaz ?h392;case h392=>refine' Zaa ?h390 ?h391;(case h390=>exact Zai);case h391=>refine' Zaa ?h388 ?h389;(case h388=>exact (pv 9));case h389=>exact Zad);case h399=>refine' Zaa ?h396 ?h397;(case h396=>refine' Zaz ?h395;case h395=>refine' Zaa ?h393 ?h394;(case h393=>exact Zai);case h394=>exact Zad);case h397=>exact Zad);case h409=>exact Zap);case h489=>refine' Zab ?h486 ?h487;(case h486=>refine' ZaK ?h429 ?h430 ?h431;(case h429=>exact (Zal ZaX (pv 5) Zac (nomark _)));(case h430=>refine' Zae ?h428;case h428=>refine' Zak ?h427;case h427=>refine' ZaM ?h426;case h426=>refine' Zaa ?h424 ?h425;(case h424=>refine' Zaz ?h418;case h418=>refine' Zaa ?h416 ?h417;(case h416=>refine' Zan ?h412 ?h413 ?h414 ?h415;(case h412=>exact Zas);(case h413=>refine' ZaM ?h411;case h411=>refine' Zd1 (vs:=[.str "me", .str "from", .str "sent", .str "word"]) ?h410;case h410=>rfl);(case h414=>exact (Zax ZaV (Zax Za5 (pv 4) Zac) Zac));case h415=>exact fun _ _=>rfl);case h417=>exact Zad);case h425=>refine' Zaa ?h422 ?h423;(case h422=>refine' Zaz ?h421;case h421=>refine' Zaa ?h419 ?h420;(case h419=>exact Zai);case h420=>exact Zad);case h423=>exact Zad);case h431=>exact Zap);case h487=>refine' Zab ?h484 ?h485;(case h484=>refine' ZaK ?h481 ?h482 ?h483;(case h481=>exact (Zal ZaX (pv 5) Zac (nomark _)));(case h482=>refine' Zab ?h479 ?h480;(case h479=>refine' Zay (i:=10) ?h459 ?h460 ?h461 ?h462;(case h459=>exact Zbf.nd);(case h460=>rfl);(case h461=>(first|exact Or.inl rfl|exact Or.inr rfl));case h462=>refine' ZaM ?h458;case h458=>refine' Zaa ?h456 ?h457;(case h456=>refine' Zaz ?h436;case h436=>refine' Zaa ?h434 ?h435;(case h434=>exact Zai);case h435=>refine' Zaa ?h432 ?h433;(case h432=>exact (pv 6));case h433=>exact Zad);case h457=>refine' Zaa ?h454 ?h455;(case h454=>refine' Zaz ?h441;case h441=>refine' Zaa ?h439 ?h440;(case h439=>exact Zai);case h440=>refine' Zaa ?h437 ?h438;(case h437=>exact Zac);case h438=>exact Zad);case h455=>refine' Zaa ?h452 ?h453;(case h452=>refine' Zaz ?h444;case h444=>refine' Zaa ?h442 ?h443;(case h442=>exact Zai);case h443=>exact Zad);case h453=>refine' Zaa ?h450 ?h451;(case h450=>refine' Zaz ?h449;case h449=>refine' Zaa ?h447 ?h448;(case h447=>exact Zai);case h448=>refine' Zaa ?h445 ?h446;(case h445=>exact (pv 9));case h446=>exact Zad);case h451=>exact Zad);case h480=>refine' Zae ?h478;case h478=>refine' Zak ?h477;case h477=>refine' Zax ?h474 ?h475 ?h476;(case h474=>exact Zfs);(case h475=>exact (pv 10));case h476=>refine' ZaM ?h473;case h473=>refine' Zaa ?h471 ?h472;(case h471=>refine' Zaz ?h465;case h465=>refine' Zaa ?h463 ?h464;(case h463=>exact (ZaB c_Lsum_word (hr.mono (by decide)) rfl (Zaa (Zax Za5 (pv 4) Zac) Zad)));case h464=>exact Zad);case h472=>refine' Zaa ?h469 ?h470;(case h469=>refine' Zaz ?h468;case h468=>refine' Zaa ?h466 ?h467;(case h466=>exact Zai);case h467=>exact Zad);case h470=>exact Zad);case h483=>exact Zap);case h485=>exact (Zae (Zak (ZaB c_Lodd_rows (hr.mono (by decide)) rfl (Zaa (Zax Za5 (pv 4) Zac) Zad))))
  walk_at "nx"
  have h0:Gw H H []:=Gw.start
  walk_at "K"
  obtain ⟨mx,emx,mx0⟩:∃ z,cell*48271 % 2147483647=z/\0<=z:=⟨_,rfl,by omega⟩
  rw [emx]
  obtain ⟨wy,ewy,wy0,wy1⟩:∃ z,mx % 14=z/\0<=z/\z<14:=⟨_,rfl,by omega,by omega⟩
  rw [ewy]
  clear emx ewy
  obtain ⟨place,epl,hpl⟩:=pick3 p0 p1 p2 (mx / 14)
  have ipl:In64 place:=by rcases hpl with rfl|rfl|rfl<;>assumption
  refine ZaC hPA epl ?_
  walk_at "K"
  obtain ⟨slot,esl,hsl⟩:=pick4 s0 s1 s2 s3 (mx / 42)
  have isl:In64 slot:=by rcases hsl with rfl|rfl|rfl|rfl<;>assumption
  refine ZaC hSL esl ?_
  walk_at "K"
  rw [p64N]
  walk_at "K"
  have i64:In64 (cell % 18446744073709551616):=Zbw _
  refine ⟨szl_6,fun AL q_AL=>?_⟩
  generalize e_:upd _ AL _=H1;have h1:=h0.newE q_AL e_;clear e_;walk_at "K"
  obtain ⟨asked,eas,has⟩:=pick6 0 9 30 70 150 (cell % 18446744073709551616) (mx / 168)
  have ias:In64 asked:=by
   rcases has with rfl|rfl|rfl|rfl|rfl|rfl
   .exact Zbb (by decide) (by decide)
   .exact Zbb (by decide) (by decide)
   .exact Zbb (by decide) (by decide)
   .exact Zbb (by decide) (by decide)
   .exact Zbb (by decide) (by decide)
   .exact i64
  refine ZaC (Zaw h1.h.1) eas ?_
  walk_at "K"
  try (rw [p64N];walk_at "K")
  refine ⟨szl_4,fun NL q_NL=>?_⟩
  generalize e_:upd _ NL _=H2;have h2:=h1.newE q_NL e_;clear e_;walk_at "K"
  obtain ⟨number,enu,hnu⟩:=pick4 0 1 (mx / 1008 % 9) (cell % 18446744073709551616) (mx / 1008)
  have inu:In64 number:=by
   rcases hnu with rfl|rfl|rfl|rfl
   .exact Zbb (by decide) (by decide)
   .exact Zbb (by decide) (by decide)
   .exact Zbb (by omega) (by omega)
   .exact i64
  refine ZaC (Zaw h2.h.1) enu ?_
  clear hnu enu eas has epl hpl esl hsl
  walk_at "K"
  .have w1h0:Gw H2 H2 []:=Gw.start
   refine ⟨szl_2,fun r1_0 q_r1_0=>?_⟩
   generalize e_:upd _ r1_0 _=w1H1;have w1h1:=w1h0.newE q_r1_0 e_;clear e_;walk_at "K"
   refine ⟨szl_2,fun r1_1 q_r1_1=>?_⟩
   generalize e_:upd _ r1_1 _=w1H2;have w1h2:=w1h1.newE q_r1_1 e_;clear e_;walk_at "K"
   refine ⟨szl_1,fun r1_2 q_r1_2=>?_⟩
   generalize e_:upd _ r1_2 _=w1H3;have w1h3:=w1h2.newE q_r1_2 e_;clear e_;walk_at "K"
   refine ⟨szl_3,fun L1 q_L1=>?_⟩
   generalize e_:upd _ L1 _=w1H4;have w1h4:=w1h3.newE q_L1 e_;clear e_;walk_at "K"
   exact k L1 _ [("push", some (place)),("push", some (number)),("save", none)] _ (h2.s.trans w1h4.s) w1h4.h.1 (RowsAt.cons ⟨_,rfl,Zar w1h4.h.2.2.2.1⟩ (RowsAt.cons ⟨_,rfl,Zar w1h4.h.2.2.1⟩ (RowsAt.cons ⟨_,rfl,Zar w1h4.h.2.1⟩ RowsAt.nil))) (all_cons (Za2 ipl) (all_cons (Za2 inu) (all_cons (ZaI rfl rfl) Za9))) (by show 3<=7;decide)
  walk_at "K"
  .have w2h0:Gw H2 H2 []:=Gw.start
   refine ⟨szl_2,fun r2_0 q_r2_0=>?_⟩
   generalize e_:upd _ r2_0 _=w2H1;have w2h1:=w2h0.newE q_r2_0 e_;clear e_;walk_at "K"
   refine ⟨szl_1,fun r2_1 q_r2_1=>?_⟩
   generalize e_:upd _ r2_1 _=w2H2;have w2h2:=w2h1.newE q_r2_1 e_;clear e_;walk_at "K"
   refine ⟨szl_1,fun r2_2 q_r2_2=>?_⟩
   generalize e_:upd _ r2_2 _=w2H3;have w2h3:=w2h2.newE q_r2_2 e_;clear e_;walk_at "K"
   refine ⟨szl_3,fun L2 q_L2=>?_⟩
   generalize e_:upd _ L2 _=w2H4;have w2h4:=w2h3.newE q_L2 e_;clear e_;walk_at "K"
   exact k L2 _ [("push", some (place)),("load", none),("note", none)] _ (h2.s.trans w2h4.s) w2h4.h.1 (RowsAt.cons ⟨_,rfl,Zar w2h4.h.2.2.2.1⟩ (RowsAt.cons ⟨_,rfl,Zar w2h4.h.2.2.1⟩ (RowsAt.cons ⟨_,rfl,Zar w2h4.h.2.1⟩ RowsAt.nil))) (all_cons (Za2 ipl) (all_cons (ZaI rfl rfl) (all_cons (ZaI rfl rfl) Za9))) (by show 3<=7;decide)
  walk_at "K"
  .refine ⟨wy,mx,number,slot,asked,rfl,by omega,by omega,inu,isl,ias,fun q xs rs H' s1 e1 r1 f1 l1=>?_⟩
   walk_at "K"
   exact k q xs rs H' (h2.s.trans s1) e1 r1 (fun r hr=>(f1 r hr).mono (by omega)) l1
  walk_at "K"
  .have w3h0:Gw H2 H2 []:=Gw.start
   refine ⟨szl_2,fun r3_0 q_r3_0=>?_⟩
   generalize e_:upd _ r3_0 _=w3H1;have w3h1:=w3h0.newE q_r3_0 e_;clear e_;walk_at "K"
   refine ⟨szl_2,fun r3_1 q_r3_1=>?_⟩
   generalize e_:upd _ r3_1 _=w3H2;have w3h2:=w3h1.newE q_r3_1 e_;clear e_;walk_at "K"
   refine ⟨szl_1,fun r3_2 q_r3_2=>?_⟩
   generalize e_:upd _ r3_2 _=w3H3;have w3h3:=w3h2.newE q_r3_2 e_;clear e_;walk_at "K"
   refine ⟨szl_1,fun r3_3 q_r3_3=>?_⟩
   generalize e_:upd _ r3_3 _=w3H4;have w3h4:=w3h3.newE q_r3_3 e_;clear e_;walk_at "K"
   refine ⟨szl_4,fun L3 q_L3=>?_⟩
   generalize e_:upd _ L3 _=w3H5;have w3h5:=w3h4.newE q_L3 e_;clear e_;walk_at "K"
   exact k L3 _ [("push", some (place)),("push", some (slot)),("coin", none),("save", none)] _ (h2.s.trans w3h5.s) w3h5.h.1 (RowsAt.cons ⟨_,rfl,Zar w3h5.h.2.2.2.2.1⟩ (RowsAt.cons ⟨_,rfl,Zar w3h5.h.2.2.2.1⟩ (RowsAt.cons ⟨_,rfl,Zar w3h5.h.2.2.1⟩ (RowsAt.cons ⟨_,rfl,Zar w3h5.h.2.1⟩ RowsAt.nil)))) (all_cons (Za2 ipl) (all_cons (Za2 isl) (all_cons (ZaI rfl rfl) (all_cons (ZaI rfl rfl) Za9)))) (by show 4<=7;decide)
  walk_at "K"
  .have w4h0:Gw H2 H2 []:=Gw.start
   refine ⟨szl_1,fun r4_0 q_r4_0=>?_⟩
   generalize e_:upd _ r4_0 _=w4H1;have w4h1:=w4h0.newE q_r4_0 e_;clear e_;walk_at "K"
   refine ⟨szl_2,fun r4_1 q_r4_1=>?_⟩
   generalize e_:upd _ r4_1 _=w4H2;have w4h2:=w4h1.newE q_r4_1 e_;clear e_;walk_at "K"
   refine ⟨szl_2,fun r4_2 q_r4_2=>?_⟩
   generalize e_:upd _ r4_2 _=w4H3;have w4h3:=w4h2.newE q_r4_2 e_;clear e_;walk_at "K"
   refine ⟨szl_1,fun r4_3 q_r4_3=>?_⟩
   generalize e_:upd _ r4_3 _=w4H4;have w4h4:=w4h3.newE q_r4_3 e_;clear e_;walk_at "K"
   refine ⟨szl_4,fun L4 q_L4=>?_⟩
   generalize e_:upd _ L4 _=w4H5;have w4h5:=w4h4.newE q_L4 e_;clear e_;walk_at "K"
   exact k L4 _ [("word", none),("jumpif", some (at'+4)),("push", some (number)),("fail", none)] _ (h2.s.trans w4h5.s) w4h5.h.1 (RowsAt.cons ⟨_,rfl,Zar w4h5.h.2.2.2.2.1⟩ (RowsAt.cons ⟨_,rfl,Zar w4h5.h.2.2.2.1⟩ (RowsAt.cons ⟨_,rfl,Zar w4h5.h.2.2.1⟩ (RowsAt.cons ⟨_,rfl,Zar w4h5.h.2.1⟩ RowsAt.nil)))) (all_cons (ZaI rfl rfl) (all_cons (Zgr (.inr rfl) (by omega) (by show at'+4<=at'+((4:Nat):Int);omega)) (all_cons (Za2 inu) (all_cons (ZaI rfl rfl) Za9)))) (by show 4<=7;decide)
  walk_at "K"
  .have xh0:Gw H2 H2 []:=Gw.start
   refine ⟨szl_4,fun TL q_TL=>?_⟩
   generalize e_:upd _ TL _=xH1;have xh1:=xh0.newE q_TL e_;clear e_;walk_at "K"
   obtain ⟨tw,etw,ftw⟩:=tell4 (mx / 42)
   refine ZaC (Zaw xh1.h.1) etw ?_
   walk_at "K"
   refine ⟨szl_1,fun rx0 q_rx0=>?_⟩
   generalize e_:upd _ rx0 _=xH2;have xh2:=xh1.newE q_rx0 e_;clear e_;walk_at "K"
   refine ⟨szl_1,fun rx1 q_rx1=>?_⟩
   generalize e_:upd _ rx1 _=xH3;have xh3:=xh2.newE q_rx1 e_;clear e_;walk_at "K"
   refine ⟨szl_2,fun LX q_LX=>?_⟩
   generalize e_:upd _ LX _=xH4;have xh4:=xh3.newE q_LX e_;clear e_;walk_at "K"
   exact k LX _ [(tw,none),("note", none)] _ (h2.s.trans xh4.s) xh4.h.1 (RowsAt.cons ⟨_,rfl,Zar xh4.h.2.2.1⟩ (RowsAt.cons ⟨_,rfl,Zar xh4.h.2.1⟩ RowsAt.nil)) (all_cons (ftw _) (all_cons (ZaI rfl rfl) Za9)) (by show 2<=7;decide)
  walk_at "K"
  .have yh0:Gw H2 H2 []:=Gw.start
   refine ⟨szl_2,fun ry0 q_ry0=>?_⟩
   generalize e_:upd _ ry0 _=yH1;have yh1:=yh0.newE q_ry0 e_;clear e_;walk_at "K"
   refine ⟨szl_2,fun ry1 q_ry1=>?_⟩
   generalize e_:upd _ ry1 _=yH2;have yh2:=yh1.newE q_ry1 e_;clear e_;walk_at "K"
   refine ⟨szl_1,fun ry2 q_ry2=>?_⟩
   generalize e_:upd _ ry2 _=yH3;have yh3:=yh2.newE q_ry2 e_;clear e_;walk_at "K"
   refine ⟨szl_2,fun ry3 q_ry3=>?_⟩
   generalize e_:upd _ ry3 _=yH4;have yh4:=yh3.newE q_ry3 e_;clear e_;walk_at "K"
   refine ⟨szl_4,fun LY q_LY=>?_⟩
   generalize e_:upd _ LY _=yH5;have yh5:=yh4.newE q_LY e_;clear e_;walk_at "K"
   refine ⟨_,rfl,fun sw HS sS hsw=>?_⟩
   have yy:=yh5.same sS
   have zh0:=yy
   walk_at "K"
   refine ⟨szl_1,fun rz0 q_rz0=>?_⟩
   generalize e_:upd _ rz0 _=zH1;have zh1:=zh0.newE q_rz0 e_;clear e_;walk_at "K"
   refine ⟨szl_1,fun rz1 q_rz1=>?_⟩
   generalize e_:upd _ rz1 _=zH2;have zh2:=zh1.newE q_rz1 e_;clear e_;walk_at "K"
   refine ⟨szl_2,fun LZ q_LZ=>?_⟩
   generalize e_:upd _ LZ _=zH3;have zh3:=zh2.newE q_LZ e_;clear e_;walk_at "K"
   refine Zfw zh3.h.2.2.2.1 zh3.h.1 (by simp only [List.length_append,List.length_cons,List.length_nil];decide) fun LW q_LW=>?_
   generalize e_:upd _ LW _=zH4;have zh4:=zh3.newE q_LW e_;clear e_;walk_at "K"
   exact k LW _ [("push", some (place)),("copy", some (0)),("load", none),("push", some (number)),(sw,none),("save", none)] _ (h2.s.trans zh4.s) zh4.h.1 (RowsAt.cons ⟨_,rfl,Zar zh4.h.2.2.2.2.2.2.2.2.1⟩ (RowsAt.cons ⟨_,rfl,Zar zh4.h.2.2.2.2.2.2.2.1⟩ (RowsAt.cons ⟨_,rfl,Zar zh4.h.2.2.2.2.2.2.1⟩ (RowsAt.cons ⟨_,rfl,Zar zh4.h.2.2.2.2.2.1⟩ (RowsAt.cons ⟨_,rfl,Zar zh4.h.2.2.2.1⟩ (RowsAt.cons ⟨_,rfl,Zar zh4.h.2.2.1⟩ RowsAt.nil)))))) (all_cons (Za2 ipl) (all_cons (Zjf (by decide)) (all_cons (ZaI rfl rfl) (all_cons (Za2 inu) (all_cons (sw_fit hsw) (all_cons (ZaI rfl rfl) Za9)))))) (by show 6<=7;decide)
  walk_at "K"
  refine ⟨_,rfl,fun q xs rs H' s1 e1 r1 f1 l1=>?_⟩
  walk_at "K"
  exact k q xs rs H' (h2.s.trans s1) e1 r1 (fun r hr=>(f1 r hr).mono (by omega)) l1
end
def PgAt (K:PySem.W.Frag) (H:Hp) (a:Addr):Prop:=∃ xs rs,H a=some (.lst xs)/\RowsAt K H rs xs/\(∀ r∈rs,RowFit2 (rs.length:Int) r)/\rs.length<=60
theorem PgAt.same {K:PySem.W.Frag} {H H':Hp} {a:Addr} (h:PgAt K H a) (s:Same H H'):PgAt K H' a:=let ⟨xs,rs,e,r,f,l⟩:=h;⟨xs,rs,s _ _ e,r.keep s.imm,f,l⟩
theorem PgAt.but {K:PySem.W.Frag} {H:Hp} {a q:Addr} {xs:List V} {o:HO} (h:PgAt K H a) (hq:H q=some (.lst xs)) (n:a≠q):PgAt K (upd H q o) a:=let ⟨xs,rs,e,r,f,l⟩:=h;⟨xs,rs,by rw [Zaj n];exact e,r.keep (SameI.upd hq Zbh),f,l⟩
theorem RowsAt.appF {K:PySem.W.Frag} {H:Hp} {rs2:List Row} {ys:List V} (h2:RowsAt K H rs2 ys):∀ {rs:List Row} {xs:List V},RowsAt K H rs xs->RowsAt K H (rs++rs2) (xs++ys)
 | [],[],_=>h2
 | _::_,_::_,h=>RowsAt.cons h.tail.1 (RowsAt.appF h2 h.tail.2)
 | [],_::_,h=>by have:=h.1;simp at this
 | _::_,[],h=>by have:=h.1;simp at this
def ZlG (K:PySem.W.Frag):Sp:=fun vs H Q _=>∃ (CL SL PA:Addr) (cs:List Int) (s0 s1 s2 s3 p0 p1 p2:Int),vs=[.ref CL,.ref SL,.ref PA]/\SqL K H CL (cs.map V.int)/\cs.length<=60/\SqL K H SL [.int s0,.int s1,.int s2,.int s3]/\SqL K H PA [.int p0,.int p1,.int p2]/\In64 s0/\In64 s1/\In64 s2/\In64 s3/\In64 p0/\In64 p1/\In64 p2 /\
 ∀ (q:Addr) (as:List Addr) (H':Hp),Same H H'->H' q=some (.lst (as.map V.ref))->as.length=3->(∀ a∈as,PgAt K H' a)->Q (.ref q) H'
section
variable {P:Program} {w:World} {K:PySem.W.Frag} {mg:Str->Option Value} {base:Heap}
theorem ZbQ:FnScope ["_law_cells", "_law_slots", "_law_places", "_law_programs_here", "_law_k", "_law_rows"] ["_law_cells", "_law_slots", "_law_places"] (Zaf ZcY):=by walk_at "c"
theorem Zhw    (D:Zaq K mg "_law_programs" ZcY) (c_Lsnippet:Cal P w K mg base 2 "_law_snippet" (spSnip K)) (n_range:mg "range" = none) (n_len:mg "len" = none):Cal P w K mg base 3 "_law_programs" (ZlG K):=by
 refine ZaA D ZbQ (fun vs H Q E h=>?_) (by walk_at "b") (fun f cdv A outer s H vs Q E hr h=>?_)
 .obtain ⟨CL,SL,PA,cs,s0,s1,s2,s3,p0,p1,p2,rfl,_⟩:=h;rfl
 .obtain ⟨CL,SL,PA,cs,s0,s1,s2,s3,p0,p1,p2,rfl,hC,hcl,hSL,hPA,j0,j1,j2,j3,q0,q1,q2,k⟩:=h
  refine ⟨_,(Zab (Zay (i:=3) ZbQ.nd rfl (by first|exact Or.inl rfl|exact Or.inr rfl) (ZaM (Zaa (ZaM Zad) (Zaa (ZaM Zad) (Zaa (ZaM Zad) Zad)))))
   (Zab (ZiI PassesOwn.never rfl (Zce rfl n_range (Zaa (ZaO ZbC rfl n_len PySem.boot_len (Zaa (pv 0) Zad)) Zad)) (Zcd (i:=4) ZbQ.nd rfl (by first|exact Or.inl rfl|exact Or.inr rfl))
   (Zab (Zay (i:=5) ZbQ.nd rfl (by first|exact Or.inl rfl|exact Or.inr rfl) (Zan Zas (pv 3) (Zax ZaV (pv 4) Zac) (fun _ _=>rfl)))
   (Zae (ZaK (Zal ZdZ (ZaO ZbC rfl n_len PySem.boot_len (Zaa (pv 5) Zad)) Zac (nomark _)) (Zae (ZiH (Zax Zfs (pv 5) (ZaB c_Lsnippet (hr.mono (by decide)) rfl (Zaa (Zan Zas (pv 0) (pv 4) (fun _ _=>rfl)) (Zaa (pv 1) (Zaa (pv 2) (Zaa (ZaO ZbC rfl n_len PySem.boot_len (Zaa (pv 5) Zad)) Zad)))))) (ZiG (pv 3) (Zax ZaV (pv 4) Zac) Zed))) Zap))))
   (Zae (Zak (pv 3))))),?_⟩
  walk_at "nx"
  have uh0:Gw H H []:=Gw.start
  walk_at "K"
  refine ⟨szl_0,fun a0 q_a0=>?_⟩
  generalize e_:upd _ a0 _=uH1;have uh1:=uh0.newE q_a0 e_;clear e_;walk_at "K"
  refine ⟨szl_0,fun a1 q_a1=>?_⟩
  generalize e_:upd _ a1 _=uH2;have uh2:=uh1.newE q_a1 e_;clear e_;walk_at "K"
  refine ⟨szl_0,fun a2 q_a2=>?_⟩
  generalize e_:upd _ a2 _=uH3;have uh3:=uh2.newE q_a2 e_;clear e_;walk_at "K"
  refine ⟨szl_3,fun q q_q=>?_⟩
  generalize e_:upd _ q _=uH4;have uh4:=uh3.newE q_q e_;clear e_;walk_at "K"
  have nq:H q=none:=uh3.fresh q_q
  have lcs:(cs.map V.int).length=cs.length:=List.length_map _
  have hC4:=uh4.s.seq hC
  refine ZiS (Zdm ?_)
  walk_at "K"
  refine ⟨_,rfl,by omega,by omega,?_⟩
  rw [lcs,Int.toNat_natCast]
  refine Zeo (fun i σ' H'=>Same H H'/\∃ (as:List Addr) (v1 v2:Option V),H' q=some (.lst (as.map V.ref))/\as.length=3/\(∀ a∈as,a≠q/\PgAt K H' a)/\σ'=[some (.ref CL),some (.ref SL),some (.ref PA),some (.ref q),v1,v2]) ⟨uh4.s,[a0,a1,a2],none,none,uh4.h.1,rfl,?_,rfl⟩ ?_ ?_
  .have z:∀ a,(∃ xs,uH3 a=some (.lst xs))->uH4 a=some (.lst [])->a≠q/\PgAt K uH4 a:=fun a ⟨xs,h⟩ h2=>⟨Zam h q_q,[],[],h2,RowsAt.nil,Za9,Nat.zero_le _⟩
   intro a ha
   simp only [List.mem_cons,List.not_mem_nil,or_false] at ha
   rcases ha with rfl|rfl|rfl
   .exact z _ ⟨_,uh3.h.2.2.1⟩ uh4.h.2.2.2.1
   .exact z _ ⟨_,uh3.h.2.1⟩ uh4.h.2.2.1
   .exact z _ ⟨_,uh3.h.1⟩ uh4.h.2.1
  .rintro i σ' HA hi ⟨sA,as,v1,v2,eq,las,hP,rfl⟩
   obtain ⟨jn,ej,hj⟩:∃ z:Nat,(0+(i:Int)) % 3=(z:Int)/\z<3:=⟨((0+(i:Int)) % 3).toNat,by omega,by omega⟩
   obtain ⟨a,ha⟩:∃ a,as[jn]?=some a:=⟨_,List.getElem?_eq_getElem (by omega)⟩
   obtain ⟨na,xs,rs,eA,hR,hF,hl⟩:=hP a (List.mem_of_getElem? ha)
   have hxl:xs.length=rs.length:=hR.1.symm
   have hAs:=Zaw (K:=K) eA
   obtain ⟨c,hc⟩:∃ c,cs[i]?=some c:=⟨_,List.getElem?_eq_getElem hi⟩
   have hat:atI (cs.map V.int) (0+(i:Int))=some (.int c):=by rw [Int.zero_add];exact Zch (by rw [List.getElem?_map,hc];rfl)
   have haj:atI (as.map V.ref) (jn:Int)=some (.ref a):=Zch (by rw [List.getElem?_map,ha];rfl)
   walk_at "K"
   rw [ej]
   refine ZaC (Zaw eq) haj ?_
   by_cases h54:xs.length<54
   .walk_at "Z"
    all_goals try (exfalso;omega)
    refine ZaC (sA.seq hC) hat ?_
    walk_at "K"
    refine ⟨c,SL,PA,s0,s1,s2,s3,p0,p1,p2,_,rfl,sA.seq hSL,sA.seq hPA,j0,j1,j2,j3,q0,q1,q2,by omega,fun q2' ys rs2 HB sB eB rB fB lB=>?_⟩
    have hyl:ys.length=rs2.length:=rB.1.symm
    walk_at "K"
    refine Zfw (sB _ _ eA) eB (Nat.le_trans (show _<=100 by omega) (by decide)) fun n1 q_n1=>?_
    have z0:Gw HB HB []:=Gw.start
    generalize e_:upd _ n1 _=Z1;have z1:=z0.newE q_n1 e_;clear e_;walk_at "K"
    try rw [ej]
    have eq1:=z1.s _ _ (sB _ _ eq)
    refine ZfP eq1 (ZhM (j:=jn) rfl (by rw [List.length_map,las];exact hj)) ?_
    have nn:n1≠q:=Ne.symm (Zam (sB _ _ eq) q_n1)
    refine ⟨((sA.trans sB).trans z1.s).wr nq,as.set jn n1,_,_,by rw [Zag,List.map_set],by rw [List.length_set,las],fun b hb=>?_,rfl⟩
    rcases List.mem_or_eq_of_mem_set hb with hb|rfl
    .obtain ⟨nb,pb⟩:=hP b hb
     exact ⟨nb,((pb.same sB).same z1.s).but eq1 nb⟩
    .exact ⟨nn,PgAt.but ⟨xs++ys,rs++rs2,z1.h.1,RowsAt.appF (rB.keep z1.s.imm) (hR.keep (sB.trans z1.s).imm),fun r hr=>(List.mem_append.1 hr).elim (fun h=>(hF r h).mono (by rw [List.length_append];omega)) (fun h=>(fB r h).mono (by rw [List.length_append];omega)),by rw [List.length_append];omega⟩ eq1 nn⟩
   .walk_at "Z"
    all_goals try (exfalso;omega)
    exact ⟨sA,as,_,_,eq,las,hP,rfl⟩
  .rintro σ' H9 ⟨s9,as,v1,v2,eq,las,hP,rfl⟩
   walk_at "K"
   exact k q as H9 s9 eq las fun a ha=>(hP a ha).2
end
noncomputable def takesW (w:Str) (n:Int):Int:=if inS w ["copy", "swap"]=true then n+1 else if inS w ["push", "me", "from", "sent", "word", "jump"]=true then 0 else if inS w ["drop", "jumpif", "note", "give", "fail", "load", "coin"]=true then 1 else if w = "call" then 4 else if inS w ["borrow", "look"]=true then 3 else 2
def Zej (K:PySem.W.Frag):Sp:=fun vs H Q _=>∃ (p:Addr) (w:Str) (n:Option Int),vs=[.ref p]/\Zbj K H p w n/\(inS w ["copy", "swap"]=true->∃ k,n=some k)/\∀ H',Same H H'->Q (.int (takesW w (n.getD 0))) H'
noncomputable def hgL (w:Str) (m:Int):Int:=if inS w ["push", "copy", "me", "from", "sent", "word"]=true then m+1 else if inS w ["drop", "jumpif", "note", "give", "fail", "borrow", "look"]=true then m-1 else if inS w ["save", "call"]=true then m-2 else if inS w ["swap", "jump", "load", "coin"]=true then m else m-1
noncomputable def pcL (w:Str) (b:Bool):Int:=if w = "save" then 5+7*(if b=true then (1:Int) else 0) else if w = "call" then 8+4*(if b=true then (1:Int) else 0) else if inS w ["borrow", "look"]=true then 6 else if w = "note" then 4 else if inS w ["load", "coin"]=true then 3 else if inS w ["times", "over", "rest"]=true then 2 else 1
theorem Zjh {w:Str} (h:∃ q,RT.lookup w=some q):(∀ n:Option Int,takesW w (n.getD 0)=tkW (w,n))/\(∀ m,hgL w m=hgW w m)/\∀ b,pcL w b=pcW w b:=by
 obtain ⟨q,h⟩:=h
 have hm:=Zbk h
 simp only [RT,List.mem_cons,Prod.mk.injEq,List.not_mem_nil,or_false] at hm
 rcases hm with ⟨rfl,rfl⟩|⟨rfl,rfl⟩|⟨rfl,rfl⟩|⟨rfl,rfl⟩|⟨rfl,rfl⟩|⟨rfl,rfl⟩|⟨rfl,rfl⟩|⟨rfl,rfl⟩|⟨rfl,rfl⟩|⟨rfl,rfl⟩|⟨rfl,rfl⟩|⟨rfl,rfl⟩|⟨rfl,rfl⟩|⟨rfl,rfl⟩|⟨rfl,rfl⟩|⟨rfl,rfl⟩|⟨rfl,rfl⟩|⟨rfl,rfl⟩|⟨rfl,rfl⟩|⟨rfl,rfl⟩|⟨rfl,rfl⟩|⟨rfl,rfl⟩|⟨rfl,rfl⟩|⟨rfl,rfl⟩|⟨rfl,rfl⟩|⟨rfl,rfl⟩|⟨rfl,rfl⟩|⟨rfl,rfl⟩|⟨rfl,rfl⟩|⟨rfl,rfl⟩|⟨rfl,rfl⟩<;>refine ⟨fun n=>?_,fun m=>?_,fun b=>?_⟩
 all_goals first|rfl|(show n.getD 0+1=1+n.getD 0;omega)|(show m+1=m-_+_;omega)|(show m-1=m-_+_;omega)|(show m-2=m-_+_;omega)|(show m=m-_+_;omega)|(cases b<;>rfl)
def Zek (K:PySem.W.Frag):Sp:=fun vs H Q _=>∃ (p:Addr) (w:Str) (n:Option Int) (m:Int),vs=[.ref p,.int m]/\Zbj K H p w n/\∀ H',Same H H'->Q (.int (hgL w m)) H'
def Ziy (K:PySem.W.Frag):Sp:=fun vs H Q _=>∃ (p:Addr) (w:Str) (n:Option Int) (i:Int),vs=[.ref p,.int i]/\Zbj K H p w n/\(inS w ["jump", "jumpif"]=true->∃ k,n=some k)/\∀ q H',Same H H'->H' q=some (.lst ((nxW (w,n) i).map V.int))->Q (.ref q) H'
def PcMade (K:PySem.W.Frag) (H:Hp) (w:Str) (mv:V) (b:Bool):Prop:=(w = "save" -> ∃ t xs o v,mv=.ref t/\SqT K H t xs/\atI xs 3=some (.int o)/\atI xs 4=some (.int v)/\b=(decide (o=0)&&decide (v≠0)))/\(w = "call" -> ∃ t xs c,mv=.ref t/\SqT K H t xs/\atI xs 4=some (.int c)/\b=decide (0<c))
def Zel (K:PySem.W.Frag):Sp:=fun vs H Q _=>∃ (p:Addr) (w:Str) (n:Option Int) (mv:V) (b:Bool),vs=[.ref p,mv]/\Zbj K H p w n/\PcMade K H w mv b/\∀ H',Same H H'->Q (.int (pcL w b)) H'
section
variable {P:Program} {w:World} {K:PySem.W.Frag} {mg:Str->Option Value} {base:Heap}
theorem Zhx:FnScope ["_law_row", "_law_word"] ["_law_row"] (Zaf ZfY):=by walk_at "c"
theorem ZlH    (D:Zaq K mg "_law_takes" ZfY):Cal P w K mg base 1 "_law_takes" (Zej K):=by
 refine ZaA D Zhx (fun vs H Q E h=>?_) (by walk_at "b") (fun f cdv A outer s H vs Q E hr h=>?_)
 .obtain ⟨p,w,n,rfl,_⟩:=h;rfl
 .obtain ⟨p,wd,n,rfl,hp,hn,k⟩:=h
  refine' ⟨_,?der,?_⟩
  case der=>refine' Zab ?h532 ?h533;(case h532=>exact (Zay (i:=1) Zhx.nd rfl (by first|exact Or.inl rfl|exact Or.inr rfl) (Zan Zau (pv 0) Zac (fun _ _=>rfl))));case h533=>refine' Zab ?h530 ?h531;(case h530=>refine' ZaK ?h510 ?h511 ?h512;(case h510=>exact (Zal ZaQ (pv 1) (Zaz (Zaa Zai (Zaa Zai Zad))) rfl));(case h511=>exact (Zae (Zak (Zax Zbc (Zan Zau (pv 0) Zac (fun _ _=>rfl)) Zac))));case h512=>exact Zap);case h531=>refine' Zab ?h528 ?h529;(case h528=>refine' ZaK ?h513 ?h514 ?h515;(case h513=>exact (Zal ZaQ (pv 1) (Zaz (Zd1 (vs:=[.str "push", .str "me", .str "from", .str "sent", .str "word", .str "jump"]) (by rfl))) rfl));(case h514=>exact (Zae (Zak Zac)));case h515=>exact Zap);case h529=>refine' Zab ?h526 ?h527;(case h526=>refine' ZaK ?h516 ?h517 ?h518;(case h516=>exact (Zal ZaQ (pv 1) (Zaz (Zd1 (vs:=[.str "drop", .str "jumpif", .str "note", .str "give", .str "fail", .str "load", .str "coin"]) (by rfl))) rfl));(case h517=>exact (Zae (Zak Zac)));case h518=>exact Zap);case h527=>refine' Zab ?h524 ?h525;(case h524=>exact (ZaK (Zal ZaX (pv 1) Zai (nomark _)) (Zae (Zak Zac)) Zap));case h525=>refine' Zab ?h522 ?h523;(case h522=>refine' ZaK ?h519 ?h520 ?h521;(case h519=>exact (Zal ZaQ (pv 1) (Zaz (Zaa Zai (Zaa Zai Zad))) rfl));(case h520=>exact (Zae (Zak Zac)));case h521=>exact Zap);case h523=>exact (Zae (Zak Zac))
  walk_at "nx"
  unfold takesW at k
  have z0:Gw H H []:=Gw.start
  walk_at "W"
  refine ⟨szl_2,fun q1 p1=>?_⟩
  generalize e_:upd _ q1 _=Z1;have z1:=z0.newE p1 e_;clear e_
  refine Za3 (xs:=["copy", "swap"]) (Zar z1.h.1) ?_
  cases h1:inS wd ["copy", "swap"] with
  | true =>
   obtain ⟨kk,rfl⟩:=hn h1
   rw [h1,if_pos rfl] at k
   have hp1:SqT K Z1 p [.str wd,.int kk]:=z1.s.tup hp
   walk_at "W"
   exact k _ z1.s
  | false =>
   rw [h1,if_neg (by decide)] at k
   walk_at "W"
   refine ⟨szl_6,fun q2 p2=>?_⟩
   generalize e_:upd _ q2 _=Z2;have z2:=z1.newE p2 e_;clear e_
   refine Za3 (xs:=["push", "me", "from", "sent", "word", "jump"]) (Zar z2.h.1) ?_
   cases h2:inS wd ["push", "me", "from", "sent", "word", "jump"] with
   | true =>
    rw [h2,if_pos rfl] at k
    walk_at "W"
    exact k _ z2.s
   | false =>
    rw [h2,if_neg (by decide)] at k
    walk_at "W"
    refine ⟨szl_7,fun q3 p3=>?_⟩
    generalize e_:upd _ q3 _=Z3;have z3:=z2.newE p3 e_;clear e_
    refine Za3 (xs:=["drop", "jumpif", "note", "give", "fail", "load", "coin"]) (Zar z3.h.1) ?_
    cases h3:inS wd ["drop", "jumpif", "note", "give", "fail", "load", "coin"] with
    | true =>
     rw [h3,if_pos rfl] at k
     walk_at "W"
     exact k _ z3.s
    | false =>
     rw [h3,if_neg (by decide)] at k
     walk_at "W'"
     .rename_i hc
      rw [if_pos hc] at k
      exact k _ z3.s
     .rename_i hc
      rw [if_neg hc] at k
      refine ⟨szl_2,fun q4 p4=>?_⟩
      generalize e_:upd _ q4 _=Z4;have z4:=z3.newE p4 e_;clear e_
      refine Za3 (xs:=["borrow", "look"]) (Zar z4.h.1) ?_
      cases h4:inS wd ["borrow", "look"] with
      | true =>
       rw [h4,if_pos rfl] at k
       walk_at "W"
       exact k _ z4.s
      | false =>
       rw [h4,if_neg (by decide)] at k
       walk_at "W"
       exact k _ z4.s
theorem ZfB:FnScope ["_law_row", "_law_many", "_law_word"] ["_law_row", "_law_many"] (Zaf ZeL):=by walk_at "c"
theorem ZjU    (D:Zaq K mg "_law_height" ZeL):Cal P w K mg base 1 "_law_height" (Zek K):=by
 refine ZaA D ZfB (fun vs H Q E h=>?_) (by walk_at "b") (fun f cdv A outer s H vs Q E hr h=>?_)
 .obtain ⟨p,w,n,m,rfl,_⟩:=h;rfl
 .obtain ⟨p,wd,n,m,rfl,hp,k⟩:=h
  refine' ⟨_,?der,?_⟩
  case der=>refine' Zab ?h554 ?h555;(case h554=>exact (Zay (i:=2) ZfB.nd rfl (by first|exact Or.inl rfl|exact Or.inr rfl) (Zan Zau (pv 0) Zac (fun _ _=>rfl))));case h555=>refine' Zab ?h552 ?h553;(case h552=>refine' ZaK ?h534 ?h535 ?h536;(case h534=>exact (Zal ZaQ (pv 2) (Zaz (Zd1 (vs:=[.str "push", .str "copy", .str "me", .str "from", .str "sent", .str "word"]) (by rfl))) rfl));(case h535=>exact (Zae (Zak (Zax Zbc (pv 1) Zac))));case h536=>exact Zap);case h553=>refine' Zab ?h550 ?h551;(case h550=>refine' ZaK ?h537 ?h538 ?h539;(case h537=>exact (Zal ZaQ (pv 2) (Zaz (Zd1 (vs:=[.str "drop", .str "jumpif", .str "note", .str "give", .str "fail", .str "borrow", .str "look"]) (by rfl))) rfl));(case h538=>exact (Zae (Zak (Zax Zcb (pv 1) Zac))));case h539=>exact Zap);case h551=>refine' Zab ?h548 ?h549;(case h548=>refine' ZaK ?h540 ?h541 ?h542;(case h540=>exact (Zal ZaQ (pv 2) (Zaz (Zaa Zai (Zaa Zai Zad))) rfl));(case h541=>exact (Zae (Zak (Zax Zcb (pv 1) Zac))));case h542=>exact Zap);case h549=>refine' Zab ?h546 ?h547;(case h546=>refine' ZaK ?h543 ?h544 ?h545;(case h543=>exact (Zal ZaQ (pv 2) (Zaz (Zd1 (vs:=[.str "swap", .str "jump", .str "load", .str "coin"]) (by rfl))) rfl));(case h544=>exact (Zae (Zak (pv 1))));case h545=>exact Zap);case h547=>exact (Zae (Zak (Zax Zcb (pv 1) Zac)))
  walk_at "nx"
  unfold hgL at k
  have z0:Gw H H []:=Gw.start
  walk_at "W"
  refine ⟨szl_6,fun q1 p1=>?_⟩
  generalize e_:upd _ q1 _=Z1;have z1:=z0.newE p1 e_;clear e_
  refine Za3 (xs:=["push", "copy", "me", "from", "sent", "word"]) (Zar z1.h.1) ?_
  cases h1:inS wd ["push", "copy", "me", "from", "sent", "word"] with
  | true =>
   rw [h1,if_pos rfl] at k
   walk_at "W"
   exact k _ z1.s
  | false =>
   rw [h1,if_neg (by decide)] at k
   walk_at "W"
   refine ⟨szl_7,fun q2 p2=>?_⟩
   generalize e_:upd _ q2 _=Z2;have z2:=z1.newE p2 e_;clear e_
   refine Za3 (xs:=["drop", "jumpif", "note", "give", "fail", "borrow", "look"]) (Zar z2.h.1) ?_
   cases h2:inS wd ["drop", "jumpif", "note", "give", "fail", "borrow", "look"] with
   | true =>
    rw [h2,if_pos rfl] at k
    walk_at "W"
    exact k _ z2.s
   | false =>
    rw [h2,if_neg (by decide)] at k
    walk_at "W"
    refine ⟨szl_2,fun q3 p3=>?_⟩
    generalize e_:upd _ q3 _=Z3;have z3:=z2.newE p3 e_;clear e_
    refine Za3 (xs:=["save", "call"]) (Zar z3.h.1) ?_
    cases h3:inS wd ["save", "call"] with
    | true =>
     rw [h3,if_pos rfl] at k
     walk_at "W"
     exact k _ z3.s
    | false =>
     rw [h3,if_neg (by decide)] at k
     walk_at "W"
     refine ⟨szl_4,fun q4 p4=>?_⟩
     generalize e_:upd _ q4 _=Z4;have z4:=z3.newE p4 e_;clear e_
     refine Za3 (xs:=["swap", "jump", "load", "coin"]) (Zar z4.h.1) ?_
     cases h4:inS wd ["swap", "jump", "load", "coin"] with
     | true =>
      rw [h4,if_pos rfl] at k
      walk_at "W"
      exact k _ z4.s
     | false =>
      rw [h4,if_neg (by decide)] at k
      walk_at "W"
      exact k _ z4.s
theorem ZlI:FnScope ["_law_row", "_law_at"] ["_law_row", "_law_at"] (Zaf Zf0):=by walk_at "c"
theorem ZlJ    (D:Zaq K mg "_law_nexts" Zf0):Cal P w K mg base 1 "_law_nexts" (Ziy K):=by
 refine ZaA D ZlI (fun vs H Q E h=>?_) (by walk_at "b") (fun f cdv A outer s H vs Q E hr h=>?_)
 .obtain ⟨p,w,n,i,rfl,_⟩:=h;rfl
 .obtain ⟨p,wd,n,i,rfl,hp,hn,k⟩:=h
  refine' ⟨_,?der,?_⟩
  case der=>refine' Zab ?h586 ?h587;(case h586=>refine' ZaK ?h561 ?h562 ?h563;(case h561=>exact (Zal ZaX (Zan Zau (pv 0) Zac (fun _ _=>rfl)) Zai (nomark _)));(case h562=>refine' Zae ?h560;case h560=>refine' Zak ?h559;case h559=>refine' ZaM ?h558;case h558=>refine' Zaa ?h556 ?h557;(case h556=>exact (Zan Zau (pv 0) Zac (fun _ _=>rfl)));case h557=>exact Zad);case h563=>exact Zap);case h587=>refine' Zab ?h584 ?h585;(case h584=>refine' ZaK ?h571 ?h572 ?h573;(case h571=>exact (Zal ZaX (Zan Zau (pv 0) Zac (fun _ _=>rfl)) Zai (nomark _)));(case h572=>refine' Zae ?h570;case h570=>refine' Zak ?h569;case h569=>refine' ZaM ?h568;case h568=>refine' Zaa ?h566 ?h567;(case h566=>exact (Zan Zau (pv 0) Zac (fun _ _=>rfl)));case h567=>refine' Zaa ?h564 ?h565;(case h564=>exact (Zax Zbc (pv 1) Zac));case h565=>exact Zad);case h573=>exact Zap);case h585=>refine' Zab ?h582 ?h583;(case h582=>refine' ZaK ?h574 ?h575 ?h576;(case h574=>exact (Zal ZaQ (Zan Zau (pv 0) Zac (fun _ _=>rfl)) (Zaz (Zaa Zai (Zaa Zai Zad))) rfl));(case h575=>exact (Zae (Zak (ZaM Zad))));case h576=>exact Zap);case h583=>refine' Zae ?h581;case h581=>refine' Zak ?h580;case h580=>refine' ZaM ?h579;case h579=>refine' Zaa ?h577 ?h578;(case h577=>exact (Zax Zbc (pv 1) Zac));case h578=>exact Zad
  walk_at "nx"
  unfold nxW at k
  have z0:Gw H H []:=Gw.start
  by_cases c1:wd = "jump"
  .subst c1
   obtain ⟨kk,rfl⟩:=hn rfl
   have hp1:SqT K H p [.str "jump", .int kk]:=hp
   walk_at "W'"
   all_goals try (exact absurd rfl (by assumption))
   refine ⟨szl_1,fun L q_L=>?_⟩
   generalize e_:upd _ L _=Z1;have z1:=z0.newE q_L e_;clear e_;walk_at "K"
   exact k L _ z1.s z1.h.1
  by_cases c2:wd = "jumpif"
  .subst c2
   obtain ⟨kk,rfl⟩:=hn rfl
   have hp1:SqT K H p [.str "jumpif", .int kk]:=hp
   walk_at "W'"
   all_goals first|exact absurd rfl (by assumption)|exact absurd (show ("jumpif" : Str) = "jump" by assumption) (by decide)|skip
   refine ⟨szl_2,fun L q_L=>?_⟩
   generalize e_:upd _ L _=Z1;have z1:=z0.newE q_L e_;clear e_;walk_at "K"
   exact k L _ z1.s z1.h.1
  rw [if_neg c1,if_neg c2] at k
  walk_at "W'"
  .exact absurd (by assumption) c1
  .exact absurd (by assumption) c2
  refine ⟨szl_2,fun q1 p1=>?_⟩
  generalize e_:upd _ q1 _=Z1;have z1:=z0.newE p1 e_;clear e_
  refine Za3 (xs:=["give", "fail"]) (Zar z1.h.1) ?_
  cases h1:inS wd ["give", "fail"] with
  | true =>
   rw [if_pos (by
    unfold inS at h1
    simp only [List.any_cons,List.any_nil,Bool.or_false,Bool.or_eq_true] at h1
    exact h1.imp (fun e=>Eq.symm (by simpa using e)) (fun e=>Eq.symm (by simpa using e)))] at k
   walk_at "W"
   refine ⟨szl_0,fun L q_L=>?_⟩
   generalize e_:upd _ L _=Z2;have z2:=z1.newE q_L e_;clear e_;walk_at "K"
   exact k L _ z2.s z2.h.1
  | false =>
   rw [if_neg (by
    rintro (rfl|rfl)
    .exact absurd h1 (by decide)
    .exact absurd h1 (by decide))] at k
   walk_at "W"
   refine ⟨szl_1,fun L q_L=>?_⟩
   generalize e_:upd _ L _=Z2;have z2:=z1.newE q_L e_;clear e_;walk_at "K"
   exact k L _ z2.s z2.h.1
theorem Zhy:FnScope ["_law_row", "_law_made_here", "_law_word"] ["_law_row", "_law_made_here"] (Zaf ZfZ):=by walk_at "c"
theorem ZlK    (D:Zaq K mg "_law_price" ZfZ) (n_int:mg "int" = none):Cal P w K mg base 1 "_law_price" (Zel K):=by
 refine ZaA D Zhy (fun vs H Q E h=>?_) (by walk_at "b") (fun f cdv A outer s H vs Q E hr h=>?_)
 .obtain ⟨p,w,n,mv,b,rfl,_⟩:=h;rfl
 .obtain ⟨p,wd,n,mv,b,rfl,hp,hm,k⟩:=h
  refine' ⟨_,?der,?_⟩
  case der=>refine' Zab ?h609 ?h610;(case h609=>exact (Zay (i:=2) Zhy.nd rfl (by first|exact Or.inl rfl|exact Or.inr rfl) (Zan Zau (pv 0) Zac (fun _ _=>rfl))));case h610=>refine' Zab ?h607 ?h608;(case h607=>exact (ZaK (Zal ZaX (pv 2) Zai (nomark _)) (Zae (Zak (Zax Zbc Zac (Zax Zep Zac (Zcg Zes rfl n_int PyProof.Rows.boot_int (Zaa (Zbs (ZaJ ZaX (Zan Zau (pv 1) Zac (fun _ _=>rfl)) Zac (nomark _)) (Zbr (ZaJ ZfG (Zan Zau (pv 1) Zac (fun _ _=>rfl)) Zac (nomark _)))) Zad)))))) Zap));case h608=>refine' Zab ?h605 ?h606;(case h605=>exact (ZaK (Zal ZaX (pv 2) Zai (nomark _)) (Zae (Zak (Zax Zbc Zac (Zax Zep Zac (Zcg Zes rfl n_int PyProof.Rows.boot_int (Zaa (ZaJ Zer (Zan Zau (pv 1) Zac (fun _ _=>rfl)) Zac (nomark _)) Zad)))))) Zap));case h606=>refine' Zab ?h603 ?h604;(case h603=>refine' ZaK ?h588 ?h589 ?h590;(case h588=>exact (Zal ZaQ (pv 2) (Zaz (Zaa Zai (Zaa Zai Zad))) rfl));(case h589=>exact (Zae (Zak Zac)));case h590=>exact Zap);case h604=>refine' Zab ?h601 ?h602;(case h601=>exact (ZaK (Zal ZaX (pv 2) Zai (nomark _)) (Zae (Zak Zac)) Zap));case h602=>refine' Zab ?h599 ?h600;(case h599=>refine' ZaK ?h591 ?h592 ?h593;(case h591=>exact (Zal ZaQ (pv 2) (Zaz (Zaa Zai (Zaa Zai Zad))) rfl));(case h592=>exact (Zae (Zak Zac)));case h593=>exact Zap);case h600=>refine' Zab ?h597 ?h598;(case h597=>refine' ZaK ?h594 ?h595 ?h596;(case h594=>exact (Zal ZaQ (pv 2) (Zaz (Zaa Zai (Zaa Zai (Zaa Zai Zad)))) rfl));(case h595=>exact (Zae (Zak Zac)));case h596=>exact Zap);case h598=>exact (Zae (Zak Zac))
  walk_at "nx"
  have z0:Gw H H []:=Gw.start
  by_cases h1:wd = "save"
  .subst h1
   obtain ⟨t,xs,o,v,rfl,hT,a3,a4,rfl⟩:=hm.1 rfl
   have pc:pcL "save" (decide (o=0)&&decide (v≠0))=5+7*(if (decide (o=0)&&decide (v≠0))=true then (1:Int) else 0):=rfl
   rw [pc] at k
   walk_at "W'"
   all_goals try (exact absurd rfl (by assumption))
   refine Zcc hT a3 ?_
   by_cases ho:o=0
   .walk_at "W'"
    all_goals try (exact absurd ho (by assumption))
    refine Zcc hT a4 ?_
    walk_at "W"
    refine .inr ⟨_,rfl,?_⟩
    walk_at "W"
    rw [decide_eq_true ho,Bool.true_and] at k
    by_cases hv:v=0
    .rw [decide_eq_false (fun z=>z hv)] at k
     rw [decide_eq_true hv]
     exact k _ (Same.refl _)
    .rw [decide_eq_true hv] at k
     rw [decide_eq_false hv]
     exact k _ (Same.refl _)
   .walk_at "W'"
    all_goals try (exact absurd (by assumption) ho)
    refine .inr ⟨_,rfl,?_⟩
    walk_at "W"
    rw [decide_eq_false ho,Bool.false_and] at k
    exact k _ (Same.refl _)
  by_cases h2:wd = "call"
  .subst h2
   obtain ⟨t,xs,c,rfl,hT,a4,rfl⟩:=hm.2 rfl
   have pc:pcL "call" (decide (0<c))=8+4*(if decide (0<c)=true then (1:Int) else 0):=rfl
   rw [pc] at k
   walk_at "W'"
   all_goals first|exact absurd rfl (by assumption)|exact absurd (show ("call" : Str) = "save" by assumption) (by decide)|skip
   refine Zcc hT a4 ?_
   walk_at "W"
   refine .inr ⟨_,rfl,?_⟩
   walk_at "W"
   exact k _ (Same.refl _)
  unfold pcL at k
  rw [if_neg h1,if_neg h2] at k
  walk_at "W'"
  .exact absurd (by assumption) h1
  .exact absurd (by assumption) h2
  refine ⟨szl_2,fun q1 p1=>?_⟩
  generalize e_:upd _ q1 _=Z1;have z1:=z0.newE p1 e_;clear e_
  refine Za3 (xs:=["borrow", "look"]) (Zar z1.h.1) ?_
  cases h3:inS wd ["borrow", "look"] with
  | true =>
   rw [h3,if_pos rfl] at k
   walk_at "W"
   exact k _ z1.s
  | false =>
   rw [h3,if_neg (by decide)] at k
   by_cases h4:wd = "note"
   .rw [if_pos h4] at k
    walk_at "W'"
    .exact k _ z1.s
    .exact absurd h4 (by assumption)
   rw [if_neg h4] at k
   walk_at "W'"
   .exact absurd (by assumption) h4
   refine ⟨szl_2,fun q2 p2=>?_⟩
   generalize e_:upd _ q2 _=Z2;have z2:=z1.newE p2 e_;clear e_
   refine Za3 (xs:=["load", "coin"]) (Zar z2.h.1) ?_
   cases h2:inS wd ["load", "coin"] with
   | true =>
    rw [h2,if_pos rfl] at k
    walk_at "W"
    exact k _ z2.s
   | false =>
    rw [h2,if_neg (by decide)] at k
    walk_at "W"
    refine ⟨szl_3,fun q3 p3=>?_⟩
    generalize e_:upd _ q3 _=Z3;have z3:=z2.newE p3 e_;clear e_
    refine Za3 (xs:=["times", "over", "rest"]) (Zar z3.h.1) ?_
    cases h3:inS wd ["times", "over", "rest"] with
    | true =>
     rw [h3,if_pos rfl] at k
     walk_at "W"
     exact k _ z3.s
    | false =>
     rw [h3,if_neg (by decide)] at k
     walk_at "W"
     exact k _ z3.s
end
theorem ZbN {K:PySem.W.Frag} {H:Hp} {y:FrS} {st:List Dt} {e:Str} {v:V} (h:DV K H (treeD y st) v) (hf:y.fin=some e):∃ T L ws,v=.ref T/\SqT K H T [.str y.kind,.int y.who,.int y.whose,.int y.caller,.int y.coin,.int y.word,.int y.given,.str e,.int y.answer,.int y.used,.ref L]/\SqL K H L ws/\DVs K H st ws:=by
 unfold treeD DV at h
 rw [hf] at h
 obtain ⟨T,xs,rfl,h1,d1⟩:=h
 simp only [DVs,endD] at d1
 obtain ⟨x0,t0,rfl,e0,x1,t1,rfl,e1,x2,t2,rfl,e2,x3,t3,rfl,e3,x4,t4,rfl,e4,x5,t5,rfl,e5,x6,t6,rfl,e6,x7,t7,rfl,e7,x8,t8,rfl,e8,x9,t9,rfl,e9,x10,t10,rfl,e10,rfl⟩:=d1
 unfold DV at e0 e1 e2 e3 e4 e5 e6 e7 e8 e9 e10
 subst e0 e1 e2 e3 e4 e5 e6 e7 e8 e9
 obtain ⟨L,ws,rfl,hL,dL⟩:=e10
 exact ⟨T,L,ws,rfl,h1,hL,dL⟩
noncomputable def SZ:List (Key×V):=[(Sum.inr "save", .int 5),(Sum.inr "note", .int 3),(Sum.inr "call", .int 11),(Sum.inr "borrow", .int 11),(Sum.inr "look", .int 11)]
theorem ZoI {w:Str} (h1:w ≠ "save") (h2:w ≠ "note") (h3:w ≠ "call") (h4:w ≠ "borrow") (h5:w ≠ "look"):valV (mergeK [] SZ) (Sum.inr w:Key)=none:=by
 have e:mergeK [] SZ=SZ:=by decide
 rw [e]
 have ne:∀ {z:Str},w≠z->decide ((Sum.inr z:Key)=Sum.inr w)=false:=fun hz=>decide_eq_false fun q=>hz (Sum.inr.inj q).symm
 unfold valV SZ
 simp only [List.find?_cons,ne h1,ne h2,ne h3,ne h4,ne h5,List.find?_nil,Option.map_none]
theorem ins5 {w:Str} (h:inS w ["save", "note", "call", "borrow", "look"]=false):w ≠ "save" /\ w ≠ "note" /\ w ≠ "call" /\ w ≠ "borrow" /\ w ≠ "look" := by
 refine ⟨?_,?_,?_,?_,?_⟩<;>(rintro rfl;exact absurd h (by decide))
def Zji (K:PySem.W.Frag) (H:Hp) (y:FrS) (w:Str) (mv:V):Prop:=inS w ["save", "note", "call", "borrow", "look"]=false\/(∃ d b,DV K H d mv/\ZjR y w d b)\/∃ y' s' e' b,y'.fin=some e'/\DV K H (treeD y' s') mv/\Zdd y w y' b
def spMade (K:PySem.W.Frag):Sp:=fun vs H Q _=>∃ (p:Addr) (w:Str) (n:Option Int) (mv:V) (T:Addr) (y:FrS) (e:Str) (L:Addr),vs=[.ref p,mv,.ref T]/\Zbj K H p w n/\SqT K H T [.str y.kind,.int y.who,.int y.whose,.int y.caller,.int y.coin,.int y.word,.int y.given,.str e,.int y.answer,.int y.used,.ref L]/\Zji K H y w mv/\∀ H',Same H H'->Q (.bl true) H'
section
variable {P:Program} {w:World} {K:PySem.W.Frag} {mg:Str->Option Value} {base:Heap}
theorem Zjj:FnScope ["_law_row", "_law_made_here", "_law_outer", "_law_sizes"] ["_law_row", "_law_made_here", "_law_outer"] (Zaf ZhV):=by walk_at "c"
theorem Zne    (D:Zaq K mg "_law_made" ZhV) (n_isinstance:mg "isinstance" = none) (n_tuple:mg "tuple" = none) (n_len:mg "len" = none):Cal P w K mg base 1 "_law_made" (spMade K):=by
 refine ZaA D Zjj (fun vs H Q E h=>?_) (by walk_at "b") (fun f cdv A outer s H vs Q E hr h=>?_)
 .obtain ⟨p,w,n,mv,T,y,e,L,rfl,_⟩:=h;rfl
 .obtain ⟨p,wd,n,mv,T,y,e,L,rfl,hp,hT,hm,k⟩:=h
  refine' ⟨_,?der,?_⟩
  case der=>refine' Zab ?h644 ?h645;(case h644=>refine' Zay (i:=3) ?h631 ?h632 ?h633 ?h634;(case h631=>exact Zjj.nd);(case h632=>rfl);(case h633=>(first|exact Or.inl rfl|exact Or.inr rfl));case h634=>refine' ZnY ?h626 ?h627 ?h628 ?h629 ?h630;(case h626=>refine' Zdj ?h623 ?h624 ?h625;(case h623=>exact Zai);(case h624=>exact Zac);case h625=>refine' Zdj ?h620 ?h621 ?h622;(case h620=>exact Zai);(case h621=>exact Zac);case h622=>refine' Zdj ?h617 ?h618 ?h619;(case h617=>exact Zai);(case h618=>exact Zac);case h619=>refine' Zdj ?h614 ?h615 ?h616;(case h614=>exact Zai);(case h615=>exact Zac);case h616=>refine' Zdj ?h611 ?h612 ?h613;(case h611=>exact Zai);(case h612=>exact Zac);case h613=>exact ZnX);(case h627=>rfl);(case h628=>rfl);(case h629=>intro z;cases z);case h630=>show 5<=15;decide);case h645=>refine' Zab ?h642 ?h643;(case h642=>exact (ZaK (pt_cmp (Zkp (ZhK hr) (Zan Zau (pv 0) Zac (fun _ _=>rfl)) (pv 3))) (Zae (Zak ZcQ)) Zap));case h643=>refine' Zab ?h640 ?h641;(case h640=>exact (ZaK (PW.pt (ZfE (Zdg (ZbP (ZaO ZeC rfl n_isinstance PyProof.Rows.boot_isinstance (Zaa (pv 1) (Zaa (ZgP rfl n_tuple PyProof.Rows.boot_tuple) Zad))))) (ZfE (Zal ZfG (ZaO ZbC rfl n_len PySem.boot_len (Zaa (pv 1) Zad)) (Zko (ZhK hr) (pv 3) (Zan Zau (pv 0) Zac (fun _ _=>rfl)) (fun _ _=>rfl)) (nomark _)) (Zgv (Zal ZfG (Zan Zau (pv 1) Zac (fun _ _=>rfl)) (Zan Zau (pv 0) Zac (fun _ _=>rfl)) (nomark _)))))) (Zae (Zak ZcQ)) Zap));case h641=>refine' Zab ?h638 ?h639;(case h638=>refine' ZaK ?h635 ?h636 ?h637;(case h635=>exact (Zal ZaQ (Zan Zau (pv 0) Zac (fun _ _=>rfl)) (Zaz (Zaa Zai (Zaa Zai Zad))) rfl));(case h636=>exact (Zae (Zak (Zbs (ZaJ ZaX (Zan Zau (pv 1) Zac (fun _ _=>rfl)) (Zan Zau (pv 1) Zac (fun _ _=>rfl)) (nomark _)) (Zbs (ZaJ ZaX (Zan Zau (pv 1) Zac (fun _ _=>rfl)) (Zan Zau (pv 2) Zac (fun _ _=>rfl)) (nomark _)) (Zbr (ZjX (ZaJ ZaX (Zan Zau (pv 0) Zac (fun _ _=>rfl)) Zai (nomark _)) (Zbr (ZaJ ZaX (Zan Zau (pv 1) Zac (fun _ _=>rfl)) Zac (nomark _))))))))));case h637=>exact Zap);case h639=>exact (Zae (Zak (Zbs (ZaJ ZaX (Zan Zau (pv 1) Zac (fun _ _=>rfl)) (Zan Zau (pv 2) Zac (fun _ _=>rfl)) (nomark _)) (Zbr (ZjX (ZaJ ZfG (Zan Zau (pv 0) Zac (fun _ _=>rfl)) Zai (nomark _)) (Zbr (ZaJ (ZkI hr.units) (Zdh Zke (pv 1) (Zb0 Zac) (Zb0 Zac)) (Zdh Zke (pv 2) (Zb0 Zac) (Zb0 Zac)) (nomark _))))))))
  walk_at "nx"
  have z0:Gw H H []:=Gw.start
  have hp0:∀ {H':Hp},Same H H'->SqT K H' p (rowV wd n):=fun s=>s.tup hp
  walk_at "W"
  refine ZmA SZ (by decide) fun D q_D=>?_
  generalize e_:upd _ D _=Z1;have z1:=z0.newE q_D e_;clear e_;walk_at "K"
  have hp1:=hp0 z1.s
  have hT1:SqT K Z1 T [.str y.kind,.int y.who,.int y.whose,.int y.caller,.int y.coin,.int y.word,.int y.given,.str e,.int y.answer,.int y.used,.ref L]:=z1.s.tup hT
  have eD:=z1.h.1
  have a0:atI (rowV wd n) 0=some (.str wd):=by cases n<;>rfl
  refine Zcc hp1 a0 ?_
  walk_at "W"
  rcases hm with h5|⟨d,b,dv,hd⟩|⟨y',s',e',b,hf,dv,hk,hc⟩
  .obtain ⟨n1,n2,n3,n4,n5⟩:=ins5 h5
   refine ⟨D,none,rfl,Zcl eD (ZoI n1 n2 n3 n4 n5),?_⟩
   walk_at "W"
   exact k _ z1.s
  .rcases hd with ⟨rfl,pp,oo,vv,rfl,_⟩|⟨rfl,vv,rfl,_⟩
   .have dv1:=dv.keep z1.s
    unfold DV at dv1
    obtain ⟨M,xs,rfl,hM,dx⟩:=dv1
    simp only [DVs,DV] at dx
    obtain ⟨x0,t0,rfl,rfl,x1,t1,rfl,rfl,x2,t2,rfl,rfl,x3,t3,rfl,rfl,x4,t4,rfl,rfl,rfl⟩:=dx
    refine ⟨D,some (.int 5),rfl,Zcl eD (by decide),?_⟩
    rw [show (!(some (V.int 5)).isSome)=false from rfl]
    walk_at "W"
    refine ⟨D,.int 5,rfl,Zcl eD (by decide),?_⟩
    walk_at "W'"
    all_goals first|exact absurd rfl (by assumption)|skip
    have y0:Gw Z1 Z1 []:=Gw.start
    refine ⟨szl_2,fun q2 p2=>?_⟩
    generalize e_:upd _ q2 _=Z2;have y1:=y0.newE p2 e_;clear e_
    refine Za3 (xs:=["call", "look"]) (Zar y1.h.1) ?_
    rw [show inS "save" ["call", "look"]=false from rfl]
    have hM2:=y1.s.tup hM
    have hT2:=y1.s.tup hT1
    have hp2:=y1.s.tup hp1
    walk_at "W'"
    all_goals first|exact absurd rfl (by assumption)|exact absurd (show ("save" : Str) = "borrow" by assumption) (by decide)|skip
    all_goals try exact k _ (z1.s.trans y1.s)
   .have dv1:=dv.keep z1.s
    unfold DV at dv1
    obtain ⟨M,xs,rfl,hM,dx⟩:=dv1
    simp only [DVs,DV] at dx
    obtain ⟨x0,t0,rfl,rfl,x1,t1,rfl,rfl,x2,t2,rfl,rfl,rfl⟩:=dx
    refine ⟨D,some (.int 3),rfl,Zcl eD (by decide),?_⟩
    rw [show (!(some (V.int 3)).isSome)=false from rfl]
    walk_at "W"
    refine ⟨D,.int 3,rfl,Zcl eD (by decide),?_⟩
    walk_at "W'"
    all_goals first|exact absurd rfl (by assumption)|skip
    have y0:Gw Z1 Z1 []:=Gw.start
    refine ⟨szl_2,fun q2 p2=>?_⟩
    generalize e_:upd _ q2 _=Z2;have y1:=y0.newE p2 e_;clear e_
    refine Za3 (xs:=["call", "look"]) (Zar y1.h.1) ?_
    rw [show inS "note" ["call", "look"]=false from rfl]
    have hM2:=y1.s.tup hM
    have hT2:=y1.s.tup hT1
    have hp2:=y1.s.tup hp1
    walk_at "W'"
    all_goals first|exact absurd rfl (by assumption)|exact absurd (show ("note" : Str) = "borrow" by assumption) (by decide)|skip
    all_goals try exact k _ (z1.s.trans y1.s)
  .rcases hc with ⟨rfl,c1,c2,_⟩|⟨rfl,c1,c2,c3,_⟩|⟨rfl,c1,c2,c3,_⟩
   .obtain ⟨M,L',ws,rfl,hM,hL',dL'⟩:=ZbN (dv.keep z1.s) hf
    rw [hk,c1,c2] at hM
    refine ⟨D,some (.int 11),rfl,Zcl eD (by decide),?_⟩
    rw [show (!(some (V.int 11)).isSome)=false from rfl]
    walk_at "W"
    refine ⟨D,.int 11,rfl,Zcl eD (by decide),?_⟩
    walk_at "W'"
    all_goals first|exact absurd rfl (by assumption)|skip
    have y0:Gw Z1 Z1 []:=Gw.start
    refine ⟨szl_2,fun q2 p2=>?_⟩
    generalize e_:upd _ q2 _=Z2;have y1:=y0.newE p2 e_;clear e_
    refine Za3 (xs:=["call", "look"]) (Zar y1.h.1) ?_
    rw [show inS "call" ["call", "look"]=true from rfl]
    have hM2:=y1.s.tup hM
    have hT2:=y1.s.tup hT1
    have hp2:=y1.s.tup hp1
    walk_at "W'"
    all_goals first|exact absurd rfl (by assumption)|exact absurd (show ("call" : Str) = "borrow" by assumption) (by decide)|skip
    all_goals try exact k _ (z1.s.trans y1.s)
   .obtain ⟨M,L',ws,rfl,hM,hL',dL'⟩:=ZbN (dv.keep z1.s) hf
    rw [hk,c1,c2,c3] at hM
    refine ⟨D,some (.int 11),rfl,Zcl eD (by decide),?_⟩
    rw [show (!(some (V.int 11)).isSome)=false from rfl]
    walk_at "W"
    refine ⟨D,.int 11,rfl,Zcl eD (by decide),?_⟩
    walk_at "W'"
    all_goals first|exact absurd rfl (by assumption)|skip
    have y0:Gw Z1 Z1 []:=Gw.start
    refine ⟨szl_2,fun q2 p2=>?_⟩
    generalize e_:upd _ q2 _=Z2;have y1:=y0.newE p2 e_;clear e_
    refine Za3 (xs:=["call", "look"]) (Zar y1.h.1) ?_
    rw [show inS "borrow" ["call", "look"]=false from rfl]
    have hM2:=y1.s.tup hM
    have hT2:=y1.s.tup hT1
    have hp2:=y1.s.tup hp1
    walk_at "W'"
    all_goals first|exact absurd rfl (by assumption)|exact absurd (show ("borrow" : Str) = "borrow" by assumption) (by decide)|skip
    all_goals try exact k _ (z1.s.trans y1.s)
    have y2:=y1
    refine ⟨M,_,rfl,hM2,(fun z=>absurd z.1 (by show ¬ HT.sIx 11 0 (some 3)=0;decide)),fun S1 p1=>?_⟩
    generalize e_:upd _ S1 _=Z3;have y3:=y2.newE p1 e_;clear e_;walk_at "K"
    refine ⟨T,_,rfl,y3.s.tup hT1,(fun z=>absurd z.1 (by show ¬ HT.sIx 11 0 (some 3)=0;decide)),fun S2 p2=>?_⟩
    generalize e_:upd _ S2 _=Z4;have y4:=y3.newE p2 e_;clear e_;walk_at "K"
    refine ZhN (d:=.tup [.int y.caller,.int y.coin]) (ZcP (Zar y4.h.2.1) (Zat ZaU (Zat ZaU Za7))) (ZcP (Zar y4.h.1) (Zat ZaU (Zat ZaU Za7))) (by simp [Dt.dep,Dt.deps]) ?_
    exact k _ (z1.s.trans y4.s)
   .obtain ⟨M,L',ws,rfl,hM,hL',dL'⟩:=ZbN (dv.keep z1.s) hf
    rw [hk,c1,c2,c3] at hM
    refine ⟨D,some (.int 11),rfl,Zcl eD (by decide),?_⟩
    rw [show (!(some (V.int 11)).isSome)=false from rfl]
    walk_at "W"
    refine ⟨D,.int 11,rfl,Zcl eD (by decide),?_⟩
    walk_at "W'"
    all_goals first|exact absurd rfl (by assumption)|skip
    have y0:Gw Z1 Z1 []:=Gw.start
    refine ⟨szl_2,fun q2 p2=>?_⟩
    generalize e_:upd _ q2 _=Z2;have y1:=y0.newE p2 e_;clear e_
    refine Za3 (xs:=["call", "look"]) (Zar y1.h.1) ?_
    rw [show inS "look" ["call", "look"]=true from rfl]
    have hM2:=y1.s.tup hM
    have hT2:=y1.s.tup hT1
    have hp2:=y1.s.tup hp1
    walk_at "W'"
    all_goals first|exact absurd rfl (by assumption)|exact absurd (show ("look" : Str) = "borrow" by assumption) (by decide)|skip
    all_goals try exact k _ (z1.s.trans y1.s)
end
theorem end_at {y:FrS} {rows:List Row} {m:Int} {j:Nat} {r:Row} (h:EndW y y rows m (j:Int)) (hr:rows[j]?=some r):(m<tkW r/\y.fin=some ("short" : Str))\/(¬ m<tkW r/\24<hgW r.1 m/\y.fin=some ("full" : Str)) \/
   (¬ m<tkW r/\¬ 24<hgW r.1 m/\y.looking=true/\inS r.1 ["save", "note"]=true/\y.fin=some ("barred" : Str)) \/
   (¬ m<tkW r/\¬ 24<hgW r.1 m/\¬ (y.looking=true/\inS r.1 ["save", "note"]=true)/\((y.fin=some ("barred" : Str)/\y.looking=true/\r.1 = "call")\/(y.fin=some ("dry" : Str)/\y.given-y.used<pcW r.1 true))):=by
 have hj:=(List.getElem?_eq_some_iff.mp hr).1
 rcases h.2 with ⟨e,_⟩|⟨j2,r2,e,hr2,h⟩
 .omega
 .have:j2=j:=by omega
  rw [this,hr] at hr2
  cases hr2
  exact h
def spEnds (K:PySem.W.Frag):Sp:=fun vs H Q _=>∃ (T RL:Addr) (i m:Int) (y:FrS) (e:Str) (L:Addr) (xs:List V) (rows:List Row),vs=[.ref T,.ref RL,.int i,.int m,.bl y.looking]/\SqT K H T [.str y.kind,.int y.who,.int y.whose,.int y.caller,.int y.coin,.int y.word,.int y.given,.str e,.int y.answer,.int y.used,.ref L]/\y.fin=some e/\SqL K H RL xs/\RowsAt K H rows xs/\(∀ r∈rows,Zbo r)/\0<=i/\i<=(rows.length:Int) /\
 ∀ b H',Same H H'->(EndW y y rows m i->b=true)->Q (.bl b) H'
section
variable {P:Program} {w:World} {K:PySem.W.Frag} {mg:Str->Option Value} {base:Heap}
theorem Zgs:FnScope ["_law_tree", "_law_rows", "_law_at", "_law_many", "_law_still", "_law_end", "_law_row"] ["_law_tree", "_law_rows", "_law_at", "_law_many", "_law_still"] (Zaf ZhW):=by walk_at "c"
theorem Znf    (D:Zaq K mg "_law_ends" ZhW) (c_Ltakes:Cal P w K mg base 1 "_law_takes" (Zej K)) (c_Lheight:Cal P w K mg base 1 "_law_height" (Zek K)) (c_Lprice:Cal P w K mg base 1 "_law_price" (Zel K)) (n_len:mg "len" = none):Cal P w K mg base 2 "_law_ends" (spEnds K):=by
 refine ZaA D Zgs (fun vs H Q E h=>?_) (by walk_at "b") (fun f cdv A outer s H vs Q E hr h=>?_)
 .obtain ⟨T,RL,i,m,y,e,L,xs,rows,rfl,_⟩:=h;rfl
 .obtain ⟨T,RL,i,m,y,e,L,xs,rows,rfl,hT,hf,hRL,hR,hF,i0,i1,k⟩:=h
  refine ⟨_,(Zab (Zay (i:=5) Zgs.nd rfl (by first|exact Or.inl rfl|exact Or.inr rfl) (Zan Zau (pv 0) Zac (fun _ _=>rfl)))
   (Zab (ZaK (Zal ZfG (Zan Zau (pv 0) Zac (fun _ _=>rfl)) Zac (nomark _)) (Zae (Zak ZcQ)) Zap)
   (Zab (ZaK (Zal ZaX (pv 2) (ZaO ZbC rfl n_len PySem.boot_len (Zaa (pv 1) Zad)) (nomark _)) (Zae (Zak (ZaJ ZaX (pv 5) Zai (nomark _)))) Zap)
   (Zab (Zay (i:=6) Zgs.nd rfl (by first|exact Or.inl rfl|exact Or.inr rfl) (Zan Zas (pv 1) (pv 2) (fun _ _=>rfl)))
   (Zab (ZaK (Zal ZdZ (pv 3) (ZaB c_Ltakes (hr.mono (by decide)) rfl (Zaa (pv 6) Zad)) (nomark _)) (Zae (Zak (ZaJ ZaX (pv 5) Zai (nomark _)))) Zap)
   (Zab (ZaK (Zal Zer (ZaB c_Lheight (hr.mono (by decide)) rfl (Zaa (pv 6) (Zaa (pv 3) Zad))) Zac (nomark _)) (Zae (Zak (ZaJ ZaX (pv 5) Zai (nomark _)))) Zap)
   (Zab (ZaK (PW.pt (ZiF (ZbP (pv 4)) (ZfD (Zal ZaQ (Zan Zau (pv 6) Zac (fun _ _=>rfl)) (Zaz (Zaa Zai (Zaa Zai Zad))) rfl)))) (Zae (Zak (ZaJ ZaX (pv 5) Zai (nomark _)))) Zap)
   (Zab (ZaK (Zal ZaX (pv 5) Zai (nomark _)) (Zae (Zak (Zbs (pv 4) (Zbr (ZaJ ZaX (Zan Zau (pv 6) Zac (fun _ _=>rfl)) Zai (nomark _)))))) Zap)
   (Zae (Zak (Zbs (ZaJ ZaX (pv 5) Zai (nomark _)) (Zbr (ZaJ ZdZ (Zax Zcb (Zan Zau (pv 0) Zac (fun _ _=>rfl)) (Zan Zau (pv 0) Zac (fun _ _=>rfl))) (ZaB c_Lprice (hr.mono (by decide)) rfl (Zaa (pv 6) (Zaa (Zaz (Zd1 (vs:=[.int 0,.int 0,.int 0,.int 0,.int 1]) (by rfl))) Zad))) (nomark _)))))))))))))),?_⟩
  walk_at "nx"
  have hxl:xs.length=rows.length:=hR.1.symm
  by_cases ha:¬ y.answer=0
  .walk_at "W'"
   all_goals first|exact absurd (by assumption) ha|skip
   exact k _ _ (Same.refl _) fun h=>absurd h.1 ha
  have ha:y.answer=0:=Decidable.not_not.1 ha
  by_cases hi:i=(xs.length:Int)
  .walk_at "W'"
   all_goals first|exact absurd ha (by assumption)|exact absurd hi (by assumption)|skip
   refine k _ _ (Same.refl _) fun h=>?_
   rcases h.2 with ⟨_,q⟩|⟨j,r,ej,hr,_⟩
   .rw [hf] at q;cases q;rfl
   .have:=(List.getElem?_eq_some_iff.mp hr).1
    omega
  obtain ⟨j,rfl⟩:∃ j:Nat,i=(j:Int):=⟨i.toNat,by omega⟩
  have hj:j<rows.length:=by omega
  obtain ⟨x,hx⟩:∃ x,xs[j]?=some x:=⟨_,List.getElem?_eq_getElem (by omega)⟩
  have hr:rows[j]?=some rows[j]:=List.getElem?_eq_getElem hj
  obtain ⟨p,rfl,hp⟩:=hR.2 j _ x hr hx
  have hfit:=hF _ (List.getElem_mem hj)
  generalize rows[j]=r at hr hp hfit
  obtain ⟨wd,n⟩:=r
  have lr:=Zjh hfit.1
  have hp:Zbj K H p wd n:=hp
  walk_at "W'"
  all_goals first|exact absurd ha (by assumption)|exact absurd (by assumption) hi|skip
  refine ZaC hRL (Zch hx) ?_
  walk_at "W"
  refine ⟨p,wd,n,rfl,hp,(fun z=>let ⟨kk,e,_⟩:=hfit.2.2.1 z;⟨kk,e⟩),fun H1 s1=>?_⟩
  rw [lr.1 n]
  have kb:∀ (b:Bool) (H':Hp),Same H H'->(EndW y y rows m (j:Int)->b=true)->Q (.bl b) H':=k
  have ke:=fun h=>end_at (y:=y) (m:=m) h hr
  by_cases c1:m<tkW (wd,n)
  .walk_at "W'"
   all_goals first|exact absurd c1 (by assumption)|skip
   refine kb _ _ s1 fun h=>?_
   rcases ke h with ⟨_,q⟩|⟨q,_⟩|⟨q,_⟩|⟨q,_⟩
   .rw [hf] at q;cases q;rfl
   .exact absurd c1 q
   .exact absurd c1 q
   .exact absurd c1 q
  walk_at "W'"
  all_goals first|exact absurd (by assumption) c1|skip
  have hp1:Zbj K H1 p wd n:=s1.tup hp
  refine ⟨p,wd,n,m,rfl,hp1,fun H2 s2=>?_⟩
  rw [lr.2.1 m]
  have hp2:SqT K H2 p (rowV wd n):=s2.tup hp1
  have hT2:=(s1.trans s2).tup hT
  have a0:atI (rowV wd n) 0=some (.str wd):=by cases n<;>rfl
  by_cases c2:24<hgW wd m
  .walk_at "W'"
   all_goals first|exact absurd c2 (by assumption)|skip
   refine kb _ _ (s1.trans s2) fun h=>?_
   rcases ke h with ⟨q,_⟩|⟨_,_,q⟩|⟨_,q,_⟩|⟨_,q,_⟩
   .exact absurd q c1
   .rw [hf] at q;cases q;rfl
   .exact absurd c2 q
   .exact absurd c2 q
  have ke:=fun h=>(ke h).elim (fun q=>absurd q.1 c1) (fun q=>q.elim (fun q=>absurd q.2.1 c2) id)
  have z0:Gw H2 H2 []:=Gw.start
  cases hlk:y.looking with
  | false =>
   by_cases hb:e = "barred"
   .walk_at "W'"
    all_goals first|exact absurd hb (by assumption)|exact absurd (by assumption) c2|skip
    refine kb _ _ (s1.trans s2) fun h=>?_
    rcases ke h with ⟨_,_,q,_⟩|⟨_,_,_,⟨_,q,_⟩|⟨q,_⟩⟩
    .rw [hlk] at q;cases q
    .rw [hlk] at q;cases q
    .rw [hf,hb] at q;exact absurd (Option.some.inj q) (by decide)
   .skip
    have hTd:=hT2
    by_cases hd:e = "dry"
    .walk_at "W'"
     all_goals first|exact absurd (by assumption) hb|exact absurd hd (by assumption)|exact absurd (by assumption) c2|skip
     refine ⟨szl_5,fun PT q_PT=>?_⟩
     generalize e_:upd _ PT _=ZD;have zd:=z0.newE q_PT e_;clear e_;walk_at "K"
     have hPT:=Zar (K:=K) zd.h.1
     refine ⟨p,wd,n,.ref PT,true,rfl,(show SqT K ZD p (rowV wd n) from zd.s.tup hp2),⟨fun _=>⟨PT,_,0,1,rfl,hPT,rfl,rfl,rfl⟩,fun _=>⟨PT,_,1,rfl,hPT,rfl,rfl⟩⟩,fun H3 s3=>?_⟩
     rw [lr.2.2 true]
     walk_at "W"
     refine kb _ _ (((s1.trans s2).trans zd.s).trans s3) fun h=>?_
     rcases ke h with ⟨_,_,_,_,q⟩|⟨_,_,_,⟨q,_⟩|⟨_,q⟩⟩
     .rw [hf,hd] at q;exact absurd (Option.some.inj q) (by decide)
     .rw [hf,hd] at q;exact absurd (Option.some.inj q) (by decide)
     .exact decide_eq_true q
    .walk_at "W'"
     all_goals first|exact absurd (by assumption) hb|exact absurd (by assumption) hd|exact absurd (by assumption) c2|skip
     refine kb _ _ ((s1.trans s2).trans z0.s) fun h=>?_
     rcases ke h with ⟨_,_,_,_,q⟩|⟨_,_,_,⟨q,_⟩|⟨q,_⟩⟩
     .rw [hf] at q;exact absurd (Option.some.inj q) hb
     .rw [hf] at q;exact absurd (Option.some.inj q) hb
     .rw [hf] at q;exact absurd (Option.some.inj q) hd
  | true =>
   walk_at "W'"
   all_goals first|exact absurd (by assumption) c2|skip
   refine ⟨szl_2,fun q1 p1=>?_⟩
   generalize e_:upd _ q1 _=Z1;have z1:=z0.newE p1 e_;clear e_
   refine Za3 (xs:=["save", "note"]) (Zar z1.h.1) ?_
   cases hsn:inS wd ["save", "note"] with
   | true =>
    walk_at "W"
    refine kb _ _ ((s1.trans s2).trans z1.s) fun h=>?_
    rcases ke h with ⟨_,_,_,_,q⟩|⟨_,_,q,_⟩
    .rw [hf] at q;cases q;rfl
    .exact absurd ⟨hlk,hsn⟩ q
   | false =>
    have hp3:=z1.s.tup hp2
    by_cases hb:e = "barred"
    .walk_at "W'"
     all_goals first|exact absurd hb (by assumption)|skip
     refine kb _ _ ((s1.trans s2).trans z1.s) fun h=>?_
     rcases ke h with ⟨_,_,_,q,_⟩|⟨_,_,_,⟨_,_,q⟩|⟨q,_⟩⟩
     .rw [hsn] at q;cases q
     .exact decide_eq_true q
     .rw [hf,hb] at q;exact absurd (Option.some.inj q) (by decide)
    .skip
     have hTd:=(z1.s.tup hT2)
     by_cases hd:e = "dry"
     .walk_at "W'"
      all_goals first|exact absurd (by assumption) hb|exact absurd hd (by assumption)|exact absurd (by assumption) c2|skip
      refine ⟨szl_5,fun PT q_PT=>?_⟩
      generalize e_:upd _ PT _=ZD;have zd:=z1.newE q_PT e_;clear e_;walk_at "K"
      have hPT:=Zar (K:=K) zd.h.1
      refine ⟨p,wd,n,.ref PT,true,rfl,(show SqT K ZD p (rowV wd n) from zd.s.tup hp2),⟨fun _=>⟨PT,_,0,1,rfl,hPT,rfl,rfl,rfl⟩,fun _=>⟨PT,_,1,rfl,hPT,rfl,rfl⟩⟩,fun H3 s3=>?_⟩
      rw [lr.2.2 true]
      walk_at "W"
      refine kb _ _ (((s1.trans s2).trans zd.s).trans s3) fun h=>?_
      rcases ke h with ⟨_,_,_,_,q⟩|⟨_,_,_,⟨q,_⟩|⟨_,q⟩⟩
      .rw [hf,hd] at q;exact absurd (Option.some.inj q) (by decide)
      .rw [hf,hd] at q;exact absurd (Option.some.inj q) (by decide)
      .exact decide_eq_true q
     .walk_at "W'"
      all_goals first|exact absurd (by assumption) hb|exact absurd (by assumption) hd|exact absurd (by assumption) c2|skip
      refine kb _ _ ((s1.trans s2).trans z1.s) fun h=>?_
      rcases ke h with ⟨_,_,_,_,q⟩|⟨_,_,_,⟨q,_⟩|⟨q,_⟩⟩
      .rw [hf] at q;exact absurd (Option.some.inj q) hb
      .rw [hf] at q;exact absurd (Option.some.inj q) hb
      .rw [hf] at q;exact absurd (Option.some.inj q) hd
end
def spLast (K:PySem.W.Frag):Sp:=fun vs H Q _=>∃ (T RL NL:Addr) (l:Str) (m:Int) (y:FrS) (e:Str) (L:Addr) (xs:List V) (rows:List Row) (ns:List Int),vs=[.ref T,.ref RL,.str l,.ref NL,.int m,.bl y.looking]/\SqT K H T [.str y.kind,.int y.who,.int y.whose,.int y.caller,.int y.coin,.int y.word,.int y.given,.str e,.int y.answer,.int y.used,.ref L]/\y.fin=some e/\SqL K H RL xs/\RowsAt K H rows xs/\(∀ r∈rows,Zbo r)/\SqL K H NL (ns.map V.int)/\ns.length<=2/\(∀ i∈ns,0<=i/\i<=(rows.length:Int))/\ZoG y y rows ns l m/\∀ H',Same H H'->Q (.bl true) H'
def Ziz (K:PySem.W.Frag):Sp:=fun vs H Q _=>∃ (T D:Addr) (g:Int) (y:FrS) (e:Str) (L:Addr) (ws:List V) (kvs:List (Key×V)),vs=[.ref T,.ref D,.int g]/\SqT K H T [.str y.kind,.int y.who,.int y.whose,.int y.caller,.int y.coin,.int y.word,.int y.given,.str e,.int y.answer,.int y.used,.ref L]/\SqL K H L ws/\H D=some (.dK kvs)/\((BadE e/\y.given=0/\y.answer=0/\y.used=0/\ws=[])\/(¬ BadE e/\(∃ v,valV kvs (Sum.inl y.whose:Key)=some v)/\y.given<=g/\y.used<=y.given))/\∀ H',Same H H'->Q (.bl true) H'
def Zem (K:PySem.W.Frag):Sp:=fun vs H Q _=>∃ (d:Dt) (v:V),vs=[v]/\d≠.non/\(∀ b,d≠.bl b)/\DV K H d v/\Q (.bl (match d with|.int _=>true|_=>false)) H
theorem ZlL (e:Str):inS e ["nobody", "deep", "poor"]=true ↔ BadE e:=by
 unfold inS BadE
 simp only [List.any_cons,List.any_nil,Bool.or_false,Bool.or_eq_true,beq_iff_eq]
 exact ⟨fun h=>h.imp (fun h=>by simpa using h.symm) (fun h=>h.imp (fun h=>by simpa using h.symm) (fun h=>by simpa using h.symm)),fun h=>h.imp (fun h=>by simpa using h.symm) (fun h=>h.imp (fun h=>by simpa using h.symm) (fun h=>by simpa using h.symm))⟩
section
variable {P:Program} {w:World} {K:PySem.W.Frag} {mg:Str->Option Value} {base:Heap}
theorem Zng:FnScope ["_law_tree", "_law_rows", "_law_last_here", "_law_nexts_here", "_law_many", "_law_still"] ["_law_tree", "_law_rows", "_law_last_here", "_law_nexts_here", "_law_many", "_law_still"] (Zaf Zf1):=by walk_at "c"
theorem Znh    (D:Zaq K mg "_law_last" Zf1) (c_Lends:Cal P w K mg base 2 "_law_ends" (spEnds K)) (n_any:mg "any" = none):Cal P w K mg base 3 "_law_last" (spLast K):=by
 refine ZaA D Zng (fun vs H Q E h=>?_) (by walk_at "b") (fun f cdv A outer s H vs Q E hr h=>?_)
 .obtain ⟨T,RL,NL,l,m,y,e,L,xs,rows,ns,rfl,_⟩:=h;rfl
 .obtain ⟨T,RL,NL,l,m,y,e,L,xs,rows,ns,rfl,hT,hf,hRL,hR,hF,hNL,hn2,hns,hl,k⟩:=h
  refine ⟨_,(Zab (ZaK (Zal ZaX (pv 2) Zai (nomark _)) (Zae (Zak (ZaJ ZaX (Zan Zau (pv 0) Zac (fun _ _=>rfl)) Zai (nomark _)))) Zap)
   (Zab (ZaK (Zal ZaX (pv 2) Zai (nomark _)) (Zae (Zak (ZaJ ZaX (Zan Zau (pv 0) Zac (fun _ _=>rfl)) Zai (nomark _)))) Zap)
   (Zae (Zak (ZaO (cn_any rfl) rfl n_any PyProof.Rows.boot_any (Zaa (Zks ["_law_at"] rfl (show CompScope (Zaf Zf1) ["_law_tree", "_law_rows", "_law_last_here", "_law_nexts_here", "_law_many", "_law_still"] ["_law_at"] _ from ⟨rfl,by decide +kernel,by decide +kernel,by decide +kernel,by decide +kernel,by decide +kernel⟩) (ZhE (pv 3)) (fun _ _ _ _ _=>(Zcd (i:=0) (show (["_law_at", "_law_tree", "_law_rows", "_law_last_here", "_law_nexts_here", "_law_many", "_law_still"]:List Str).Nodup by decide +kernel) rfl (Or.inl rfl) (.inr rfl))) (fun _ _ _ _ _=>ZfL) (fun _ _ _ _ _=>(ZaB c_Lends (hr.mono (by decide)) rfl (Zaa (pv 1) (Zaa (pv 2) (Zaa (pv 0) (Zaa (pv 5) (Zaa (pv 6) Zad)))))))) Zad)))))),?_⟩
  walk_at "nx"
  by_cases l1:l = "give"
  .walk_at "W'"
   all_goals first|exact absurd l1 (by assumption)|skip
   rcases hl with ⟨_,q⟩|⟨q,_⟩|⟨q,_⟩
   .rw [hf] at q;cases q;exact k _ (Same.refl _)
   .rw [l1] at q;exact absurd q (by decide)
   .exact absurd l1 q
  by_cases l2:l = "fail"
  .walk_at "W'"
   all_goals first|exact absurd (by assumption) l1|exact absurd l2 (by assumption)|skip
   rcases hl with ⟨q,_⟩|⟨_,q⟩|⟨_,q,_⟩
   .exact absurd q l1
   .rw [hf] at q;cases q;exact k _ (Same.refl _)
   .exact absurd l2 q
  obtain ⟨at0,hat,hE⟩:∃ i∈ns,EndW y y rows m i:=by
   rcases hl with ⟨q,_⟩|⟨q,_⟩|⟨_,_,q⟩
   .exact absurd q l1
   .exact absurd q l2
   .exact q
  walk_at "W'"
  all_goals first|exact absurd (by assumption) l1|exact absurd (by assumption) l2|skip
  refine ZfM (ZfN ?_)
  walk_at "W"
  refine ⟨NL,rfl,⟨_,hNL⟩,fun q q_q=>?_⟩
  refine ZgV (xs:=ns.map V.int) (fun i H'=>Same H H'/\∃ bs:List Bool,H' q=some (.lst (bs.map V.bl))/\bs.length=i/\i<=ns.length/\∀ (j:Nat) a,j<i->ns[j]?=some a->EndW y y rows m a->bs[j]?=some true) ⟨Same.new q_q,[],Zag,rfl,Nat.zero_le _,fun j a h=>absurd h (Nat.not_lt_zero _)⟩ (fun i H' ⟨s,_⟩=>s.seq hNL) ?_ ?_
  .rintro i x H' hx ⟨s1,bs,hv,hl,hi,hB⟩
   have hi':i<ns.length:=by have:=(List.getElem?_eq_some_iff.mp hx).1;rwa [List.length_map] at this
   rw [List.getElem?_map] at hx
   obtain ⟨a,ha,rfl⟩:=Option.map_eq_some_iff.mp hx
   have hb:=hns a (List.mem_of_getElem? ha)
   refine ZkP ?_
   refine iteT ?_
   walk_at "W"
   refine ⟨T,RL,a,m,y,e,L,xs,rows,rfl,s1.tup hT,hf,s1.seq hRL,hR.keep s1.imm,hF,hb.1,hb.2,fun b H2 s2 hb2=>?_⟩
   walk_at "W"
   refine ⟨bs.map V.bl,s2 _ _ hv,Nat.lt_of_lt_of_le (show (bs.map V.bl).length<10 by rw [List.length_map];omega) (by decide),⟨(s1.trans s2).wr q_q,bs++[b],by rw [Zag,List.map_append];rfl,by rw [List.length_append,hl];rfl,by omega,fun j a' hj ha' hE'=>?_⟩,_,rfl⟩
   by_cases hji:j<i
   .rw [List.getElem?_append_left (by omega)];exact hB j a' hji ha' hE'
   .have:j=i:=by omega
    rw [this,ha] at ha'
    cases ha'
    rw [this,<- hl,List.getElem?_append_right (Nat.le_refl _),Nat.sub_self,hb2 hE']
    rfl
  .rintro H2 ⟨s1,bs,hv,hl,_,hB⟩
   rw [List.length_map] at hl
   walk_at "W"
   refine rd_any (Zaw hv) ?_
   obtain ⟨j,hj⟩:=List.mem_iff_getElem?.1 hat
   have hjl:=(List.getElem?_eq_some_iff.mp hj).1
   have hb:=hB j at0 (by rw [List.length_map];exact hjl) hj hE
   rw [show bs.any id=true from List.any_eq_true.2 ⟨true,List.mem_of_getElem? hb,rfl⟩]
   walk_at "W"
   exact k _ s1
theorem ZlM:FnScope ["_law_found"] ["_law_found"] (Zaf ZfX):=by walk_at "c"
theorem ZlN    (D:Zaq K mg "_law_whole" ZfX) (n_isinstance:mg "isinstance" = none) (n_int:mg "int" = none) (n_bool:mg "bool" = none):Cal P w K mg base 1 "_law_whole" (Zem K):=by
 refine ZaA D ZlM (fun vs H Q E h=>?_) (by walk_at "b") (fun f cdv A outer s H vs Q E hr h=>?_)
 .obtain ⟨d,v,rfl,_⟩:=h;rfl
 .obtain ⟨d,v,rfl,hn,hb,hv,k⟩:=h
  refine ⟨_,(Zae (Zak (Zbs (ZaO ZeC rfl n_isinstance PyProof.Rows.boot_isinstance (Zaa (pv 0) (Zaa (ZgP rfl n_int PyProof.Rows.boot_int) Zad))) (Zbr (pe_not (ZaO ZeC rfl n_isinstance PyProof.Rows.boot_isinstance (Zaa (pv 0) (Zaa (ZgP rfl n_bool PyProof.Rows.boot_bool) Zad)))))))),?_⟩
  walk_at "nx"
  cases d with
  | non=>exact absurd rfl hn
  | bl b=>exact absurd rfl (hb b)
  | int i =>
   unfold DV at hv
   subst hv
   walk_at "Z"
   all_goals first|exact k|exact ZbA (by simp) k
  | str z =>
   unfold DV at hv
   subst hv
   walk_at "Z"
   all_goals first|exact k|exact ZbA (by simp) k
  | lst ds =>
   unfold DV at hv
   obtain ⟨a1,xs,rfl,h1,d1⟩:=hv
   walk_at "Z"
   all_goals first|exact k|exact ZbA (by simp) k
  | tup ds =>
   unfold DV at hv
   obtain ⟨a1,xs,rfl,h1,d1⟩:=hv
   walk_at "Z"
   all_goals first|exact k|exact ZbA (by simp) k
end
section
variable {P:Program} {w:World} {K:PySem.W.Frag} {mg:Str->Option Value} {base:Heap}
theorem Zhz:FnScope ["_law_tree", "_law_programs_here", "_law_given", "_law_k"] ["_law_tree", "_law_programs_here", "_law_given"] (Zaf Zf2):=by walk_at "c"
theorem ZlO    (D:Zaq K mg "_law_shape" Zf2) (c_Lwhole:Cal P w K mg base 1 "_law_whole" (Zem K)) (n_isinstance:mg "isinstance" = none) (n_tuple:mg "tuple" = none) (n_len:mg "len" = none) (n_list:mg "list" = none):Cal P w K mg base 2 "_law_shape" (Ziz K):=by
 refine ZaA D Zhz (fun vs H Q E h=>?_) (by walk_at "b") (fun f cdv A outer s H vs Q E hr h=>?_)
 .obtain ⟨T,D,g,y,e,L,ws,kvs,rfl,_⟩:=h;rfl
 .obtain ⟨T,D,g,y,e,L,ws,kvs,rfl,hT,hL,hD,hs,k⟩:=h
  refine ⟨_,(Zab (ZaK (PW.pt (ZfE (Zdg (ZbP (ZaO ZeC rfl n_isinstance PyProof.Rows.boot_isinstance (Zaa (pv 0) (Zaa (ZgP rfl n_tuple PyProof.Rows.boot_tuple) Zad))))) (ZfE (Zal ZfG (ZaO ZbC rfl n_len PySem.boot_len (Zaa (pv 0) Zad)) Zac (nomark _)) (Zgv (Zdg (ZbP (ZaO ZeC rfl n_isinstance PyProof.Rows.boot_isinstance (Zaa (Zan Zau (pv 0) Zac (fun _ _=>rfl)) (Zaa (ZgP rfl n_list PyProof.Rows.boot_list) Zad))))))))) (Zae (Zak ZcQ)) Zap)
   (Zab (ZiI PassesOwn.never rfl (ZhE (ZaM (Zd1 (vs:=[.int 1,.int 2,.int 3,.int 4,.int 5,.int 6,.int 8,.int 9]) (by rfl)))) (Zcd (i:=3) Zhz.nd rfl (by first|exact Or.inl rfl|exact Or.inr rfl))
   (Zae (ZaK (Zdg (ZbP (ZaB c_Lwhole (hr.mono (by decide)) rfl (Zaa (Zan Zau (pv 0) (pv 3) (fun _ _=>rfl)) Zad)))) (Zae (Zak ZcQ)) Zap)))
   (Zab (ZaK (Zal ZaQ (Zan Zau (pv 0) Zac (fun _ _=>rfl)) (Zaz (Zaa Zai (Zaa Zai (Zaa Zai Zad)))) rfl) (Zae (Zak (Zbs (ZaJ ZaX (Zan Zau (pv 0) Zac (fun _ _=>rfl)) Zac (nomark _)) (Zbs (ZaJ ZaX (Zan Zau (pv 0) Zac (fun _ _=>rfl)) Zac (nomark _)) (Zbs (ZaJ ZaX (Zan Zau (pv 0) Zac (fun _ _=>rfl)) Zac (nomark _)) (Zbr (ZaJ (ZkI hr.units) (Zan Zau (pv 0) Zac (fun _ _=>rfl)) (ZaM Zad) (nomark _)))))))) Zap)
   (Zae (Zak (Zbs (pe_cmp (pc_din (ZhK hr) (Zan Zau (pv 0) Zac (fun _ _=>rfl)) (pv 1))) (Zbs (ZaJ ZnM (Zan Zau (pv 0) Zac (fun _ _=>rfl)) (pv 2) (nomark _)) (Zbr (ZaJ ZnM (Zan Zau (pv 0) Zac (fun _ _=>rfl)) (Zan Zau (pv 0) Zac (fun _ _=>rfl)) (nomark _)))))))))),?_⟩
  walk_at "nx"
  walk_at "Z'"
  all_goals first|exact absurd rfl (by assumption)|skip
  have z0:Gw H H []:=Gw.start
  refine ZiS (ZfN ?_)
  walk_at "K"
  refine ⟨szl_8,fun LL q_LL=>?_⟩
  generalize e_:upd _ LL _=Z1;have z1:=z0.newE q_LL e_;clear e_;walk_at "K"
  have hT1:=z1.s.tup hT
  refine ⟨LL,rfl,⟨_,Zaw z1.h.1⟩,Zl3 (xs:=[V.int 1,.int 2,.int 3,.int 4,.int 5,.int 6,.int 8,.int 9]) (fun i σ' H'=>H'=Z1/\∃ v,σ'=[some (.ref T),some (.ref D),some (.int g),v]) ⟨rfl,_,rfl⟩ (fun i σ' H' _ hz=>by rw [hz.1];exact Zaw z1.h.1) ?_ ?_⟩
  .rintro i x σ' H' hx ⟨rfl,v,rfl⟩
   have hi:i<8:=(List.getElem?_eq_some_iff.mp hx).1
   rcases (by omega:i=0\/i=1\/i=2\/i=3\/i=4\/i=5\/i=6\/i=7) with rfl|rfl|rfl|rfl|rfl|rfl|rfl|rfl
   all_goals cases hx
   all_goals (walk_at "Z")
   all_goals refine ⟨.int _,_,rfl,by simp,by simp,ZaU,?_⟩
   all_goals (walk_at "Z")
   all_goals exact ⟨rfl,_,rfl⟩
  rintro σ' H' ⟨rfl,v,rfl⟩
  walk_at "W"
  refine ⟨szl_3,fun q2 p2=>?_⟩
  generalize e_:upd _ q2 _=Z2;have z2:=z1.newE p2 e_;clear e_
  refine Za3 (xs:=["nobody", "deep", "poor"]) (Zar z2.h.1) ?_
  have hT2:=z2.s.tup hT
  cases hb:inS e ["nobody", "deep", "poor"] with
  | true =>
   rcases hs with ⟨_,g0,a0,u0,rfl⟩|⟨nb,_⟩
   .rw [g0,a0,u0] at hT2
    walk_at "W'"
    all_goals first|exact absurd rfl (by assumption)|skip
    refine ⟨szl_0,fun E0 q_E0=>?_⟩
    generalize e_:upd _ E0 _=Z3;have z3:=z2.newE q_E0 e_;clear e_;walk_at "K"
    refine ZhN (d:=.lst []) (Zfz (z3.s.seq hL) Za7) (Zfz (Zaw z3.h.1) Za7) (by decide) ?_
    exact k _ z3.s
   .exact absurd ((ZlL e).1 hb) nb
  | false =>
   rcases hs with ⟨hbad,_⟩|⟨_,⟨v,hv⟩,hg,hu⟩
   .rw [(ZlL e).2 hbad] at hb;cases hb
   .walk_at "W"
    refine ⟨D,some v,rfl,Zny (z2.s _ _ hD) hv,?_⟩
    rw [show (some v).isSome=true from rfl]
    walk_at "W'"
    all_goals first|exact absurd hg (by assumption)|skip
    rw [decide_eq_true hu]
    exact k _ z2.s
end
theorem te_cut {te:TE} {σ:St} {H:Hp} {Q:VK} {v:V} (h:∀ Q':VK,Q' v H->te σ H Q') (q:Q v H):te σ H Q:=h Q q
def PDat (K:PySem.W.Frag) (H:Hp) (A:Nat->Option AcI) (S0:Nat->AcS) (D:Addr) (kvs:List (Key×V)):Prop:=H D=some (.dK kvs)/\∀ (i:Nat) ac,i<16->A i=some ac->∃ a xs,valV kvs (Sum.inl (i:Int):Key)=some (.ref a)/\SqL K H a xs/\RowsAt K H (S0 i).rows xs
theorem PDat.same {K:PySem.W.Frag} {H H':Hp} {A:Nat->Option AcI} {S0:Nat->AcS} {D:Addr} {kvs:List (Key×V)} (h:PDat K H A S0 D kvs) (s:Same H H'):PDat K H' A S0 D kvs:=⟨s _ _ h.1,fun i ac hi ha=>let ⟨a,xs,e,l,r⟩:=h.2 i ac hi ha;⟨a,xs,e,s.seq l,r.keep s.imm⟩⟩
structure RwOk (S0:Nat->AcS):Prop where
 fit:∀ i,∀ r∈(S0 i).rows,Zbo r
 jb:∀ i,JB (S0 i).rows
 len:∀ i,(S0 i).rows.length<=1000
def Zen (K:PySem.W.Frag) (n:Nat):Sp:=fun vs H Q _=>∃ (mv:V) (D:Addr) (g:Int) (lk:Bool) (y:FrS) (st:List Dt) (A:Nat->Option AcI) (S0:Nat->AcS) (kvs:List (Key×V)),vs=[mv,.ref D,.int g,.bl lk]/\DV K H (treeD y st) mv/\WkN A S0 n g lk y st/\PDat K H A S0 D kvs/\RwOk S0/\∀ H',Same H H'->Q (.bl true) H'
def spNo40:Sp:=fun _ _ _ _=>False
def ZlP (K:PySem.W.Frag):Nat->Sp
 | 0=>spNo40
 | n+1=>Zen K n
theorem Zni {f:FrS} {rows:List Row} {sub:Int->Bool->FrS->List Dt->Prop} {ns:List Int} {l:Str} {m u:Int} {d0:Dt} {st ds:List Dt} {ns':List Int} {l':Str} {m' u':Int} (e:ds=d0::st) (h:Wlk f rows sub ns l m u ds ns' l' m' u'):∃ (i:Nat) (r:Row),d0=.int (i:Int)/\(i:Int)∈ns/\rows[i]?=some r/\tkW r<=m/\hgW r.1 m<=24 /\
  ((inS r.1 ["save", "note", "call", "borrow", "look"]=false/\Wlk f rows sub (nxW r (i:Int)) r.1 (hgW r.1 m) (u+pcW r.1 false) st ns' l' m' u') \/
   (∃ d b st2,st=d::st2/\ZjR f r.1 d b/\Wlk f rows sub (nxW r (i:Int)) r.1 (hgW r.1 m) (u+pcW r.1 b) st2 ns' l' m' u') \/
   (∃ y s b st2,st=treeD y s::st2/\Zdd f r.1 y b/\sub (f.given-(u+pcW r.1 b)) (f.looking||decide (r.1 = "look")) y s/\Wlk f rows sub (nxW r (i:Int)) r.1 (hgW r.1 m) (u+pcW r.1 b+y.used) st2 ns' l' m' u')):=by
 cases h with
 | nil=>cases e
 | one hi hr hw h1 h2 q=>cases e;exact ⟨_,_,rfl,hi,hr,h1,h2,.inl ⟨hw,q⟩⟩
 | deed hi hr hd h1 h2 q=>cases e;exact ⟨_,_,rfl,hi,hr,h1,h2,.inr (.inl ⟨_,_,_,rfl,hd,q⟩)⟩
 | call hi hr hc hs h1 h2 q=>cases e;exact ⟨_,_,rfl,hi,hr,h1,h2,.inr (.inr ⟨_,_,_,_,rfl,hc,hs,q⟩)⟩
theorem ZoJ {f:FrS} {rows:List Row} {sub:Int->Bool->FrS->List Dt->Prop} {ns:List Int} {l:Str} {m u:Int} {ds:List Dt} {ns':List Int} {l':Str} {m' u':Int} (e:ds=[]) (h:Wlk f rows sub ns l m u ds ns' l' m' u'):ns'=ns/\l'=l/\m'=m/\u'=u:=by
 cases h with
 | nil=>exact ⟨rfl,rfl,rfl,rfl⟩
 | one=>cases e
 | deed=>cases e
 | call=>cases e
theorem WkN.fin {A:Nat->Option AcI} {S0:Nat->AcS} {n:Nat} {g:Int} {lk:Bool} {y:FrS} {st:List Dt} (h:WkN A S0 n g lk y st):∃ e,y.fin=some e:=by
 cases n with
 | zero=>exact let ⟨e,h,_⟩:=h;⟨e,h⟩
 | succ n=>rcases h with ⟨e,h,_⟩|⟨e,h,_⟩<;>exact ⟨e,h⟩
theorem PcMade.same {K:PySem.W.Frag} {H H':Hp} {w:Str} {mv:V} {b:Bool} (h:PcMade K H w mv b) (s:Same H H'):PcMade K H' w mv b:=⟨fun z=>let ⟨t,xs,o,v,e1,e2,e3⟩:=h.1 z;⟨t,xs,o,v,e1,s.tup e2,e3⟩,fun z=>let ⟨t,xs,c,e1,e2,e3⟩:=h.2 z;⟨t,xs,c,e1,s.tup e2,e3⟩⟩
theorem nx_len (r:Row) (i:Int):(nxW r i).length<=2:=by
 unfold nxW
 split
 .exact Nat.le_succ 1
 split
 .exact Nat.le_refl 2
 split
 .exact Nat.zero_le _
 .exact Nat.le_succ 1
theorem ZoK {K:PySem.W.Frag} {H:Hp} {y:FrS} {w:Str} {mv:V} {d:Dt} {b:Bool} (dv:DV K H d mv) (hd:ZjR y w d b):Zji K H y w mv/\PcMade K H w mv b/\inS w ["call", "borrow", "look"]=false/\inS w ["save", "note", "call", "borrow", "look"]=true:=by
 refine ⟨.inr (.inl ⟨d,b,dv,hd⟩),?_⟩
 rcases hd with ⟨rfl,pp,oo,vv,rfl,rfl⟩|⟨rfl,vv,rfl,rfl⟩
 .refine ⟨⟨fun _=>?_,fun z=>absurd z (by decide)⟩,rfl,rfl⟩
  unfold DV at dv
  obtain ⟨M,xs,rfl,hM,dx⟩:=dv
  simp only [DVs,DV] at dx
  obtain ⟨x0,t0,rfl,rfl,x1,t1,rfl,rfl,x2,t2,rfl,rfl,x3,t3,rfl,rfl,x4,t4,rfl,rfl,rfl⟩:=dx
  exact ⟨M,_,oo,vv,rfl,hM,rfl,rfl,rfl⟩
 .exact ⟨⟨fun z=>absurd z (by decide),fun z=>absurd z (by decide)⟩,rfl,rfl⟩
theorem ZlQ {K:PySem.W.Frag} {H:Hp} {y y':FrS} {s':List Dt} {w e':Str} {mv:V} {b:Bool} (dv:DV K H (treeD y' s') mv) (hf:y'.fin=some e') (hd:Zdd y w y' b):Zji K H y w mv/\PcMade K H w mv b/\inS w ["call", "borrow", "look"]=true/\inS w ["save", "note", "call", "borrow", "look"]=true:=by
 refine ⟨.inr (.inr ⟨y',s',e',b,hf,dv,hd⟩),?_⟩
 obtain ⟨T,L,ws,rfl,hT,_⟩:=ZbN dv hf
 rcases hd.2 with ⟨rfl,_,_,rfl⟩|⟨rfl,_⟩|⟨rfl,_⟩
 .exact ⟨⟨fun z=>absurd z (by decide),fun _=>⟨T,_,y'.coin,rfl,hT,rfl,rfl⟩⟩,rfl,rfl⟩
 .exact ⟨⟨fun z=>absurd z (by decide),fun z=>absurd z (by decide)⟩,rfl,rfl⟩
 .exact ⟨⟨fun z=>absurd z (by decide),fun z=>absurd z (by decide)⟩,rfl,rfl⟩
theorem Znj {K:PySem.W.Frag} {H:Hp} {y:FrS} {w:Str} {mv:V} (h:inS w ["save", "note", "call", "borrow", "look"]=false):Zji K H y w mv/\PcMade K H w mv false/\inS w ["call", "borrow", "look"]=false:=by
 obtain ⟨n1,n2,n3,n4,n5⟩:=ins5 h
 refine ⟨.inl h,⟨fun z=>absurd z n1,fun z=>absurd z n3⟩,?_⟩
 cases q:inS w ["call", "borrow", "look"] with
 | false=>rfl
 | true =>
  unfold inS at q
  simp only [List.any_cons,List.any_nil,Bool.or_false,Bool.or_eq_true] at q
  rcases q with q|q|q
  .exact absurd (show w = "call" by simpa using Eq.symm (by simpa using q)) n3
  .exact absurd (show w = "borrow" by simpa using Eq.symm (by simpa using q)) n4
  .exact absurd (show w = "look" by simpa using Eq.symm (by simpa using q)) n5
section
variable {P:Program} {w:World} {K:PySem.W.Frag} {mg:Str->Option Value} {base:Heap}
theorem ZaP:FnScope ["_law_tree", "_law_programs_here", "_law_given", "_law_still", "_law_rows", "_law_steps", "_law_k", "_law_nexts_here", "_law_last_here", "_law_many", "_law_used", "_law_row", "_law_made_here"] ["_law_tree", "_law_programs_here", "_law_given", "_law_still"] (Zaf Zct):=by walk_at "c"
theorem Zfe  {n k:Nat}  (D:Zaq K mg "_law_walked" Zct) (c_Lshape:Cal P w K mg base 2 "_law_shape" (Ziz K)) (c_Lheight:Cal P w K mg base 1 "_law_height" (Zek K)) (c_Lnexts:Cal P w K mg base 1 "_law_nexts" (Ziy K)) (c_Llast:Cal P w K mg base 3 "_law_last" (spLast K)) (c_Lprice:Cal P w K mg base 1 "_law_price" (Zel K)) (c_Lwhole:Cal P w K mg base 1 "_law_whole" (Zem K)) (c_Lmade:Cal P w K mg base 1 "_law_made" (spMade K)) (c_Ltakes:Cal P w K mg base 1 "_law_takes" (Zej K)) (c_Lwalked:Cal P w K mg base (k+3) "_law_walked" (ZlP K n)) (n_int:mg "int" = none) (n_len:mg "len" = none):Cal P w K mg base (k+4) "_law_walked" (Zen K n):=by
 refine ZaA D ZaP (fun vs H Q E h=>?_) (by walk_at "b") (fun f cdv A outer s H vs Q E hr h=>?_)
 .obtain ⟨mv,D,gg,lk,y,st,A,S0,kvs,rfl,_⟩:=h;rfl
 .obtain ⟨mv,D,gg,lk,y,st,Ar,S0,kvs,rfl,dv,hW,hP,hRw,k⟩:=h
  refine ⟨_,(Zab (ZaK (Zdg (ZbP (ZaB c_Lshape (hr.mono (by omega)) rfl (Zaa (pv 0) (Zaa (pv 1) (Zaa (pv 2) Zad)))))) (Zae (Zak ZcQ)) Zap)
   (Zab (ZaK (Zal ZaQ (Zan Zau (pv 0) Zac (fun _ _=>rfl)) (Zaz (Zaa Zai (Zaa Zai (Zaa Zai Zad)))) rfl) (Zae (Zak ZcQ)) Zap)
   (Zab (Zay (i:=4) ZaP.nd rfl (by first|exact Or.inl rfl|exact Or.inr rfl) (Zko (ZhK hr) (pv 1) (Zan Zau (pv 0) Zac (fun _ _=>rfl)) (fun _ _=>rfl)))
   (Zab (Zay (i:=5) ZaP.nd rfl (by first|exact Or.inl rfl|exact Or.inr rfl) (Zan Zau (pv 0) Zac (fun _ _=>rfl)))
   (Zab (Zay (i:=6) ZaP.nd rfl (by first|exact Or.inl rfl|exact Or.inr rfl) (Zcg Zes rfl n_int PyProof.Rows.boot_int (Zaa (Zbs (ZaJ ZaX (Zan Zau (pv 0) Zac (fun _ _=>rfl)) Zai (nomark _)) (Zbr (ZaJ Zer (Zan Zau (pv 0) Zac (fun _ _=>rfl)) Zac (nomark _)))) Zad)))
   (Zab (ZkY (ZaK (PW.pt (ZiF (Zal ZaX (pv 6) Zac (nomark _)) (ZfD (Zal (op_neD hr.units) (Zdh Zkh (pv 5) ZnS (Zb0 Zac)) (ZaM (Zaa (Zaz (Zaa Zai (Zaa (Zan Zau (pv 0) Zac (fun _ _=>rfl)) (Zaa (Zan Zau (pv 0) Zac (fun _ _=>rfl)) (Zaa (Zan Zau (pv 0) Zac (fun _ _=>rfl)) Zad))))) Zad)) (nomark _))))) (Zae (Zak ZcQ)) Zap))
   (Zab (Zay (i:=7) ZaP.nd rfl (by first|exact Or.inl rfl|exact Or.inr rfl) (ZaM (Zaa Zac Zad)))
   (Zab (Zay (i:=8) ZaP.nd rfl (by first|exact Or.inl rfl|exact Or.inr rfl) Zai)
   (Zab (Zay (i:=9) ZaP.nd rfl (by first|exact Or.inl rfl|exact Or.inr rfl) Zac)
   (Zab (Zay (i:=10) ZaP.nd rfl (by first|exact Or.inl rfl|exact Or.inr rfl) Zac)
   (Zab (ZfF PassesOwn.never (Zal ZdZ (pv 6) (ZaO ZbC rfl n_len PySem.boot_len (Zaa (pv 5) Zad)) (nomark _))
   (Zab (ZaK (PW.pt (ZfE (Zdg (ZbP (ZaB c_Lwhole (hr.mono (by omega)) rfl (Zaa (Zan Zas (pv 5) (pv 6) (fun _ _=>rfl)) Zad)))) (ZfE (Zal ZgC (Zan Zas (pv 5) (pv 6) (fun _ _=>rfl)) (pv 7) rfl) (Zgv (Zal Zl4 (Zan Zas (pv 5) (pv 6) (fun _ _=>rfl)) (ZaO ZbC rfl n_len PySem.boot_len (Zaa (pv 4) Zad)) (nomark _)))))) (Zae (Zak ZcQ)) Zap)
   (Zab (Zay (i:=11) ZaP.nd rfl (by first|exact Or.inl rfl|exact Or.inr rfl) (Zan Zas (pv 4) (Zan Zas (pv 5) (pv 6) (fun _ _=>rfl)) (fun _ _=>rfl)))
   (Zab (Zay (i:=12) ZaP.nd rfl (by first|exact Or.inl rfl|exact Or.inr rfl) (Zan Zas (Zax Zov (pv 5) (ZaM (Zaa Zca Zad))) (Zax Zbc (pv 6) Zac) (fun _ _=>rfl)))
   (Zab (ZaK (PW.pt (ZfE (Zdg (ZbP (ZaB c_Lmade (hr.mono (by omega)) rfl (Zaa (pv 11) (Zaa (pv 12) (Zaa (pv 0) Zad)))))) (ZfE (Zal ZdZ (pv 9) (ZaB c_Ltakes (hr.mono (by omega)) rfl (Zaa (pv 11) Zad)) (nomark _)) (Zgv (Zal Zer (ZaB c_Lheight (hr.mono (by omega)) rfl (Zaa (pv 11) (Zaa (pv 9) Zad))) Zac (nomark _)))))) (Zae (Zak ZcQ)) Zap)
   (Zab (Zay (i:=9) ZaP.nd rfl (by first|exact Or.inl rfl|exact Or.inr rfl) (ZaB c_Lheight (hr.mono (by omega)) rfl (Zaa (pv 11) (Zaa (pv 9) Zad))))
   (Zab (Zay (i:=7) ZaP.nd rfl (by first|exact Or.inl rfl|exact Or.inr rfl) (ZaB c_Lnexts (hr.mono (by omega)) rfl (Zaa (pv 11) (Zaa (Zan Zas (pv 5) (pv 6) (fun _ _=>rfl)) Zad))))
   (Zab (Zay (i:=8) ZaP.nd rfl (by first|exact Or.inl rfl|exact Or.inr rfl) (Zan Zau (pv 11) Zac (fun _ _=>rfl)))
   (Zab (Zay (i:=10) ZaP.nd rfl (by first|exact Or.inl rfl|exact Or.inr rfl) (Zax Zbc (pv 10) (ZaB c_Lprice (hr.mono (by omega)) rfl (Zaa (pv 11) (Zaa (pv 12) Zad)))))
   (Zab (Zay (i:=6) ZaP.nd rfl (by first|exact Or.inl rfl|exact Or.inr rfl) (Zax Zbc (pv 6) Zac))
   (Zab (ZaK (Zal ZaQ (pv 8) (Zaz (Zaa Zai (Zaa Zai (Zaa Zai Zad)))) rfl) (Zab (ZaK (Zdg (ZbP (ZaB c_Lwalked (hr.mono (by omega)) rfl (Zaa (pv 12) (Zaa (pv 1) (Zaa (Zax Zcb (Zan Zau (pv 0) Zac (fun _ _=>rfl)) (pv 10)) (Zaa (ZjX (pv 3) (Zbr (ZaJ ZaX (pv 8) Zai (nomark _)))) Zad))))))) (Zae (Zak ZcQ)) Zap)
   (Zae (Zay (i:=10) ZaP.nd rfl (by first|exact Or.inl rfl|exact Or.inr rfl) (Zax Zbc (pv 10) (Zan Zau (pv 12) Zac (fun _ _=>rfl)))))) Zap)
   (Zae (ZaK (Zal ZaQ (pv 8) (Zaz (Zd1 (vs:=[.str "save", .str "note", .str "call", .str "borrow", .str "look"]) (by rfl))) rfl) (Zae (Zay (i:=6) ZaP.nd rfl (by first|exact Or.inl rfl|exact Or.inr rfl) (Zax Zbc (pv 6) Zac))) Zap)))))))))))))
   (Zae (Zak (Zbs (ZaJ ZaX (Zan Zau (pv 0) Zac (fun _ _=>rfl)) (pv 10) (nomark _)) (Zbr (ZaB c_Llast (hr.mono (by omega)) rfl (Zaa (pv 0) (Zaa (pv 4) (Zaa (pv 8) (Zaa (pv 7) (Zaa (pv 9) (Zaa (pv 3) Zad)))))))))))))))))))))),?_⟩
  walk_at "nx"
  generalize hWh:tSeq (tWhile _ _) _=Wh
  (revert Wh hWh;refine keepIt ?_;intro Wh hWh)
  obtain ⟨e,hf⟩:=hW.fin
  obtain ⟨T,L,ws,rfl,hT,hL,dL⟩:=ZbN dv hf
  have lws:=dL.length
  have hshape:(BadE e/\y.given=0/\y.answer=0/\y.used=0/\ws=[])\/(¬ BadE e/\(∃ v,valV kvs (Sum.inl y.whose:Key)=some v)/\y.given<=gg/\y.used<=y.given):=by
   have nob:NoB y st->BadE e/\y.given=0/\y.answer=0/\y.used=0/\ws=[]:=fun ⟨e2,h1,h2,h3,h4,h5,h6⟩=>by
    rw [hf] at h1;cases h1
    rw [h6] at lws
    exact ⟨h2,h3,h4,h5,List.eq_nil_of_length_eq_zero lws.symm⟩
   cases n with
   | zero=>exact .inl (nob hW)
   | succ n =>
    rcases hW with h|⟨e2,h1,h2,_,_,h3,h4,i,ac,_,_,_,_,h5,h6,h7,_⟩
    .exact .inl (nob h)
    .rw [hf] at h1;cases h1
     obtain ⟨a,xs,ha,_⟩:=hP.2 i ac h6 h7
     exact .inr ⟨h2,⟨_,by rw [h5];exact ha⟩,h3,h4⟩
  walk_at "W"
  refine ⟨T,D,gg,y,e,L,ws,kvs,rfl,hT,hL,hP.1,hshape,fun H1 s1=>?_⟩
  walk_at "W"
  have z0:Gw H1 H1 []:=Gw.start
  have hT1:=s1.tup hT
  walk_at "W"
  refine ⟨szl_3,fun q1 p1=>?_⟩
  generalize e_:upd _ q1 _=Z1;have z1:=z0.newE p1 e_;clear e_
  refine Za3 (xs:=["nobody", "deep", "poor"]) (Zar z1.h.1) ?_
  cases hb:inS e ["nobody", "deep", "poor"] with
  | true =>
   walk_at "W"
   exact k _ (s1.trans z1.s)
  | false =>
   rcases hshape with ⟨hbad,_⟩|⟨nb,_,hgg,huu⟩
   .rw [(ZlL e).2 hbad] at hb;cases hb
   cases n with
   | zero =>
    obtain ⟨e2,h1,h2,_⟩:=hW
    rw [hf] at h1;cases h1
    exact absurd h2 nb
   | succ n =>
   rcases hW with ⟨e2,h1,h2,_⟩|⟨e2,h1,_,hsl,rfl,_,_,i,ac,rest,NS,LS,MS,h5,h6,h7,rfl,hw,hlast⟩
   .rw [hf] at h1;cases h1
    exact absurd h2 nb
   rw [hf] at h1
   cases h1
   have hT2:=z1.s.tup hT1
   have sH:=s1.trans z1.s
   have hP2:=hP.same sH
   obtain ⟨a,xs,ha,hXs,hR⟩:=hP2.2 i ac h6 h7
   have hL2:=sH.seq hL
   have dL2:=DVs.keep sH dL
   walk_at "W"
   refine ⟨D,.ref a,rfl,Zny hP2.1 (by rw [h5];exact ha),?_⟩
   iterate 8 walk_at "rw"
   dsimp only
   refine Zns ?_
   refine Znt ?_
   refine te_cut (v:=.int (((mvD y).toList.length:Nat):Int)) (fun Q' hq=>?_) ?_
   .by_cases hm:y.kind = "call" /\ 0<y.coin
    .have em:mvD y=some (.move y.caller y.who y.coin):=if_pos hm
     rw [em] at hq
     walk_at "W'"
     all_goals first|exact absurd hm.1 (by assumption)|skip
     refine .inr ⟨_,rfl,?_⟩
     rw [decide_eq_true hm.2]
     exact hq
    .have em:mvD y=none:=if_neg hm
     rw [em] at hq
     by_cases hk:y.kind = "call"
     .have hc:¬ 0<y.coin:=fun z=>hm ⟨hk,z⟩
      walk_at "W'"
      all_goals first|exact absurd hk (by assumption)|skip
      refine .inr ⟨_,rfl,?_⟩
      rw [decide_eq_false hc]
      exact hq
     .walk_at "W'"
      all_goals first|exact absurd (by assumption) hk|skip
      refine .inr ⟨_,rfl,?_⟩
      exact hq
   walk_at "W"
   refine ZkX (fun σ' H'=>Same Z1 H'/\σ'=[some (.ref T),some (.ref D),some (.int gg),some (.bl y.looking),some (.ref a),some (.ref L),some (.int (((mvD y).toList.length:Nat):Int)),none,none,none,none,none,none]) ?_ ?_
   .by_cases hm:y.kind = "call" /\ 0<y.coin
    .have em:mvD y=some (.move y.caller y.who y.coin):=if_pos hm
     rw [em] at dL2 |-
     obtain ⟨w0,ws',ew,d0⟩:∃ w0 ws',ws=w0::ws'/\DV K Z1 (tellD (.move y.caller y.who y.coin)) w0:=by
      have q:DVs K Z1 (tellD (.move y.caller y.who y.coin)::rest) ws:=dL2
      unfold DVs at q
      obtain ⟨w0,t0,rfl,q1,_⟩:=q
      exact ⟨w0,t0,rfl,q1⟩
     walk_at "W'"
     all_goals first|exact absurd rfl (by assumption)|skip
     have y0:Gw Z1 Z1 []:=Gw.start
     intro S1 q_S1
     rw [show cutV ws none (some 1)=[w0] by rw [ew];exact Zkx (ns:=w0::ws') (n:=1)]
     generalize e_:upd _ S1 _=Y1;have y1:=y0.newE q_S1 e_;clear e_;walk_at "K"
     have hT3:=y1.s.tup hT2
     walk_at "W"
     refine ⟨szl_4,fun MT q_MT=>?_⟩
     generalize e_:upd _ MT _=Y2;have y2:=y1.newE q_MT e_;clear e_;walk_at "K"
     refine ⟨szl_1,fun ML q_ML=>?_⟩
     generalize e_:upd _ ML _=Y3;have y3:=y2.newE q_ML e_;clear e_;walk_at "K"
     refine Zop (d:=.lst [tellD (.move y.caller y.who y.coin)]) (Zfz (Zaw y3.h.2.2.1) (Zat (DV.keep y3.s d0) Za7)) (Zfz (Zaw y3.h.1) (Zat (ZcP (Zar y3.h.2.1) (Zat ZdY (Zat ZaU (Zat ZaU (Zat ZaU Za7))))) Za7)) (by simp [Dt.dep,Dt.deps,tellD,tellDs]) ?_
     walk_at "W"
     exact ⟨y3.s,rfl⟩
    .have em:mvD y=none:=if_neg hm
     rw [em]
     walk_at "W'"
     all_goals first|exact absurd (by assumption) (show ¬ ((0:Nat):Int)=1 by decide)|skip
     exact ⟨Same.refl _,rfl⟩
   rintro σ2 H2 ⟨s2,rfl⟩
   have x0:Gw H2 H2 []:=Gw.start
   walk_at "W"
   refine ⟨szl_1,fun N0 q_N0=>?_⟩
   generalize e_:upd _ N0 _=X1;have x1:=x0.newE q_N0 e_;clear e_;walk_at "K"
   have sX:=s2.trans x1.s
   have hTx:=sX.tup hT2
   have hLx:=sX.seq hL2
   have dLx:=DVs.keep sX dL2
   have hXx:=sX.seq hXs
   have hRx:=hR.keep sX.imm
   have hPx:=hP2.same sX
   have hsH:=sH.trans sX
   have hml:(mvD y).toList.length<=1:=by cases mvD y<;>simp
   have lml:((mvD y).toList.map tellD++rest).length=(mvD y).toList.length+rest.length:=by rw [List.length_append,List.length_map]
   have hdr:((mvD y).toList.map tellD++rest).drop (mvD y).toList.length=rest:=by
    have e:(mvD y).toList.length=((mvD y).toList.map tellD).length:=(List.length_map _).symm
    rw [e,List.drop_left]
   generalize hst:(mvD y).toList.map tellD++rest=st at dLx lws hsl lml hdr
   have hxl:xs.length=(S0 i).rows.length:=hRx.1.symm
   have hJ:=hRw.jb i
   have hRf:=hRw.fit i
   generalize (S0 i).rows=rows at *
   subst hWh
   walk_at "W"
   obtain ⟨PV,hPV⟩:∃ PV:Nat->St->Hp->Prop,PV=fun (nn:Nat) (σ':St) (H':Hp)=>∃ (kk:Nat) (ns:List Int) (l:Str) (m u:Int) (NL:Addr) (v1 v2:Option V),nn+kk=st.length/\Same X1 H'/\H' NL=some (.lst (ns.map V.int))/\ns.length<=2/\(∀ j∈ns,0<=j/\j<=(rows.length:Int))/\Wlk y rows (WkN Ar S0 n) ns l m u (st.drop kk) NS LS MS y.used/\σ'=[some (.ref T),some (.ref D),some (.int gg),some (.bl y.looking),some (.ref a),some (.ref L),some (.int (kk:Int)),some (.ref NL),some (.str l),some (.int m),some (.int u),v1,v2]:=⟨_,rfl⟩
   refine ⟨PV,⟨rest.length,by rw [hPV];exact ⟨(mvD y).toList.length,[0], "", 0,0,N0,none,none,by omega,Same.refl _,x1.h.1,by decide,(fun j hj=>by rw [List.mem_singleton.1 hj];omega),(by rw [hdr];exact hw),rfl⟩⟩,?_⟩
   intro nn σ' H' hI
   rw [hPV] at hI
   obtain ⟨kk,ns,l,m,u,NL,v1,v2,hkk,sA,eNL,hn2,hns,hwk,rfl⟩:=hI
   have hTa:=sA.tup hTx
   have hLa:=sA.seq hLx
   have hXa:=sA.seq hXx
   have hRa:=hRx.keep sA.imm
   have hPa:=hPx.same sA
   have dLa:=DVs.keep sA dLx
   by_cases hlt:kk<ws.length
   .obtain ⟨d0,tl,etl⟩:∃ d0 tl,st.drop kk=d0::tl:=by
     cases q:st.drop kk with
     | nil=>have:=List.drop_eq_nil_iff.1 q;omega
     | cons d0 tl=>exact ⟨d0,tl,rfl⟩
    obtain ⟨ii,r,rfl,hins,hri,htk,hhg,halt⟩:=Zni etl hwk
    have hkd:st[kk]?=some (.int (ii:Int)):=by
     have:=congrArg List.head? etl
     rwa [List.head?_drop] at this
    have htl:tl=st.drop (kk+1):=by
     have:=congrArg List.tail etl
     rw [List.tail_drop] at this
     exact this.symm
    obtain ⟨wk,hwk2⟩:∃ v,ws[kk]?=some v:=⟨_,List.getElem?_eq_getElem hlt⟩
    have dk:DV K H' (.int (ii:Int)) wk:=dLa.get hkd hwk2
    unfold DV at dk
    subst dk
    have hil:=(List.getElem?_eq_some_iff.mp hri).1
    obtain ⟨px,hpx⟩:∃ v,xs[ii]?=some v:=⟨_,List.getElem?_eq_getElem (by omega)⟩
    obtain ⟨p,rfl,hp⟩:=hRa.2 ii r _ hri hpx
    obtain ⟨wd,n0⟩:=r
    have hfit:Zbo (wd,n0):=hRf _ (List.mem_of_getElem? hri)
    have lr:=Zjh (w:=wd) hfit.1
    have htk:tkW (wd,n0)<=m:=htk
    have hat:atI ws (kk:Int)=some (.int (ii:Int)):=Zch hwk2
    have hatx:atI xs (ii:Int)=some (.ref p):=Zch hpx
    have a0:atI (rowV wd n0) 0=some (.str wd):=by cases n0<;>rfl
    have hpA:SqT K H' p (rowV wd n0):=hp
    generalize hYc:tSeq (tIfS (tTest _) _ _) _=Yc
    (revert Yc hYc;refine keepIt ?_;intro Yc hYc)
    generalize hYb:tSeq (tIfS (tOr (tNot (tB (tCall (spMade K) _ _ _))) _) _ _) _=Yb
    (revert Yb hYb;refine keepIt ?_;intro Yb hYb)
    walk_at "Z'"
    all_goals try (exfalso;omega)
    refine ⟨fun σ' H'=>∃ m',m'<nn/\_,fun _ _ h=>h,?_⟩
    walk_at "Z"
    refine ZaC hLa hat ?_
    walk_at "Z"
    refine ⟨.int (ii:Int),_,rfl,by simp,by simp,ZaU,?_⟩
    walk_at "Z"
    refine ZaC hLa hat ?_
    walk_at "Z"
    refine ZkT (Zaw eNL) hins ?_
    walk_at "Z"
    refine ZaC hLa hat ?_
    walk_at "Z'"
    all_goals try (exfalso;omega)
    refine ZaC hLa hat ?_
    walk_at "Z"
    refine ZaC hXa hatx ?_
    walk_at "Z"
    have w0:Gw H' H' []:=Gw.start
    refine ⟨szl_1,fun NN q_NN=>?_⟩
    generalize e_:upd _ NN _=W1;have w1:=w0.newE q_NN e_;clear e_;walk_at "K"
    have lsz:ws.length+1<=sizeLine:=by
     have:=PySem.sizeLine_eq
     omega
    refine Zow (w1.s.seq hLa) (Zaw w1.h.1) (by show ws.length+1<=sizeLine;exact lsz) fun CC q_CC=>?_
    generalize e_:upd _ CC _=W2;have w2:=w1.newE q_CC e_;clear e_;walk_at "K"
    obtain ⟨mv,hmv⟩:∃ v,(ws++[V.non])[kk+1]?=some v:=⟨_,List.getElem?_eq_getElem (by rw [List.length_append];show kk+1<ws.length+1;omega)⟩
    refine ZaC (Zaw w2.h.1) (ZcD (i:=kk+1) hmv (by omega)) ?_
    have hp2:SqT K W2 p (rowV wd n0):=w2.s.tup hpA
    have hTb:=w2.s.tup hTa
    have hcp:inS wd ["copy", "swap"]=true->∃ k,n0=some k:=fun z=>let ⟨kk,e,_⟩:=hfit.2.2.1 z;⟨kk,e⟩
    have hjp:inS wd ["jump", "jumpif"]=true->∃ k,n0=some k:=fun z=>let ⟨kk,e,_⟩:=hfit.2.2.2 z;⟨kk,e⟩
    have hhg:hgW wd m<=24:=hhg
    have nle:=nx_le hJ hri
    have nln:=nx_len (wd,n0) (ii:Int)
    subst hYb
    rcases halt with ⟨hno,hwn⟩|⟨d,b,st2,rfl,hdd,hwn⟩|⟨y',s',b,st2,rfl,hcc,hsub,hwn⟩
    .obtain ⟨hMade,hPc,h3⟩:=Znj (K:=K) (H:=W2) (y:=y) (mv:=mv) hno
     have h5:=hno
     walk_at "Z"
     refine ⟨p,wd,n0,mv,T,y,e,L,rfl,hp2,hTb,hMade,fun H3 s3=>?_⟩
     walk_at "Z"
     have hp3:=s3.tup hp2
     refine ⟨p,wd,n0,rfl,hp3,hcp,fun H4 s4=>?_⟩
     rw [lr.1 n0]
     walk_at "Z'"
     all_goals try (exfalso;omega)
     have hp4:=s4.tup hp3
     refine ⟨p,wd,n0,m,rfl,hp4,fun H5 s5=>?_⟩
     rw [lr.2.1 m]
     walk_at "Z'"
     all_goals try (exfalso;omega)
     have hp5:=s5.tup hp4
     refine ⟨p,wd,n0,m,rfl,hp5,fun H6 s6=>?_⟩
     rw [lr.2.1 m]
     walk_at "Z"
     have hp6:=s6.tup hp5
     have s26:=((s3.trans s4).trans s5).trans s6
     have sA6:=w2.s.trans s26
     have hL6:=sA6.seq hLa
     refine ZaC hL6 hat ?_
     walk_at "Z"
     refine ⟨p,wd,n0,(ii:Int),rfl,hp6,hjp,fun NQ H7 s7 eNQ=>?_⟩
     have hp7:=s7.tup hp6
     walk_at "Z"
     have sA7:=sA6.trans s7
     refine Zcc hp7 a0 ?_
     walk_at "Z"
     refine ⟨p,wd,n0,mv,false,rfl,hp7,hPc.same (s26.trans s7),fun H8 s8=>?_⟩
     rw [lr.2.2 false]
     have sA8:=sA7.trans s8
     have eN8:=s8 _ _ eNQ
     walk_at "Z"
     subst hYc
     walk_at "Z"
     have t0:Gw H8 H8 []:=Gw.start
     refine ⟨szl_3,fun Q1 p_Q1=>?_⟩
     generalize e_:upd _ Q1 _=G1;have t1:=t0.newE p_Q1 e_;clear e_
     refine Za3 (xs:=["call", "borrow", "look"]) (Zar t1.h.1) ?_
     rw [h3]
     walk_at "Z"
     refine ⟨szl_5,fun Q2 p_Q2=>?_⟩
     generalize e_:upd _ Q2 _=G2;have t2:=t1.newE p_Q2 e_;clear e_
     refine Za3 (xs:=["save", "note", "call", "borrow", "look"]) (Zar t2.h.1) ?_
     rw [h5]
     walk_at "Z"
     exact ⟨nn-1,by omega,(by rw [hPV];exact ⟨kk+1,_,wd,_,_,NQ,_,_,by omega,sA.trans (sA8.trans t2.s),t2.s _ _ eN8,nln,nle,(by rw [<- htl];exact hwn),rfl⟩)⟩
    .have hk1:st[kk+1]?=some d:=by
      have:=congrArg List.head? htl
      rw [List.head?_drop] at this
      exact this.symm
     have hlt1:kk+1<ws.length:=by have:=(List.getElem?_eq_some_iff.mp hk1).1;omega
     have hmv':ws[kk+1]?=some mv:=by rw [List.getElem?_append_left hlt1] at hmv;exact hmv
     have dmv:DV K W2 d mv:=DV.keep w2.s (dLa.get hk1 hmv')
     obtain ⟨hMade,hPc,h3,h5⟩:=ZoK dmv hdd
     have htl2:st2=st.drop (kk+2):=by
      have:=congrArg List.tail htl
      rw [List.tail_drop] at this
      exact this
     walk_at "Z"
     refine ⟨p,wd,n0,mv,T,y,e,L,rfl,hp2,hTb,hMade,fun H3 s3=>?_⟩
     walk_at "Z"
     have hp3:=s3.tup hp2
     refine ⟨p,wd,n0,rfl,hp3,hcp,fun H4 s4=>?_⟩
     rw [lr.1 n0]
     walk_at "Z'"
     all_goals try (exfalso;omega)
     have hp4:=s4.tup hp3
     refine ⟨p,wd,n0,m,rfl,hp4,fun H5 s5=>?_⟩
     rw [lr.2.1 m]
     walk_at "Z'"
     all_goals try (exfalso;omega)
     have hp5:=s5.tup hp4
     refine ⟨p,wd,n0,m,rfl,hp5,fun H6 s6=>?_⟩
     rw [lr.2.1 m]
     walk_at "Z"
     have hp6:=s6.tup hp5
     have s26:=((s3.trans s4).trans s5).trans s6
     have sA6:=w2.s.trans s26
     have hL6:=sA6.seq hLa
     refine ZaC hL6 hat ?_
     walk_at "Z"
     refine ⟨p,wd,n0,(ii:Int),rfl,hp6,hjp,fun NQ H7 s7 eNQ=>?_⟩
     have hp7:=s7.tup hp6
     walk_at "Z"
     have sA7:=sA6.trans s7
     refine Zcc hp7 a0 ?_
     walk_at "Z"
     refine ⟨p,wd,n0,mv,b,rfl,hp7,hPc.same (s26.trans s7),fun H8 s8=>?_⟩
     rw [lr.2.2 b]
     have sA8:=sA7.trans s8
     have eN8:=s8 _ _ eNQ
     walk_at "Z"
     subst hYc
     walk_at "Z"
     have t0:Gw H8 H8 []:=Gw.start
     refine ⟨szl_3,fun Q1 p_Q1=>?_⟩
     generalize e_:upd _ Q1 _=G1;have t1:=t0.newE p_Q1 e_;clear e_
     refine Za3 (xs:=["call", "borrow", "look"]) (Zar t1.h.1) ?_
     rw [h3]
     walk_at "Z"
     refine ⟨szl_5,fun Q2 p_Q2=>?_⟩
     generalize e_:upd _ Q2 _=G2;have t2:=t1.newE p_Q2 e_;clear e_
     refine Za3 (xs:=["save", "note", "call", "borrow", "look"]) (Zar t2.h.1) ?_
     rw [h5]
     walk_at "Z"
     exact ⟨nn-2,by omega,(by rw [hPV];exact ⟨kk+2,_,wd,_,_,NQ,_,_,by omega,sA.trans (sA8.trans t2.s),t2.s _ _ eN8,nln,nle,(by rw [<- htl2];exact hwn),rfl⟩)⟩
    .have hk1:st[kk+1]?=some (treeD y' s'):=by
      have:=congrArg List.head? htl
      rw [List.head?_drop] at this
      exact this.symm
     have hlt1:kk+1<ws.length:=by have:=(List.getElem?_eq_some_iff.mp hk1).1;omega
     have hmv':ws[kk+1]?=some mv:=by rw [List.getElem?_append_left hlt1] at hmv;exact hmv
     have dmv:DV K W2 (treeD y' s') mv:=DV.keep w2.s (dLa.get hk1 hmv')
     obtain ⟨e',hf'⟩:=hsub.fin
     obtain ⟨hMade,hPc,h3,h5⟩:=ZlQ dmv hf' hcc
     obtain ⟨M,L',wsM,rfl,hM,_,_⟩:=ZbN dmv hf'
     have htl2:st2=st.drop (kk+2):=by
      have:=congrArg List.tail htl
      rw [List.tail_drop] at this
      exact this
     walk_at "Z"
     refine ⟨p,wd,n0,.ref M,T,y,e,L,rfl,hp2,hTb,hMade,fun H3 s3=>?_⟩
     walk_at "Z"
     have hp3:=s3.tup hp2
     refine ⟨p,wd,n0,rfl,hp3,hcp,fun H4 s4=>?_⟩
     rw [lr.1 n0]
     walk_at "Z'"
     all_goals try (exfalso;omega)
     have hp4:=s4.tup hp3
     refine ⟨p,wd,n0,m,rfl,hp4,fun H5 s5=>?_⟩
     rw [lr.2.1 m]
     walk_at "Z'"
     all_goals try (exfalso;omega)
     have hp5:=s5.tup hp4
     refine ⟨p,wd,n0,m,rfl,hp5,fun H6 s6=>?_⟩
     rw [lr.2.1 m]
     walk_at "Z"
     have hp6:=s6.tup hp5
     have s26:=((s3.trans s4).trans s5).trans s6
     have sA6:=w2.s.trans s26
     have hL6:=sA6.seq hLa
     refine ZaC hL6 hat ?_
     walk_at "Z"
     refine ⟨p,wd,n0,(ii:Int),rfl,hp6,hjp,fun NQ H7 s7 eNQ=>?_⟩
     have hp7:=s7.tup hp6
     walk_at "Z"
     have sA7:=sA6.trans s7
     refine Zcc hp7 a0 ?_
     walk_at "Z"
     refine ⟨p,wd,n0,.ref M,b,rfl,hp7,hPc.same (s26.trans s7),fun H8 s8=>?_⟩
     rw [lr.2.2 b]
     have sA8:=sA7.trans s8
     have eN8:=s8 _ _ eNQ
     walk_at "Z"
     subst hYc
     walk_at "Z"
     have t0:Gw H8 H8 []:=Gw.start
     refine ⟨szl_3,fun Q1 p_Q1=>?_⟩
     generalize e_:upd _ Q1 _=G1;have t1:=t0.newE p_Q1 e_;clear e_
     refine Za3 (xs:=["call", "borrow", "look"]) (Zar t1.h.1) ?_
     rw [h3]
     have sA9:=sA8.trans t1.s
     have sW1:Same W2 G1:=((s26.trans s7).trans s8).trans t1.s
     have hTg:=sA9.tup hTa
     cases hlk:y.looking with
     | true =>
      rw [hlk,Bool.true_or] at hsub
      walk_at "Z"
      refine ⟨.ref M,D,_,_,y',s',Ar,S0,kvs,rfl,DV.keep sW1 dmv,hsub,hPa.same sA9,hRw,fun H10 s10=>?_⟩
      have hM10:=(sW1.trans s10).tup hM
      walk_at "Z"
      have r0:Gw H10 H10 []:=Gw.start
      refine ⟨szl_5,fun Q2 p_Q2=>?_⟩
      generalize e_:upd _ Q2 _=G2;have r1:=r0.newE p_Q2 e_;clear e_
      refine Za3 (xs:=["save", "note", "call", "borrow", "look"]) (Zar r1.h.1) ?_
      rw [h5]
      walk_at "Z"
      exact ⟨nn-2,by omega,(by rw [hPV,hlk];exact ⟨kk+2,_,wd,_,_,NQ,_,_,by omega,(sA.trans sA9).trans (s10.trans r1.s),r1.s _ _ (s10 _ _ (t1.s _ _ eN8)),nln,nle,(by rw [<- htl2];exact hwn),rfl⟩)⟩
     | false =>
      rw [hlk,Bool.false_or] at hsub
      walk_at "Z"
      refine ⟨.ref M,D,_,_,y',s',Ar,S0,kvs,rfl,DV.keep sW1 dmv,hsub,hPa.same sA9,hRw,fun H10 s10=>?_⟩
      have hM10:=(sW1.trans s10).tup hM
      walk_at "Z"
      have r0:Gw H10 H10 []:=Gw.start
      refine ⟨szl_5,fun Q2 p_Q2=>?_⟩
      generalize e_:upd _ Q2 _=G2;have r1:=r0.newE p_Q2 e_;clear e_
      refine Za3 (xs:=["save", "note", "call", "borrow", "look"]) (Zar r1.h.1) ?_
      rw [h5]
      walk_at "Z"
      exact ⟨nn-2,by omega,(by rw [hPV,hlk];exact ⟨kk+2,_,wd,_,_,NQ,_,_,by omega,(sA.trans sA9).trans (s10.trans r1.s),r1.s _ _ (s10 _ _ (t1.s _ _ eN8)),nln,nle,(by rw [<- htl2];exact hwn),rfl⟩)⟩
   .have hnil:st.drop kk=[]:=List.drop_eq_nil_of_le (by omega)
    obtain ⟨rfl,rfl,rfl,rfl⟩:=ZoJ hnil hwk
    walk_at "Z'"
    all_goals try (exfalso;omega)
    refine ⟨T,a,NL,_,_,y,e,L,xs,rows,_,rfl,hTa,hf,hXa,hRa,hRf,Zaw eNL,hn2,hns,hlast,fun H3 s3=>?_⟩
    walk_at "Z"
    exact k _ ((hsH.trans sA).trans s3)
theorem ZlR (D:Zaq K mg "_law_walked" Zct):Cal P w K mg base 3 "_law_walked" spNo40 :=
 ZaA D ZaP (fun _ _ _ _ h=>h.elim) (by walk_at "b") (fun _ _ _ _ _ _ _ _ _ _ h=>h.elim)
theorem ZfC (D:Zaq K mg "_law_walked" Zct) (c_Lshape:Cal P w K mg base 2 "_law_shape" (Ziz K)) (c_Lheight:Cal P w K mg base 1 "_law_height" (Zek K)) (c_Lnexts:Cal P w K mg base 1 "_law_nexts" (Ziy K)) (c_Llast:Cal P w K mg base 3 "_law_last" (spLast K)) (c_Lprice:Cal P w K mg base 1 "_law_price" (Zel K)) (c_Lwhole:Cal P w K mg base 1 "_law_whole" (Zem K)) (c_Lmade:Cal P w K mg base 1 "_law_made" (spMade K)) (c_Ltakes:Cal P w K mg base 1 "_law_takes" (Zej K)) (n_int:mg "int" = none) (n_len:mg "len" = none):∀ n,Cal P w K mg base (n+4) "_law_walked" (Zen K n)
 | 0=>Zfe (n:=0) (k:=0) D c_Lshape c_Lheight c_Lnexts c_Llast c_Lprice c_Lwhole c_Lmade c_Ltakes (ZlR D) n_int n_len
 | n+1=>Zfe (n:=n+1) (k:=n+1) D c_Lshape c_Lheight c_Lnexts c_Llast c_Lprice c_Lwhole c_Lmade c_Ltakes (ZfC D c_Lshape c_Lheight c_Lnexts c_Llast c_Lprice c_Lwhole c_Lmade c_Ltakes n_int n_len n) n_int n_len
end
noncomputable def cellF (ns:List Int) (k:Int):Int:=(ns[k.toNat]?).getD 0
def ZlS (K:PySem.W.Frag):Sp:=fun vs H Q _=>∃ (p:Addr) (ns:List Int) (k:Int),vs=[.ref p,.int k]/\0<=k/\SqL K H p (ns.map V.int)/\Q (.int (cellF ns k)) H
def hasAll (A:Nat->Option AcI) (ss:List Nat):Prop:=∀ i∈ss,i<16/\∃ x,A i=some x
noncomputable def setO (A:Nat->Option AcI) (i:Nat) (x:AcI):Nat->Option AcI:=fun j=>if j=i then some x else A j
theorem ZlT {A:Nat->Option AcI} {i:Nat} {x:AcI} (hi:i<16):((List.range 16).map fun j=>roomV (A j)).set i (.ref x.a)=(List.range 16).map fun j=>roomV (setO A i x j):=by
 apply List.ext_getElem?
 intro n
 rw [List.getElem?_set]
 by_cases e:i=n
 .subst e
  rw [if_pos rfl,if_pos (by simpa using hi),List.getElem?_map,List.getElem?_range hi]
  show _=some (roomV (setO A i x i))
  unfold setO
  rw [if_pos rfl]
  rfl
 .rw [if_neg e,List.getElem?_map,List.getElem?_map]
  by_cases hn:n<16
  .rw [List.getElem?_range hn]
   show some _=some (roomV (setO A i x n))
   unfold setO
   rw [if_neg (Ne.symm e)]
  .rw [List.getElem?_eq_none (by simpa using hn)]
   rfl
theorem ZbE {A:Nat->Option AcI} {i:Nat} {x:AcI}:∀ j y,setO A i x j=some y->(j=i/\y=x)\/(j≠i/\A j=some y):=fun j y h=>by
 unfold setO at h
 by_cases z:j=i
 .rw [if_pos z] at h;cases h;exact .inl ⟨z,rfl⟩
 .rw [if_neg z] at h;exact .inr ⟨z,h⟩
theorem Rooms.add {K:PySem.W.Frag} {C:Addr} {H H':Hp} {R:Addr} {A:Nat->Option AcI} {S:Nat->AcS} {m:Nat} (r:Rooms K C H R A S m) {i:Nat} (hi:i<16) {x:AcI} {s:AcS} (e5:H' R=some (.lst (((List.range 16).map fun j=>roomV (A j)).set i (.ref x.a)))) (e6:Acc K C H' x s m)
  (fr:∀ b o,H b=some o->b≠R->(∀ kvs,o≠.dK kvs)->H' b=some o) (fs:∀ j y,j<16->A j=some y->H' y.st=H y.st) (np:∀ j y,j<16->A j=some y->y.pr≠R) (n3:H x.a=none) (n4:H x.st=none):Rooms K C H' R (setO A i x) (setS S i s) m:=by
 have hR:=r.ob
 have sne:∀ j y,j<16->A j=some y->∃ kvs,H y.st=some (.dK kvs):=fun j y hj hy=>let ⟨kvs,a,_⟩:=(r.ac j y hj hy).sto;⟨kvs,a⟩
 have im:SameI H H':=fun b u e i=>by
  refine fr b u e (fun z=>?_) (fun kvs z=>?_)
  .rw [z,hR] at e;cases e;exact Zbh i
  .rw [z] at i;exact ZgT i
 refine ⟨by rw [e5,ZlT hi],fun j y hj hy=>?_,fun j j' y y' hj hj' hy hy' e=>?_,fun j j' y y' hj hj' hy hy' e=>?_⟩
 .rcases ZbE j y hy with ⟨rfl,rfl⟩|⟨z,gy⟩
  .unfold setS;rw [if_pos rfl];exact e6
  .unfold setS;rw [if_neg z]
   have h:=r.ac j y hj gy
   obtain ⟨xs,g1,g2⟩:=h.pg
   obtain ⟨kvs,g3,g4⟩:=h.sto
   exact ⟨fr _ _ h.ob (Za6 h.ob hR (by intro z;cases z)) (by intro _ z;cases z),⟨xs,fr _ _ g1 (np j y hj gy) (by intro _ z;cases z),g2.keep im⟩,kvs,(fs j y hj gy).trans g3,g4⟩
 .rcases ZbE j y hy with ⟨rfl,rfl⟩|⟨z,gy⟩<;>rcases ZbE j' y' hy' with ⟨rfl,rfl⟩|⟨z',gy'⟩
  .rfl
  .have h:=(r.ac j' y' hj' gy').ob;rw [<- e,n3] at h;cases h
  .have h:=(r.ac j y hj gy).ob;rw [e,n3] at h;cases h
  .exact r.da j j' y y' hj hj' gy gy' e
 .rcases ZbE j y hy with ⟨rfl,rfl⟩|⟨z,gy⟩<;>rcases ZbE j' y' hy' with ⟨rfl,rfl⟩|⟨z',gy'⟩
  .rfl
  .obtain ⟨_,h⟩:=sne j' y' hj' gy';rw [<- e,n4] at h;cases h
  .obtain ⟨_,h⟩:=sne j y hj gy;rw [e,n4] at h;cases h
  .exact r.ds j j' y y' hj hj' gy gy' e
theorem Rooms.empty {K:PySem.W.Frag} {C:Addr} {H:Hp} {R:Addr} {m:Nat} (f:H R=some (.lst ((List.range 16).map fun i=>roomV ((fun _=>none:Nat->Option AcI) i)))) (S:Nat->AcS):Rooms K C H R (fun _=>none) S m :=
 ⟨f,fun _ _ _ h=>(nomatch h),fun _ _ _ _ _ _ h=>(nomatch h),fun _ _ _ _ _ _ h=>(nomatch h)⟩
theorem Rooms.made {K:PySem.W.Frag} {C:Addr} {H H2:Hp} {R:Addr} {A:Nat->Option AcI} {S:Nat->AcS} {m:Nat} (r:Rooms K C H R A S m) {i:Nat} (hi:i<16) (np:∀ j y,j<16->A j=some y->y.pr≠R) {a dx pr st:Addr} {c p:Int} {rs:List Row} (s:Same H H2) (ha:H a=none) (hpr:H pr=none) (hst:H st=none) (ac:AcAt K C H2 a dx pr st c p 0 rs (fun _=>0) 0) :
  Rooms K C (upd H2 R (.lst (((List.range 16).map fun j=>roomV (A j)).set i (.ref a)))) R (setO A i ⟨a,dx,pr,st⟩) (setS S i ⟨c,p,0,rs,fun _=>0⟩) m/\∀ j y,j<16->setO A i ⟨a,dx,pr,st⟩ j=some y->y.pr≠R:=by
 have nR:pr≠R:=Ne.symm (Zam r.ob hpr)
 have im:SameI H2 (upd H2 R (.lst (((List.range 16).map fun j=>roomV (A j)).set i (.ref a)))):=SameI.upd (s _ _ r.ob) Zbh
 obtain ⟨xs,g1,g2⟩:=ac.pg
 obtain ⟨kvs,g3,g4,g5⟩:=ac.sto
 refine ⟨r.add (x:=⟨a,dx,pr,st⟩) hi Zag ⟨by rw [Zaj (Za6 ac.ob (s _ _ r.ob) (by intro z;cases z))];exact ac.ob,⟨xs,by rw [Zaj nR];exact g1,g2.keep im⟩,kvs,by rw [Zaj (Za6 g3 (s _ _ r.ob) (by intro z;cases z))];exact g3,Nat.le_trans g4 (Nat.zero_le _),g5⟩ (fun b o h h1 _=>by rw [Zaj h1];exact s _ _ h) (fun j y hj hy=>?_) np ha hst,fun j y hj hy=>?_⟩
 .obtain ⟨kv,q,_⟩:=(r.ac j y hj hy).sto
  rw [Zaj (Za6 q r.ob (by intro z;cases z)),q]
  exact s _ _ q
 .rcases ZbE j y hy with ⟨rfl,rfl⟩|⟨_,gy⟩
  .exact nR
  .exact np j y hj gy
theorem Zdw (A:Nat->Option AcI) (i:Nat) (v:AcI):setO A i v i=some v:=by unfold setO;rw [if_pos rfl]
theorem ZoL (A:Nat->Option AcI) {i j:Nat} (v:AcI) (h:j≠i):setO A i v j=A j:=by unfold setO;rw [if_neg h]
theorem Rooms.madeF {K:PySem.W.Frag} {C:Addr} {H0 H H2:Hp} {R:Addr} {A:Nat->Option AcI} {S:Nat->AcS} {m:Nat} (r:Rooms K C H R A S m) (n0:H0 R=none) (s0:Same H0 H) {i:Nat} (hi:i<16) (np:∀ j y,j<16->A j=some y->y.pr≠R) {a dx pr st:Addr} {c p:Int} {rs:List Row} {f:Int->Int} {m0:Nat} (hm:m0<=m) (s:Same H H2) (ha:H a=none) (hpr:H pr=none) (hst:H st=none) (ac:AcAt K C H2 a dx pr st c p 0 rs f m0) :
  ∃ H',upd H2 R (.lst (((List.range 16).map fun j=>roomV (A j)).set i (.ref a)))=H'/\Rooms K C H' R (setO A i ⟨a,dx,pr,st⟩) (setS S i ⟨c,p,0,rs,f⟩) m/\(∀ j y,j<16->setO A i ⟨a,dx,pr,st⟩ j=some y->y.pr≠R)/\Same H0 H':=by
 have nR:pr≠R:=Ne.symm (Zam r.ob hpr)
 have im:SameI H2 (upd H2 R (.lst (((List.range 16).map fun j=>roomV (A j)).set i (.ref a)))):=SameI.upd (s _ _ r.ob) Zbh
 obtain ⟨xs,g1,g2⟩:=ac.pg
 obtain ⟨kvs,g3,g4,g5⟩:=ac.sto
 refine ⟨_,rfl,r.add (x:=⟨a,dx,pr,st⟩) hi Zag ⟨by rw [Zaj (Za6 ac.ob (s _ _ r.ob) (by intro z;cases z))];exact ac.ob,⟨xs,by rw [Zaj nR];exact g1,g2.keep im⟩,kvs,by rw [Zaj (Za6 g3 (s _ _ r.ob) (by intro z;cases z))];exact g3,Nat.le_trans g4 hm,g5⟩ (fun b o h h1 _=>by rw [Zaj h1];exact s _ _ h) (fun j y hj hy=>?_) np ha hst,fun j y hj hy=>?_,(s0.trans s).wr n0⟩
 .obtain ⟨kv,q,_⟩:=(r.ac j y hj hy).sto
  rw [Zaj (Za6 q r.ob (by intro z;cases z)),q]
  exact s _ _ q
 .rcases ZbE j y hy with ⟨rfl,rfl⟩|⟨_,gy⟩
  .exact nR
  .exact np j y hj gy
def ZoM (o:HO):Prop:=(∀ xs,o≠.lst xs)/\(∀ xs,o≠.tup xs)/\∀ q u,o≠.frz q u
structure KeptD (H H':Hp):Prop where
 k:∀ b o,H b=some o->H' b=some o\/ZoM o
section
variable {K:PySem.W.Frag} {H H':Hp}
theorem KeptD.at (s:KeptD H H') {b:Addr} {o:HO} (h:H b=some o) (n:¬ ZoM o):H' b=some o:=(s.k b o h).resolve_right n
theorem KeptD.l (s:KeptD H H') {b:Addr} {xs:List V} (h:H b=some (.lst xs)):H' b=some (.lst xs):=s.at h fun z=>z.1 _ rfl
theorem KeptD.t (s:KeptD H H') {b:Addr} {xs:List V} (h:H b=some (.tup xs)):H' b=some (.tup xs):=s.at h fun z=>z.2.1 _ rfl
theorem KeptD.sl (s:KeptD H H') {a:Addr} {xs:List V} (h:SqL K H a xs):SqL K H' a xs:=by
 rcases h with (h|⟨o,h⟩)|h
 .exact .inl (.inl (s.l h))
 .exact .inl (.inr ⟨o,s.at h fun z=>z.2.2 _ _ rfl⟩)
 .exact .inr h
theorem KeptD.st (s:KeptD H H') {a:Addr} {xs:List V} (h:SqT K H a xs):SqT K H' a xs:=by
 rcases h with (h|⟨o,h⟩)|h
 .exact .inl (.inl (s.t h))
 .exact .inl (.inr ⟨o,s.at h fun z=>z.2.2 _ _ rfl⟩)
 .exact .inr h
mutual
theorem DV.keptD (s:KeptD H H'):∀ {d:Dt} {v:V},DV K H d v->DV K H' d v
 | .non,v,h=>by unfold DV at h |-;exact h
 | .bl b,v,h=>by unfold DV at h |-;exact h
 | .int i,v,h=>by unfold DV at h |-;exact h
 | .str x,v,h=>by unfold DV at h |-;exact h
 | .lst ds,v,h=>by
  unfold DV at h |-
  obtain ⟨a,xs,e,q,r⟩:=h
  exact ⟨a,xs,e,s.sl q,DVs.keptD s r⟩
 | .tup ds,v,h=>by
  unfold DV at h |-
  obtain ⟨a,xs,e,q,r⟩:=h
  exact ⟨a,xs,e,s.st q,DVs.keptD s r⟩
theorem DVs.keptD (s:KeptD H H'):∀ {ds:List Dt} {xs:List V},DVs K H ds xs->DVs K H' ds xs
 | [],xs,h=>by unfold DVs at h |-;exact h
 | d::r,xs,h=>by
  unfold DVs at h |-
  obtain ⟨x,t,e,h1,h2⟩:=h
  exact ⟨x,t,e,DV.keptD s h1,DVs.keptD s h2⟩
end
theorem Znk {C:Addr} {H1:Hp} {R L:Addr} {A:Nat->Option AcI} {S:Nat->AcS} {m:Nat} (r:Rooms K C H R A S m) (s:Same H H1) (n:H L=none) (k:KeptX (fun b=>¬ Out A b\/b=L) H1 H'):KeptD H H':=⟨fun b o e=>by
 by_cases q:ZoM o
 .exact .inr q
 .refine .inl (k b o (s _ _ e) fun z=>?_)
  rcases z with z|rfl
  .refine z fun i x hi hx=>⟨fun w=>q ?_,fun w=>q ?_⟩
   .rw [w,(r.ac i x hi hx).ob] at e;cases e
    exact ⟨fun _ w=>(nomatch w),fun _ w=>(nomatch w),fun _ _ w=>(nomatch w)⟩
   .obtain ⟨kv,g1,_⟩:=(r.ac i x hi hx).sto
    rw [w,g1] at e;cases e
    exact ⟨fun _ w=>(nomatch w),fun _ w=>(nomatch w),fun _ _ w=>(nomatch w)⟩
  .rw [n] at e;cases e⟩
end
theorem ZlU (S:Nat->AcS) {i:Nat} (hi:i<16) (v:AcS):totalC (List.range 16) (setS S i v)=totalC (List.range 16) S-(S i).coin+v.coin:=by
 unfold totalC
 have:(fun n=>(setS S i v n).coin)=fun n=>(S n).coin-(if n=i then (S i).coin else 0)+(if n=i then v.coin else 0):=by
  funext n
  unfold setS
  by_cases h:n=i
  .rw [if_pos h,if_pos h,if_pos h,h];omega
  .rw [if_neg h,if_neg h,if_neg h];omega
 rw [this,Zfc,Zhq i _ _ List.nodup_range (List.mem_range.2 hi),Zhq i _ _ List.nodup_range (List.mem_range.2 hi)]
structure SUpTo (S:Nat->AcS) (m:Int):Prop where
 st:∀ i q,In64 ((S i).store q)
 co:∀ i,i<16->0<=(S i).coin
 to:totalC (List.range 16) S<=m
theorem SUpTo.ok {S:Nat->AcS} {m:Int} (h:SUpTo S m) (hm:m<18446744073709551616):SOk S:=⟨h.st,h.co,Int.lt_of_le_of_lt h.to hm⟩
theorem SUpTo.none:SUpTo (fun _=>⟨0,0,0,[],fun _=>0⟩) 0:=⟨fun _ _=>⟨show (0:Int)<=0 by decide,show (0:Int)<18446744073709551616 by decide⟩,fun _ _=>Int.le_refl 0,by decide⟩
theorem SUpTo.put {S:Nat->AcS} {m c:Int} (h:SUpTo S m) {i:Nat} (hi:i<16) {v:AcS} (hv:∀ q,In64 (v.store q)) (h0:0<=v.coin) (hc:v.coin<=c):SUpTo (setS S i v) (m+c):=by
 refine ⟨fun j q=>?_,fun j hj=>?_,?_⟩
 .unfold setS
  split
  .exact hv q
  .exact h.st j q
 .unfold setS
  split
  .exact h0
  .exact h.co j hj
 .rw [ZlU S hi]
  have:=h.co i hi
  have:=h.to
  omega
structure Set37 (S:Nat->AcS) (m:Int):Prop where
 fit:∀ i,∀ r∈(S i).rows,Zbo r
 len:∀ i,(S i).rows.length<=60
 sup:SupB S 1
 jb:∀ i,JB (S i).rows
 up:SUpTo S m
theorem Set37.none {m:Int} (hm:0<=m):Set37 (fun _=>⟨0,0,0,[],fun _=>0⟩) m:=⟨fun _ _ h=>(nomatch h),fun _=>Nat.zero_le _,fun _=>⟨[],Nat.zero_le _,fun _ h=>absurd rfl h⟩,(fun _ _ h=>(nomatch h)),SUpTo.none.st,SUpTo.none.co,Int.le_trans SUpTo.none.to hm⟩
theorem Set37.put {S:Nat->AcS} {m c:Int} (h:Set37 S m) {i:Nat} (hi:i<16) {v:AcS} (hr:∀ r∈v.rows,Zbo r) (hl:v.rows.length<=60) (hj:JB v.rows) {p:Int} (hs:∀ q,v.store q≠0->q=p) (hv:∀ q,In64 (v.store q)) (h0:0<=v.coin) (hc:v.coin<=c):Set37 (setS S i v) (m+c):=by
 refine ⟨fun j r=>?_,fun j=>?_,fun j=>?_,fun j=>?_,h.up.put hi hv h0 hc⟩
 .unfold setS
  split
  .exact hr r
  .exact h.fit j r
 .unfold setS
  split
  .exact hl
  .exact h.len j
 .unfold setS
  split
  .exact ⟨[p],Nat.le_refl _,fun q hq=>List.mem_singleton.2 (hs q hq)⟩
  .exact h.sup j
 .unfold setS
  split
  .exact hj
  .exact h.jb j
theorem put0 {p v:Int} (hv:In64 v):(∀ q,putFn (fun _=>0) p v q≠0->q=p)/\∀ q,In64 (putFn (fun _=>0) p v q):=by
 refine ⟨fun q h=>?_,fun q=>?_⟩
 .unfold putFn at h
  by_cases e:q=p
  .exact e
  .rw [if_neg e] at h;exact absurd rfl h
 .unfold putFn
  split
  .exact hv
  .exact ⟨show (0:Int)<=0 by decide,show (0:Int)<18446744073709551616 by decide⟩
theorem cut37 (ns:List Int):∃ ms:List Int,cutV (ns.map V.int) (some 8) (some 60)=ms.map V.int/\ms.length<=60 :=
 ⟨(ns.drop 8).take 52,by rw [show (8:Int)=((8:Nat):Int) from rfl,show (60:Int)=((60:Nat):Int) from rfl,Zjw,List.map_take,List.map_drop],by rw [List.length_take];omega⟩
theorem p60N:(2:Int) ^ Int.toNat 60=1152921504606846976:=by decide
theorem coin37 (c:Int) {k:Int} (hk:0<k):0<=c % 1152921504606846976 / k/\c % 1152921504606846976 / k<=1152921504606846976:=by
 have h0:0<=c % 1152921504606846976:=by omega
 exact ⟨Int.ediv_nonneg h0 (Int.le_of_lt hk),Int.le_trans (Int.ediv_le_self _ h0) (by omega)⟩
theorem pg_jb {rs:List Row} (h:∀ r∈rs,RowFit2 (rs.length:Int) r):JB rs:=fun r hr z=>(h r hr).2 z
theorem ZoN (f:Nat->Int):∃ o0 o1 o2:Nat,((List.range 3).map fun j:Nat=>V.int (f j % 16))=[.int (o0:Int),.int (o1:Int),.int (o2:Int)]/\o0<16/\o1<16/\o2<16:=by
 have z:∀ c:Int,∃ o:Nat,c % 16=(o:Int)/\o<16:=fun c=>⟨(c % 16).toNat,by omega,by omega⟩
 obtain ⟨o0,e0,b0⟩:=z (f 0)
 obtain ⟨o1,e1,b1⟩:=z (f 1)
 obtain ⟨o2,e2,b2⟩:=z (f 2)
 refine ⟨o0,o1,o2,?_,b0,b1,b2⟩
 show [V.int (f 0 % 16),.int (f 1 % 16),.int (f 2 % 16)]=_
 rw [e0,e1,e2]
theorem none40 (a b c:Int):∃ v,atI [V.int (a % 16),.int (16+b % 1152921504606846976)] (c % 2)=some (.int v)/\In64 v:=by
 rcases (by omega:c % 2=0\/c % 2=1) with h|h
 .exact ⟨_,by rw [h];rfl,Zbb (by omega) (by omega)⟩
 .exact ⟨_,by rw [h];rfl,by omega,by show _<_;omega⟩
section
variable {P:Program} {w:World} {K:PySem.W.Frag} {mg:Str->Option Value} {base:Heap}
theorem ZiA:FnScope ["_law_script", "_law_k"] ["_law_script", "_law_k"] (Zaf ZdP):=by walk_at "c"
theorem ZiB    (D:Zaq K mg "_law_cell_at" ZdP) (n_len:mg "len" = none):Cal P w K mg base 1 "_law_cell_at" (ZlS K):=by
 refine ZaA D ZiA (fun vs H Q E h=>?_) (by walk_at "b") (fun f cdv A outer s H vs Q E hr h=>?_)
 .obtain ⟨p,ns,j,rfl,_⟩:=h;rfl
 .obtain ⟨p,ns,j,rfl,hj,hl,k⟩:=h
  refine ⟨_,(Zab (ZaK (Zal ZdZ (pv 1) (ZaO ZbC rfl n_len PySem.boot_len (Zaa (pv 0) Zad)) (nomark _)) (Zae (Zak (Zan Zas (pv 0) (pv 1) (fun _ _=>rfl)))) Zap)
   (Zae (Zak Zac))),?_⟩
  walk_at "nx"
  repeat' walk_at "rdt"
  .rename_i hlt
   rw [List.length_map] at hlt
   obtain ⟨c,e1,e2⟩:=Zmr (xs:=ns) hj hlt
   have e3:(ns.map V.int)[j.toNat]?=some (.int c):=by rw [List.getElem?_map,e2];rfl
   refine ZaC hl (ZcD e3 (by omega)) ?_
   unfold cellF at k
   rw [e2] at k
   exact k
  .rename_i hlt
   rw [List.length_map] at hlt
   unfold cellF at k
   rw [List.getElem?_eq_none (by omega)] at k
   exact k
end
theorem Rooms.dput {K:PySem.W.Frag} {C:Addr} {H:Hp} {R D:Addr} {A:Nat->Option AcI} {S:Nat->AcS} {m:Nat} {kvs kvs':List (Key×V)} (r:Rooms K C H R A S m) (h:H D=some (.dK kvs)) (n:∀ j y,j<16->A j=some y->y.st≠D):Rooms K C (upd H D (.dK kvs')) R A S m:=by
 have nd:=SameND.but (H':=upd H D (.dK kvs')) h (fun b hb=>Zaj hb)
 refine ⟨by rw [Zaj (Za6 r.ob h (by intro z;cases z))];exact r.ob,fun j y hj hy=>?_,r.da,r.ds⟩
 have aj:=r.ac j y hj hy
 exact AcAt.nd aj nd (aj.sto.same (Zaj (n j y hj hy)))
theorem pick40 (o0 o1 o2:Nat) (c:Int):∃ t:Nat,atI [V.int (o0:Int),.int (o1:Int),.int (o2:Int)] (c % 3)=some (.int (t:Int))/\(t=o0\/t=o1\/t=o2):=by
 rcases (by omega:c % 3=0\/c % 3=1\/c % 3=2) with h|h|h
 .exact ⟨o0,by rw [h];rfl,.inl rfl⟩
 .exact ⟨o1,by rw [h];rfl,.inr (.inl rfl)⟩
 .exact ⟨o2,by rw [h];rfl,.inr (.inr rfl)⟩
theorem run40 {A:Nat->Option AcI} {S0:Nat->AcS} {t w:Nat} {zt zw:AcI} {coin word given:Int} (hr:∀ i y,i<16->A i=some y->∀ r∈(S0 i).rows,Zbo r) (hJ:∀ i y,i<16->A i=some y->JB (S0 i).rows) (S:SOk S0) (ht:A t=some zt) (bt:t<16) (hw:A w=some zw) (bw:w<16) (c0:0<=coin) (c1:coin<=(S0 t).coin) (iw:In64 word) (g0:0<=given) (g1:given<=30000) :
  ∃ ds' y st,GoW A S0 10 [] (frame0 "call" (w:Int) (w:Int) (t:Int) coin word given 1 false) ds' y st/\(∃ e,y.fin=some e)/\SameH (frame0 "call" (w:Int) (w:Int) (t:Int) coin word given 1 false) y/\WkN A S0 10 given false y st:=by
 have ic:In64 coin:=⟨c0,Int.lt_of_le_of_lt c1 (S.coin bt).2⟩
 have I:InOk A (runS S0 []) (frame0 "call" (w:Int) (w:Int) (t:Int) coin word given 1 false):=⟨⟨rfl,⟨w,zw,rfl,bw,hw⟩,⟨by show (0:Int)<=(t:Int);omega,by show (t:Int)<18446744073709551616;omega⟩,ic,iw,(fun _ h=>nomatch h),Nat.zero_le _,Int.le_refl 0,⟨Int.le_refl 0,g0⟩,by show (1:Int)<=1/\(1:Int)<=8;decide⟩,⟨w,zw,rfl,bw,hw⟩,rfl,fun _ _=>⟨t,zt,rfl,bt,ht,c1⟩⟩
 obtain ⟨ds',y,st,hG,O⟩:=Znb hr 9 [] _ S I (by show 8<=(1:Int)+9;decide) (by show ((0:Nat):Int)+given<=89999;omega) (by show given<=30000;exact g1)
 obtain ⟨sh,hk⟩:=ZlA hJ 10 _ _ _ _ _ hG ⟨rfl,rfl,rfl⟩
 exact ⟨ds',y,st,GoX.goW _ _ _ _ _ _ hG,O.fin,sh,hk given (Int.le_refl _)⟩
theorem ZjV {K:PySem.W.Frag} {H H':Hp} {rs:List Row} {xs:List V} (h:RowsAt K H rs xs) (s:KeptD H H'):RowsAt K H' rs xs:=⟨h.1,fun i r v h1 h2=>let ⟨p,e,q⟩:=h.2 i r v h1 h2;⟨p,e,s.st q⟩⟩
def spLaw (K:PySem.W.Frag):Sp:=fun vs H Q _=>∃ (a:Addr) (ns:List Int),vs=[.ref a]/\SqL K H a (ns.map V.int)/\ns.length<=63/\∀ H',Q (.bl true) H'
section
variable {P:Program} {w:World} {K:PySem.W.Frag} {mg:Str->Option Value} {base:Heap}
theorem ZbO:FnScope ["_law_script", "_law_one", "_law_step", "_law_slots", "_law_none", "_law_places", "_law_some", "_law_rooms", "_law_programs_here", "_law_k", "_law_word", "_law_caller", "_law_coin", "_law_given", "_law_tree"] ["_law_script"] (Zaf ZkU):=by walk_at "c"
theorem ok_law   {cAccount:Addr} {cJournal:Addr} {f:Addr} {fd:FuncData} (F:Fun K "law" "law" ZkU f fd) (tAccount:T_Account K mg cAccount) (tJournal:T_Journal K mg cJournal) (i_Account:ICal P w K mg base 1 "Account" cAccount (spInit K cAccount)) (m_Account_keep:MCal P w K mg base 1 cAccount "keep" (spKeep K cAccount)) (i_Journal:ICal P w K mg base 1 "Journal" cJournal (Zk6 cJournal)) (c_Lprograms:Cal P w K mg base 3 "_law_programs" (ZlG K)) (c_enter:Cal P w K mg base 49 "enter" (Zi9 K cAccount cJournal cSave cMove cNote)) (c_Lcell_at:Cal P w K mg base 1 "_law_cell_at" (ZlS K)) (c_Lwalked:Cal P w K mg base 14 "_law_walked" (Zen K 10)) (n_range:mg "range" = none):FnOk P w K mg base CX0 50 f fd ["_law_script"] (spLaw K):=by
 refine F.ok (N:=["_law_script", "_law_one", "_law_step", "_law_slots", "_law_none", "_law_places", "_law_some", "_law_rooms", "_law_programs_here", "_law_k", "_law_word", "_law_caller", "_law_coin", "_law_given", "_law_tree"]) ZbO (fun vs H Q E h=>?_) (fun cdv A outer s H vs Q E hr h=>?_)
 .obtain ⟨a,ns,rfl,_⟩:=h;rfl
 .obtain ⟨a,ns,rfl,hS,hlen,k⟩:=h
  refine ⟨_,(Zab (Zay (i:=1) ZbO.nd rfl (by first|exact Or.inl rfl|exact Or.inr rfl) (Zax ZaV (ZaB c_Lcell_at (hr.mono (by decide)) rfl (Zaa (pv 0) (Zaa Zac Zad))) Zac))
   (Zab (Zay (i:=2) ZbO.nd rfl (by first|exact Or.inl rfl|exact Or.inr rfl) (Zax Zbc Zac (Zax Zep Zac (Zax ZaV (Zax Za5 (ZaB c_Lcell_at (hr.mono (by decide)) rfl (Zaa (pv 0) (Zaa Zac Zad))) Zac) Zac))))
   (Zab (Zkt (i:=3) ["_law_k"] ZbO.nd rfl rfl rfl (show CompScope (Zaf ZkU) ["_law_script", "_law_one", "_law_step", "_law_slots", "_law_none", "_law_places", "_law_some", "_law_rooms", "_law_programs_here", "_law_k", "_law_word", "_law_caller", "_law_coin", "_law_given", "_law_tree"] ["_law_k"] _ from ⟨rfl,by decide +kernel,by decide +kernel,by decide +kernel,by decide +kernel,by decide +kernel⟩) (Zce rfl n_range (Zaa Zac Zad)) (fun _ _ _ _ _=>(Zcd (i:=0) (show (["_law_k", "_law_script", "_law_one", "_law_step", "_law_slots", "_law_none", "_law_places", "_law_some", "_law_rooms", "_law_programs_here", "", "_law_word", "_law_caller", "_law_coin", "_law_given", "_law_tree"]:List Str).Nodup by decide +kernel) rfl (Or.inl rfl) (.inr rfl))) (fun _ _ _ _ _=>ZfL) (fun _ _ _ _ _=>(Zax ZaV (Zax Zbc (pv 2) (Zax Zep (pv 3) (pv 0))) Zac)))
   (Zab (Zay (i:=4) ZbO.nd rfl (by first|exact Or.inl rfl|exact Or.inr rfl) (ZaM (Zaa (Zax ZaV (Zax Zbc (pv 1) (Zax Zep (pv 2) Zac)) Zac) (Zaa (Zax Zbc Zac (Zax ZaV (Zax Za5 (ZaB c_Lcell_at (hr.mono (by decide)) rfl (Zaa (pv 0) (Zaa Zac Zad))) Zac) (Zax Zeq Zac Zac))) Zad))))
   (Zab (Zkt (i:=5) ["_law_k"] ZbO.nd rfl rfl rfl (show CompScope (Zaf ZkU) ["_law_script", "_law_one", "_law_step", "_law_slots", "_law_none", "_law_places", "_law_some", "_law_rooms", "_law_programs_here", "_law_k", "_law_word", "_law_caller", "_law_coin", "_law_given", "_law_tree"] ["_law_k"] _ from ⟨rfl,by decide +kernel,by decide +kernel,by decide +kernel,by decide +kernel,by decide +kernel⟩) (Zce rfl n_range (Zaa Zac Zad)) (fun _ _ _ _ _=>(Zcd (i:=0) (show (["_law_k", "_law_script", "_law_one", "_law_step", "_law_slots", "_law_none", "_law_places", "_law_some", "_law_rooms", "_law_programs_here", "", "_law_word", "_law_caller", "_law_coin", "_law_given", "_law_tree"]:List Str).Nodup by decide +kernel) rfl (Or.inl rfl) (.inr rfl))) (fun _ _ _ _ _=>ZfL) (fun _ _ _ _ _=>(Zax ZaV (ZaB c_Lcell_at (hr.mono (by decide)) rfl (Zaa (pv 1) (Zaa (Zax Zbc Zac (pv 0)) Zad))) (Zax Zeq Zac Zac))))
   (Zab (Zay (i:=6) ZbO.nd rfl (by first|exact Or.inl rfl|exact Or.inr rfl) (ZaB c_Lprograms (hr.mono (by decide)) rfl (Zaa (Zdh Zkh (pv 0) (Zb0 Zac) (Zb0 Zac)) (Zaa (Zax Zfs (pv 3) (ZaM (Zaa (Zan Zas (pv 4) (Zax ZaV (ZaB c_Lcell_at (hr.mono (by decide)) rfl (Zaa (pv 0) (Zaa Zac Zad))) Zac) (fun _ _=>rfl)) Zad))) (Zaa (pv 5) Zad)))))
   (Zab (Zay (i:=7) ZbO.nd rfl (by first|exact Or.inl rfl|exact Or.inr rfl) (Zax op_rep (ZaM (Zaa Zca Zad)) Zac))
   (Zab (Zay (i:=8) ZbO.nd rfl (by first|exact Or.inl rfl|exact Or.inr rfl) ZiP)
   (Zab (ZiI PassesOwn.never rfl (Zce rfl n_range (Zaa Zac Zad)) (Zcd (i:=9) ZbO.nd rfl (by first|exact Or.inl rfl|exact Or.inr rfl))
   (Zab (ZiH (ZeF i_Account (hr.mono (by decide)) rfl (Zaa (Zax Za5 (Zax ZaV (ZaB c_Lcell_at (hr.mono (by decide)) rfl (Zaa (pv 0) (Zaa Zac Zad))) (Zax Zeq Zac Zac)) (Zax Zbc (pv 9) Zac)) (Zaa (pv 9) (Zaa (Zan Zas (pv 6) (pv 9) (fun _ _=>rfl)) Zad)))) (ZiG (pv 7) (Zan Zas (pv 3) (pv 9) (fun _ _=>rfl)) Zed))
   (Zab (ZaF (ZaN m_Account_keep (hr.mono (by decide)) (Zan Zas (pv 7) (Zan Zas (pv 3) (pv 9) (fun _ _=>rfl)) (fun _ _=>rfl)) (Zaa (Zan Zas (pv 5) (pv 9) (fun _ _=>rfl)) (Zaa (Zax ZaV (Zax Za5 (ZaB c_Lcell_at (hr.mono (by decide)) rfl (Zaa (pv 0) (Zaa Zac Zad))) (Zax Zbc (pv 9) Zac)) (Zax Zeq Zac Zac)) Zad))))
   (Zae (Zkq (ZhK hr) (pv 8) (Zan Zas (pv 3) (pv 9) (fun _ _=>rfl)) (Zan Zas (pv 6) (pv 9) (fun _ _=>rfl)) rfl)))))
   (Zab (Zay (i:=10) ZbO.nd rfl (by first|exact Or.inl rfl|exact Or.inr rfl) (Zax ZaV (ZaB c_Lcell_at (hr.mono (by decide)) rfl (Zaa (pv 0) (Zaa Zac Zad))) (Zax Zeq Zac Zac)))
   (Zab (Zay (i:=11) ZbO.nd rfl (by first|exact Or.inl rfl|exact Or.inr rfl) (Zan Zas (pv 3) (Zax ZaV (ZaB c_Lcell_at (hr.mono (by decide)) rfl (Zaa (pv 0) (Zaa Zac Zad))) Zac) (fun _ _=>rfl)))
   (Zab (Zay (i:=12) ZbO.nd rfl (by first|exact Or.inl rfl|exact Or.inr rfl) (Zax ZaV (Zax Za5 (ZaB c_Lcell_at (hr.mono (by decide)) rfl (Zaa (pv 0) (Zaa Zac Zad))) Zac) (Zax Zbc (Zao (Zan Zas (pv 7) (pv 11) (fun _ _=>rfl)) rfl) Zac)))
   (Zab (Zay (i:=13) ZbO.nd rfl (by first|exact Or.inl rfl|exact Or.inr rfl) (Zax ZaV (Zax Za5 (ZaB c_Lcell_at (hr.mono (by decide)) rfl (Zaa (pv 0) (Zaa Zac Zad))) Zac) Zac))
   (Zab (Zay (i:=14) ZbO.nd rfl (by first|exact Or.inl rfl|exact Or.inr rfl) (ZaB c_enter (hr.mono (by decide)) rfl (Zaa (pv 7) (Zaa (ZeF i_Journal (hr.mono (by decide)) rfl (Zaa (pv 7) Zad)) (Zaa (pv 11) (Zaa (Zan Zas (pv 3) (Zax ZaV (ZaB c_Lcell_at (hr.mono (by decide)) rfl (Zaa (pv 0) (Zaa Zac Zad))) Zac) (fun _ _=>rfl)) (Zaa (pv 12) (Zaa (pv 10) (Zaa (pv 13) Zad)))))))))
   (Zab (ZaK (Zdg (ZbP (ZaB c_Lwalked (hr.mono (by decide)) rfl (Zaa (pv 14) (Zaa (pv 8) (Zaa (pv 13) (Zaa ZcQ Zad))))))) (Zae (Zak ZcQ)) Zap)
   (Zae (Zak (Zbs (ZaJ ZaX (Zan Zau (pv 14) Zac (fun _ _=>rfl)) Zai (nomark _)) (Zbs (ZaJ ZaX (Zan Zau (pv 14) Zac (fun _ _=>rfl)) (Zan Zau (pv 14) Zac (fun _ _=>rfl)) (nomark _)) (Zbr (ZaJ (ZkI hr.units) (Zdh Zke (pv 14) (Zb0 Zac) (Zb0 Zac)) (Zaz (Zaa (pv 11) (Zaa (pv 12) (Zaa (pv 10) (Zaa (pv 13) Zad))))) (nomark _)))))))))))))))))))))),?_⟩
  walk_at "nx"
  generalize hT1:tSeq (tFor _ _ _) _=T1
  (revert T1 hT1;refine keepIt ?_;intro T1 hT1)
  walk_at "K"
  refine ⟨a,ns,0,rfl,by decide,hS,?_⟩
  walk_at "K"
  refine ⟨a,ns,0,rfl,by decide,hS,?_⟩
  walk_at "K"
  generalize cellF ns 0 % 16=one
  generalize 1+2*(cellF ns 0 / 16 % 8)=step
  refine ZfM (Zdm ?_)
  walk_at "K"
  refine ⟨_,rfl,by decide,by decide,fun SL q_SL=>?_⟩
  refine Zfx (ys:=(List.range 3).map fun j:Nat=>V.int ((one+step*(0+(j:Int))) % 16)) q_SL (by rw [List.length_map,List.length_range];rfl) (by decide) ?_ ?_
  .intro i y H' Q' hi hy sm q'
   rw [List.getElem?_map,List.getElem?_range (show i<3 from hi)] at hy
   cases hy
   walk_at "K"
   exact q'
  obtain ⟨o0,o1,o2,eos,b0,b1,b2⟩:=ZoN fun j=>one+step*(0+(j:Int))
  rw [eos]
  clear eos
  have bh0:Gw H H []:=Gw.start
  generalize e_:upd _ SL _=bH1;have bh1:=bh0.newE q_SL e_;clear e_;walk_at "K"
  refine ⟨a,ns,0,rfl,by decide,bh1.s.seq hS,?_⟩
  walk_at "K"
  rw [p60N]
  walk_at "K"
  refine ⟨szl_2,fun NN q_NN=>?_⟩
  generalize e_:upd _ NN _=bH2;have bh2:=bh1.newE q_NN e_;clear e_;walk_at "K"
  refine ZfM (Zdm ?_)
  walk_at "K"
  refine ⟨_,rfl,by decide,by decide,fun PA q_PA=>?_⟩
  refine Zfx (ys:=(List.range 3).map fun j:Nat=>V.int (cellF ns (1+(0+(j:Int))) % 18446744073709551616)) q_PA (by rw [List.length_map,List.length_range];rfl) (by decide) ?_ ?_
  .intro i y H' Q' hi hy sm q'
   rw [List.getElem?_map,List.getElem?_range (show i<3 from hi)] at hy
   cases hy
   walk_at "K"
   refine ⟨a,ns,_,rfl,by omega,(bh2.s.trans sm).seq hS,?_⟩
   walk_at "K"
   rw [p64N]
   walk_at "K"
   exact q'
  obtain ⟨p0,p1,p2,eps,ip0,ip1,ip2⟩:∃ p0 p1 p2:Int,((List.range 3).map fun j:Nat=>V.int (cellF ns (1+(0+(j:Int))) % 18446744073709551616))=[.int p0,.int p1,.int p2]/\In64 p0/\In64 p1/\In64 p2:=⟨_,_,_,rfl,Zbw _,Zbw _,Zbw _⟩
  rw [eps]
  clear eps
  generalize e_:upd _ PA _=bH3;have bh3:=bh2.newE q_PA e_;clear e_;walk_at "K"
  obtain ⟨cs,ecs,hcs⟩:=cut37 ns
  refine Znv (bh3.s.seq hS) fun CL q_CL=>?_
  rw [ecs]
  generalize e_:upd _ CL _=bH4;have bh4:=bh3.newE q_CL e_;clear e_;walk_at "K"
  refine ⟨a,ns,4,rfl,by decide,bh4.s.seq hS,?_⟩
  walk_at "K"
  obtain ⟨o3,eo3,io3⟩:=none40 (one+step*3) (cellF ns 0 / 128) (cellF ns 4)
  refine ZaC (Zaw bh4.h.2.2.1) eo3 ?_
  walk_at "K"
  refine ⟨szl_1,fun T3 q_T3=>?_⟩
  generalize e_:upd _ T3 _=bH5;have bh5:=bh4.newE q_T3 e_;clear e_;walk_at "K"
  refine Zfw bh5.h.2.2.2.2.1 bh5.h.1 (show 4<=sizeLine by decide) fun SX q_SX=>?_
  generalize e_:upd _ SX _=bH6;have bh6:=bh5.newE q_SX e_;clear e_;walk_at "K"
  have eSX:SqL K bH6 SX [.int (o0:Int),.int (o1:Int),.int (o2:Int),.int o3]:=Zaw bh6.h.1
  refine ⟨CL,SX,PA,cs,(o0:Int),(o1:Int),(o2:Int),o3,p0,p1,p2,rfl,Zaw bh6.h.2.2.1,hcs,eSX,Zaw bh6.h.2.2.2.1,Zbb (by omega) (by omega),Zbb (by omega) (by omega),Zbb (by omega) (by omega),io3,ip0,ip1,ip2,fun PG as H1 s1 ePG las hPG=>?_⟩
  have sH1:=bh6.s.trans s1
  have fPA:=s1 _ _ bh6.h.2.2.2.1
  have fSL:=s1 _ _ bh6.h.2.2.2.2.2.1
  obtain ⟨a0,a1,a2,rfl⟩:∃ a0 a1 a2,as=[a0,a1,a2]:=by
   match as,las with
   | [x,y,z],_=>exact ⟨x,y,z,rfl⟩
  clear eSX
  have fh0:Gw H1 H1 []:=Gw.start
  walk_at "K"
  refine ⟨szl_1,fun z q_z=>?_⟩
  generalize e_:upd _ z _=fH1;have fh1:=fh0.newE q_z e_;clear e_;walk_at "K"
  refine ⟨z,16,[.non],rfl,rfl,fh1.h.1,by decide,by decide,by decide,fun R q_R=>?_⟩
  have nR:=fh1.fresh q_R
  generalize e_:upd _ R _=fH2;have fh2:=fh1.newE q_R e_;clear e_;walk_at "K"
  rename_i D q_D
  have nD:=fh2.fresh q_D
  generalize e_:upd _ D _=fH3;have fh3:=fh2.newE q_D e_;clear e_;walk_at "K"
  have r0:Rooms K cAccount fH3 R (fun _=>none) (fun _=>⟨0,0,0,[],fun _=>0⟩) 1:=Rooms.empty fh3.h.2.1 _
  have np0:∀ j y,j<16->(fun _=>none:Nat->Option AcI) j=some y->y.pr≠R:=fun _ _ _ h=>(nomatch h)
  have sB0:=fh3.s
  subst hT1
  walk_at "K"
  generalize hD:Ends.mk _ _ _ _=D0
  (revert D0 hD;refine keepIt ?_;intro D0 hD)
  refine ZiS (Zdm ?_)
  walk_at "K"
  refine ⟨_,rfl,by decide,by decide,?_⟩
  obtain ⟨PV,hPV⟩:∃ PV:Nat->St->Hp->Prop,PV=fun (i:Nat) (σ':St) (H':Hp)=>Same H1 H'/\∃ (A:Nat->Option AcI) (S:Nat->AcS) (kvs:List (Key×V)) (v1:Option V),Rooms K cAccount H' R A S 1/\(∀ j y,j<16->A j=some y->y.pr≠R)/\(∀ j y,j<16->A j=some y->y.st≠D)/\Set37 S ((i:Int)*1152921504606846976)/\(∀ j,j<i->∀ o,[o0,o1,o2][j]?=some o->∃ y,A o=some y)/\H' D=some (.dK kvs)/\kvs.length<=i/\(∀ (j:Nat) y,j<16->A j=some y->∃ a xs,valV kvs (Sum.inl (j:Int):Key)=some (.ref a)/\H1 a=some (.lst xs)/\RowsAt K H1 (S j).rows xs)/\σ'=[some (.ref a),some (.int one),some (.int step),some (.ref SL),some (.ref NN),some (.ref PA),some (.ref PG),some (.ref R),some (.ref D),v1,none,none,none,none,none]:=⟨_,rfl⟩
  refine Zeo (n:=3) PV (by rw [hPV];exact ⟨sB0,_,_,[],none,r0,np0,(fun _ _ _ h=>(nomatch h)),Set37.none (by decide),(fun _ h=>absurd h (Nat.not_lt_zero _)),fh3.h.1,Nat.le_refl _,(fun _ _ _ h=>(nomatch h)),rfl⟩) ?_ ?_
  .intro i σ' HA hi hI
   rw [hPV] at hI
   obtain ⟨sA,A,S,kvs,v1,rA,npA,ndA,stA,hAj,eD,hkl,hPD,rfl⟩:=hI
   obtain ⟨pi,hpi,ipi⟩:∃ p,atI [V.int p0,.int p1,.int p2] (0+(i:Int))=some (.int p)/\In64 p:=by
    rcases (by omega:i=0\/i=1\/i=2) with rfl|rfl|rfl
    .exact ⟨p0,rfl,ip0⟩
    .exact ⟨p1,rfl,ip1⟩
    .exact ⟨p2,rfl,ip2⟩
   obtain ⟨ai,hai,mai⟩:∃ x,atI ([a0,a1,a2].map V.ref) (0+(i:Int))=some (.ref x)/\x∈[a0,a1,a2]:=by
    rcases (by omega:i=0\/i=1\/i=2) with rfl|rfl|rfl
    .exact ⟨a0,rfl,by simp⟩
    .exact ⟨a1,rfl,by simp⟩
    .exact ⟨a2,rfl,by simp⟩
   obtain ⟨oi,hoi,moi,boi⟩:∃ x:Nat,atI [V.int (o0:Int),.int (o1:Int),.int (o2:Int)] (0+(i:Int))=some (.int (x:Int))/\[o0,o1,o2][i]?=some x/\x<16:=by
    rcases (by omega:i=0\/i=1\/i=2) with rfl|rfl|rfl
    .exact ⟨o0,rfl,rfl,b0⟩
    .exact ⟨o1,rfl,rfl,b1⟩
    .exact ⟨o2,rfl,rfl,b2⟩
   obtain ⟨xs,rs,eP1,hR1,hF,hl⟩:=hPG ai mai
   have eP:=sA _ _ eP1
   have hR:=hR1.keep sA.imm
   have sHA:=sH1.trans sA
   walk_at "K"
   refine ⟨a,ns,4,rfl,by decide,sHA.seq hS,?_⟩
   walk_at "K"
   rw [p60N]
   walk_at "K"
   refine ZaC (Zaw (sA _ _ ePG)) hai ?_
   walk_at "K"
   intro x dx hx hdx hnx
   have tx:(upd HA dx (.own x)) x=none:=by rw [Zaj (Ne.symm hnx)];exact hx
   have mx:Same HA (upd (upd HA dx (.own x)) x (.ins cAccount dx [])):=(Same.new hdx).newT tx
   refine ⟨x,dx,ai,_,_,xs,rs,rfl,Zag,mx.seq (Zaw eP),hR.keep mx.imm,fun px sx Ix hpx hsx nps ax kx=>⟨rfl,?_⟩⟩
   have nx:Same HA Ix:=fun b o e=>kx b o (mx _ _ e) (Zam e hx)
   have npx:=mx.fresh hpx
   have nsx:=mx.fresh hsx
   walk_at "K"
   refine ZaC (Zaw (nx _ _ (sA _ _ fSL))) hoi ?_
   walk_at "K"
   refine ZfP (nx _ _ rA.ob) (ZhM (j:=oi) rfl (by rw [List.length_map,List.length_range];exact boi)) ?_
   obtain ⟨J,eJ,rJ,npJ,sJ⟩:=rA.madeF nR sA (a:=x) boi npA (Nat.zero_le 1) nx hx npx nsx ax
   have nsD:sx≠D:=Ne.symm (Zam eD nsx)
   have eDJ:J D=some (.dK kvs):=by rw [<- eJ,Zaj (Za6 eD rA.ob (by intro z;cases z))];exact nx _ _ eD
   rw [eJ]
   have axJ:=rJ.ac oi _ boi (Zdw ..)
   have fSJ:=sJ _ _ fSL
   walk_at "K"
   refine ZaC (Zaw fSJ) hoi ?_
   refine ZaC (Zaw rJ.ob) (rJ.at boi (Zdw ..)) ?_
   rw [Zcw] at axJ
   refine Zav (AcAt.ob axJ) rfl ?_
   walk_at "K"
   refine ZaC (Zaw (sJ _ _ fPA)) hpi ?_
   walk_at "K"
   refine ⟨a,ns,5,rfl,by decide,(sH1.trans sJ).seq hS,?_⟩
   walk_at "K"
   rw [p64N]
   walk_at "K"
   refine ⟨_,_,_,_,_,_,_,_,_,1,pi,_,rfl,axJ,by decide,fun HK kK stK=>?_⟩
   have rK:=rJ.keep boi (Zdw ..) (p:=pi) kK (by rw [Zcw];exact stK)
   rw [Zg3,Zcw] at rK
   have eDK:HK D=some (.dK kvs):=by rw [kK D (Ne.symm nsD)];exact eDJ
   have sK:Same H1 HK:=fun b o e=>by rw [kK b (Zam e (sA.fresh nsx))];exact sJ b o e
   have ndJ:∀ j y,j<16->setO A oi ⟨x,dx,px,sx⟩ j=some y->y.st≠D:=fun j y hj hy=>by
    rcases ZbE j y hy with ⟨rfl,rfl⟩|⟨_,gy⟩
    .exact nsD
    .exact ndA j y hj gy
   walk_at "K"
   refine ZaC (Zaw (sK _ _ ePG)) hai ?_
   walk_at "K"
   refine ZaC (Zaw (sK _ _ fSL)) hoi ?_
   walk_at "K"
   refine ZiU eDK (by have:=PySem.sizeLine_eq;omega) ?_
   have cb:=coin37 (cellF ns 4) (k:=0+(i:Int)+1) (by omega)
   have pz:=put0 (p:=pi) (Zbw (cellF ns 5 / (0+(i:Int)+1)))
   have stN:Set37 (setS S oi ⟨cellF ns 4 % 1152921504606846976 / (0+(i:Int)+1),0+(i:Int),0,rs,putFn (fun _=>0) pi (cellF ns 5 / (0+(i:Int)+1) % 18446744073709551616)⟩) (((i+1:Nat):Int)*1152921504606846976):=by
    rw [show ((i+1:Nat):Int)*1152921504606846976=(i:Int)*1152921504606846976+1152921504606846976 by omega]
    exact stA.put boi (fun r hr=>(hF r hr).1) hl (pg_jb hF) pz.1 pz.2 cb.1 cb.2
   have rN:Rooms K cAccount _ R (setO A oi ⟨x,dx,px,sx⟩) (setS S oi ⟨cellF ns 4 % 1152921504606846976 / (0+(i:Int)+1),0+(i:Int),0,rs,putFn (fun _=>0) pi (cellF ns 5 / (0+(i:Int)+1) % 18446744073709551616)⟩) 1:=Rooms.tight2 (ds:=[]) (m0:=1) (rK.dput (kvs':=putK kvs (Sum.inl (oi:Int)) (.ref ai)) eDK ndJ) stN.sup
   rw [hPV]
   refine ⟨sK.wr nD,_,_,_,_,rN,npJ,ndJ,stN,fun j hj o ho=>?_,Zag,Nat.le_trans (ZbG ..) (by omega),fun j y hj hy=>?_,rfl⟩
   .by_cases e:o=oi
    .rw [e];exact ⟨_,Zdw ..⟩
    .rw [ZoL _ _ e]
     by_cases hji:j=i
     .rw [hji,moi] at ho;cases ho;exact absurd rfl e
     .exact hAj j (by omega) o ho
   .rcases ZbE j y hy with ⟨rfl,rfl⟩|⟨hne,gy⟩
    .exact ⟨ai,xs,by rw [ZfI,if_pos rfl],eP1,by rw [Zcw];exact hR1⟩
    .obtain ⟨a',xs',e1,e2,e3⟩:=hPD j y hj gy
     exact ⟨a',xs',by rw [ZfI,if_neg (fun z=>hne (by have:=Sum.inl.inj z;omega))];exact e1,e2,by unfold setS;rw [if_neg hne];exact e3⟩
  intro σ1 H2 hI
  rw [hPV] at hI
  obtain ⟨s2,A,S0,kvs,v1,r2,np2,nd2,st2,hA2,eD,hkl,hPD,rfl⟩:=hI
  subst hD
  clear hPV PV
  generalize hT2:tSeq (tIfS _ _ _) _=T2
  (revert T2 hT2;refine keepIt ?_;intro T2 hT2)
  have sH2:=sH1.trans s2
  walk_at "K"
  refine ⟨a,ns,6,rfl,by decide,sH2.seq hS,?_⟩
  walk_at "K"
  rw [p64N]
  walk_at "K"
  refine ⟨a,ns,7,rfl,by decide,sH2.seq hS,?_⟩
  walk_at "K"
  obtain ⟨t,et,ht⟩:=pick40 o0 o1 o2 (cellF ns 7)
  refine ZaC (Zaw (s2 _ _ fSL)) et ?_
  walk_at "K"
  refine ⟨a,ns,7,rfl,by decide,sH2.seq hS,?_⟩
  have bt:t<16:=by rcases ht with rfl|rfl|rfl<;>assumption
  have hAll:∀ o,o=o0\/o=o1\/o=o2->∃ y,A o=some y:=fun o ho=>by
   rcases ho with rfl|rfl|rfl
   .exact hA2 0 (by decide) _ rfl
   .exact hA2 1 (by decide) _ rfl
   .exact hA2 2 (by decide) _ rfl
  obtain ⟨zt,hzt⟩:=hAll t ht
  have sok:SOk S0:=st2.up.ok (by decide)
  have hc0:=sok.co t bt
  have obt:=AcAt.ob (r2.ac t zt bt hzt)
  walk_at "K"
  refine ZaC (Zaw r2.ob) (r2.at bt hzt) ?_
  refine Zah obt tAccount.k.cl tAccount.n_coin (v:=.int (S0 t).coin) rfl ?_
  have hc1:(0:Int)<(S0 t).coin+1:=by omega
  walk_at "K"
  obtain ⟨coin,ecoin,c0,c1⟩:∃ z:Int,cellF ns 7 / 3 % ((S0 t).coin+1)=z/\0<=z/\z<=(S0 t).coin:=⟨_,rfl,Int.emod_nonneg _ (by omega),by have:=Int.emod_lt_of_pos (cellF ns 7 / 3) hc1;omega⟩
  rw [ecoin]
  clear ecoin
  refine ⟨a,ns,7,rfl,by decide,sH2.seq hS,?_⟩
  walk_at "K"
  obtain ⟨given,eg,g0,g1⟩:∃ z:Int,cellF ns 7 / 7 % 400=z/\0<=z/\z<=30000:=⟨_,rfl,by omega,by omega⟩
  rw [eg]
  clear eg
  have iw:=Zbw (cellF ns 6)
  generalize cellF ns 6 % 18446744073709551616=word at iw
  intro j jdx hj hjdx hnej
  have hj2:(upd H2 jdx (.own j)) j=none:=by rw [Zaj (Ne.symm hnej)];exact hj
  have sj:Same H2 (upd (upd H2 jdx (.own j)) j (.ins cJournal jdx [])):=(Same.new hjdx).newT hj2
  refine ⟨j,jdx,R,rfl,Zag,fun L hL=>⟨rfl,?_⟩⟩
  have hL12:=sj.fresh hL
  have nLj:L≠j:=fun q=>by rw [q,Zag] at hL;cases hL
  have s13:Same H2 (upd (upd (upd (upd H2 jdx (.own j)) j (.ins cJournal jdx [])) L (.lst [])) j (.ins cJournal jdx (jF R L))):=fun b o e=>by
   rw [Zaj (Zam e hj),Zaj (Zam e hL12)];exact sj b o e
  have J13:Jr cJournal cSave cMove cNote (upd (upd (upd (upd H2 jdx (.own j)) j (.ins cJournal jdx [])) L (.lst [])) j (.ins cJournal jdx (jF R L))) j jdx R L A []:=⟨Zag,by rw [Zaj nLj,Zag];rfl,fun _ h=>(nomatch h),Ne.symm (Zam r2.ob hL12),fun i y hi hy=>by obtain ⟨xs,e1,_⟩:=(r2.ac i y hi hy).pg;exact Ne.symm (Zam e1 hL12)⟩
  generalize upd (upd (upd (upd H2 jdx (.own j)) j (.ins cJournal jdx [])) L (.lst [])) j _=H13 at s13 J13
  have W13:Wd K cAccount cJournal cSave cMove cNote H13 j jdx R L A S0 1 []:=⟨⟨[],rfl,J13⟩,r2.same s13,trivial,st2.sup,by decide⟩
  walk_at "K"
  have s213:=s2.trans s13
  refine ⟨a,ns,6,rfl,by decide,(sH1.trans s213).seq hS,?_⟩
  walk_at "K"
  obtain ⟨q,eq,hq⟩:=pick40 o0 o1 o2 (cellF ns 6)
  refine ZaC (Zaw (s213 _ _ fSL)) eq ?_
  have bq:q<16:=by rcases hq with rfl|rfl|rfl<;>assumption
  obtain ⟨zq,hzq⟩:=hAll q hq
  obtain ⟨dsF,yF,sF,hG,⟨eF,hf⟩,sh,hW⟩:=run40 (fun i y _ _ r hr=>st2.fit i r hr) (fun i y _ _=>st2.jb i) sok hzt bt hzq bq c0 c1 iw g0 g1
  walk_at "K"
  refine ⟨j,jdx,R,L,A,S0,1,[],(t:Int),(q:Int),coin,word,given,dsF,yF,sF,rfl,W13,hG,fun pF HF WF SF2 kF=>?_⟩
  have kD:=Znk r2 s13 hL12 kF
  have dF:=SF2.dv
  have eDF:HF D=some (.dK kvs):=kF D _ (s13 _ _ eD) fun z=>z.elim (fun w=>w fun i x hi hx=>⟨Za6 eD (AcAt.ob (r2.ac i x hi hx)) (by intro z;cases z),Ne.symm (nd2 i x hi hx)⟩) (fun w=>absurd w (Zam eD hL12))
  have hPF:PDat K HF A S0 D kvs:=⟨eDF,fun i ac hi ha=>by
   obtain ⟨b,xs,e1,e2,e3⟩:=hPD i ac hi ha
   exact ⟨b,xs,e1,kD.sl (Zaw (s2 _ _ e2)),ZjV (e3.keep s2.imm) kD⟩⟩
  subst hT2
  have hRw:RwOk S0:=⟨st2.fit,st2.jb,fun i=>Nat.le_trans (st2.len i) (by decide)⟩
  walk_at "K"
  refine ⟨.ref pF,D,given,false,yF,sF,A,S0,kvs,rfl,dF,hW,hPF,hRw,fun HG sG=>?_⟩
  obtain ⟨T,LT,wsT,eT,hT,_,_⟩:=ZbN (dF.keep sG) hf
  cases eT
  have y1:yF.kind = "call" := sh.kind
  have y2:yF.who=(q:Int):=sh.who
  have y3:yF.whose=(q:Int):=sh.whose
  have y4:yF.caller=(t:Int):=sh.caller
  have y5:yF.coin=coin:=sh.coin
  have y6:yF.word=word:=sh.word
  have y7:yF.given=given:=sh.given
  rw [y1,y2,y3,y4,y5,y6,y7] at hT
  repeat' walk_at "rdk"
  all_goals first|exact absurd rfl (by assumption)|skip
  refine ⟨pF,_,rfl,hT,(fun z=>absurd z.1 (by show ¬ HT.sIx 11 0 (some 3)=0;decide)),fun S1 p1=>?_⟩
  have z0:Gw HG HG []:=Gw.start
  generalize e_:upd _ S1 _=Z1;have z1:=z0.newE p1 e_;clear e_;walk_at "K"
  walk_at "K"
  refine ⟨szl_4,fun S2 q_S2=>?_⟩
  generalize e_:upd _ S2 _=Z2;have z2:=z1.newE q_S2 e_;clear e_;walk_at "K"
  refine ZhN (d:=.tup [.int (t:Int),.int coin,.int word,.int given]) (ZcP (Zar z2.h.2.1) (Zat ZaU (Zat ZaU (Zat ZaU (Zat ZaU Za7))))) (ZcP (Zar z2.h.1) (Zat ZaU (Zat ZaU (Zat ZaU (Zat ZaU Za7))))) (by simp [Dt.dep,Dt.deps]) ?_
  exact k _
end
section
variable {P:Program} {w:World} {K:PySem.W.Frag} {mg:Str->Option Value} {base:Heap}
theorem ZoO {h:Heap} {aT:Addr} {es:Array DictEntry} {ep:Nat} {l:List (Str×Tok×Value)} {a1 a2 a3 a4 a5 a6 a7 a8 a9 a10 a11 a12 a13 a14 a15 a16 a17 a18 a19 a20 a21 a22 a23 a24 a25 a26 a27 a28 a29 a30 a31:Addr} (X:K.In h) (G:h.Ns mainGlobals mg) (a:PySem.W.nsIn K mainGlobals "ROWS" = some (some (.ref aT))) (lk:K.lookup aT=some ⟨.type "dict", none,.dict es ep,#[]⟩)
  (he:entsOf es=l) (h2:es=(l.map (sEnt w)).toArray) (h3:l.map (fun p=>(p.1,p.2.2))=[(("push" : Str),Value.ref a1),(("drop" : Str),Value.ref a2),(("copy" : Str),Value.ref a3),(("swap" : Str),Value.ref a4),(("add" : Str),Value.ref a5),(("minus" : Str),Value.ref a6),(("times" : Str),Value.ref a7),(("over" : Str),Value.ref a8),(("rest" : Str),Value.ref a9),(("below" : Str),Value.ref a10),(("same" : Str),Value.ref a11),(("both" : Str),Value.ref a12),(("either" : Str),Value.ref a13),(("unlike" : Str),Value.ref a14),(("up" : Str),Value.ref a15),(("down" : Str),Value.ref a16),(("jump" : Str),Value.ref a17),(("jumpif" : Str),Value.ref a18),(("load" : Str),Value.ref a19),(("save" : Str),Value.ref a20),(("me" : Str),Value.ref a21),(("from" : Str),Value.ref a22),(("sent" : Str),Value.ref a23),(("word" : Str),Value.ref a24),(("coin" : Str),Value.ref a25),(("note" : Str),Value.ref a26),(("call" : Str),Value.ref a27),(("borrow" : Str),Value.ref a28),(("look" : Str),Value.ref a29),(("give" : Str),Value.ref a30),(("fail" : Str),Value.ref a31)])
  (t1:TupK K a1 [.int 0,.int 1,.int 1,.int 1]) (t2:TupK K a2 [.int 1,.int 0,.int 1,.int 1]) (t3:TupK K a3 [.int 1,.int 2,.int 1,.int 1]) (t4:TupK K a4 [.int 1,.int 1,.int 1,.int 1]) (t5:TupK K a5 [.int 2,.int 1,.int 1,.int 1]) (t6:TupK K a6 [.int 2,.int 1,.int 1,.int 1]) (t7:TupK K a7 [.int 2,.int 1,.int 2,.int 2]) (t8:TupK K a8 [.int 2,.int 1,.int 2,.int 2]) (t9:TupK K a9 [.int 2,.int 1,.int 2,.int 2]) (t10:TupK K a10 [.int 2,.int 1,.int 1,.int 1]) (t11:TupK K a11 [.int 2,.int 1,.int 1,.int 1]) (t12:TupK K a12 [.int 2,.int 1,.int 1,.int 1]) (t13:TupK K a13 [.int 2,.int 1,.int 1,.int 1]) (t14:TupK K a14 [.int 2,.int 1,.int 1,.int 1]) (t15:TupK K a15 [.int 2,.int 1,.int 1,.int 1]) (t16:TupK K a16 [.int 2,.int 1,.int 1,.int 1]) (t17:TupK K a17 [.int 0,.int 0,.int 1,.int 1]) (t18:TupK K a18 [.int 1,.int 0,.int 1,.int 1]) (t19:TupK K a19 [.int 1,.int 1,.int 3,.int 3]) (t20:TupK K a20 [.int 2,.int 0,.int 5,.int 12]) (t21:TupK K a21 [.int 0,.int 1,.int 1,.int 1]) (t22:TupK K a22 [.int 0,.int 1,.int 1,.int 1]) (t23:TupK K a23 [.int 0,.int 1,.int 1,.int 1]) (t24:TupK K a24 [.int 0,.int 1,.int 1,.int 1]) (t25:TupK K a25 [.int 1,.int 1,.int 3,.int 3]) (t26:TupK K a26 [.int 1,.int 0,.int 4,.int 4]) (t27:TupK K a27 [.int 4,.int 2,.int 8,.int 12]) (t28:TupK K a28 [.int 3,.int 2,.int 6,.int 6]) (t29:TupK K a29 [.int 3,.int 2,.int 6,.int 6]) (t30:TupK K a30 [.int 1,.int 0,.int 1,.int 1]) (t31:TupK K a31 [.int 1,.int 0,.int 1,.int 1]):∃ aT:Addr,Za0 mg "ROWS" (.ref aT)/\Zg2 P w K aT:=by
 subst he
 have d:=ZeB (P:=P) (w:=w) lk h2 (by
  have e:(entsOf es).map (·.1)=((entsOf es).map (fun p=>(p.1,p.2.2))).map (·.1):=by rw [List.map_map];rfl
  rw [e,h3]
  show (["push", "drop", "copy", "swap", "add", "minus", "times", "over", "rest", "below", "same", "both", "either", "unlike", "up", "down", "jump", "jumpif", "load", "save", "me", "from", "sent", "word", "coin", "note", "call", "borrow", "look", "give", "fail"]:List Str).Nodup
  decide +kernel)
 have e:((entsOf es).map fun p=>((Sum.inr p.1:Key),p.2.2))=((entsOf es).map (fun p=>(p.1,p.2.2))).map fun q=>((Sum.inr q.1:Key),q.2):=by rw [List.map_map];rfl
 rw [e,h3] at d
 refine ⟨aT,ZcF X G a,_,d,fun x t l p dd hx=>?_⟩
 have hm:=Zbk hx
 simp only [RT,List.mem_cons,Prod.mk.injEq,List.not_mem_nil,or_false] at hm
 rcases hm with ⟨rfl,rfl,rfl,rfl,rfl⟩|⟨rfl,rfl,rfl,rfl,rfl⟩|⟨rfl,rfl,rfl,rfl,rfl⟩|⟨rfl,rfl,rfl,rfl,rfl⟩|⟨rfl,rfl,rfl,rfl,rfl⟩|⟨rfl,rfl,rfl,rfl,rfl⟩|⟨rfl,rfl,rfl,rfl,rfl⟩|⟨rfl,rfl,rfl,rfl,rfl⟩|⟨rfl,rfl,rfl,rfl,rfl⟩|⟨rfl,rfl,rfl,rfl,rfl⟩|⟨rfl,rfl,rfl,rfl,rfl⟩|⟨rfl,rfl,rfl,rfl,rfl⟩|⟨rfl,rfl,rfl,rfl,rfl⟩|⟨rfl,rfl,rfl,rfl,rfl⟩|⟨rfl,rfl,rfl,rfl,rfl⟩|⟨rfl,rfl,rfl,rfl,rfl⟩|⟨rfl,rfl,rfl,rfl,rfl⟩|⟨rfl,rfl,rfl,rfl,rfl⟩|⟨rfl,rfl,rfl,rfl,rfl⟩|⟨rfl,rfl,rfl,rfl,rfl⟩|⟨rfl,rfl,rfl,rfl,rfl⟩|⟨rfl,rfl,rfl,rfl,rfl⟩|⟨rfl,rfl,rfl,rfl,rfl⟩|⟨rfl,rfl,rfl,rfl,rfl⟩|⟨rfl,rfl,rfl,rfl,rfl⟩|⟨rfl,rfl,rfl,rfl,rfl⟩|⟨rfl,rfl,rfl,rfl,rfl⟩|⟨rfl,rfl,rfl,rfl,rfl⟩|⟨rfl,rfl,rfl,rfl,rfl⟩|⟨rfl,rfl,rfl,rfl,rfl⟩|⟨rfl,rfl,rfl,rfl,rfl⟩
 .exact ⟨_,rfl,t1⟩
 .exact ⟨_,rfl,t2⟩
 .exact ⟨_,rfl,t3⟩
 .exact ⟨_,rfl,t4⟩
 .exact ⟨_,rfl,t5⟩
 .exact ⟨_,rfl,t6⟩
 .exact ⟨_,rfl,t7⟩
 .exact ⟨_,rfl,t8⟩
 .exact ⟨_,rfl,t9⟩
 .exact ⟨_,rfl,t10⟩
 .exact ⟨_,rfl,t11⟩
 .exact ⟨_,rfl,t12⟩
 .exact ⟨_,rfl,t13⟩
 .exact ⟨_,rfl,t14⟩
 .exact ⟨_,rfl,t15⟩
 .exact ⟨_,rfl,t16⟩
 .exact ⟨_,rfl,t17⟩
 .exact ⟨_,rfl,t18⟩
 .exact ⟨_,rfl,t19⟩
 .exact ⟨_,rfl,t20⟩
 .exact ⟨_,rfl,t21⟩
 .exact ⟨_,rfl,t22⟩
 .exact ⟨_,rfl,t23⟩
 .exact ⟨_,rfl,t24⟩
 .exact ⟨_,rfl,t25⟩
 .exact ⟨_,rfl,t26⟩
 .exact ⟨_,rfl,t27⟩
 .exact ⟨_,rfl,t28⟩
 .exact ⟨_,rfl,t29⟩
 .exact ⟨_,rfl,t30⟩
 .exact ⟨_,rfl,t31⟩
theorem ZoP {h:Heap} {aS:Addr} {es:Array DictEntry} {ep:Nat} {l:List (Str×Tok×Value)} {u1 u2 u3 u4 u5 u6 u7 u8 u9 u10 u11 u12:Value} (X:K.In h) (G:h.Ns mainGlobals mg) (a:PySem.W.nsIn K mainGlobals "SUMS" = some (some (.ref aS))) (lk:K.lookup aS=some ⟨.type "dict", none,.dict es ep,#[]⟩)
  (he:entsOf es=l) (h2:es=(l.map (sEnt w)).toArray) (h3:l.map (fun p=>(p.1,p.2.2))=[(("add" : Str),u1),(("minus" : Str),u2),(("times" : Str),u3),(("over" : Str),u4),(("rest" : Str),u5),(("below" : Str),u6),(("same" : Str),u7),(("both" : Str),u8),(("either" : Str),u9),(("unlike" : Str),u10),(("up" : Str),u11),(("down" : Str),u12)])
  (a1:PySem.W.nsIn K mainGlobals "added" = some (some u1)) (a2:PySem.W.nsIn K mainGlobals "lessened" = some (some u2)) (a3:PySem.W.nsIn K mainGlobals "multiplied" = some (some u3)) (a4:PySem.W.nsIn K mainGlobals "contained" = some (some u4)) (a5:PySem.W.nsIn K mainGlobals "left_over" = some (some u5)) (a6:PySem.W.nsIn K mainGlobals "is_below" = some (some u6)) (a7:PySem.W.nsIn K mainGlobals "is_same" = some (some u7)) (a8:PySem.W.nsIn K mainGlobals "in_both" = some (some u8)) (a9:PySem.W.nsIn K mainGlobals "in_either" = some (some u9)) (a10:PySem.W.nsIn K mainGlobals "in_just_one" = some (some u10)) (a11:PySem.W.nsIn K mainGlobals "doubled" = some (some u11)) (a12:PySem.W.nsIn K mainGlobals "halved" = some (some u12)):∃ (aS:Addr) (u1 u2 u3 u4 u5 u6 u7 u8 u9 u10 u11 u12:Value),Za0 mg "SUMS" (.ref aS)/\Zdl P w K aS [(Sum.inr "add", u1),(Sum.inr "minus", u2),(Sum.inr "times", u3),(Sum.inr "over", u4),(Sum.inr "rest", u5),(Sum.inr "below", u6),(Sum.inr "same", u7),(Sum.inr "both", u8),(Sum.inr "either", u9),(Sum.inr "unlike", u10),(Sum.inr "up", u11),(Sum.inr "down", u12)]/\mg "added" = some u1/\mg "lessened" = some u2/\mg "multiplied" = some u3/\mg "contained" = some u4/\mg "left_over" = some u5/\mg "is_below" = some u6/\mg "is_same" = some u7/\mg "in_both" = some u8/\mg "in_either" = some u9/\mg "in_just_one" = some u10/\mg "doubled" = some u11/\mg "halved" = some u12:=by
 subst he
 refine ⟨aS,u1,u2,u3,u4,u5,u6,u7,u8,u9,u10,u11,u12,ZcF X G a,?_,PySem.W.mg_of X G a1,PySem.W.mg_of X G a2,PySem.W.mg_of X G a3,PySem.W.mg_of X G a4,PySem.W.mg_of X G a5,PySem.W.mg_of X G a6,PySem.W.mg_of X G a7,PySem.W.mg_of X G a8,PySem.W.mg_of X G a9,PySem.W.mg_of X G a10,PySem.W.mg_of X G a11,PySem.W.mg_of X G a12⟩
 have d:=ZeB (P:=P) (w:=w) lk h2 (by
  have e:(entsOf es).map (·.1)=((entsOf es).map (fun p=>(p.1,p.2.2))).map (·.1):=by rw [List.map_map];rfl
  rw [e,h3]
  show (["add", "minus", "times", "over", "rest", "below", "same", "both", "either", "unlike", "up", "down"]:List Str).Nodup
  decide +kernel)
 have e:((entsOf es).map fun p=>((Sum.inr p.1:Key),p.2.2))=((entsOf es).map (fun p=>(p.1,p.2.2))).map fun q=>((Sum.inr q.1:Key),q.2):=by rw [List.map_map];rfl
 rw [e,h3] at d
 exact d
theorem do_at {h:Heap} {aD:Addr} {es:Array DictEntry} {ep:Nat} {l:List (Str×Tok×Value)} {u1 u2 u3 u4 u5 u6 u7 u8 u9 u10 u11 u12 u13 u14 u15 u16 u17:Value} (X:K.In h) (G:h.Ns mainGlobals mg) (a:PySem.W.nsIn K mainGlobals "DOINGS" = some (some (.ref aD))) (lk:K.lookup aD=some ⟨.type "dict", none,.dict es ep,#[]⟩)
  (he:entsOf es=l) (h2:es=(l.map (sEnt w)).toArray) (h3:l.map (fun p=>(p.1,p.2.2))=[(("push" : Str),u1),(("drop" : Str),u2),(("copy" : Str),u3),(("swap" : Str),u4),(("add" : Str),u5),(("minus" : Str),u5),(("times" : Str),u5),(("over" : Str),u5),(("rest" : Str),u5),(("below" : Str),u5),(("same" : Str),u5),(("both" : Str),u5),(("either" : Str),u5),(("unlike" : Str),u5),(("up" : Str),u5),(("down" : Str),u5),(("jump" : Str),u6),(("jumpif" : Str),u7),(("load" : Str),u8),(("save" : Str),u9),(("me" : Str),u10),(("from" : Str),u11),(("sent" : Str),u12),(("word" : Str),u13),(("coin" : Str),u14),(("note" : Str),u15),(("give" : Str),u16),(("fail" : Str),u17)])
  (a_push_row:PySem.W.nsIn K mainGlobals "push_row" = some (some u1)) (a_drop_row:PySem.W.nsIn K mainGlobals "drop_row" = some (some u2)) (a_copy_row:PySem.W.nsIn K mainGlobals "copy_row" = some (some u3)) (a_swap_row:PySem.W.nsIn K mainGlobals "swap_row" = some (some u4)) (a_reckon_row:PySem.W.nsIn K mainGlobals "reckon_row" = some (some u5)) (a_jump_row:PySem.W.nsIn K mainGlobals "jump_row" = some (some u6)) (a_jumpif_row:PySem.W.nsIn K mainGlobals "jumpif_row" = some (some u7)) (a_load_row:PySem.W.nsIn K mainGlobals "load_row" = some (some u8)) (a_save_row:PySem.W.nsIn K mainGlobals "save_row" = some (some u9)) (a_me_row:PySem.W.nsIn K mainGlobals "me_row" = some (some u10)) (a_from_row:PySem.W.nsIn K mainGlobals "from_row" = some (some u11)) (a_sent_row:PySem.W.nsIn K mainGlobals "sent_row" = some (some u12)) (a_word_row:PySem.W.nsIn K mainGlobals "word_row" = some (some u13)) (a_coin_row:PySem.W.nsIn K mainGlobals "coin_row" = some (some u14)) (a_note_row:PySem.W.nsIn K mainGlobals "note_row" = some (some u15)) (a_give_row:PySem.W.nsIn K mainGlobals "give_row" = some (some u16)) (a_fail_row:PySem.W.nsIn K mainGlobals "fail_row" = some (some u17)):∃ (aD:Addr) (u1 u2 u3 u4 u5 u6 u7 u8 u9 u10 u11 u12 u13 u14 u15 u16 u17:Value),Za0 mg "DOINGS" (.ref aD)/\Zdl P w K aD [(Sum.inr "push", u1),(Sum.inr "drop", u2),(Sum.inr "copy", u3),(Sum.inr "swap", u4),(Sum.inr "add", u5),(Sum.inr "minus", u5),(Sum.inr "times", u5),(Sum.inr "over", u5),(Sum.inr "rest", u5),(Sum.inr "below", u5),(Sum.inr "same", u5),(Sum.inr "both", u5),(Sum.inr "either", u5),(Sum.inr "unlike", u5),(Sum.inr "up", u5),(Sum.inr "down", u5),(Sum.inr "jump", u6),(Sum.inr "jumpif", u7),(Sum.inr "load", u8),(Sum.inr "save", u9),(Sum.inr "me", u10),(Sum.inr "from", u11),(Sum.inr "sent", u12),(Sum.inr "word", u13),(Sum.inr "coin", u14),(Sum.inr "note", u15),(Sum.inr "give", u16),(Sum.inr "fail", u17)]/\mg "push_row" = some u1/\mg "drop_row" = some u2/\mg "copy_row" = some u3/\mg "swap_row" = some u4/\mg "reckon_row" = some u5/\mg "jump_row" = some u6/\mg "jumpif_row" = some u7/\mg "load_row" = some u8/\mg "save_row" = some u9/\mg "me_row" = some u10/\mg "from_row" = some u11/\mg "sent_row" = some u12/\mg "word_row" = some u13/\mg "coin_row" = some u14/\mg "note_row" = some u15/\mg "give_row" = some u16/\mg "fail_row" = some u17:=by
 subst he
 refine ⟨aD,u1,u2,u3,u4,u5,u6,u7,u8,u9,u10,u11,u12,u13,u14,u15,u16,u17,ZcF X G a,?_,PySem.W.mg_of X G a_push_row,PySem.W.mg_of X G a_drop_row,PySem.W.mg_of X G a_copy_row,PySem.W.mg_of X G a_swap_row,PySem.W.mg_of X G a_reckon_row,PySem.W.mg_of X G a_jump_row,PySem.W.mg_of X G a_jumpif_row,PySem.W.mg_of X G a_load_row,PySem.W.mg_of X G a_save_row,PySem.W.mg_of X G a_me_row,PySem.W.mg_of X G a_from_row,PySem.W.mg_of X G a_sent_row,PySem.W.mg_of X G a_word_row,PySem.W.mg_of X G a_coin_row,PySem.W.mg_of X G a_note_row,PySem.W.mg_of X G a_give_row,PySem.W.mg_of X G a_fail_row⟩
 have d:=ZeB (P:=P) (w:=w) lk h2 (by
  have e:(entsOf es).map (·.1)=((entsOf es).map (fun p=>(p.1,p.2.2))).map (·.1):=by rw [List.map_map];rfl
  rw [e,h3]
  show (["push", "drop", "copy", "swap", "add", "minus", "times", "over", "rest", "below", "same", "both", "either", "unlike", "up", "down", "jump", "jumpif", "load", "save", "me", "from", "sent", "word", "coin", "note", "give", "fail"]:List Str).Nodup
  decide +kernel)
 have e:((entsOf es).map fun p=>((Sum.inr p.1:Key),p.2.2))=((entsOf es).map (fun p=>(p.1,p.2.2))).map fun q=>((Sum.inr q.1:Key),q.2):=by rw [List.map_map];rfl
 rw [e,h3] at d
 exact d
theorem ZlV:FnScope ["self", "kind", "who", "whose", "caller", "coin", "word", "given", "depth", "looking"] ["self", "kind", "who", "whose", "caller", "coin", "word", "given", "depth", "looking"] (Zaf ZaE):=by walk_at "c"
theorem ZhA {cFrame:Addr} {tok:Tok} (D:Zck K cFrame "__init__" "Frame.__init__" ZaE #[.int 1 tok,.bool false]) (tFrame:T_Frame K mg cFrame) (ds:List Value) {dvs:List V} (v:Vals dvs ds)
  (hb:∀ (T:Addr) (kV doc pm:Value) (an:Option Addr) (cdv ct:Value) (us:List Value),(us++ds).length=10->∃ k:Option (Array Value)->Sem (List (Str×Value)),bindArgs (PySem.W.fnOf "__init__" "Frame.__init__" (Zbd ZaE) (ZaZ ZaE) (Zaf ZaE) (.ref T) kV doc pm an cdv ct) ⟨us,[]⟩=seqItems? (.ref T) >>= k/\k (some #[.int 1 tok,.bool false])=pure ((["self", "kind", "who", "whose", "caller", "coin", "word", "given", "depth", "looking"]:List Str).zip (us++ds))):ZhP P w K mg base 1 "Frame" cFrame (ZeW cFrame) dvs:=by
 refine Zmy D tFrame.k ZlV (fun vs H Q E h=>?_) (fun f cdv A outer s H vs Q E hr h=>?_) ds v hb
 .obtain ⟨a,dx,kind,who,whose,caller,coin,word,given,depth,looking,rfl,_⟩:=h;rfl
 .obtain ⟨a,dx,kind,who,whose,caller,coin,word,given,depth,looking,rfl,ha,k⟩:=h
  refine ⟨_,(Zab (ZaS (pv 0) (pv 1) rfl)
   (Zab (ZaS (pv 0) (pv 2) rfl)
   (Zab (ZaS (pv 0) (pv 3) rfl)
   (Zab (ZaS (pv 0) (pv 4) rfl)
   (Zab (ZaS (pv 0) (pv 5) rfl)
   (Zab (ZaS (pv 0) (pv 6) rfl)
   (Zab (ZaS (pv 0) (pv 7) rfl)
   (Zab (ZaS (pv 0) (pv 8) rfl)
   (Zab (ZaS (pv 0) (pv 9) rfl)
   (Zab (ZaS (pv 0) Zac rfl)
   (Zab (ZaS (pv 0) (ZaM Zad) rfl)
   (Zab (ZaS (pv 0) Zac rfl)
   (Zab (ZaS (pv 0) (ZaM Zad) rfl)
   (Zab (ZaS (pv 0) Zca rfl)
   (Zae (ZaS (pv 0) Zac rfl)))))))))))))))),?_⟩
  walk_at "nx"
  walk_at "K"
  refine ZaD ha tFrame.k.cl tFrame.n_kind (by decide) ?_
  walk_at "K"
  refine ZaD Zag tFrame.k.cl tFrame.n_who (by show 1<1000;decide) ?_
  rw [ZaT]
  walk_at "K"
  refine ZaD Zag tFrame.k.cl tFrame.n_whose (by show 2<1000;decide) ?_
  rw [ZaT]
  walk_at "K"
  refine ZaD Zag tFrame.k.cl tFrame.n_caller (by show 3<1000;decide) ?_
  rw [ZaT]
  walk_at "K"
  refine ZaD Zag tFrame.k.cl tFrame.n_coin (by show 4<1000;decide) ?_
  rw [ZaT]
  walk_at "K"
  refine ZaD Zag tFrame.k.cl tFrame.n_word (by show 5<1000;decide) ?_
  rw [ZaT]
  walk_at "K"
  refine ZaD Zag tFrame.k.cl tFrame.n_given (by show 6<1000;decide) ?_
  rw [ZaT]
  walk_at "K"
  refine ZaD Zag tFrame.k.cl tFrame.n_depth (by show 7<1000;decide) ?_
  rw [ZaT]
  walk_at "K"
  refine ZaD Zag tFrame.k.cl tFrame.n_looking (by show 8<1000;decide) ?_
  rw [ZaT]
  walk_at "K"
  refine ZaD Zag tFrame.k.cl tFrame.n_used (by show 9<1000;decide) ?_
  rw [ZaT]
  walk_at "K"
  refine ⟨by decide,fun l hl=>?_⟩
  have nl:l≠a:=fun z=>by rw [z,Zag] at hl;cases hl
  have hlH:H l=none:=by rw [Zaj nl] at hl;exact hl
  walk_at "K"
  refine ZaD (by rw [Zaj (Ne.symm nl)];exact Zag) tFrame.k.cl tFrame.n_stack (by show 10<1000;decide) ?_
  walk_at "K"
  refine ZaD Zag tFrame.k.cl tFrame.n_row (by show 11<1000;decide) ?_
  rw [ZaT]
  walk_at "K"
  refine ⟨by decide,fun q hq=>?_⟩
  have nq:q≠a:=fun z=>by rw [z,Zag] at hq;cases hq
  have nql:q≠l:=fun z=>by rw [Zaj nq,z,Zag] at hq;cases hq
  have hqH:H q=none:=by rw [Zaj nq,Zaj nql,Zaj nq] at hq;exact hq
  walk_at "K"
  refine ZaD (by rw [Zaj (Ne.symm nq)];exact Zag) tFrame.k.cl tFrame.n_steps (by show 12<1000;decide) ?_
  walk_at "K"
  refine ZaD Zag tFrame.k.cl tFrame.n_end (by show 13<1000;decide) ?_
  rw [ZaT]
  walk_at "K"
  refine ZaD Zag tFrame.k.cl tFrame.n_answer (by show 14<1000;decide) ?_
  rw [ZaT]
  refine k l q _ hlH hqH ⟨?_,?_,?_,Ne.symm nql⟩ ?_
  .show upd _ a _ a=_
   rw [Zag];rfl
  .show upd _ a _ l=_
   rw [Zaj nl,Zaj (Ne.symm nql),Zaj nl,Zag];rfl
  .show upd _ a _ q=_
   rw [Zaj nq,Zag]
  .intro b o e n
   rw [Zaj n,Zaj (Zam e hqH),Zaj n,Zaj (Zam e hlH),Zaj n]
   exact e
theorem mkFI {K:PySem.W.Frag} {h:Heap} {mg:Str->Option Value} {C f T:Addr} {oc c2:Value} {od an d2:Option Addr} {osl s2:Array (Option Value)} {kV doc pm cdv ct:Value} {tok:Tok} {n:Nat} (X:K.In h) (G:h.Ns mainGlobals mg) (aC:PySem.W.nsIn K mainGlobals "Frame" = some (some (.ref C)))
  (a:PySem.W.findIn K (.ref C) "__init__" = some (some (.ref f))) (i:PySem.W.isFn K (.ref f)=true) (l:K.lookup f=some ⟨oc,od,.func (PySem.W.fnOf "__init__" "Frame.__init__" (Zbd ZaE) (ZaZ ZaE) (Zaf ZaE) (.ref T) kV doc pm an cdv ct),osl⟩)
  (c:PySem.W.codeIn K cdv "Frame.__init__" = true) (k:PySem.W.keepIn K (.ref f)=true) (d:K.lookup T=some ⟨c2,d2,.seq #[.int 1 tok,.bool false] n,s2⟩):∃ C tok,mg "Frame" = some (.ref C)/\Zck K C "__init__" "Frame.__init__" ZaE #[.int 1 tok,.bool false] :=
 ⟨C,tok,PySem.W.mg_of X G aC,Zjz a i l c k d⟩
theorem ZlW {P:Program} {w:World} {K:PySem.W.Frag} {mg:Str->Option Value} {base:Heap} {cFrame:Addr} {tok:Tok} (D:Zck K cFrame "__init__" "Frame.__init__" ZaE #[.int 1 tok,.bool false]) (tFrame:T_Frame K mg cFrame):ZhP P w K mg base 1 "Frame" cFrame (ZeW cFrame) [.int 1,.bl false] :=
 ZhA D tFrame [.int 1 tok,.bool false] (.cons ⟨_,rfl⟩ (.cons rfl .nil)) (fun T kV doc pm an cdv ct us hl=>bd8 (R:=fun us=>∃ k:Option (Array Value)->Sem (List (Str×Value)),bindArgs _ ⟨us,[]⟩=seqItems? (.ref T) >>= k/\k (some _)=pure (List.zip _ (us++[.int 1 tok,.bool false]))) (fun _ _ _ _ _ _ _ _=>⟨_,rfl,rfl⟩) us (by rw [List.length_append] at hl;exact Nat.add_right_cancel hl))
theorem ZlX {P:Program} {w:World} {K:PySem.W.Frag} {mg:Str->Option Value} {base:Heap} {cFrame:Addr} {tok:Tok} (D:Zck K cFrame "__init__" "Frame.__init__" ZaE #[.int 1 tok,.bool false]) (tFrame:T_Frame K mg cFrame):ZhP P w K mg base 1 "Frame" cFrame (ZeW cFrame) [] :=
 ZhA D tFrame [] .nil (fun T kV doc pm an cdv ct us hl=>bd10 (R:=fun us=>∃ k:Option (Array Value)->Sem (List (Str×Value)),bindArgs _ ⟨us,[]⟩=seqItems? (.ref T) >>= k/\k (some _)=pure (List.zip _ (us++[]))) (fun _ _ _ _ _ _ _ _ _ _=>⟨_,rfl,rfl⟩) us (by rw [List.length_append] at hl;exact hl))
end
end My
open PySem PySem.W PyProof.Rows
local macro_rules|`(tactic| walk_at "vals")=>`(tactic| first
 | exact L2.Zmo
 | (refine L2.Zmp ?_;walk_at "vals")
 | (refine L2.Zmq ?_;walk_at "vals")
 | fail)
abbrev My.PP:=PySem.Challenge.rw_meterhouse_k40_whole_price_and_rows.prog
local macro_rules|`(tactic| walk_at "D")=>`(tactic| (dsimp only [L2.KOf];refine' L2.Zmi (by assumption) (by assumption) ?a ?l ?c ?k;(case a=>k_is);(case l=>k_is);(case c=>k_is);(case k=>k_is)))
local macro_rules|`(tactic| walk_at "E")=>`(tactic| (dsimp only [L2.KOf];refine' L2.ZkL ?a ?i ?l ?c ?k;(case a=>k_is);(case i=>k_is);(case l=>k_is);(case c=>k_is);(case k=>k_is)))
theorem My.naK {K:PySem.W.Frag} {C:Addr} {a:Str} (h:PySem.W.findIn K (.ref C) a=some none):L2.NoAttr K C a:=h
theorem My.clK {K:PySem.W.Frag} {h:Heap} {mg:Str->Option Value} {C:Addr} {x:Str} (X:K.In h) (G:h.Ns mainGlobals mg) (aC:PySem.W.nsIn K mainGlobals x=some (some (.ref C))) (pg:PySem.W.plainGet K C Str.empty=true) (hd:PySem.W.hasDictIn K C=true) (po:PySem.W.plainOver K C=true) (sa:PySem.W.findIn K (.ref C) "__setattr__" = some (some (.builtin "object.__setattr__"))) (mk:PySem.W.makesIn K C=true) (kc:PySem.W.keepIn K (.ref C)=true):L2.ClsF K mg x C:=⟨⟨pg,hd,po,sa⟩,mk,kc,PySem.W.mg_of X G aC⟩
local macro_rules|`(tactic| walk_at "T")=>`(tactic| (dsimp only [L2.KOf];refine' My.clK (by assumption) (by assumption) ?a ?b ?c ?d ?e ?f ?g;(case a=>k_is);(case b=>k_is);(case c=>k_is);(case d=>k_is);(case e=>k_is);(case f=>k_is);(case g=>k_is)))
local macro_rules|`(tactic| walk_at "A")=>`(tactic| (dsimp only [L2.KOf];refine' My.naK ?a;(case a=>k_is)))
local macro_rules|`(tactic| walk_at "N")=>`(tactic| (refine' PySem.W.mg_none_of (by assumption) (by assumption) ?a;(case a=>k_is)))
set_option maxRecDepth 100000 in
set_option maxHeartbeats 0 in
theorem PySem.Challenge.cw_meterhouse_k40_whole_price_and_rows_holds : PySem.Challenge.rw_meterhouse_k40_whole_price_and_rows.Holds := by
 refine Qhd ?_
 k_fill
 refine L2.Zmh (l:=PySem.Challenge.rw_meterhouse_k40_whole_price_and_rows) (n:=63) (k:=50) (x := "_law_script") (CX:=L2.CX0) (sp:=My.spLaw) rfl (by decide) rfl ⟨rfl,by decide,by decide⟩ (fun w h Y=>PySem.W.kIn_of Y) ?F ?S ?C
 case F =>
  intro w mg fa h KX G hmg
  have D_added:L2.Zaq (L2.KOf KX) mg "added" My.ZhT:=by walk_at "D"
  have D_lessened:L2.Zaq (L2.KOf KX) mg "lessened" My.Zdz:=by walk_at "D"
  have D_multiplied:L2.Zaq (L2.KOf KX) mg "multiplied" My.Zco:=by walk_at "D"
  have D_contained:L2.Zaq (L2.KOf KX) mg "contained" My.ZcR:=by walk_at "D"
  have D_left_over:L2.Zaq (L2.KOf KX) mg "left_over" My.ZcS:=by walk_at "D"
  have D_is_below:L2.Zaq (L2.KOf KX) mg "is_below" My.ZdA:=by walk_at "D"
  have D_is_same:L2.Zaq (L2.KOf KX) mg "is_same" My.ZeH:=by walk_at "D"
  have D_in_both:L2.Zaq (L2.KOf KX) mg "in_both" My.ZeI:=by walk_at "D"
  have D_in_either:L2.Zaq (L2.KOf KX) mg "in_either" My.ZcT:=by walk_at "D"
  have D_in_just_one:L2.Zaq (L2.KOf KX) mg "in_just_one" My.Zb4:=by walk_at "D"
  have D_doubled:L2.Zaq (L2.KOf KX) mg "doubled" My.ZeJ:=by walk_at "D"
  have D_halved:L2.Zaq (L2.KOf KX) mg "halved" My.ZfS:=by walk_at "D"
  have D_reckon:L2.Zaq (L2.KOf KX) mg "reckon" My.ZfT:=by walk_at "D"
  have D_reach:L2.Zaq (L2.KOf KX) mg "reach" My.ZhQ:=by walk_at "D"
  have D_takes:L2.Zaq (L2.KOf KX) mg "takes" My.ZhR:=by walk_at "D"
  have D_leaves:L2.Zaq (L2.KOf KX) mg "leaves" My.ZfR:=by walk_at "D"
  have D_shift_coin:L2.Zaq (L2.KOf KX) mg "shift_coin" My.Zcn:=by walk_at "D"
  have D_push_row:L2.Zaq (L2.KOf KX) mg "push_row" My.ZdB:=by walk_at "D"
  have D_drop_row:L2.Zaq (L2.KOf KX) mg "drop_row" My.ZdC:=by walk_at "D"
  have D_copy_row:L2.Zaq (L2.KOf KX) mg "copy_row" My.ZdD:=by walk_at "D"
  have D_swap_row:L2.Zaq (L2.KOf KX) mg "swap_row" My.ZdE:=by walk_at "D"
  have D_reckon_row:L2.Zaq (L2.KOf KX) mg "reckon_row" My.Zcq:=by walk_at "D"
  have D_jump_row:L2.Zaq (L2.KOf KX) mg "jump_row" My.ZdF:=by walk_at "D"
  have D_jumpif_row:L2.Zaq (L2.KOf KX) mg "jumpif_row" My.Zcr:=by walk_at "D"
  have D_me_row:L2.Zaq (L2.KOf KX) mg "me_row" My.ZfU:=by walk_at "D"
  have D_from_row:L2.Zaq (L2.KOf KX) mg "from_row" My.ZdI:=by walk_at "D"
  have D_sent_row:L2.Zaq (L2.KOf KX) mg "sent_row" My.ZdJ:=by walk_at "D"
  have D_word_row:L2.Zaq (L2.KOf KX) mg "word_row" My.ZdK:=by walk_at "D"
  have D_give_row:L2.Zaq (L2.KOf KX) mg "give_row" My.ZdN:=by walk_at "D"
  have D_fail_row:L2.Zaq (L2.KOf KX) mg "fail_row" My.ZdO:=by walk_at "D"
  have D_brings_coin:L2.Zaq (L2.KOf KX) mg "brings_coin" My.Zb5:=by walk_at "D"
  have D_fills_place:L2.Zaq (L2.KOf KX) mg "fills_place" My.Zb6:=by walk_at "D"
  have D_row_price:L2.Zaq (L2.KOf KX) mg "row_price" My.ZcU:=by walk_at "D"
  have D_is_barred:L2.Zaq (L2.KOf KX) mg "is_barred" My.ZcV:=by walk_at "D"
  have D_end_ahead_of:L2.Zaq (L2.KOf KX) mg "end_ahead_of" My.ZbR:=by walk_at "D"
  have D_write_step:L2.Zaq (L2.KOf KX) mg "write_step" My.Zcp:=by walk_at "D"
  have D_account_at:L2.Zaq (L2.KOf KX) mg "account_at" My.Zcm:=by walk_at "D"
  have D_load_row:L2.Zaq (L2.KOf KX) mg "load_row" My.ZdG:=by walk_at "D"
  have D_coin_row:L2.Zaq (L2.KOf KX) mg "coin_row" My.ZdL:=by walk_at "D"
  have D_save_row:L2.Zaq (L2.KOf KX) mg "save_row" My.ZdH:=by walk_at "D"
  have D_note_row:L2.Zaq (L2.KOf KX) mg "note_row" My.ZdM:=by walk_at "D"
  have D_do_row:L2.Zaq (L2.KOf KX) mg "do_row" My.ZfV:=by walk_at "D"
  have D_other_call:L2.Zaq (L2.KOf KX) mg "other_call" My.Zcs:=by walk_at "D"
  have D_end_ahead_of_call:L2.Zaq (L2.KOf KX) mg "end_ahead_of_call" My.Zbm:=by walk_at "D"
  have D_call_row:L2.Zaq (L2.KOf KX) mg "call_row" My.ZcH:=by walk_at "D"
  have D_go_row:L2.Zaq (L2.KOf KX) mg "go_row" My.Zef:=by walk_at "D"
  have D_go_on:L2.Zaq (L2.KOf KX) mg "go_on" My.ZfW:=by walk_at "D"
  have D_go:L2.Zaq (L2.KOf KX) mg "go" My.s_go:=by walk_at "D"
  have D_enter:L2.Zaq (L2.KOf KX) mg "enter" My.ZhU:=by walk_at "D"
  have D_Lcell_at:L2.Zaq (L2.KOf KX) mg "_law_cell_at" My.ZdP:=by walk_at "D"
  have D_Lsum_word:L2.Zaq (L2.KOf KX) mg "_law_sum_word" My.ZcW:=by walk_at "D"
  have D_Lodd_rows:L2.Zaq (L2.KOf KX) mg "_law_odd_rows" My.ZcX:=by walk_at "D"
  have D_Lasking:L2.Zaq (L2.KOf KX) mg "_law_asking" My.ZeK:=by walk_at "D"
  have D_Lsnippet:L2.Zaq (L2.KOf KX) mg "_law_snippet" My.ZdQ:=by walk_at "D"
  have D_Lprograms:L2.Zaq (L2.KOf KX) mg "_law_programs" My.ZcY:=by walk_at "D"
  have D_Lwhole:L2.Zaq (L2.KOf KX) mg "_law_whole" My.ZfX:=by walk_at "D"
  have D_Ltakes:L2.Zaq (L2.KOf KX) mg "_law_takes" My.ZfY:=by walk_at "D"
  have D_Lheight:L2.Zaq (L2.KOf KX) mg "_law_height" My.ZeL:=by walk_at "D"
  have D_Lprice:L2.Zaq (L2.KOf KX) mg "_law_price" My.ZfZ:=by walk_at "D"
  have D_Lmade:L2.Zaq (L2.KOf KX) mg "_law_made" My.ZhV:=by walk_at "D"
  have D_Lnexts:L2.Zaq (L2.KOf KX) mg "_law_nexts" My.Zf0:=by walk_at "D"
  have D_Lends:L2.Zaq (L2.KOf KX) mg "_law_ends" My.ZhW:=by walk_at "D"
  have D_Llast:L2.Zaq (L2.KOf KX) mg "_law_last" My.Zf1:=by walk_at "D"
  have D_Lshape:L2.Zaq (L2.KOf KX) mg "_law_shape" My.Zf2:=by walk_at "D"
  have D_Lwalked:L2.Zaq (L2.KOf KX) mg "_law_walked" My.Zct:=by walk_at "D"
  have D_law:L2.Zaq (L2.KOf KX) mg "law" My.ZkU:=by walk_at "D"
  obtain ⟨cAccount,tAccount,D_Account___init__,D_Account_loaded,D_Account_keep⟩:∃ C,My.T_Account (L2.KOf KX) mg C/\L2.ZaG (L2.KOf KX) C "__init__" "Account.__init__" My.Zbp/\L2.ZaG (L2.KOf KX) C "loaded" "Account.loaded" My.Zbx/\L2.ZaG (L2.KOf KX) C "keep" "Account.keep" My.ZbS:=⟨122,⟨by walk_at "T", by walk_at "A", by walk_at "A", by walk_at "A", by walk_at "A", by walk_at "A"⟩,by walk_at "E", by walk_at "E", by walk_at "E"⟩
  obtain ⟨cSave,tSave,D_Save___init__,D_Save_do,D_Save_undo,D_Save_told⟩:∃ C,My.T_Save (L2.KOf KX) mg C/\L2.ZaG (L2.KOf KX) C "__init__" "Save.__init__" My.ZbH/\L2.ZaG (L2.KOf KX) C "do" "Save.do" My.ZeM/\L2.ZaG (L2.KOf KX) C "undo" "Save.undo" My.ZcZ/\L2.ZaG (L2.KOf KX) C "told" "Save.told" My.Zc0:=⟨241,⟨by walk_at "T", by walk_at "A", by walk_at "A", by walk_at "A", by walk_at "A"⟩,by walk_at "E", by walk_at "E", by walk_at "E", by walk_at "E"⟩
  obtain ⟨cMove,tMove,D_Move___init__,D_Move_do,D_Move_undo,D_Move_told⟩:∃ C,My.T_Move (L2.KOf KX) mg C/\L2.ZaG (L2.KOf KX) C "__init__" "Move.__init__" My.ZbI/\L2.ZaG (L2.KOf KX) C "do" "Move.do" My.ZeN/\L2.ZaG (L2.KOf KX) C "undo" "Move.undo" My.Zc1/\L2.ZaG (L2.KOf KX) C "told" "Move.told" My.Zc2:=⟨288,⟨by walk_at "T", by walk_at "A", by walk_at "A", by walk_at "A"⟩,by walk_at "E", by walk_at "E", by walk_at "E", by walk_at "E"⟩
  obtain ⟨cNote,tNote,D_Note___init__,D_Note_told,D_Note_do,D_Note_undo⟩:∃ C,My.T_Note (L2.KOf KX) mg C/\L2.ZaG (L2.KOf KX) C "__init__" "Note.__init__" My.ZbJ/\L2.ZaG (L2.KOf KX) C "told" "Note.told" My.Zc3/\L2.ZaG (L2.KOf KX) C "do" "Deed.do" My.ZeO/\L2.ZaG (L2.KOf KX) C "undo" "Deed.undo" My.Zc5:=⟨314,⟨by walk_at "T", by walk_at "A", by walk_at "A"⟩,by walk_at "E", by walk_at "E", by walk_at "E", by walk_at "E"⟩
  obtain ⟨cJournal,tJournal,D_Journal___init__,D_Journal_write,D_Journal_mark,D_Journal_back,D_Journal_told⟩:∃ C,My.T_Journal (L2.KOf KX) mg C/\L2.ZaG (L2.KOf KX) C "__init__" "Journal.__init__" My.Zbq/\L2.ZaG (L2.KOf KX) C "write" "Journal.write" My.ZbK/\L2.ZaG (L2.KOf KX) C "mark" "Journal.mark" My.ZbU/\L2.ZaG (L2.KOf KX) C "back" "Journal.back" My.ZbV/\L2.ZaG (L2.KOf KX) C "told" "Journal.told" My.Zbv:=⟨756,⟨by walk_at "T", by walk_at "A", by walk_at "A"⟩,by walk_at "E", by walk_at "E", by walk_at "E", by walk_at "E", by walk_at "E"⟩
  obtain ⟨cFrame,tFrame,D_Frame_left,D_Frame_short_for,D_Frame_full_behind,D_Frame_taken,D_Frame_lay,D_Frame_finish,D_Frame_tree⟩:∃ C,My.T_Frame (L2.KOf KX) mg C/\L2.ZaG (L2.KOf KX) C "left" "Frame.left" My.Zcu/\L2.ZaG (L2.KOf KX) C "short_for" "Frame.short_for" My.Zbt/\L2.ZaG (L2.KOf KX) C "full_behind" "Frame.full_behind" My.Zbn/\L2.ZaG (L2.KOf KX) C "taken" "Frame.taken" My.Zb7/\L2.ZaG (L2.KOf KX) C "lay" "Frame.lay" My.Zc4/\L2.ZaG (L2.KOf KX) C "finish" "Frame.finish" My.ZbT/\L2.ZaG (L2.KOf KX) C "tree" "Frame.tree" My.Zcv:=⟨383,⟨by walk_at "T", by walk_at "A", by walk_at "A", by walk_at "A", by walk_at "A", by walk_at "A", by walk_at "A", by walk_at "A", by walk_at "A", by walk_at "A", by walk_at "A", by walk_at "A", by walk_at "A", by walk_at "A", by walk_at "A", by walk_at "A"⟩,by walk_at "E", by walk_at "E", by walk_at "E", by walk_at "E", by walk_at "E", by walk_at "E", by walk_at "E"⟩
  have n_max:mg "max" = none:=by walk_at "N"
  have n_list:mg "list" = none:=by walk_at "N"
  have n_len:mg "len" = none:=by walk_at "N"
  have n_range:mg "range" = none:=by walk_at "N"
  have n_reversed:mg "reversed" = none:=by walk_at "N"
  have n_min:mg "min" = none:=by walk_at "N"
  have n_isinstance:mg "isinstance" = none:=by walk_at "N"
  have n_int:mg "int" = none:=by walk_at "N"
  have n_bool:mg "bool" = none:=by walk_at "N"
  have n_tuple:mg "tuple" = none:=by walk_at "N"
  have n_any:mg "any" = none:=by walk_at "N"
  have g_WIDE:L2.Za0 mg "WIDE" (.int 18446744073709551616):=by
   refine' L2.ZcE KX G ?a
   (case a=>k_is)
  have g_FIGURES:L2.Za0 mg "FIGURES" (.int 64):=by
   refine' L2.ZcE KX G ?a
   (case a=>k_is)
  have g_MOST_ON_STACK:L2.Za0 mg "MOST_ON_STACK" (.int 24):=by
   refine' L2.ZcE KX G ?a
   (case a=>k_is)
  have g_MOST_CALLS:L2.Za0 mg "MOST_CALLS" (.int 8):=by
   refine' L2.ZcE KX G ?a
   (case a=>k_is)
  have D_price:L2.ZkF (L2.KOf KX) mg "price" My.ZhS #[.bool false]:=by
   dsimp only [L2.KOf]
   refine' L2.ZkG KX G ?a ?l ?c ?k ?d
   (case a=>k_is);(case l=>k_is);(case c=>k_is);(case k=>k_is);(case d=>k_is)
  have RR:∃ aT:Addr,L2.Za0 mg "ROWS" (.ref aT)/\My.Zg2 PySem.Challenge.rw_meterhouse_k40_whole_price_and_rows.prog w (L2.KOf KX) aT:=by
   dsimp only [L2.KOf]
   refine' My.ZoO KX G ?a ?l ?e1 ?e2 ?e3 ?t1 ?t2 ?t3 ?t4 ?t5 ?t6 ?t7 ?t8 ?t9 ?t10 ?t11 ?t12 ?t13 ?t14 ?t15 ?t16 ?t17 ?t18 ?t19 ?t20 ?t21 ?t22 ?t23 ?t24 ?t25 ?t26 ?t27 ?t28 ?t29 ?t30 ?t31
   (case a=>k_is);(case l=>k_is);(case e1=>rfl);(case e2=>rfl);(case e3=>rfl)
   case t1 =>
    refine' L2.ZaR ?l ?v ?z
    (case l=>k_is);(case v=>walk_at "vals");(case z=>decide)
   case t2 =>
    refine' L2.ZaR ?l ?v ?z
    (case l=>k_is);(case v=>walk_at "vals");(case z=>decide)
   case t3 =>
    refine' L2.ZaR ?l ?v ?z
    (case l=>k_is);(case v=>walk_at "vals");(case z=>decide)
   case t4 =>
    refine' L2.ZaR ?l ?v ?z
    (case l=>k_is);(case v=>walk_at "vals");(case z=>decide)
   case t5 =>
    refine' L2.ZaR ?l ?v ?z
    (case l=>k_is);(case v=>walk_at "vals");(case z=>decide)
   case t6 =>
    refine' L2.ZaR ?l ?v ?z
    (case l=>k_is);(case v=>walk_at "vals");(case z=>decide)
   case t7 =>
    refine' L2.ZaR ?l ?v ?z
    (case l=>k_is);(case v=>walk_at "vals");(case z=>decide)
   case t8 =>
    refine' L2.ZaR ?l ?v ?z
    (case l=>k_is);(case v=>walk_at "vals");(case z=>decide)
   case t9 =>
    refine' L2.ZaR ?l ?v ?z
    (case l=>k_is);(case v=>walk_at "vals");(case z=>decide)
   case t10 =>
    refine' L2.ZaR ?l ?v ?z
    (case l=>k_is);(case v=>walk_at "vals");(case z=>decide)
   case t11 =>
    refine' L2.ZaR ?l ?v ?z
    (case l=>k_is);(case v=>walk_at "vals");(case z=>decide)
   case t12 =>
    refine' L2.ZaR ?l ?v ?z
    (case l=>k_is);(case v=>walk_at "vals");(case z=>decide)
   case t13 =>
    refine' L2.ZaR ?l ?v ?z
    (case l=>k_is);(case v=>walk_at "vals");(case z=>decide)
   case t14 =>
    refine' L2.ZaR ?l ?v ?z
    (case l=>k_is);(case v=>walk_at "vals");(case z=>decide)
   case t15 =>
    refine' L2.ZaR ?l ?v ?z
    (case l=>k_is);(case v=>walk_at "vals");(case z=>decide)
   case t16 =>
    refine' L2.ZaR ?l ?v ?z
    (case l=>k_is);(case v=>walk_at "vals");(case z=>decide)
   case t17 =>
    refine' L2.ZaR ?l ?v ?z
    (case l=>k_is);(case v=>walk_at "vals");(case z=>decide)
   case t18 =>
    refine' L2.ZaR ?l ?v ?z
    (case l=>k_is);(case v=>walk_at "vals");(case z=>decide)
   case t19 =>
    refine' L2.ZaR ?l ?v ?z
    (case l=>k_is);(case v=>walk_at "vals");(case z=>decide)
   case t20 =>
    refine' L2.ZaR ?l ?v ?z
    (case l=>k_is);(case v=>walk_at "vals");(case z=>decide)
   case t21 =>
    refine' L2.ZaR ?l ?v ?z
    (case l=>k_is);(case v=>walk_at "vals");(case z=>decide)
   case t22 =>
    refine' L2.ZaR ?l ?v ?z
    (case l=>k_is);(case v=>walk_at "vals");(case z=>decide)
   case t23 =>
    refine' L2.ZaR ?l ?v ?z
    (case l=>k_is);(case v=>walk_at "vals");(case z=>decide)
   case t24 =>
    refine' L2.ZaR ?l ?v ?z
    (case l=>k_is);(case v=>walk_at "vals");(case z=>decide)
   case t25 =>
    refine' L2.ZaR ?l ?v ?z
    (case l=>k_is);(case v=>walk_at "vals");(case z=>decide)
   case t26 =>
    refine' L2.ZaR ?l ?v ?z
    (case l=>k_is);(case v=>walk_at "vals");(case z=>decide)
   case t27 =>
    refine' L2.ZaR ?l ?v ?z
    (case l=>k_is);(case v=>walk_at "vals");(case z=>decide)
   case t28 =>
    refine' L2.ZaR ?l ?v ?z
    (case l=>k_is);(case v=>walk_at "vals");(case z=>decide)
   case t29 =>
    refine' L2.ZaR ?l ?v ?z
    (case l=>k_is);(case v=>walk_at "vals");(case z=>decide)
   case t30 =>
    refine' L2.ZaR ?l ?v ?z
    (case l=>k_is);(case v=>walk_at "vals");(case z=>decide)
   case t31 =>
    refine' L2.ZaR ?l ?v ?z
    (case l=>k_is);(case v=>walk_at "vals");(case z=>decide)
  obtain ⟨aT,g_ROWS,rok⟩:=RR
  have S1:∃ (aS:Addr) (u1 u2 u3 u4 u5 u6 u7 u8 u9 u10 u11 u12:Value),L2.Za0 mg "SUMS" (.ref aS)/\L2.Zdl PySem.Challenge.rw_meterhouse_k40_whole_price_and_rows.prog w (L2.KOf KX) aS [(Sum.inr "add", u1),(Sum.inr "minus", u2),(Sum.inr "times", u3),(Sum.inr "over", u4),(Sum.inr "rest", u5),(Sum.inr "below", u6),(Sum.inr "same", u7),(Sum.inr "both", u8),(Sum.inr "either", u9),(Sum.inr "unlike", u10),(Sum.inr "up", u11),(Sum.inr "down", u12)]/\mg "added" = some u1/\mg "lessened" = some u2/\mg "multiplied" = some u3/\mg "contained" = some u4/\mg "left_over" = some u5/\mg "is_below" = some u6/\mg "is_same" = some u7/\mg "in_both" = some u8/\mg "in_either" = some u9/\mg "in_just_one" = some u10/\mg "doubled" = some u11/\mg "halved" = some u12:=by
   dsimp only [L2.KOf]
   refine' My.ZoP KX G ?a ?l ?e1 ?e2 ?e3 ?m1 ?m2 ?m3 ?m4 ?m5 ?m6 ?m7 ?m8 ?m9 ?m10 ?m11 ?m12
   (case a=>k_is);(case l=>k_is);(case e1=>rfl);(case e2=>rfl);(case e3=>rfl)
   (case m1=>k_is);(case m2=>k_is);(case m3=>k_is);(case m4=>k_is);(case m5=>k_is);(case m6=>k_is);(case m7=>k_is);(case m8=>k_is);(case m9=>k_is);(case m10=>k_is);(case m11=>k_is);(case m12=>k_is)
  obtain ⟨aS,u1,u2,u3,u4,u5,u6,u7,u8,u9,u10,u11,u12,g_SUMS,dk,m1,m2,m3,m4,m5,m6,m7,m8,m9,m10,m11,m12⟩:=S1
  have DO1:∃ (aD:Addr) (u1 u2 u3 u4 u5 u6 u7 u8 u9 u10 u11 u12 u13 u14 u15 u16 u17:Value),L2.Za0 mg "DOINGS" (.ref aD)/\L2.Zdl PySem.Challenge.rw_meterhouse_k40_whole_price_and_rows.prog w (L2.KOf KX) aD [(Sum.inr "push", u1),(Sum.inr "drop", u2),(Sum.inr "copy", u3),(Sum.inr "swap", u4),(Sum.inr "add", u5),(Sum.inr "minus", u5),(Sum.inr "times", u5),(Sum.inr "over", u5),(Sum.inr "rest", u5),(Sum.inr "below", u5),(Sum.inr "same", u5),(Sum.inr "both", u5),(Sum.inr "either", u5),(Sum.inr "unlike", u5),(Sum.inr "up", u5),(Sum.inr "down", u5),(Sum.inr "jump", u6),(Sum.inr "jumpif", u7),(Sum.inr "load", u8),(Sum.inr "save", u9),(Sum.inr "me", u10),(Sum.inr "from", u11),(Sum.inr "sent", u12),(Sum.inr "word", u13),(Sum.inr "coin", u14),(Sum.inr "note", u15),(Sum.inr "give", u16),(Sum.inr "fail", u17)]/\mg "push_row" = some u1/\mg "drop_row" = some u2/\mg "copy_row" = some u3/\mg "swap_row" = some u4/\mg "reckon_row" = some u5/\mg "jump_row" = some u6/\mg "jumpif_row" = some u7/\mg "load_row" = some u8/\mg "save_row" = some u9/\mg "me_row" = some u10/\mg "from_row" = some u11/\mg "sent_row" = some u12/\mg "word_row" = some u13/\mg "coin_row" = some u14/\mg "note_row" = some u15/\mg "give_row" = some u16/\mg "fail_row" = some u17:=by
   dsimp only [L2.KOf]
   refine' My.do_at KX G ?a ?l ?e1 ?e2 ?e3 ?m_push_row ?m_drop_row ?m_copy_row ?m_swap_row ?m_reckon_row ?m_jump_row ?m_jumpif_row ?m_load_row ?m_save_row ?m_me_row ?m_from_row ?m_sent_row ?m_word_row ?m_coin_row ?m_note_row ?m_give_row ?m_fail_row
   (case a=>k_is);(case l=>k_is);(case e1=>rfl);(case e2=>rfl);(case e3=>rfl)
   (case m_push_row=>k_is);(case m_drop_row=>k_is);(case m_copy_row=>k_is);(case m_swap_row=>k_is);(case m_reckon_row=>k_is);(case m_jump_row=>k_is);(case m_jumpif_row=>k_is);(case m_load_row=>k_is);(case m_save_row=>k_is);(case m_me_row=>k_is);(case m_from_row=>k_is);(case m_sent_row=>k_is);(case m_word_row=>k_is);(case m_coin_row=>k_is);(case m_note_row=>k_is);(case m_give_row=>k_is);(case m_fail_row=>k_is)
  obtain ⟨aD,u1,u2,u3,u4,u5,u6,u7,u8,u9,u10,u11,u12,u13,u14,u15,u16,u17,g_DOINGS,dkD,m_push_row,m_drop_row,m_copy_row,m_swap_row,m_reckon_row,m_jump_row,m_jumpif_row,m_load_row,m_save_row,m_me_row,m_from_row,m_sent_row,m_word_row,m_coin_row,m_note_row,m_give_row,m_fail_row⟩:=DO1
  have T_REACHING:∃ a,L2.Za0 mg "REACHING" (.ref a)/\L2.TupK (L2.KOf KX) a ((["copy", "swap"]:List PySem.Str).map L2.V.str):=by
   dsimp only [L2.KOf]
   refine' L2.ZkE KX G ?a ?l ?v ?z
   (case a=>k_is);(case l=>k_is);(case v=>walk_at "vals");(case z=>decide)
  obtain ⟨a_REACHING,g_REACHING,t_REACHING⟩:=T_REACHING
  have T_CALLING:∃ a,L2.Za0 mg "CALLING" (.ref a)/\L2.TupK (L2.KOf KX) a ((["call", "borrow", "look"]:List PySem.Str).map L2.V.str):=by
   dsimp only [L2.KOf]
   refine' L2.ZkE KX G ?a ?l ?v ?z
   (case a=>k_is);(case l=>k_is);(case v=>walk_at "vals");(case z=>decide)
  obtain ⟨a_CALLING,g_CALLING,t_CALLING⟩:=T_CALLING
  have x_FI:∃ C tok,mg "Frame" = some (.ref C)/\L2.Zck (L2.KOf KX) C "__init__" "Frame.__init__" My.ZaE #[.int 1 tok,.bool false]:=by
   dsimp only [L2.KOf]
   refine' My.mkFI KX G ?aC ?a ?i ?l ?c ?k ?d
   (case aC=>k_is);(case a=>k_is);(case i=>k_is);(case l=>k_is);(case c=>k_is);(case k=>k_is);(case d=>k_is)
  have y_FI:∃ tok,L2.Zck (L2.KOf KX) cFrame "__init__" "Frame.__init__" My.ZaE #[.int 1 tok,.bool false]:=by
   obtain ⟨C,tok,e1,q⟩:=x_FI
   have h1:=tFrame.k.mgC
   rw [e1] at h1
   cases h1
   exact ⟨tok,q⟩
  obtain ⟨tokF,D_FI⟩:=y_FI
  obtain ⟨fl,fd,FL,ml⟩:=D_law
  have e0:=hmg.symm.trans ml
  cases e0
  refine ⟨fd,L2.Zjv FL,fun base KB GB=>?_⟩
  have c_added:=My.ZmC (P:=My.PP) (w:=w) (base:=base)  D_added    g_WIDE
  have c_lessened:=My.ZhY (P:=My.PP) (w:=w) (base:=base)  D_lessened    g_WIDE
  have c_multiplied:=My.Zf4 (P:=My.PP) (w:=w) (base:=base)  D_multiplied    g_WIDE
  have c_contained:=My.ZgX (P:=My.PP) (w:=w) (base:=base)  D_contained
  have c_left_over:=My.ZgZ (P:=My.PP) (w:=w) (base:=base)  D_left_over
  have c_is_below:=My.Zh0 (P:=My.PP) (w:=w) (base:=base)  D_is_below
  have c_is_same:=My.ZjC (P:=My.PP) (w:=w) (base:=base)  D_is_same
  have c_in_both:=My.ZjE (P:=My.PP) (w:=w) (base:=base)  D_in_both
  have c_in_either:=My.Zg1 (P:=My.PP) (w:=w) (base:=base)  D_in_either
  have c_in_just_one:=My.Zfh (P:=My.PP) (w:=w) (base:=base)  D_in_just_one
  have c_doubled:=My.ZjG (P:=My.PP) (w:=w) (base:=base)  D_doubled    n_max g_FIGURES g_WIDE
  have c_halved:=My.Zk0 (P:=My.PP) (w:=w) (base:=base)  D_halved    n_max g_FIGURES
  have sok:=My.Zoz (P:=PySem.Challenge.rw_meterhouse_k40_whole_price_and_rows.prog) (w:=w) (base:=base) dk m1 m2 m3 m4 m5 m6 m7 m8 m9 m10 m11 m12 c_added c_lessened c_multiplied c_contained c_left_over c_is_below c_is_same c_in_both c_in_either c_in_just_one c_doubled c_halved
  have c_reckon:=My.Zk2 (P:=My.PP) (w:=w) (base:=base) sok D_reckon    g_SUMS
  have c_reach:=My.ZmE (P:=My.PP) (w:=w) (base:=base) t_REACHING D_reach    g_REACHING
  have c_takes:=My.ZmG (P:=My.PP) (w:=w) (base:=base) rok D_takes    c_reach g_ROWS
  have c_leaves:=My.Zk5 (P:=My.PP) (w:=w) (base:=base) rok D_leaves    c_reach g_ROWS
  have cd2_price:=My.ZmI (P:=My.PP) (w:=w) (base:=base) rok D_price g_ROWS
  have i_Account:=My.Zc7 (P:=My.PP) (w:=w) (base:=base)  D_Account___init__ tAccount   n_list
  have m_Account_loaded:=My.ZdS (P:=My.PP) (w:=w) (base:=base)  D_Account_loaded tAccount
  have m_Account_keep:=My.ZeQ (P:=My.PP) (w:=w) (base:=base)  D_Account_keep tAccount
  have c_shift_coin:=My.Zf7 (P:=My.PP) (w:=w) (base:=base)  D_shift_coin tAccount
  have i_Save:=My.Zd3 (P:=My.PP) (w:=w) (base:=base)  D_Save___init__ tSave
  have i_Move:=My.Zd5 (P:=My.PP) (w:=w) (base:=base)  D_Move___init__ tMove
  have i_Note:=My.Zd7 (P:=My.PP) (w:=w) (base:=base)  D_Note___init__ tNote
  have m_Save_do:=My.ZjJ (P:=My.PP) (w:=w) (base:=base)  D_Save_do tSave tAccount m_Account_keep
  have m_Move_do:=My.ZjL (P:=My.PP) (w:=w) (base:=base)  D_Move_do tMove   c_shift_coin
  have m_Note_do:=My.ZjN (P:=My.PP) (w:=w) (base:=base) (cAccount:=cAccount) D_Note_do tNote
  have m_Save_undo:=My.Zg5 (P:=My.PP) (w:=w) (base:=base)  D_Save_undo tSave tAccount m_Account_keep
  have m_Move_undo:=My.Zg7 (P:=My.PP) (w:=w) (base:=base)  D_Move_undo tMove   c_shift_coin
  have m_Note_undo:=My.Zg9 (P:=My.PP) (w:=w) (base:=base) (cAccount:=cAccount) D_Note_undo tNote
  have i_Journal:=My.Zc9 (P:=My.PP) (w:=w) (base:=base)  D_Journal___init__ tJournal
  have m_Journal_mark:=My.ZeS (P:=My.PP) (w:=w) (base:=base)  D_Journal_mark tJournal   n_len
  have m_Journal_write:=My.Zd9 (P:=My.PP) (w:=w) (base:=base)  D_Journal_write tJournal tSave tMove tNote tAccount m_Save_do m_Move_do m_Note_do
  have m_Journal_back:=My.ZeT (P:=My.PP) (w:=w) (base:=base)  D_Journal_back tJournal tSave tMove tNote tAccount m_Save_undo m_Move_undo m_Note_undo  n_len n_max
  have m_Save_told:=My.Zhb (P:=My.PP) (w:=w) (base:=base)  D_Save_told tSave
  have m_Move_told:=My.Zhd (P:=My.PP) (w:=w) (base:=base)  D_Move_told tMove
  have m_Note_told:=My.Zhf (P:=My.PP) (w:=w) (base:=base)  D_Note_told tNote
  have m_Journal_told:=My.ZeV (P:=My.PP) (w:=w) (base:=base)  D_Journal_told tJournal tSave tMove tNote m_Save_told m_Move_told m_Note_told
  have m_Frame_left:=My.Zgc (P:=My.PP) (w:=w) (base:=base)  D_Frame_left tFrame
  have m_Frame_short_for:=My.Zds (P:=My.PP) (w:=w) (base:=base)  D_Frame_short_for tFrame   c_takes n_len
  have m_Frame_full_behind:=My.ZcM (P:=My.PP) (w:=w) (base:=base)  D_Frame_full_behind tFrame   c_leaves c_takes n_len g_MOST_ON_STACK
  have m_Frame_taken:=My.Zfi (P:=My.PP) (w:=w) (base:=base)  D_Frame_taken tFrame   n_range n_list n_reversed
  have m_Frame_lay:=My.Zhh (P:=My.PP) (w:=w) (base:=base)  D_Frame_lay tFrame
  have m_Frame_finish:=My.ZeY (P:=My.PP) (w:=w) (base:=base)  D_Frame_finish tFrame
  have m_Frame_tree:=My.Zge (P:=My.PP) (w:=w) (base:=base)  D_Frame_tree tFrame   n_list
  have c_push_row:=My.Zh6 (P:=My.PP) (w:=w) (base:=base)  D_push_row tFrame m_Frame_lay
  have c_drop_row:=My.Zh8 (P:=My.PP) (w:=w) (base:=base)  D_drop_row tFrame m_Frame_taken
  have c_copy_row:=My.Zia (P:=My.PP) (w:=w) (base:=base)  D_copy_row tFrame m_Frame_lay
  have c_swap_row:=My.Zib (P:=My.PP) (w:=w) (base:=base)  D_swap_row tFrame   n_len
  have c_reckon_row:=My.Zgh (P:=My.PP) (w:=w) (base:=base)  D_reckon_row tFrame m_Frame_taken m_Frame_lay  c_reckon
  have c_jump_row:=My.Zid (P:=My.PP) (w:=w) (base:=base)  D_jump_row tFrame
  have c_jumpif_row:=My.Zgi (P:=My.PP) (w:=w) (base:=base)  D_jumpif_row tFrame m_Frame_taken
  have c_me_row:=My.Zlb (P:=My.PP) (w:=w) (base:=base)  D_me_row tFrame m_Frame_lay
  have c_from_row:=My.Zif (P:=My.PP) (w:=w) (base:=base)  D_from_row tFrame m_Frame_lay
  have c_sent_row:=My.Zih (P:=My.PP) (w:=w) (base:=base)  D_sent_row tFrame m_Frame_lay
  have c_word_row:=My.Zij (P:=My.PP) (w:=w) (base:=base)  D_word_row tFrame m_Frame_lay
  have c_give_row:=My.Zik (P:=My.PP) (w:=w) (base:=base)  D_give_row tFrame m_Frame_taken m_Frame_finish
  have c_fail_row:=My.Zil (P:=My.PP) (w:=w) (base:=base)  D_fail_row tFrame m_Frame_taken m_Frame_finish
  have c_brings_coin:=My.Zfk (P:=My.PP) (w:=w) (base:=base)  D_brings_coin tFrame
  have c_fills_place:=My.Zfm (P:=My.PP) (w:=w) (base:=base)  D_fills_place tFrame tAccount m_Account_loaded
  have c_row_price:=My.Zhj (P:=My.PP) (w:=w) (base:=base)  D_row_price    cd2_price c_brings_coin c_fills_place
  have c_is_barred:=My.Zhl (P:=My.PP) (w:=w) (base:=base)  D_is_barred tFrame   c_brings_coin
  have c_end_ahead_of:=My.Ze2 (P:=My.PP) (w:=w) (base:=base)  D_end_ahead_of tFrame m_Frame_short_for m_Frame_full_behind m_Frame_left  c_is_barred c_row_price
  have c_write_step:=My.Zgl (P:=My.PP) (w:=w) (base:=base)  D_write_step tJournal tFrame tSave tMove tNote m_Journal_write m_Save_told m_Move_told m_Note_told
  have c_account_at:=My.Zgn (P:=My.PP) (w:=w) (base:=base) (cAccount:=cAccount) D_account_at    n_len
  have c_load_row:=My.Zin (P:=My.PP) (w:=w) (base:=base)  D_load_row tFrame tAccount m_Frame_taken m_Frame_lay m_Account_loaded
  have c_coin_row:=My.Zio (P:=My.PP) (w:=w) (base:=base)  D_coin_row tFrame tAccount m_Frame_taken m_Frame_lay  c_account_at
  have c_save_row:=My.Zip (P:=My.PP) (w:=w) (base:=base)  D_save_row tFrame tAccount tSave m_Frame_taken m_Account_loaded i_Save  c_write_step
  have c_note_row:=My.Ziq (P:=My.PP) (w:=w) (base:=base)  D_note_row tFrame tNote m_Frame_taken i_Note  c_write_step
  have dok:=My.do_ok (P:=PySem.Challenge.rw_meterhouse_k40_whole_price_and_rows.prog) (w:=w) (base:=base) (cAccount:=cAccount) (cJournal:=cJournal) (cSave:=cSave) (cMove:=cMove) (cNote:=cNote) (cFrame:=cFrame) dkD m_push_row m_drop_row m_copy_row m_swap_row m_reckon_row m_jump_row m_jumpif_row m_load_row m_save_row m_me_row m_from_row m_sent_row m_word_row m_coin_row m_note_row m_give_row m_fail_row c_push_row c_drop_row c_copy_row c_swap_row c_reckon_row c_jump_row c_jumpif_row c_load_row c_save_row c_me_row c_from_row c_sent_row c_word_row c_coin_row c_note_row c_give_row c_fail_row
  have c_do_row:=My.Zlg (P:=My.PP) (w:=w) (base:=base) dok D_do_row    g_DOINGS
  have iD9_Frame:=My.ZlX (P:=My.PP) (w:=w) (base:=base) D_FI tFrame
  have c_other_call:=My.Zgp (P:=My.PP) (w:=w) (base:=base)  D_other_call tFrame m_Frame_taken  c_takes iD9_Frame
  have c_end_ahead_of_call:=My.ZcO (P:=My.PP) (w:=w) (base:=base)  D_end_ahead_of_call tFrame tAccount   c_account_at g_MOST_CALLS
  have c_go:=My.ZnF (P:=My.PP) (w:=w) (base:=base) (cAccount:=cAccount) (cJournal:=cJournal) (cSave:=cSave) (cMove:=cMove) (cNote:=cNote) t_CALLING D_call_row tFrame m_Frame_left m_Frame_finish m_Frame_tree m_Frame_lay c_other_call c_end_ahead_of_call n_min D_go_row c_row_price c_do_row g_CALLING D_go_on tAccount c_end_ahead_of n_len D_go tJournal tMove m_Journal_mark i_Move m_Journal_back c_write_step 10
  have iD7_Frame:=My.ZlW (P:=My.PP) (w:=w) (base:=base) D_FI tFrame
  have c_enter:=My.ZmN (P:=My.PP) (w:=w) (base:=base)  D_enter tFrame m_Frame_tree  c_go iD7_Frame
  have c_Lcell_at:=My.ZiB (P:=My.PP) (w:=w) (base:=base)  D_Lcell_at    n_len
  have c_Lsum_word:=My.Zhu (P:=My.PP) (w:=w) (base:=base)  D_Lsum_word
  have c_Lodd_rows:=My.Zhv (P:=My.PP) (w:=w) (base:=base)  D_Lodd_rows
  have c_Lasking:=My.ZjT (P:=My.PP) (w:=w) (base:=base)  D_Lasking
  have c_Lsnippet:=My.Zix (P:=My.PP) (w:=w) (base:=base)  D_Lsnippet    c_Lodd_rows c_Lasking c_Lsum_word
  have c_Lprograms:=My.Zhw (P:=My.PP) (w:=w) (base:=base)  D_Lprograms    c_Lsnippet n_range n_len
  have c_Lwhole:=My.ZlN (P:=My.PP) (w:=w) (base:=base)  D_Lwhole    n_isinstance n_int n_bool
  have c_Ltakes:=My.ZlH (P:=My.PP) (w:=w) (base:=base)  D_Ltakes
  have c_Lheight:=My.ZjU (P:=My.PP) (w:=w) (base:=base)  D_Lheight
  have c_Lprice:=My.ZlK (P:=My.PP) (w:=w) (base:=base)  D_Lprice    n_int
  have c_Lmade:=My.Zne (P:=My.PP) (w:=w) (base:=base)  D_Lmade    n_isinstance n_tuple n_len
  have c_Lnexts:=My.ZlJ (P:=My.PP) (w:=w) (base:=base)  D_Lnexts
  have c_Lends:=My.Znf (P:=My.PP) (w:=w) (base:=base)  D_Lends    c_Ltakes c_Lheight c_Lprice n_len
  have c_Llast:=My.Znh (P:=My.PP) (w:=w) (base:=base)  D_Llast    c_Lends n_any
  have c_Lshape:=My.ZlO (P:=My.PP) (w:=w) (base:=base)  D_Lshape    c_Lwhole n_isinstance n_tuple n_len n_list
  have c_Lwalked:=My.ZfC (P:=My.PP) (w:=w) (base:=base) D_Lwalked c_Lshape c_Lheight c_Lnexts c_Llast c_Lprice c_Lwhole c_Lmade c_Ltakes n_int n_len 10
  exact My.ok_law  FL tAccount tJournal i_Account m_Account_keep i_Journal  c_Lprograms c_enter c_Lcell_at c_Lwalked n_range
 case S=>exact fun K H a ns hl hO hS=>⟨a,ns,rfl,hS,hl,fun _=>rfl⟩
 case C=>exact fun _ _ _ _ z=>z
