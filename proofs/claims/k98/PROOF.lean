import PyProof.Rows.All
import Wide.All
import OpenK.KLine
import Wide.FinOn
import Lean
import PyProof.EqAt
import PyProof.EqKinds
import PyProof.TupleCall
import PyProof.SetScanFacts
import PyProof.SetKind
import PyProof.DictKinds
import PyProof.FactsAll.set_0
import PyProof.FactsAll.set_1
import PyProof.FactsAll.set_2
import PyProof.FactsAll.set_3
import PyProof.FactsSeq
import PyProof.CollectWalk
import PyProof.ListRange
import PyProof.ZipIter
import PyProof.MeetsSeq
import PyProof.IsRules
import PyProof.Rows.ZipGen
import PyProof.SumWalkG
import PyProof.DictWalks
import PyProof.Rows.SortShell
import PyProof.Rows.SetFrom
import PyProof.SetRoads
import KE.KIntText
import KE.IntTextLaws
import PyProof.StrWalks
import PyProof.StrOps2
import PyProof.SliceStr2
import PyProof.PureStr
import PyProof.StrCalls3
import PyProof.Rows.StrMadeLen
import PyProof.StrLawsIn
import PyProof.Rows.StrWeight2
import PyProof.Rows.StrNews2
import PyProof.StrLawsTight
import PyProof.Rows.StrItems
import KE.KDictOf
import PyProof.AttrMissHeap
import PyProof.CompMap
import PyProof.FactsBase
import PySem.Challenge.RW_bagwood_k98_whole_less_is_no_wider
import KE.KIsAll
import KE.KSortTup
import KE.KSortAsk
import KE.KDictList
import KE.KItem
set_option Elab.async false
set_option linter.all false
set_option maxRecDepth 100000
def PySem.W.Fast.tw16781691749126564463 : Unit := ()
def PySem.W.Fast.tw2178518756087989457 : Unit := ()
def PySem.W.Fast.tw13598415039677445062 : Unit := ()
def PySem.W.Fast.tw3531531201506130633 : Unit := ()
def PySem.W.Fast.tw8208630390219982493 : Unit := ()
def PySem.W.Fast.tw11292650744200336961 : Unit := ()
def PySem.W.Fast.tw13515942753359933999 : Unit := ()
def PySem.W.Fast.tw15015172767203727716 : Unit := ()
def PySem.W.Fast.tw13124964390649553537 : Unit := ()
def PySem.W.Fast.tw4926034171507592484 : Unit := ()
def PySem.W.Fast.tw5484330666248003682 : Unit := ()
def PySem.W.Fast.tw13888634330837799522 : Unit := ()
def PySem.W.Fast.tw1715465230992621935 : Unit := ()
def PySem.W.Fast.tw18073925968734067905 : Unit := ()
def PySem.W.Fast.tw16384562795433498476 : Unit := ()
def PySem.W.Fast.tw11552367704919304396 : Unit := ()
def PySem.W.Fast.tw5724821424271190228 : Unit := ()
def PySem.W.Fast.tw13062887185445262708 : Unit := ()
def PySem.W.Fast.tw11663787229905660371 : Unit := ()
def PySem.W.Fast.tw2660230161055439232 : Unit := ()
def PySem.W.Fast.tw15273998924486513607 : Unit := ()
def PySem.W.Fast.tw11562869918501262643 : Unit := ()
def PySem.W.Fast.tw1788594411356482497 : Unit := ()
def PySem.W.Fast.tw4282872845512262732 : Unit := ()
def PySem.W.Fast.tw9079183204347505932 : Unit := ()
def PySem.W.Fast.tw9322097917187814246 : Unit := ()
def PySem.W.Fast.tw4471000591714334781 : Unit := ()
def PySem.W.Fast.tw17988106205666106195 : Unit := ()
def PySem.W.Fast.tw3431978208684186271 : Unit := ()
def PySem.W.Fast.tw17239065959684960317 : Unit := ()
def PySem.W.Fast.tw15673003759546016296 : Unit := ()
def PySem.W.Fast.tw9664468068986565669 : Unit := ()
def PySem.W.Fast.tw17939062745581819928 : Unit := ()
def PySem.W.Fast.tw4706098181429908172 : Unit := ()
def PySem.W.Fast.tw9650386198048265301 : Unit := ()
def PySem.W.Fast.tw3971199116296239247 : Unit := ()
def PySem.W.Fast.tw17386132283463898337 : Unit := ()
def PySem.W.Fast.tw7800648104244603317 : Unit := ()
def PySem.W.Fast.tw6992137114785512862 : Unit := ()
def PySem.W.Fast.tw3946898938837213914 : Unit := ()
def PySem.W.Fast.tw13432631535911671523 : Unit := ()
def PySem.W.Fast.tw3214025780740991815 : Unit := ()
def PySem.W.Fast.tw6430016324017717909 : Unit := ()
def PySem.W.Fast.tw1374303672985926160 : Unit := ()
def PySem.W.Fast.tw4666761988461921860 : Unit := ()
def PySem.W.Fast.tw11640397980931426387 : Unit := ()
def PySem.W.Fast.tw4931694285137927376 : Unit := ()
def PySem.W.Fast.tw16856460390926577367 : Unit := ()
def PySem.W.Fast.tw16158431854261601183 : Unit := ()
def PySem.W.Fast.tw6458772956160222441 : Unit := ()
def PySem.W.Fast.tw6202374319479695240 : Unit := ()
def PySem.W.Fast.tw5647435202107239212 : Unit := ()
def PySem.W.Fast.tw767392003056846072 : Unit := ()
def PySem.W.Fast.tw1944560835545822728 : Unit := ()
def PySem.W.Fast.tw4887409356887660323 : Unit := ()
def PySem.W.Fast.tw2975158805441351617 : Unit := ()
def PySem.W.Fast.tw11448235086113183026 : Unit := ()
def PySem.W.Fast.tw10728931092347330642 : Unit := ()
def PySem.W.Fast.tw12150256418090865099 : Unit := ()
def PySem.W.Fast.tw14463726567425903464 : Unit := ()
def PySem.W.Fast.tw12770966872299349807 : Unit := ()
def PySem.W.Fast.tw16549082326812516426 : Unit := ()
def PySem.W.Fast.tw7672875951206408870 : Unit := ()
def PySem.W.Fast.tw7908931483588052032 : Unit := ()
def PySem.W.Fast.tw1512200162722991325 : Unit := ()
def PySem.W.Fast.tw8267576741466173177 : Unit := ()
def PySem.W.Fast.tw8317941200682165347 : Unit := ()
def PySem.W.Fast.tw18219801393253538535 : Unit := ()
def PySem.W.Fast.tw2413174789220192476 : Unit := ()
def PySem.W.Fast.tw1650675434580971245 : Unit := ()
def PySem.W.Fast.tw9443465282125220441 : Unit := ()
def PySem.W.Fast.tw8964707402590977521 : Unit := ()
def PySem.W.Fast.tw4949393979369116283 : Unit := ()
def PySem.W.Fast.tw17881775398954864254 : Unit := ()
def PySem.W.Fast.tw14598806651446913131 : Unit := ()
def PySem.W.Fast.tw4732016609957426852 : Unit := ()
def PySem.W.Fast.tw17831552801298846314 : Unit := ()
def PySem.W.Fast.tw15809805914586025661 : Unit := ()
def PySem.W.Fast.tw8803627339681339912 : Unit := ()
def PySem.W.Fast.tw4778538605143675861 : Unit := ()
def PySem.W.Fast.tw15951221368395178846 : Unit := ()
def PySem.W.Fast.tw11503492413892840428 : Unit := ()
def PySem.W.Fast.tw3044360809727293577 : Unit := ()
def PySem.W.Fast.tw17724958140275718667 : Unit := ()
def PySem.W.Fast.tw8288427903839054619 : Unit := ()
def PySem.W.Fast.tw4223852649560547774 : Unit := ()
def PySem.W.Fast.tw8791902186078528740 : Unit := ()
def PySem.W.Fast.tw16381557400208119996 : Unit := ()
def PySem.W.Fast.tw485485390448262025 : Unit := ()
def PySem.W.Fast.tw7582260359368763212 : Unit := ()
def PySem.W.Fast.tw11788039930281998561 : Unit := ()
def PySem.W.Fast.tw12505659796144575624 : Unit := ()
def PySem.W.Fast.tw3967582666586911266 : Unit := ()
def PySem.W.Fast.tw662932938156202926 : Unit := ()
def PySem.W.Fast.tw3718695455631580675 : Unit := ()
def PySem.W.Fast.tw9689978736912051786 : Unit := ()
def PySem.W.Fast.tw17738098348962902245 : Unit := ()
def PySem.W.Fast.tw10910171873638129194 : Unit := ()
def PySem.W.Fast.tw12226068477342607667 : Unit := ()
def PySem.W.Fast.tw16093835949833765668 : Unit := ()
def PySem.W.Fast.tw1456428164895539732 : Unit := ()
def PySem.W.Fast.tw13763837203768129844 : Unit := ()
def PySem.W.Fast.tw13667596423734386179 : Unit := ()
def PySem.W.Fast.tw10714632690812722457 : Unit := ()
def PySem.W.Fast.tw10507039359438209811 : Unit := ()
def PySem.W.Fast.tw5391257243031959586 : Unit := ()
def PySem.W.Fast.tw6319105142572505828 : Unit := ()
def PySem.W.Fast.tw10285902371349162971 : Unit := ()
def PySem.W.Fast.tw16851923746872091954 : Unit := ()
def PySem.W.Fast.tw2826540535127359023 : Unit := ()
def PySem.W.Fast.tw7646082600234365200 : Unit := ()
def PySem.W.Fast.tw3282111463236897430 : Unit := ()
def PySem.W.Fast.tw801916772622694435 : Unit := ()
def PySem.W.Fast.tw12521100120515276506 : Unit := ()
def PySem.W.Fast.tw15465891199450157258 : Unit := ()
def PySem.W.Fast.tw9176482691587398445 : Unit := ()
def PySem.W.Fast.tw15071291778602279706 : Unit := ()
def PySem.W.Fast.tw12285725139075543647 : Unit := ()
def PySem.W.Fast.tw8179525297226236139 : Unit := ()
def PySem.W.Fast.tw11851559521457268180 : Unit := ()
def PySem.W.Fast.tw12302309489033597292 : Unit := ()
def PySem.W.Fast.tw11302060132993464090 : Unit := ()
def PySem.W.Fast.tw13234138865033583777 : Unit := ()
def PySem.W.Fast.tw9233284405377666891 : Unit := ()
def PySem.W.Fast.tw10414141777044555131 : Unit := ()
def PySem.W.Fast.tw7023308567081387460 : Unit := ()
def PySem.W.Fast.tw112575662456154699 : Unit := ()
def PySem.W.Fast.tw6660547962137266110 : Unit := ()
def PySem.W.Fast.tw17016969461020454341 : Unit := ()
def PySem.W.Fast.tw5115852844428656022 : Unit := ()
def PySem.W.Fast.tw16729563681665469279 : Unit := ()
def PySem.W.Fast.tw8357643697873783701 : Unit := ()
def PySem.W.Fast.tw17098695551170911483 : Unit := ()
def PySem.W.Fast.tw17426157217383196080 : Unit := ()
def PySem.W.Fast.tw4732194648269006181 : Unit := ()
def PySem.W.Fast.tw8041491534914857503 : Unit := ()
def PySem.W.Fast.tw15816354121567082823 : Unit := ()
def PySem.W.Fast.tw4590457382969350833 : Unit := ()
def PySem.W.Fast.tw11143169560215937077 : Unit := ()
def PySem.W.Fast.tw9805536035348486795 : Unit := ()
def PySem.W.Fast.tw11906586837554923972 : Unit := ()
def PySem.W.Fast.tw5405764960266150554 : Unit := ()
def PySem.W.Fast.tw8238890272493706931 : Unit := ()
def PySem.W.Fast.tw2588061191583413112 : Unit := ()
def PySem.W.Fast.tw13455078948489832588 : Unit := ()
def PySem.W.Fast.tw2424246064173933623 : Unit := ()
def PySem.W.Fast.tw1478330549785761831 : Unit := ()
def PySem.W.Fast.tw14827152675087217421 : Unit := ()
def PySem.W.Fast.tw12978424313000830068 : Unit := ()
def PySem.W.Fast.tw6018635759765207419 : Unit := ()
def PySem.W.Fast.tw2530707282088833294 : Unit := ()
def PySem.W.Fast.tw8729119054485082024 : Unit := ()
def PySem.W.Fast.tw5401677512791898158 : Unit := ()
def PySem.W.Fast.tw4273589477624034307 : Unit := ()
def PySem.W.Fast.tw9869308541256872972 : Unit := ()
def PySem.W.Fast.tw1856925597965856491 : Unit := ()
def PySem.W.Fast.tw3556145352972260613 : Unit := ()
def PySem.W.Fast.tw13531338864897749487 : Unit := ()
def PySem.W.Fast.tw10429645037125584690 : Unit := ()
def PySem.W.Fast.tw4536845666927637925 : Unit := ()
def PySem.W.Fast.tw12638124286047361250 : Unit := ()
def PySem.W.Fast.tw6652936333762308714 : Unit := ()
def PySem.W.Fast.tw14775423235549156205 : Unit := ()
def PySem.W.Fast.tw11720035021161974037 : Unit := ()
def PySem.W.Fast.tw7500044059444655827 : Unit := ()
def PySem.W.Fast.tw13590369164683034298 : Unit := ()
def PySem.W.Fast.tw2790786499441998622 : Unit := ()
def PySem.W.Fast.tw3734164214774839937 : Unit := ()
def PySem.W.Fast.tw6461311646857863593 : Unit := ()
def PySem.W.Fast.tw3235503560689427610 : Unit := ()
def PySem.W.Fast.tw4256632804374135519 : Unit := ()
def PySem.W.Fast.tw8542681407154005440 : Unit := ()
def PySem.W.Fast.tw3471439072224849853 : Unit := ()
def PySem.W.Fast.tw2999456405762482260 : Unit := ()
def PySem.W.Fast.tw13264541313922355788 : Unit := ()
def PySem.W.Fast.tw5792706999482830746 : Unit := ()
def PySem.W.Fast.tw17878964570873614528 : Unit := ()
def PySem.W.Fast.tw7341553505281862058 : Unit := ()
def PySem.W.Fast.tw8599594007553062066 : Unit := ()
def PySem.W.Fast.tw6886708651449296279 : Unit := ()
def PySem.W.Fast.tw5997162386520016336 : Unit := ()
def PySem.W.Fast.tw5980925667251576988 : Unit := ()
def PySem.W.Fast.tw12136169712956429909 : Unit := ()
def PySem.W.Fast.tw13160042055728443774 : Unit := ()
def PySem.W.Fast.tw14435440947576305335 : Unit := ()
def PySem.W.Fast.tw2138670529642939745 : Unit := ()
def PySem.W.Fast.tw11621150581556728260 : Unit := ()
def PySem.W.Fast.tw6908247054210805573 : Unit := ()
def PySem.W.Fast.tw10645271084960822055 : Unit := ()
def PySem.W.Fast.tw3100730141995039570 : Unit := ()
def PySem.W.Fast.tw6610321511079272832 : Unit := ()
def PySem.W.Fast.tw17310604764662999577 : Unit := ()
def PySem.W.Fast.tw18428887730082465720 : Unit := ()
def PySem.W.Fast.tw4932738438045361006 : Unit := ()
def PySem.W.Fast.tw7735011281792901030 : Unit := ()
def PySem.W.Fast.tw9137941878439892399 : Unit := ()
def PySem.W.Fast.tw4499118060594477883 : Unit := ()
def PySem.W.Fast.tw18082268527567120368 : Unit := ()
def PySem.W.Fast.tw16381772384261297527 : Unit := ()
def PySem.W.Fast.tw5913533125074832949 : Unit := ()
def PySem.W.Fast.tw7908135471899085940 : Unit := ()
def PySem.W.Fast.tw551742077978920961 : Unit := ()
def PySem.W.Fast.tw5385268881417565058 : Unit := ()
def PySem.W.Fast.tw15486638641449096320 : Unit := ()
def PySem.W.Fast.tw5255087501942242176 : Unit := ()
def PySem.W.Fast.tw11916718577296818772 : Unit := ()
def PySem.W.Fast.tw4659686259240091806 : Unit := ()
def PySem.W.Fast.tw14759021614936699283 : Unit := ()
def PySem.W.Fast.tw7741888118722516404 : Unit := ()
def PySem.W.Fast.tw15485289363150838936 : Unit := ()
def PySem.W.Fast.tw6148127952444139127 : Unit := ()
def PySem.W.Fast.tw14338541431508239853 : Unit := ()
def PySem.W.Fast.tw3870473644940239488 : Unit := ()
def PySem.W.Fast.tw7723014254798505940 : Unit := ()
def PySem.W.Fast.tw4506558449663078496 : Unit := ()
def PySem.W.Fast.tw7719307950839567970 : Unit := ()
def PySem.W.Fast.tw9487763779709698139 : Unit := ()
def PySem.W.Fast.tw4622774432835463783 : Unit := ()
def PySem.W.Fast.tw15082765631383521240 : Unit := ()
def PySem.W.Fast.tw12327882865727841578 : Unit := ()
def PySem.W.Fast.tw13833260895408094055 : Unit := ()
def PySem.W.Fast.tw8940569428646088704 : Unit := ()
def PySem.W.Fast.tw11725154563673185820 : Unit := ()
def PySem.W.Fast.tw18176060444747596298 : Unit := ()
def PySem.W.Fast.tw13975445129734357315 : Unit := ()
def PySem.W.Fast.tw11687029463526876084 : Unit := ()
def PySem.W.Fast.tw8305204487771587550 : Unit := ()
def PySem.W.Fast.tw7670708126387313339 : Unit := ()
def PySem.W.Fast.tw7621419726118662741 : Unit := ()
def PySem.W.Fast.tw14983564091078641428 : Unit := ()
def PySem.W.Fast.tw15761083720214061570 : Unit := ()
def PySem.W.Fast.tw1178423377842298748 : Unit := ()
def PySem.W.Fast.tw4238068182868484210 : Unit := ()
def PySem.W.Fast.tw8068692248899128068 : Unit := ()
def PySem.W.Fast.tw5976981884511809652 : Unit := ()
def PySem.W.Fast.tw298805303492321703 : Unit := ()
def PySem.W.Fast.tw17962098460277130535 : Unit := ()
def PySem.W.Fast.tw10136925678404701813 : Unit := ()
def PySem.W.Fast.tw6072016918636680957 : Unit := ()
def PySem.W.Fast.tw3353674008602465439 : Unit := ()
def PySem.W.Fast.tw13763543973344957335 : Unit := ()
def PySem.W.Fast.tw16442638138668825615 : Unit := ()
def PySem.W.Fast.tw18316970102775255628 : Unit := ()
def PySem.W.Fast.tw17947541937810473300 : Unit := ()
def PySem.W.Fast.tw18105910446208309834 : Unit := ()
def PySem.W.Fast.tw16482166130764094444 : Unit := ()
def PySem.W.Fast.tw4659050278528585618 : Unit := ()
def PySem.W.Fast.tw3719186305029106403 : Unit := ()
def PySem.W.Fast.tw1774490987277636977 : Unit := ()
def PySem.W.Fast.tw5678512659526692045 : Unit := ()
def PySem.W.Fast.tw15140787875816250745 : Unit := ()
def PySem.W.Fast.tw15159881783095355984 : Unit := ()
def PySem.W.Fast.tw9296981846901779839 : Unit := ()
def PySem.W.Fast.tw3264078350961734000 : Unit := ()
def PySem.W.Fast.tw5250345221360597202 : Unit := ()
def PySem.W.Fast.tw502973496797227554 : Unit := ()
def PySem.W.Fast.tw4341301262942412597 : Unit := ()
def PySem.W.Fast.tw3196002163111141812 : Unit := ()
def PySem.W.Fast.tw11778667968227997464 : Unit := ()
def PySem.W.Fast.tw17714373689439132769 : Unit := ()
def PySem.W.Fast.tw5156739246061955374 : Unit := ()
def PySem.W.Fast.tw16943907403482538469 : Unit := ()
def PySem.W.Fast.tw13200309185885343879 : Unit := ()
def PySem.W.Fast.tw10872040884677227109 : Unit := ()
def PySem.W.Fast.tw6545338150832361653 : Unit := ()
def PySem.W.Fast.tw6347817207451504469 : Unit := ()
def PySem.W.Fast.tw9381520505206361362 : Unit := ()
def PySem.W.Fast.tw11859306587729281763 : Unit := ()
def PySem.W.Fast.tw13101863784506730380 : Unit := ()
def PySem.W.Fast.tw2260309635826629877 : Unit := ()
def PySem.W.Fast.tw11777660927019825512 : Unit := ()
def PySem.W.Fast.tw9805372093552183576 : Unit := ()
def PySem.W.Fast.tw6280992581687474529 : Unit := ()
def PySem.W.Fast.tw14274290531859294021 : Unit := ()
def PySem.W.Fast.tw8275213771558360787 : Unit := ()
def PySem.W.Fast.tw16313046383162548083 : Unit := ()
def PySem.W.Fast.tw7272114710608704043 : Unit := ()
def PySem.W.Fast.tw3627228767858318521 : Unit := ()
def PySem.W.Fast.tw521592528844014266 : Unit := ()
def PySem.W.Fast.tw15115726913574599489 : Unit := ()
def PySem.W.Fast.tw2892701121465723021 : Unit := ()
def PySem.W.Fast.tw4213888444111433628 : Unit := ()
def PySem.W.Fast.tw5346156374962435505 : Unit := ()
def PySem.W.Fast.tw5460632518219747222 : Unit := ()
def PySem.W.Fast.tw16302463523113991341 : Unit := ()
def PySem.W.Fast.tw17327405572086704459 : Unit := ()
def PySem.W.Fast.tw15076849510995897081 : Unit := ()
def PySem.W.Fast.tw11513205194462638865 : Unit := ()
def PySem.W.Fast.tw18160646467192032280 : Unit := ()
def PySem.W.Fast.tw14113531975122734841 : Unit := ()
def PySem.W.Fast.tw11655410824814493916 : Unit := ()
def PySem.W.Fast.tw6400622574921851581 : Unit := ()
def PySem.W.Fast.tw9751465024368969702 : Unit := ()
def PySem.W.Fast.tw7008472619218149054 : Unit := ()
def PySem.W.Fast.tw1953622344790000656 : Unit := ()
def PySem.W.Fast.tw5330772142855309742 : Unit := ()
def PySem.W.Fast.tw11511229039995915075 : Unit := ()
def PySem.W.Fast.tw6694200039335948853 : Unit := ()
def PySem.W.Fast.tw12613372295532677918 : Unit := ()
def PySem.W.Fast.tw17036131084048215486 : Unit := ()
def PySem.W.Fast.tw79915211961887472 : Unit := ()
def PySem.W.Fast.tw12997779519421906817 : Unit := ()
def PySem.W.Fast.tw8926030666901311861 : Unit := ()
def PySem.W.Fast.tw8354772882107237626 : Unit := ()
def PySem.W.Fast.tw17335575870639763107 : Unit := ()
def PySem.W.Fast.tw407360105545645945 : Unit := ()
def PySem.W.Fast.tw530996837437823624 : Unit := ()
def PySem.W.Fast.tw1022645689556840681 : Unit := ()
def PySem.W.Fast.tw4139742394661441947 : Unit := ()
def PySem.W.Fast.tw12810458180257570256 : Unit := ()
def PySem.W.Fast.tw17515661122412955815 : Unit := ()
def PySem.W.Fast.tw9966016421637835158 : Unit := ()
def PySem.W.Fast.tw9910667802433272193 : Unit := ()
def PySem.W.Fast.tw14275228041432440964 : Unit := ()
def PySem.W.Fast.tw16702314522076894905 : Unit := ()
def PySem.W.Fast.tw3432776635399272025 : Unit := ()
def PySem.W.Fast.tw9225965599672199473 : Unit := ()
def PySem.W.Fast.tw11904228864047636899 : Unit := ()
def PySem.W.Fast.tw343893312055605628 : Unit := ()
def PySem.W.Fast.tw18387642284687812392 : Unit := ()
def PySem.W.Fast.tw13216050587186892069 : Unit := ()
def PySem.W.Fast.tw4572038592361078494 : Unit := ()
def PySem.W.Fast.tw10893706398111634659 : Unit := ()
def PySem.W.Fast.tw4066596289301528038 : Unit := ()
def PySem.W.Fast.tw17094959340694083962 : Unit := ()
def PySem.W.Fast.tw10799384273545304988 : Unit := ()
def PySem.W.Fast.tw9899783007909542598 : Unit := ()
def PySem.W.Fast.tw9668810066914541683 : Unit := ()
def PySem.W.Fast.tw18038555416882174477 : Unit := ()
def PySem.W.Fast.tw9932675059593982597 : Unit := ()
open PySem PySem.W PyProof.Rows in
set_option maxRecDepth 100000 in
set_option maxHeartbeats 0 in
open_top PySem.Challenge.hd98 for PySem.Challenge.rw_bagwood_k98_whole_less_is_no_wider
local macro_rules | `(tactic| omega) => `(tactic| first | lia | omega (config := {}))
/-! THE HAND LAYER, for ints, bools, texts, own classes, LISTS and tuples (index, slices, in, append, pop ..), calls, loops. Paste it whole ahead of your own text; what your proof does not reach may be deleted. -/
namespace L2
open PySem PySem.Spec PyProof.Rows

/-- a key: an int or a str -/
abbrev Key := Sum Int Str
def keyIs : Key → Value → Bool
  | .inl k, v => Value.isInt k v
  | .inr x, v => Value.isStrOf x v
def keyH (w : World) : Key → Int
  | .inl k => hashInt k
  | .inr x => hashStr w x
theorem keyIs_shape : ∀ {k : Key} {v : Value}, keyIs k v = true → (∃ i t, k = Sum.inl i ∧ v = Value.int i t) ∨ (∃ x t, k = Sum.inr x ∧ v = Value.str x t)
  | .inl i, v, h => by
    obtain ⟨t, e⟩ := Value.isInt_shape (k := i) (v := v) h
    exact .inl ⟨i, t, rfl, e⟩
  | .inr x, v, h => by
    obtain ⟨t, e⟩ := Value.isStrOf_shape (x := x) (v := v) h
    exact .inr ⟨x, t, rfl, e⟩
theorem keyIs_int (i : Int) (t : Tok) : keyIs (.inl i) (.int i t) = true := by simp [keyIs, Value.isInt]
theorem keyIs_str (x : Str) (t : Tok) : keyIs (.inr x) (.str x t) = true := by simp [keyIs, Value.isStrOf]
theorem key_ll (a b : Int) : decide ((Sum.inl a : Key) = Sum.inl b) = (a == b) := by
  by_cases e : a = b
  · subst e; simp
  · have h : ¬ (Sum.inl a : Key) = Sum.inl b := fun q => e (Sum.inl.inj q)
    rw [decide_eq_false h]
    exact (beq_eq_false_iff_ne.mpr e).symm
theorem key_rr (a b : Str) : decide ((Sum.inr a : Key) = Sum.inr b) = decide (a = b) := by
  by_cases e : a = b
  · subst e; simp
  · have h : ¬ (Sum.inr a : Key) = Sum.inr b := fun q => e (Sum.inr.inj q)
    rw [decide_eq_false h, decide_eq_false e]
theorem key_lr (a : Int) (b : Str) : decide ((Sum.inl a : Key) = Sum.inr b) = false := decide_eq_false (fun q => nomatch q)
theorem key_rl (a : Str) (b : Int) : decide ((Sum.inr a : Key) = Sum.inl b) = false := decide_eq_false (fun q => nomatch q)

def mixKind (prog : Program) (w : World) : PySem.KeyKind prog w Key where
  is := keyIs
  hash := keyH w
  inj := fun v a b ha hb => by
    rcases keyIs_shape ha with ⟨i, t, rfl, rfl⟩ | ⟨x, t, rfl, rfl⟩
    · rcases keyIs_shape hb with ⟨j, u, rfl, e⟩ | ⟨y, u, rfl, e⟩
      · injection e with e1 _; rw [e1]
      · exact nomatch e
    · rcases keyIs_shape hb with ⟨j, u, rfl, e⟩ | ⟨y, u, rfl, e⟩
      · exact nomatch e
      · injection e with e1 _; rw [e1]
  byValue := fun k v h => by
    rcases keyIs_shape h with ⟨i, t, rfl, rfl⟩ | ⟨x, t, rfl, rfl⟩ <;> rfl
  pyHash := fun hv h => by
    rcases keyIs_shape hv with ⟨i, t, rfl, rfl⟩ | ⟨x, t, rfl, rfl⟩
    · exact wpAny_pyHash_int h
    · exact wpAny_pyHash_str h
  eqBool := fun hu hv h => by
    rcases keyIs_shape hu with ⟨i, t, rfl, rfl⟩ | ⟨x, t, rfl, rfl⟩
    · rcases keyIs_shape hv with ⟨j, u, rfl, rfl⟩ | ⟨y, u, rfl, rfl⟩
      · rw [key_ll] at h; exact wpAny_eqBool_int h
      · rw [key_lr] at h; exact SeqAt.EqAt.int_str i t y u _ _ _ _ h
    · rcases keyIs_shape hv with ⟨j, u, rfl, rfl⟩ | ⟨y, u, rfl, rfl⟩
      · rw [key_rl] at h; exact SeqAt.EqAt.str_int x t j u _ _ _ _ h
      · rw [key_rr] at h; exact wpAny_eqBool_str h
  «strs» := fun k x t v h => by
    rcases keyIs_shape h with ⟨i, u, rfl, e⟩ | ⟨y, u, rfl, e⟩
    · exact nomatch e
    · injection e with e1 _
      subst e1
      cases v <;> rfl

theorem mixKind_int (prog : Program) (w : World) (i : Int) (t : Tok) : (mixKind prog w).is (.inl i) (.int i t) = true := keyIs_int i t
theorem mixKind_str (prog : Program) (w : World) (x : Str) (t : Tok) : (mixKind prog w).is (.inr x) (.str x t) = true := keyIs_str x t
end L2

namespace L2
open PySem PySem.Spec PyProof.Rows

/-- a value, without the heap -/
inductive V where
  | non | bl (b : Bool) | int (i : Int) | str (x : Str) | byt (b : Array UInt8) | flt (b : UInt64) | ref (a : Addr) | ty (n : String)
  deriving DecidableEq

def RelV : V → Value → Prop
  | .non, u => u = Value.none
  | .bl b, u => u = Value.bool b
  | .int i, u => ∃ t, u = Value.int i t
  | .str x, u => ∃ t, u = Value.str x t
  | .byt b, u => ∃ t, u = Value.bytes b t
  | .flt b, u => ∃ t, u = Value.float b t
  | .ref a, u => u = Value.ref a
  | .ty n, u => u = Value.type n

abbrev Vals : List V → List Value → Prop := Paired RelV
theorem Vals.length {xs : List V} {us : List Value} (r : Vals xs us) : xs.length = us.length := Paired.length r
theorem Vals.get : ∀ {xs : List V} {us : List Value} {i : Nat} {x : V}, Vals xs us → xs[i]? = some x → ∃ u, us[i]? = some u ∧ RelV x u
  | _, _, _, _, .nil, e => by simp at e
  | _, _, 0, _, .cons r _, e => by simp at e; subst e; exact ⟨_, rfl, r⟩
  | _, _, i + 1, x, .cons _ t, e => by
    obtain ⟨u, h1, h2⟩ := Vals.get (i := i) (x := x) t (by simpa using e)
    exact ⟨u, by simpa using h1, h2⟩
theorem Vals.set {x : V} {u : Value} (r : RelV x u) : ∀ {xs : List V} {us : List Value} (i : Nat), Vals xs us → Vals (xs.set i x) (us.set i u)
  | _, _, _, .nil => .nil
  | _, _, 0, .cons _ t => .cons r t
  | _, _, i + 1, .cons q t => .cons q (Vals.set r i t)
theorem Vals.append : ∀ {xs ys : List V} {us ws : List Value}, Vals xs us → Vals ys ws → Vals (xs ++ ys) (us ++ ws)
  | _, _, _, _, .nil, s => s
  | _, _, _, _, .cons r t, s => .cons r (Vals.append t s)
theorem Vals.take : ∀ {xs : List V} {us : List Value} (n : Nat), Vals xs us → Vals (xs.take n) (us.take n)
  | _, _, 0, _ => .nil
  | _, _, _ + 1, .nil => .nil
  | _, _, n + 1, .cons r t => .cons r (Vals.take n t)
theorem Vals.drop : ∀ {xs : List V} {us : List Value} (n : Nat), Vals xs us → Vals (xs.drop n) (us.drop n)
  | _, _, 0, r => r
  | _, _, _ + 1, .nil => .nil
  | _, _, n + 1, .cons _ t => Vals.drop n t

def RelO : Option V → Option Value → Prop
  | some v, some u => RelV v u
  | none, none => True
  | _, _ => False
def KV {κ : Type} : List (κ × V) → List (κ × Value) → Prop := Paired fun (p : κ × V) (q : κ × Value) => p.1 = q.1 ∧ RelV p.2 q.2

/-- a key of a dict (00_mix): an int or a text -/
def kV : Key → V
  | .inl i => .int i
  | .inr x => .str x

/-- what stands at a tracked address -/
inductive HO where
  /-- a list -/
  | lst (xs : List V)
  /-- a tuple (never changes) -/
  | tup (xs : List V)
  /-- a dict whose keys are ints and texts; one whose keys are tuples of ints and texts (the empty one is both) -/
  | dK (kvs : List (Key × V)) | dT (kvs : List (List Key × V))
  /-- a set of ints: its members, its size -/
  | set (S : Int → Bool) (n : Nat)
  /-- an instance of the class at C, its dict at dx, its attributes -/
  | ins (C dx : Addr) (fs : List (Str × V))
  /-- the dict of the instance at x -/
  | own (x : Addr)
  /-- the dict of an exception -/
  | xd (fs : List (Str × V))
  /-- a bound method, f of x -/
  | met (f x : Addr)
  /-- a range object lo, lo + 1, .. below hi -/
  | rng (lo hi : Int)
  /-- a thing that is known to the object (the script; a dict while a loop walks it): read, never written while it is so -/
  | frz (o : Obj) (u : HO)
  /-- a code object's table -/
  | tbl (ps : Array Value)
  /-- any other thing, by what is true of its one object (a def of one's own: SetO a S n := HO.ext fun h => ..) -/
  | ext (φ : Heap → Prop)

abbrev Hp := Addr → Option HO
def upd (H : Hp) (a : Addr) (o : HO) : Hp := fun b => if b = a then some o else H b
theorem upd_same {H : Hp} {a : Addr} {o : HO} : upd H a o a = some o := by unfold upd; rw [if_pos rfl]
theorem upd_ne {H : Hp} {a b : Addr} {o : HO} (h : b ≠ a) : upd H a o b = H b := by unfold upd; rw [if_neg h]
/-- two objects of different content stand apart -/
theorem ne_of {H : Hp} {a b : Addr} {o u : HO} (h : H a = some o) (h' : H b = some u) (d : o ≠ u) : a ≠ b := by
  intro e; subst e; rw [h] at h'; exact d (Option.some.inj h')
theorem ne_of_none {H : Hp} {a b : Addr} {o : HO} (h : H a = some o) (h' : H b = none) : a ≠ b := by
  intro e; subst e; rw [h] at h'; cases h'

section
variable (P : Program) (w : World)
def ObjOk (H : Hp) (h : Heap) (a : Addr) : HO → Prop
  | .lst xs => xs.length ≤ sizeLine ∧ ∃ (its : List Value) (n : Nat), Vals xs its ∧ h.get? a = some { cls := .type "list", data := .seq its.toArray n }
  | .tup xs => xs.length ≤ sizeLine ∧ ∃ its : List Value, Vals xs its ∧ IsTup h a its.toArray
  | .dK kvs => kvs.length ≤ sizeLine ∧ (a == sysModules) = false ∧ ∃ vs, KV kvs vs ∧ h.DictOf (mixKind P w) a vs
  | .dT kvs => kvs.length ≤ sizeLine ∧ (a == sysModules) = false ∧ ∃ xs : List (List Key × Addr × Value),
      Paired (fun (p : List Key × V) (q : List Key × Addr × Value) => p.1 = q.1 ∧ H q.2.1 = some (.tup (p.1.map kV)) ∧ RelV p.2 q.2.2) kvs xs ∧
      ∃ o es ep, h.get? a = some o ∧ o.ExactDict ∧ o.data = .dict es ep ∧ es.toList = xs.map (entryOfKey (tupleKind (mixKind P w))) ∧ (xs.map (·.1)).Nodup
  | .set S n => h.SetOf (intKind P w) a S n
  | .ins C dx fs => H dx = some (.own a) ∧ fs.length ≤ 1000 ∧ dx ≠ a ∧ h.get? a = some (PySem.W.instObj C dx) ∧
      ∃ mA, h.Ns1 dx mA ∧ (∀ f, RelO (fs.lookup f) (mA f)) ∧ PySem.Within mA (fs.map (·.1))
  | .own _ => ∃ o, h.get? a = some o
  | .xd fs => ∃ mA, h.Ns1 a mA ∧ ∀ f, RelO (fs.lookup f) (mA f)
  | .rng lo hi => ∃ t u v, h.get? a = some { cls := .type "range", data := .fields #[.int lo t, .int hi u, .int 1 v] }
  | .frz o u => h.get? a = some o ∧ ObjOk H h a u
  | .tbl ps => h.get? a = some { cls := .none, data := .fields ps }
  | .met f x => h.get? a = some (PySem.W.methodObj (.ref f) (.ref x))
  | .ext φ => φ h ∧ (∃ o, h.get? a = some o) ∧ ∀ h1 h2 : Heap, φ h1 → (∀ o, h1.get? a = some o → h2.get? a = some o) → φ h2
/-- the abstract heap is held -/
def HOk (H : Hp) (h : Heap) : Prop := ∀ a o, H a = some o → ObjOk P w H h a o
end

section
variable {P : Program} {w : World} {H H' : Hp} {h h' : Heap} {a : Addr} {o : HO}
theorem ObjOk.lt (x : ObjOk P w H h a o) : a < h.objs.size := by
  cases o with
  | lst xs => obtain ⟨_, _, _, _, e⟩ := x; exact Heap.lt_size e
  | tup xs => obtain ⟨_, _, _, p⟩ := x; exact p.lt
  | dK kvs => obtain ⟨_, _, _, _, o, _, _, e, _⟩ := x; exact Heap.lt_size e
  | dT kvs => obtain ⟨_, _, _, _, o, _, _, e, _⟩ := x; exact Heap.lt_size e
  | set S n => obtain ⟨o, _, _, _, e, _⟩ := x; exact Heap.lt_size e
  | ins C dx fs => obtain ⟨_, _, _, e, _⟩ := x; exact Heap.lt_size e
  | own y => obtain ⟨_, e⟩ := x; exact Heap.lt_size e
  | xd fs => obtain ⟨_, ⟨_, _, _, e, _⟩, _⟩ := x; exact Heap.lt_size e
  | rng lo hi => obtain ⟨_, _, _, e⟩ := x; exact Heap.lt_size e
  | frz ob u => obtain ⟨e, _⟩ := x; exact Heap.lt_size e
  | tbl ps => exact Heap.lt_size (show h.get? a = some _ from x)
  | met f y => exact Heap.lt_size (show h.get? a = some _ from x)
  | ext φ => obtain ⟨_, ⟨_, e⟩, _⟩ := x; exact Heap.lt_size e
theorem Paired.mapP {α β : Type} {F G : α → β → Prop} : ∀ {l₁ : List α} {l₂ : List β}, Paired F l₁ l₂ → (∀ a b, F a b → G a b) → Paired G l₁ l₂
  | _, _, .nil, _ => .nil
  | _, _, .cons r t, f => .cons (f _ _ r) (Paired.mapP t f)
/-- what an object's description leans on: its own object, its own dict, the tuples -/
theorem ObjOk.stay (x : ObjOk P w H h a o) (k : ∀ b u, (b = a ∨ H b = some (.own a)) → h.get? b = some u → h'.get? b = some u)
    (ho : ∀ b, H b = some (.own a) → H' b = some (.own a)) (ht : ∀ b xs, H b = some (.tup xs) → H' b = some (.tup xs)) : ObjOk P w H' h' a o := by
  induction o with
  | lst xs => obtain ⟨z, its, n, r, e⟩ := x; exact ⟨z, its, n, r, k _ _ (.inl rfl) e⟩
  | tup xs => obtain ⟨z, its, r, ob, e, c⟩ := x; exact ⟨z, its, r, ob, k _ _ (.inl rfl) e, c⟩
  | dK kvs => obtain ⟨z, y, vs, r, ob, es, ep, e, c⟩ := x; exact ⟨z, y, vs, r, ob, es, ep, k _ _ (.inl rfl) e, c⟩
  | dT kvs =>
    obtain ⟨z, y, xs, r, ob, es, ep, e, c⟩ := x
    exact ⟨z, y, xs, Paired.mapP r fun p q z => ⟨z.1, ht _ _ z.2.1, z.2.2⟩, ob, es, ep, k _ _ (.inl rfl) e, c⟩
  | set S n => obtain ⟨ob, es, ep, t, e, c⟩ := x; exact ⟨ob, es, ep, t, k _ _ (.inl rfl) e, c⟩
  | ins C dx fs =>
    obtain ⟨d, z, ne, e, mA, ⟨od, es, ep, e2, c⟩, r⟩ := x
    exact ⟨ho _ d, z, ne, k _ _ (.inl rfl) e, mA, ⟨od, es, ep, k _ _ (.inr d) e2, c⟩, r⟩
  | own y => obtain ⟨ob, e⟩ := x; exact ⟨ob, k _ _ (.inl rfl) e⟩
  | xd fs => obtain ⟨mA, ⟨od, es, ep, e, c⟩, r⟩ := x; exact ⟨mA, ⟨od, es, ep, k _ _ (.inl rfl) e, c⟩, r⟩
  | rng lo hi => obtain ⟨t, u, v, e⟩ := x; exact ⟨t, u, v, k _ _ (.inl rfl) e⟩
  | frz ob u ih => obtain ⟨e, q⟩ := x; exact ⟨k _ _ (.inl rfl) e, ih q⟩
  | tbl ps =>
    have e : h.get? a = some { cls := .none, data := .fields ps } := x
    show h'.get? a = some { cls := .none, data := .fields ps }
    exact k a _ (.inl rfl) e
  | met f y =>
    have e : h.get? a = some (PySem.W.methodObj (.ref f) (.ref y)) := x
    show h'.get? a = some (PySem.W.methodObj (.ref f) (.ref y))
    exact k a _ (.inl rfl) e
  | ext φ => obtain ⟨p, ⟨o, e⟩, st⟩ := x; exact ⟨st _ _ p fun o q => k _ _ (.inl rfl) q, ⟨o, k _ _ (.inl rfl) e⟩, st⟩
theorem HOk.lt (x : HOk P w H h) (e : H a = some o) : a < h.objs.size := (x a o e).lt
theorem HOk.fresh (x : HOk P w H h) (e : h.objs.size ≤ a) : H a = none := by
  cases q : H a with
  | none => rfl
  | some u => exact absurd (Nat.lt_of_lt_of_le (x.lt q) e) (Nat.lt_irrefl _)
/-- every object of the heap is kept -/
theorem HOk.kept (x : HOk P w H h) (k : ∀ b u, h.get? b = some u → h'.get? b = some u) : HOk P w H h' := fun a o e =>
  (x a o e).stay (fun b u _ q => k b u q) (fun _ q => q) fun _ _ q => q
/-- a new object is laid and tracked -/
theorem HOk.laid (x : HOk P w H h) (k : ∀ b u, h.get? b = some u → h'.get? b = some u) (hp : h.objs.size ≤ a) (new : ObjOk P w (upd H a o) h' a o) : HOk P w (upd H a o) h' := fun b u e => by
  have hn := x.fresh hp
  by_cases hb : b = a
  · subst hb; rw [upd_same] at e; cases e; exact new
  · rw [upd_ne hb] at e
    exact (x b u e).stay (fun c v _ q => k c v q) (fun c q => by rw [upd_ne (ne_of_none q hn)]; exact q) fun c xs q => by rw [upd_ne (ne_of_none q hn)]; exact q
end

/-- what may be read as u: it is u, or a known u -/
def Rd (H : Hp) (a : Addr) (u : HO) : Prop := H a = some u ∨ ∃ o, H a = some (.frz o u)
theorem Rd.ok {P : Program} {w : World} {H : Hp} {h : Heap} {a : Addr} {u : HO} (r : Rd H a u) (x : HOk P w H h) : ObjOk P w H h a u := by
  rcases r with r | ⟨o, r⟩
  · exact x a u r
  · obtain ⟨_, q⟩ := x a _ r
    exact q
/-- what may be written -/
def Mut : Option HO → Prop
  | some (.lst _) => True
  | some (.dK _) => True
  | some (.dT _) => True
  | some (.set _ _) => True
  | some (.ins _ _ _) => True
  | some (.ext _) => True
  | _ => False
section
variable {P : Program} {w : World} {H : Hp} {h h' : Heap} {x e : Addr} {o' : HO}
/-- the object at e is changed: x itself, or the dict of the instance x -/
theorem HOk.write (ok : HOk P w H h) (mu : Mut (H x)) (he : e = x ∨ H e = some (.own x)) (k : ∀ b u, b ≠ e → h.get? b = some u → h'.get? b = some u) (heo : ∃ u, h'.get? e = some u)
    (new : ObjOk P w (upd H x o') h' x o') : HOk P w (upd H x o') h' := fun b u q => by
  have nown : ∀ c y, H c = some (.own y) → c ≠ x := fun c y r z => by subst z; rw [r] at mu; exact mu
  have ntup : ∀ c xs, H c = some (.tup xs) → c ≠ x := fun c xs r z => by subst z; rw [r] at mu; exact mu
  by_cases hb : b = x
  · subst hb; rw [upd_same] at q; cases q; exact new
  · rw [upd_ne hb] at q
    by_cases hbe : b = e
    · have q' : H b = some (.own x) := by
        rcases he with z | z
        · exact absurd (hbe.trans z) hb
        · rw [hbe]; exact z
      rw [q] at q'; cases q'
      obtain ⟨v, hv⟩ := heo
      exact ⟨v, by rw [hbe]; exact hv⟩
    · refine (ok b u q).stay (fun c v hc r => k c v ?_ r) (fun c r => by rw [upd_ne (nown c b r)]; exact r) fun c xs r => by rw [upd_ne (ntup c xs r)]; exact r
      rcases hc with rfl | hc
      · exact hbe
      · rintro rfl
        rcases he with z | z
        · exact nown c b hc z
        · rw [hc] at z; cases z; exact hb rfl
end

/-! ### kept unless tracked; of the frames at fs (the callers') the slots may change (an exception that passes writes there); of the records at ex (iterators) nothing is said -/
structure Un (fs ex : List Addr) (H H' : Hp) (h h' : Heap) : Prop where
  keep : ∀ b o, h.get? b = some o → H b = none → b ∉ fs → b ∉ ex → h'.get? b = some o
  slot : ∀ b o, h.get? b = some o → H b = none → b ∈ fs → b ∉ ex → ∃ sl, h'.get? b = some { o with slots := sl }
  free : ∀ b o, h.get? b = some o → H b = none → b ∉ ex → H' b = none
  there : ∀ b o, h.get? b = some o → b ∉ ex → ∃ o', h'.get? b = some o'
  tups : ∀ b xs, H b = some (.tup xs) → H' b = some (.tup xs)
  frzs : ∀ b o u, H b = some (.frz o u) → H' b = some (.frz o u)
  tbls : ∀ b ps, H b = some (.tbl ps) → ∃ more, H' b = some (.tbl (ps ++ more))
section
variable {fs fs' ex ex' : List Addr} {H H1 H2 : Hp} {h h1 h2 h' : Heap} {a x e : Addr} {o : HO}
theorem Un.any (u : Un fs ex H H1 h h1) {b : Addr} {ob : Obj} (q : h.get? b = some ob) (n : H b = none) (hx : b ∉ ex) : ∃ sl, h1.get? b = some { ob with slots := sl } := by
  by_cases hb : b ∈ fs
  · exact u.slot b ob q n hb hx
  · exact ⟨ob.slots, u.keep b ob q n hb hx⟩
theorem Un.kept (k : ∀ b u, h.get? b = some u → h'.get? b = some u) : Un fs ex H H h h' :=
  ⟨fun b ob q _ _ _ => k b ob q, fun b ob q _ _ _ => ⟨ob.slots, k b ob q⟩, fun _ _ _ n _ => n, fun b ob q _ => ⟨ob, k b ob q⟩, fun _ _ q => q, fun _ _ _ q => q, fun _ ps q => ⟨#[], by rw [q]; simp⟩⟩
theorem Un.refl : Un fs ex H H h h := Un.kept fun _ _ q => q
theorem Un.laid (k : ∀ b u, h.get? b = some u → h'.get? b = some u) (hp : h.objs.size ≤ a) (hn : H a = none) : Un fs ex H (upd H a o) h h' where
  keep := fun b u q _ _ _ => k b u q
  slot := fun b u q _ _ _ => ⟨u.slots, k b u q⟩
  free := fun b u q n _ => by rw [upd_ne (Nat.ne_of_lt (Nat.lt_of_lt_of_le (Heap.lt_size q) hp))]; exact n
  there := fun b u q _ => ⟨u, k b u q⟩
  tups := fun b xs q => by rw [upd_ne (ne_of_none q hn)]; exact q
  frzs := fun b u xs q => by rw [upd_ne (ne_of_none q hn)]; exact q
  tbls := fun b ps q => ⟨#[], by rw [upd_ne (ne_of_none q hn), q]; simp⟩
theorem Un.write (mu : Mut (H x)) (he : e = x ∨ H e = some (.own x)) (k : ∀ b u, b ≠ e → h.get? b = some u → h'.get? b = some u) (heo : ∃ u, h'.get? e = some u) : Un fs ex H (upd H x o) h h' := by
  have hx : ∀ b, H b = none → b ≠ x := fun b n z => by subst z; rw [n] at mu; exact mu
  have hb : ∀ b, H b = none → b ≠ e := fun b n z => by
    subst z
    rcases he with r | r
    · exact hx b n r
    · rw [n] at r; cases r
  have hm : ∀ b u, H b = some u → ¬ Mut (some u) → b ≠ x := fun b u q nm z => by subst z; rw [q] at mu; exact nm mu
  refine ⟨fun b u q n _ _ => k b u (hb b n) q, fun b u q n _ _ => ⟨u.slots, k b u (hb b n) q⟩, fun b u q n _ => by rw [upd_ne (hx b n)]; exact n, fun b u q _ => ?_,
    fun b xs q => by rw [upd_ne (hm b _ q fun z => z)]; exact q, fun b u xs q => by rw [upd_ne (hm b _ q fun z => z)]; exact q, fun b ps q => ⟨#[], by rw [upd_ne (hm b _ q fun z => z), q]; simp⟩⟩
  by_cases hbe : b = e
  · subst hbe; exact heo
  · exact ⟨u, k b u hbe q⟩
end

/-! ### the heap without what is tracked -/
def trk (h : Heap) (H : Hp) : List Addr := (List.range h.objs.size).filter fun a => (H a).isSome
def hidT (h : Heap) (H : Hp) : Heap := PySem.W.hideAll h (trk h H)
theorem hidT_size (h : Heap) (H : Hp) : (hidT h H).objs.size = h.objs.size := PySem.W.hideAll_size _ _
theorem hidT_get {h : Heap} {H : Hp} {b : Addr} {o : Obj} (e : h.get? b = some o) (n : H b = none) : (hidT h H).get? b = some o :=
  PySem.W.hideAll_get _ e fun hm => by
    have q : (H b).isSome = true := (List.mem_filter.mp hm).2
    rw [n] at q; simp at q
theorem of_hidT {h : Heap} {H : Hp} {b : Addr} {o : Obj} (e : (hidT h H).get? b = some o) : h.get? b = some o ∧ H b = none := by
  have e' : h.get? b = some o := PySem.W.of_hideAll (trk h H) e
  refine ⟨e', ?_⟩
  cases q : H b with
  | none => rfl
  | some x =>
    have hm : b ∈ trk h H := List.mem_filter.mpr ⟨List.mem_range.mpr (Heap.lt_size e'), by simp [q]⟩
    have z : (hidT h H).get? b = none := PySem.W.hideAll_none (trk h H) hm
    rw [z] at e; cases e

/-! ### OpenK's ledger, filled with every new object but one -/
end L2

namespace L2
open PySem PySem.Spec PyProof.Rows

/-- the module's facts, over the base: the heap at the law's entry without what is tracked there -/
structure Mod (K : PySem.W.Frag) (mg : Str → Option Value) (base : Heap) : Prop where
  kin : K.In base
  glob : base.Ns mainGlobals mg
  blt : ∃ mb, base.Ns builtinsNs mb ∧ ∀ x : Str, x ≠ "__name__" → mb x = bootBuiltins x
  nolimit : base.NoLimit

/-- the context: a def's body (or a comprehension's block) running. base: fixed through the whole law; s₀, H₀: the entry; outer: the frames whose slots others may change (a def's callers); stack: all frames that run;
   ex: iterators that were made ahead of the entry and are walked here (a comprehension's); fn: the names whose cells were made at the entry (a def: all; a comprehension's block: its own); calm: not within an except suite; pn: pins that every state bears; xe: what is wanted of an exception that leaves the code -/
structure Cx where
  prog : Program
  w : World
  K : PySem.W.Frag
  mg : Str → Option Value
  base : Heap
  A : Around
  N : List Str
  s₀ : Shared
  H₀ : Hp
  env : Env
  outer : List Env
  stack : List Env
  ex : List Addr
  fn : Str → Bool
  calm : Bool
  pn : List (Addr × Obj)
  xe : Value → Shared → Prop
/-- the callers' frames -/
def frs (l : List Env) : List Addr := l.filterMap (·.frame)
abbrev Cx.fs (X : Cx) : List Addr := frs X.outer

def Vis (sc : Scope) (x : Str) : Prop := sc.names.lookup x = some .local ∨ sc.names.lookup x = some .cell ∨ sc.names.lookup x = some .free
def Loc (sc : Scope) (x : Str) : Prop := sc.names.lookup x = some .local ∨ sc.names.lookup x = some .cell
def Look (env : Env) (h : Heap) (m : Str → Option Value) (x : Str) (u : Value) : Prop :=
  (env.kindOf x = some .local ∧ m x = some u) ∨ ((env.kindOf x = some .cell ∨ env.kindOf x = some .free) ∧ ∃ c, env.cells.lookup x = some c ∧ h.IsCell c (some u))

structure Cx.Ok (X : Cx) : Prop where
  mod : Mod X.K X.mg X.base
  kind : X.env.scope.kind = .function
  glob : X.env.globals = mainGlobals
  blt : X.env.builtins = builtinsNs
  above : X.s₀.heap.objs.size ≤ X.env.locals
  inj : ∀ x y c, X.env.cells.lookup x = some c → X.env.cells.lookup y = some c → x = y
  has : ∀ x, (X.env.kindOf x = some .cell ∨ X.env.kindOf x = some .free) → ∃ c, X.env.cells.lookup x = some c
  cab : ∀ x c, X.fn x = true → X.env.cells.lookup x = some c → X.s₀.heap.objs.size ≤ c
  hd : X.calm = true → X.A.handled = none
  frames : X.A.frames = some X.stack
  stk : X.stack = X.outer ∨ (X.stack = X.env :: X.outer ∧ X.env.frame = some X.env.locals)
  exf : ∀ b ∈ X.ex, b ≠ X.env.locals ∧ ∀ x c, X.env.cells.lookup x = some c → c ≠ b
  bs : ∀ b o, X.base.get? b = some o → X.s₀.heap.get? b = some o ∧ X.H₀ b = none
  bsz : X.base.objs.size ≤ X.s₀.heap.objs.size
  noex : ∀ b o, X.base.get? b = some o → b ∉ X.ex
  exfs : ∀ b ∈ X.ex, b ∉ X.fs
  funs : X.s₀.heap.FunFrames X.base X.outer
  frf : ∀ b ∈ X.fs, X.H₀ b = none

structure Inv (X : Cx) (pins : List (Addr × Obj)) (σ : List (Option V)) (H : Hp) (s : Shared) : Prop where
  ok : X.Ok
  os : s.os = X.s₀.os
  bare : AllBare s.gens
  base : Un X.fs X.ex X.H₀ H X.s₀.heap s.heap
  loc : ∃ m, s.heap.Ns X.env.locals m ∧ ∀ (i : Nat) (x : Str) (v : V), X.N[i]? = some x → σ[i]? = some (some v) → Vis X.env.scope x → ∃ u, RelV v u ∧ Look X.env s.heap m x u
  cell : ∀ x c, X.env.cells.lookup x = some c → ∃ v, s.heap.IsCell c v
  free : H X.env.locals = none
  freeC : ∀ x c, X.env.cells.lookup x = some c → H c = none
  pin : ∀ p ∈ X.pn ++ pins, s.heap.get? p.1 = some p.2 ∧ H p.1 = none ∧ p.1 ≠ X.env.locals ∧ p.1 ∉ X.fs ∧ ∀ v, p.2.data ≠ .cell v
  hok : HOk X.prog X.w H s.heap
  len : σ.length = X.N.length

section
variable {X : Cx} {pins : List (Addr × Obj)} {σ : List (Option V)} {H H' : Hp} {s : Shared} {h' : Heap}

theorem Cx.Ok.nofr (ok : X.Ok) {b : Addr} {o : Obj} (e : X.base.get? b = some o) : b ∉ X.fs := fun hb => by
  have := (ok.funs.mem hb).1
  rw [e] at this; cases this
theorem Inv.bs (I : Inv X pins σ H s) : ∀ b o, X.base.get? b = some o → s.heap.get? b = some o ∧ H b = none := fun b o e =>
  ⟨I.base.keep b o (I.ok.bs b o e).1 (I.ok.bs b o e).2 (I.ok.nofr e) (I.ok.noex b o e), I.base.free b o (I.ok.bs b o e).1 (I.ok.bs b o e).2 (I.ok.noex b o e)⟩
theorem Inv.bk (I : Inv X pins σ H s) : ∀ b o, X.base.get? b = some o → s.heap.get? b = some o := fun b o e => (I.bs b o e).1
theorem Inv.mod (I : Inv X pins σ H s) : Mod X.K X.mg X.base := I.ok.mod
theorem Inv.kIn (I : Inv X pins σ H s) : X.K.In s.heap := I.ok.mod.kin.keeps I.bk
theorem Inv.lt (I : Inv X pins σ H s) : X.env.locals < s.heap.objs.size := let ⟨_, hn, _⟩ := I.loc; hn.lt
theorem Inv.sz (I : Inv X pins σ H s) : X.s₀.heap.objs.size ≤ s.heap.objs.size := Nat.le_trans I.ok.above (Nat.le_of_lt I.lt)
theorem Inv.nofs (I : Inv X pins σ H s) {a : Addr} (h : s.heap.objs.size ≤ a) : a ∉ X.fs := fun hb => by
  obtain ⟨_, o, ho, _⟩ := I.ok.funs.mem hb
  exact absurd (Nat.lt_of_lt_of_le (Heap.lt_size ho) (Nat.le_trans I.sz h)) (Nat.lt_irrefl _)
theorem Inv.cne (I : Inv X pins σ H s) : ∀ x c, X.env.cells.lookup x = some c → c ≠ X.env.locals := fun x c e z => by
  obtain ⟨v, o, ho, hd⟩ := I.cell x c e
  obtain ⟨m, ⟨o', es, ep, ho', hd', _⟩, _⟩ := I.loc
  rw [z, ho'] at ho; cases ho; rw [hd'] at hd; cases hd
theorem Inv.funs (I : Inv X pins σ H s) : s.heap.FunFrames X.base X.outer := by
  have all : ∀ (l : List Env), (∀ b ∈ frs l, b ∈ X.fs) → X.s₀.heap.FunFrames X.base l → s.heap.FunFrames X.base l := by
    intro l
    induction l with
    | nil => intro _ _; trivial
    | cons env r ih =>
      intro hs hl
      obtain ⟨hk, ⟨L, o, hf, hn, ho, hd⟩, hr⟩ := hl
      have hL : L ∈ X.fs := hs L (by unfold frs; rw [List.filterMap_cons, hf]; exact List.mem_cons_self)
      obtain ⟨sl, e⟩ := I.base.slot L o ho (I.ok.frf L hL) hL fun z => I.ok.exfs L z hL
      exact ⟨hk, ⟨L, _, hf, hn, e, hd⟩, ih (fun b hb => hs b (by unfold frs; rw [List.filterMap_cons, hf]; exact List.mem_cons_of_mem _ hb)) hr⟩
  exact all X.outer (fun _ hb => hb) I.ok.funs

/-- the frames that run, for a call -/
theorem Inv.stack (I : Inv X pins σ H s) : s.heap.FunFrames X.base X.stack := by
  rcases I.ok.stk with e | ⟨e, hf⟩
  · rw [e]; exact I.funs
  · rw [e]
    obtain ⟨m, hn, _⟩ := I.loc
    refine .cons (by rw [I.ok.kind]; decide) hf hn ?_ I.funs
    exact Heap.get?_none_of_le (Nat.le_trans I.ok.bsz I.ok.above)
theorem Inv.stkSub (I : Inv X pins σ H s) : ∀ b ∈ frs X.stack, b ∈ X.env.locals :: X.fs := fun b hb => by
  rcases I.ok.stk with e | ⟨e, hf⟩
  · rw [e] at hb; exact List.mem_cons_of_mem _ hb
  · rw [e] at hb
    unfold frs at hb
    rw [List.filterMap_cons, hf] at hb
    exact hb
theorem Inv.stkFree (I : Inv X pins σ H s) : ∀ b ∈ frs X.stack, H b = none := fun b hb => by
  rcases List.mem_cons.mp (I.stkSub b hb) with e | hb
  · rw [e]; exact I.free
  · obtain ⟨_, o, ho, _⟩ := I.ok.funs.mem hb
    exact I.base.free b o ho (I.ok.frf b hb) fun z => I.ok.exfs b z hb

/-- THE STEP: the untracked objects but the frame and the records at ch are kept (the callers' frames up to slots), the frame's map is kept, the new abstract heap is held -/
theorem Inv.step {g' : Array GenState} {t' : Nat} {d' : Drawn} {ch : List Addr} (I : Inv X pins σ H s)
    (hch : ∀ b ∈ ch, (b ∈ X.ex ∨ X.s₀.heap.objs.size ≤ b) ∧ b ≠ X.env.locals ∧ (∀ x c, X.env.cells.lookup x = some c → c ≠ b) ∧ ∀ p ∈ X.pn ++ pins, p.1 ≠ b)
    (keep : ∀ b o, b ≠ X.env.locals → b ∉ X.fs → b ∉ ch → s.heap.get? b = some o → H b = none → h'.get? b = some o)
    (slot : ∀ b o, b ≠ X.env.locals → b ∈ X.fs → b ∉ ch → s.heap.get? b = some o → H b = none → ∃ sl, h'.get? b = some { o with slots := sl }) (free : ∀ b o, b ∉ ch → s.heap.get? b = some o → H b = none → H' b = none)
    (there : ∀ b o, b ∉ ch → s.heap.get? b = some o → ∃ o', h'.get? b = some o')
    (tups : ∀ b xs, H b = some (.tup xs) → H' b = some (.tup xs)) (frzs : ∀ b o u, H b = some (.frz o u) → H' b = some (.frz o u)) (tbls : ∀ b ps, H b = some (.tbl ps) → ∃ more, H' b = some (.tbl (ps ++ more)))
    (ns : ∀ m, s.heap.Ns X.env.locals m → h'.Ns X.env.locals m) (hok : HOk X.prog X.w H' h') (hg : AllBare g') :
    Inv X pins σ H' { s with heap := h', gens := g', drawn := d', toks := t' } := by
  have neL : ∀ b o, X.s₀.heap.get? b = some o → b ≠ X.env.locals := fun b o e => Nat.ne_of_lt (Nat.lt_of_lt_of_le (Heap.lt_size e) I.ok.above)
  have neC : ∀ b o, X.s₀.heap.get? b = some o → b ∉ X.ex → b ∉ ch := fun b o e hx hb => by
    rcases (hch b hb).1 with z | z
    · exact hx z
    · exact absurd (Nat.lt_of_lt_of_le (Heap.lt_size e) z) (Nat.lt_irrefl _)
  have cellK : ∀ x c, X.env.cells.lookup x = some c → ∀ v, s.heap.IsCell c v → h'.IsCell c v := fun x c e v ⟨o, ho, hd⟩ => by
    have nch : c ∉ ch := fun z => (hch c z).2.2.1 x c e rfl
    by_cases hc : c ∈ X.fs
    · obtain ⟨sl, q⟩ := slot c o (I.cne x c e) hc nch ho (I.freeC x c e)
      exact ⟨_, q, hd⟩
    · exact ⟨o, keep c o (I.cne x c e) hc nch ho (I.freeC x c e), hd⟩
  refine ⟨I.ok, I.os, hg, ⟨fun b o e n hb hx => ?_, fun b o e n hb hx => ?_, fun b o e n hx => ?_, fun b o e hx => ?_, fun b xs e => tups b xs (I.base.tups b xs e), fun b o xs e => frzs b o xs (I.base.frzs b o xs e), fun b ps e => ?_⟩, ?_, fun x c e => ?_, ?_, fun x c e => ?_, fun p hp => ?_, hok, I.len⟩
  · exact keep b o (neL b o e) hb (neC b o e hx) (I.base.keep b o e n hb hx) (I.base.free b o e n hx)
  · obtain ⟨sl, e1⟩ := I.base.slot b o e n hb hx
    obtain ⟨sl', e2⟩ := slot b _ (neL b o e) hb (neC b o e hx) e1 (I.base.free b o e n hx)
    exact ⟨sl', e2⟩
  · obtain ⟨o', e1⟩ := I.base.there b o e hx
    exact free b o' (neC b o e hx) e1 (I.base.free b o e n hx)
  · obtain ⟨o', e1⟩ := I.base.there b o e hx
    exact there b o' (neC b o e hx) e1
  · obtain ⟨m1, e1⟩ := I.base.tbls b ps e
    obtain ⟨m2, e2⟩ := tbls b _ e1
    exact ⟨m1 ++ m2, by rw [e2, Array.append_assoc]⟩
  · obtain ⟨m, hn, hl⟩ := I.loc
    refine ⟨m, ns m hn, fun i x v e1 e2 e3 => ?_⟩
    obtain ⟨u, r, l⟩ := hl i x v e1 e2 e3
    refine ⟨u, r, ?_⟩
    rcases l with l | ⟨k, c, e, z⟩
    · exact .inl l
    · exact .inr ⟨k, c, e, cellK x c e _ z⟩
  · obtain ⟨v, z⟩ := I.cell x c e
    exact ⟨v, cellK x c e v z⟩
  · obtain ⟨m, ⟨o, _, _, ho, _⟩, _⟩ := I.loc
    exact free _ o (fun z => (hch _ z).2.1 rfl) ho I.free
  · obtain ⟨v, o, ho, hd⟩ := I.cell x c e
    exact free c o (fun z => (hch c z).2.2.1 x c e rfl) ho (I.freeC x c e)
  · obtain ⟨e, n, ne, nf, d⟩ := I.pin p hp
    have nch : p.1 ∉ ch := fun z => (hch p.1 z).2.2.2 p hp rfl
    exact ⟨keep p.1 p.2 ne nf nch e n, free p.1 p.2 nch e n, ne, nf, d⟩
/-- .. where the frame's own object is kept too -/
theorem Inv.un {t' : Nat} (I : Inv X pins σ H s) (u : Un X.fs [] H H' s.heap h') (hok : HOk X.prog X.w H' h') : Inv X pins σ H' { s with heap := h', toks := t' } := by
  obtain ⟨m, ⟨o, es, ep, ho, r⟩, _⟩ := id I.loc
  obtain ⟨sl, hL⟩ := u.any ho I.free (by simp)
  exact I.step (g' := s.gens) (d' := s.drawn) (ch := []) (fun _ z => nomatch z) (fun b o _ hb _ e n => u.keep b o e n hb (by simp)) (fun b o _ hb _ e n => u.slot b o e n hb (by simp)) (fun b o _ e n => u.free b o e n (by simp)) (fun b o _ e => u.there b o e (by simp)) u.tups u.frzs u.tbls (fun m' hm => by
    obtain ⟨o', es', ep', ho', r'⟩ := hm
    rw [ho] at ho'; cases ho'
    exact ⟨_, es', ep', hL, r'⟩) hok I.bare
/-- behind a call (or a comprehension's block): the slots of this frame may have changed too, the records at ch may have turned -/
theorem Inv.call {g' : Array GenState} {t' : Nat} {d' : Drawn} {ch : List Addr} (I : Inv X pins σ H s) (u : Un (frs X.stack) ch H H' s.heap h') (hok : HOk X.prog X.w H' h') (hg : AllBare g')
    (hch : ∀ b ∈ ch, (b ∈ X.ex ∨ X.s₀.heap.objs.size ≤ b) ∧ b ≠ X.env.locals ∧ (∀ x c, X.env.cells.lookup x = some c → c ≠ b) ∧ ∀ p ∈ X.pn ++ pins, p.1 ≠ b) :
    Inv X pins σ H' { s with heap := h', gens := g', drawn := d', toks := t' } := by
  obtain ⟨m, ⟨o, es, ep, ho, r⟩, _⟩ := id I.loc
  obtain ⟨sl, hL⟩ := u.any ho I.free fun z => (hch _ z).2.1 rfl
  exact I.step (ch := ch) hch (fun b o hL hb hc e n => u.keep b o e n (fun z => (List.mem_cons.mp (I.stkSub b z)).elim hL hb) hc) (fun b o _ _ hc e n => u.any e n hc) (fun b o hc e n => u.free b o e n hc) (fun b o hc e => u.there b o e hc) u.tups u.frzs u.tbls (fun m' hm => by
    obtain ⟨o', es', ep', ho', r'⟩ := hm
    rw [ho] at ho'; cases ho'
    exact ⟨_, es', ep', hL, r'⟩) hok hg
/-- an untracked record of ours (an iterator) has turned -/
theorem Inv.turned {t' : Nat} {it : Addr} (I : Inv X pins σ H s) (k : ∀ b o, b ≠ it → s.heap.get? b = some o → h'.get? b = some o) (hn : H it = none) (hL : it ≠ X.env.locals)
    (h1 : it ∈ X.ex ∨ X.s₀.heap.objs.size ≤ it) (h2 : ∀ x c, X.env.cells.lookup x = some c → c ≠ it) (h3 : ∀ p ∈ X.pn ++ pins, p.1 ≠ it) : Inv X pins σ H { s with heap := h', toks := t' } := by
  have nit : ∀ b u, H b = some u → b ≠ it := fun b u e z => by rw [z, hn] at e; cases e
  refine I.step (g' := s.gens) (d' := s.drawn) (ch := [it]) (fun b hb => ?_) (fun b o _ _ hc e _ => k b o (fun z => hc (by simp [z])) e) (fun b o _ _ hc e _ => ⟨o.slots, k b o (fun z => hc (by simp [z])) e⟩) (fun _ _ _ _ n => n)
    (fun b o hc e => ⟨o, k b o (fun z => hc (by simp [z])) e⟩) (fun _ _ e => e) (fun _ _ _ e => e) (fun b ps e => ⟨#[], by rw [e]; simp⟩) (fun m hm => ?_) (fun b u e => ?_) I.bare
  · have e : b = it := by simpa using hb
    subst e
    exact ⟨h1, hL, h2, h3⟩
  · obtain ⟨o, es, ep, ho, r⟩ := hm
    exact ⟨o, es, ep, k _ o (Ne.symm hL) ho, r⟩
  · refine (I.hok b u e).stay (fun c v hc q => k c v ?_ q) (fun _ q => q) fun _ _ q => q
    rcases hc with z | z
    · rw [z]; exact nit b u e
    · exact nit c _ z
theorem Inv.tok (I : Inv X pins σ H s) (t : Nat) : Inv X pins σ H { s with toks := t } := I.un (h' := s.heap) (t' := t) Un.refl I.hok
/-- all objects kept -/
theorem Inv.kept {t' : Nat} (I : Inv X pins σ H s) (k : ∀ b u, s.heap.get? b = some u → h'.get? b = some u) : Inv X pins σ H { s with heap := h', toks := t' } := I.un (Un.kept k) (I.hok.kept k)
/-- a new object laid and tracked -/
theorem Inv.laid {a : Addr} {o : HO} {t' : Nat} (I : Inv X pins σ H s) (k : ∀ b u, s.heap.get? b = some u → h'.get? b = some u) (hp : s.heap.objs.size ≤ a) (new : ObjOk X.prog X.w (upd H a o) h' a o) :
    Inv X pins σ (upd H a o) { s with heap := h', toks := t' } := I.un (Un.laid k hp (I.hok.fresh hp)) (I.hok.laid k hp new)
/-- an object written -/
theorem Inv.write {x e : Addr} {o : HO} {t' : Nat} (I : Inv X pins σ H s) (mu : Mut (H x)) (he : e = x ∨ H e = some (.own x)) (k : ∀ b u, b ≠ e → s.heap.get? b = some u → h'.get? b = some u) (heo : ∃ u, h'.get? e = some u)
    (new : ObjOk X.prog X.w (upd H x o) h' x o) : Inv X pins σ (upd H x o) { s with heap := h', toks := t' } := I.un (Un.write mu he k heo) (I.hok.write mu he k heo new)
theorem Inv.pins_of {pins' : List (Addr × Obj)} (I : Inv X pins σ H s) (h : ∀ p ∈ pins', s.heap.get? p.1 = some p.2 ∧ H p.1 = none ∧ p.1 ≠ X.env.locals ∧ p.1 ∉ X.fs ∧ ∀ v, p.2.data ≠ .cell v) : Inv X pins' σ H s :=
  ⟨I.ok, I.os, I.bare, I.base, I.loc, I.cell, I.free, I.freeC, fun p hp => (List.mem_append.mp hp).elim (fun z => I.pin p (List.mem_append_left _ z)) (h p), I.hok, I.len⟩

theorem nodup_ix {N : List Str} (hN : N.Nodup) {i j : Nat} {x : Str} (a : N[i]? = some x) (b : N[j]? = some x) : i = j := by
  obtain ⟨h1, e1⟩ := List.getElem?_eq_some_iff.mp a
  obtain ⟨h2, e2⟩ := List.getElem?_eq_some_iff.mp b
  exact (List.getElem_inj hN).mp (e1.trans e2.symm)

/-- a name is stored; what changed -/
theorem store_ok2 {M : Model} {A : Around} {E : Value → Shared → Prop} {i : Nat} {x : Str} {v : V} {u : Value} {Q : Unit → Shared → Prop} (I : Inv X pins σ H s) (hN : X.N.Nodup) (hi : X.N[i]? = some x) (hx : Loc X.env.scope x) (r : RelV v u)
    (h : ∀ s', Inv X pins (σ.set i (some v)) H s' → (∃ a, Heap.SameBut a s.heap s'.heap ∧ (a = X.env.locals ∨ X.env.cells.lookup x = some a)) → Q () s') (hf : X.fn x = true ∨ X.env.scope.names.lookup x = some .local := by first | exact .inl rfl | exact .inr rfl | assumption) : wpAny M A (storeName X.env x u) Q E s := by
  obtain ⟨m, hn, hl⟩ := id I.loc
  have hcls : (X.env.scope.kind == .class || (X.env.scope.kind == .module && X.env.locals != X.env.globals)) = false := by rw [I.ok.kind]; rfl
  have hiσ : i < σ.length := by rw [I.len]; exact (List.getElem?_eq_some_iff.mp hi).1
  have cne := I.cne
  have tracked : ∀ {a : Addr} {h' : Heap}, (∃ o, s.heap.get? a = some o ∧ H a = none) → Heap.SameBut a s.heap h' → HOk X.prog X.w H h' := fun {a h'} ha hs b ob e => by
    obtain ⟨_, _, hfree⟩ := ha
    refine (I.hok b ob e).stay (fun c w' hc q => (hs.2 c ?_).trans q) (fun _ q => q) fun _ _ q => q
    rintro rfl
    rcases hc with rfl | hc
    · rw [hfree] at e; cases e
    · rw [hfree] at hc; cases hc
  rcases hx with hk | hk
  · refine wpAny_storeName_local hk hn (fun h' hn' hs => ?_) hcls
    obtain ⟨oL, _, _, hoL, _⟩ := id hn
    refine h _ ⟨I.ok, I.os, I.bare, ⟨fun b o e n hb hx => ?_, fun b o e n hb hx => ?_, I.base.free, fun b o e hx => ?_, I.base.tups, I.base.frzs, I.base.tbls⟩, ⟨_, hn', fun j y v' e1 e2 e3 => ?_⟩, fun y c e => ?_, I.free, I.freeC, fun p hp => ?_, tracked ⟨oL, hoL, I.free⟩ hs, by simpa using I.len⟩ ⟨_, hs, .inl rfl⟩
    · exact (hs.2 b (Nat.ne_of_lt (Nat.lt_of_lt_of_le (Heap.lt_size e) I.ok.above))).trans (I.base.keep b o e n hb hx)
    · obtain ⟨sl, e1⟩ := I.base.slot b o e n hb hx
      exact ⟨sl, (hs.2 b (Nat.ne_of_lt (Nat.lt_of_lt_of_le (Heap.lt_size e) I.ok.above))).trans e1⟩
    · obtain ⟨o', e1⟩ := I.base.there b o e hx
      exact ⟨o', (hs.2 b (Nat.ne_of_lt (Nat.lt_of_lt_of_le (Heap.lt_size e) I.ok.above))).trans e1⟩
    · by_cases hj : j = i
      · subst hj
        rw [hi] at e1; cases e1
        rw [List.getElem?_set_self hiσ] at e2
        cases e2
        exact ⟨u, r, .inl ⟨hk, by simp⟩⟩
      · rw [List.getElem?_set_ne (Ne.symm hj)] at e2
        obtain ⟨u', r', q⟩ := hl j y v' e1 e2 e3
        refine ⟨u', r', ?_⟩
        rcases q with ⟨k, e⟩ | ⟨k, c, e, z⟩
        · refine .inl ⟨k, ?_⟩
          have : y ≠ x := fun e => hj (nodup_ix hN e1 (e ▸ hi))
          simp [this, e]
        · exact .inr ⟨k, c, e, z.sameBut hs (cne y c e)⟩
    · obtain ⟨w', z⟩ := I.cell y c e
      exact ⟨w', z.sameBut hs (cne y c e)⟩
    · obtain ⟨e, n, ne, nf, d⟩ := I.pin p hp
      exact ⟨(hs.2 p.1 ne).trans e, n, ne, nf, d⟩
  · have hfn : X.fn x = true := by
      rcases hf with z | z
      · exact z
      · rw [z] at hk; cases hk
    obtain ⟨c, hc⟩ := I.ok.has x (.inl hk)
    obtain ⟨w', z⟩ := I.cell x c hc
    refine wpAny_storeName_cell I.ok.kind hk hc z (fun h' hc' hs => ?_)
    obtain ⟨oc, hoc, hocd⟩ := id z
    refine h { s with heap := h' } ⟨I.ok, I.os, I.bare, ⟨fun b o e n hb hx => ?_, fun b o e n hb hx => ?_, I.base.free, fun b o e hx => ?_, I.base.tups, I.base.frzs, I.base.tbls⟩, ⟨m, hn.sameBut hs (Ne.symm (cne x c hc)), fun j y v' e1 e2 e3 => ?_⟩, fun y c' e => ?_, I.free, I.freeC, fun p hp => ?_, tracked ⟨oc, hoc, I.freeC x c hc⟩ hs, by simpa using I.len⟩ ⟨c, hs, .inr hc⟩
    · exact (hs.2 b (Nat.ne_of_lt (Nat.lt_of_lt_of_le (Heap.lt_size e) (I.ok.cab x c hfn hc)))).trans (I.base.keep b o e n hb hx)
    · obtain ⟨sl, e1⟩ := I.base.slot b o e n hb hx
      exact ⟨sl, (hs.2 b (Nat.ne_of_lt (Nat.lt_of_lt_of_le (Heap.lt_size e) (I.ok.cab x c hfn hc)))).trans e1⟩
    · obtain ⟨o', e1⟩ := I.base.there b o e hx
      exact ⟨o', (hs.2 b (Nat.ne_of_lt (Nat.lt_of_lt_of_le (Heap.lt_size e) (I.ok.cab x c hfn hc)))).trans e1⟩
    · by_cases hj : j = i
      · subst hj
        rw [hi] at e1; cases e1
        rw [List.getElem?_set_self hiσ] at e2
        cases e2
        exact ⟨u, r, .inr ⟨.inl hk, c, hc, hc'⟩⟩
      · rw [List.getElem?_set_ne (Ne.symm hj)] at e2
        obtain ⟨u', r', q⟩ := hl j y v' e1 e2 e3
        refine ⟨u', r', ?_⟩
        rcases q with q | ⟨k, c', e, z'⟩
        · exact .inl q
        · refine .inr ⟨k, c', e, z'.sameBut hs ?_⟩
          rintro rfl
          exact hj (nodup_ix hN e1 (I.ok.inj _ _ _ e hc ▸ hi))
    · by_cases hcc : c' = c
      · subst hcc; exact ⟨_, hc'⟩
      · obtain ⟨w2, z2⟩ := I.cell y c' e
        exact ⟨w2, z2.sameBut hs hcc⟩
    · obtain ⟨e, n, ne, nf, d⟩ := I.pin p hp
      refine ⟨(hs.2 p.1 ?_).trans e, n, ne, nf, d⟩
      intro q
      rw [q, hoc] at e
      have q' : oc = p.2 := Option.some.inj e
      exact d w' (by rw [← q']; exact hocd)
theorem store_ok {M : Model} {A : Around} {E : Value → Shared → Prop} {i : Nat} {x : Str} {v : V} {u : Value} {Q : Unit → Shared → Prop} (I : Inv X pins σ H s) (hN : X.N.Nodup) (hi : X.N[i]? = some x) (hx : Loc X.env.scope x) (r : RelV v u)
    (h : ∀ s', Inv X pins (σ.set i (some v)) H s' → Q () s') (hf : X.fn x = true ∨ X.env.scope.names.lookup x = some .local := by first | exact .inl rfl | exact .inr rfl | assumption) : wpAny M A (storeName X.env x u) Q E s :=
  store_ok2 I hN hi hx r (fun s' I' _ => h s' I') hf
/-- behind a call or a block, the state as it is -/
theorem Inv.call' {s' : Shared} {ch : List Addr} (I : Inv X pins σ H s) (ho : s'.os = s.os) (u : Un (frs X.stack) ch H H' s.heap s'.heap) (hok : HOk X.prog X.w H' s'.heap) (hg : AllBare s'.gens)
    (hch : ∀ b ∈ ch, (b ∈ X.ex ∨ X.s₀.heap.objs.size ≤ b) ∧ b ≠ X.env.locals ∧ (∀ x c, X.env.cells.lookup x = some c → c ≠ b) ∧ ∀ p ∈ X.pn ++ pins, p.1 ≠ b) : Inv X pins σ H' s' := by
  obtain ⟨h', g', d', t', o'⟩ := s'
  have e : o' = s.os := ho
  subst e
  exact I.call (g' := g') (t' := t') (d' := d') u hok hg hch
end

/-! ### the judgements -/
/-- an exception: its class, its own dict's address (where it has one), the abstract heap behind it -/
abbrev XK := Value → Option Addr → Hp → Prop
abbrev St := List (Option V)
abbrev VK := V → Hp → Prop
/-- an expression's reading; a test's; an argument list's -/
abbrev TE := St → Hp → VK → Prop
abbrev TT := St → Hp → (Bool → Hp → Prop) → Prop
abbrev TA := St → Hp → (List V → Hp → Prop) → Prop
/-- what is wanted behind a statement -/
structure Ends where
  nx : St → Hp → Prop
  rt : VK
  bk : St → Hp → Prop := fun _ _ => False
  ct : St → Hp → Prop := fun _ _ => False
abbrev TS := Ends → St → Hp → Prop

def EP (X : Cx) (pins : List (Addr × Obj)) (σ : St) (Q : VK) (u : Value) (s' : Shared) : Prop := ∃ v H', Inv X pins σ H' s' ∧ RelV v u ∧ Q v H'
def TP (X : Cx) (pins : List (Addr × Obj)) (σ : St) (Q : Bool → Hp → Prop) (b : Bool) (s' : Shared) : Prop := ∃ H', Inv X pins σ H' s' ∧ Q b H'
def AP (X : Cx) (pins : List (Addr × Obj)) (σ : St) (Q : List V → Hp → Prop) (us : List Value) (s' : Shared) : Prop := ∃ vs H', Inv X pins σ H' s' ∧ Vals vs us ∧ Q vs H'
def SP (X : Cx) (pins : List (Addr × Obj)) (D : Ends) (f : Flow) (s' : Shared) : Prop :=
  match f with
  | .next => ∃ σ' H', Inv X pins σ' H' s' ∧ D.nx σ' H'
  | .brk => ∃ σ' H', Inv X pins σ' H' s' ∧ D.bk σ' H'
  | .cont => ∃ σ' H', Inv X pins σ' H' s' ∧ D.ct σ' H'
  | .ret u => ∃ v σ' H', Inv X pins σ' H' s' ∧ RelV v u ∧ D.rt v H'

def PE (X : Cx) (e : Expr) (t : TE) : Prop :=
  ∀ (pins : List (Addr × Obj)) (s : Shared) (σ : St) (H : Hp) (Q : VK), Inv X pins σ H s → t σ H Q → wpAny (model X.prog X.w) X.A (eval e X.env) (EP X pins σ Q) X.xe s
def PT (X : Cx) (e : Expr) (t : TT) : Prop :=
  ∀ (pins : List (Addr × Obj)) (s : Shared) (σ : St) (H : Hp) (Q : Bool → Hp → Prop), Inv X pins σ H s → t σ H Q → wpAny (model X.prog X.w) X.A (isTrue e X.env (eval e X.env)) (TP X pins σ Q) X.xe s
/-- a test whatever its 'whole' is (and, or) -/
def PW (X : Cx) (e : Expr) (t : TT) : Prop :=
  ∀ (whole : Sem Value) (pins : List (Addr × Obj)) (s : Shared) (σ : St) (H : Hp) (Q : Bool → Hp → Prop), Inv X pins σ H s → t σ H Q → wpAny (model X.prog X.w) X.A (isTrue e X.env whole) (TP X pins σ Q) X.xe s
theorem PW.pt {X : Cx} {e : Expr} {t : TT} (h : PW X e t) : PT X e t := h _
/-- an argument list (no star), from the left -/
def PA (X : Cx) (es : List Expr) (t : TA) : Prop :=
  ∀ (pos : Pos) (pins : List (Addr × Obj)) (s : Shared) (σ : St) (H : Hp) (Q : List V → Hp → Prop), Inv X pins σ H s → t σ H Q → wpAny (model X.prog X.w) X.A (spliced (backTo pos (starEach es X.env))) (AP X pins σ Q) X.xe s
def PS (X : Cx) (st : Stmt) (t : TS) : Prop :=
  ∀ (pins : List (Addr × Obj)) (s : Shared) (σ : St) (H : Hp) (D : Ends), Inv X pins σ H s → t D σ H → wpAny (model X.prog X.w) X.A (exec st X.env) (SP X pins D) X.xe s
def PSs (X : Cx) (st : List Stmt) (t : TS) : Prop :=
  ∀ (pins : List (Addr × Obj)) (s : Shared) (σ : St) (H : Hp) (D : Ends), Inv X pins σ H s → t D σ H → wpAny (model X.prog X.w) X.A (execs st X.env) (SP X pins D) X.xe s
/-- weaken the end -/
theorem thn {α : Type} {t : Sem α} {Q Q' : α → Shared → Prop} {M : Model} {A : Around} {E : Value → Shared → Prop} {s : Shared} (h : wpAny M A t Q E s) (hQ : ∀ a s, Q a s → Q' a s) : wpAny M A t Q' E s := wpAny_mono h hQ fun _ _ x => x
end L2

namespace L2
open PySem PySem.Spec PyProof.Rows
section
variable {X : Cx}


/-! ### names and constants -/
def tVar (i : Nat) : TE := fun σ H Q => ∃ v, σ[i]? = some (some v) ∧ Q v H
def tC (v : V) : TE := fun _ H Q => Q v H
theorem pe_var {i : Nat} {x : Str} {pos : Pos} (hN : X.N[i]? = some x) (hv : Vis X.env.scope x) (hd : (x == ("__debug__" : Str)) = false := by decide) (hcd : (x == ("__classdict__" : Str)) = false := by decide) : PE X (.Name x pos) (tVar i) := by
  intro pins s σ H Q I h
  obtain ⟨v, e, h⟩ := h
  obtain ⟨m, hn, hl⟩ := I.loc
  obtain ⟨u, r, l⟩ := hl i x v hN e hv
  have fin : EP X pins σ Q u s := ⟨v, H, I, r, h⟩
  rcases l with ⟨hk, hm⟩ | ⟨hk, c, hc, hcell⟩
  · exact wpAny_Name (wpAny_loadName_local I.ok.kind hk hn hm fin) hd
  · rcases hk with hk | hk
    · exact wpAny_Name (wpAny_loadName_cell I.ok.kind hk hc hcell fin) hd
    · exact wpAny_Name (wpAny_loadName_free I.ok.kind hk hc hcell fin hcd) hd
theorem pe_int {i j pos} : PE X (.Constant (.int i) j pos) (tC (.int i)) := fun _ _ _ H _ I h => wpAny_Constant_int ⟨.int i, H, I.tok _, ⟨_, rfl⟩, h⟩
theorem pe_bl {b j pos} : PE X (.Constant (.bool b) j pos) (tC (.bl b)) := fun _ _ _ H _ I h => Constant_bool ⟨.bl b, H, I, rfl, h⟩
theorem pe_non {j pos} : PE X (.Constant .none j pos) (tC .non) := fun _ _ _ H _ I h => Constant_none ⟨.non, H, I, rfl, h⟩
theorem pe_str {x j pos} : PE X (.Constant (.str x) j pos) (tC (.str x)) := fun _ _ _ H _ I h => Calls.Constant_str ⟨.str x, H, I.tok _, ⟨_, rfl⟩, h⟩

/-- a global name of the def -/
def Gl (X : Cx) (x : Str) : Prop := X.env.kindOf x = some .globalImplicit
theorem ld_glob {E : Value → Shared → Prop} {pins : List (Addr × Obj)} {s : Shared} {σ : St} {H : Hp} {x : Str} {u : Value} {pos : Pos} {Q : Value → Shared → Prop} (I : Inv X pins σ H s) (hg : Gl X x) (hm : X.mg x = some u) (h : Q u s)
    (hd : (x == ("__debug__" : Str)) = false := by decide) : wpAny (model X.prog X.w) X.A (eval (.Name x pos) X.env) Q E s :=
  Calls.Name_function_global I.ok.kind hg (Calls.loadGlobal_global (by rw [I.ok.glob]; exact I.mod.glob.keeps I.bk) hm h) hd
theorem ld_blt {E : Value → Shared → Prop} {pins : List (Addr × Obj)} {s : Shared} {σ : St} {H : Hp} {x : Str} {u : Value} {pos : Pos} {Q : Value → Shared → Prop} (I : Inv X pins σ H s) (hg : Gl X x) (hm : X.mg x = none) (hv : bootBuiltins x = some u) (h : Q u s)
    (hn : x ≠ "__name__" := by decide) (hd : (x == ("__debug__" : Str)) = false := by decide) : wpAny (model X.prog X.w) X.A (eval (.Name x pos) X.env) Q E s := by
  obtain ⟨mb, h1, h2⟩ := I.mod.blt
  exact Calls.Name_function_global I.ok.kind hg (Calls.loadGlobal_builtin (by rw [I.ok.glob]; exact I.mod.glob.keeps I.bk) hm (by rw [I.ok.blt]; exact h1.keeps I.bk) ((h2 x hn).trans hv) h) hd
/-- a module's constant, a class, a function, as a value -/
theorem pe_glob {x : Str} {v : V} {u : Value} {pos : Pos} (hg : Gl X x) (hm : X.mg x = some u) (r : RelV v u) (hd : (x == ("__debug__" : Str)) = false := by decide) : PE X (.Name x pos) (tC v) :=
  fun _ _ _ H _ I h => ld_glob I hg hm ⟨v, H, I, r, h⟩ hd
theorem pe_bltn {x : Str} {v : V} {u : Value} {pos : Pos} (hg : Gl X x) (hm : X.mg x = none) (hv : bootBuiltins x = some u) (r : RelV v u) (hn : x ≠ "__name__" := by decide) (hd : (x == ("__debug__" : Str)) = false := by decide) : PE X (.Name x pos) (tC v) :=
  fun _ _ _ H _ I h => ld_blt I hg hm hv ⟨v, H, I, r, h⟩ hn hd

/-! ### arithmetic -/
variable {a b : Expr} {ta tb : TE} {pos : Pos}

/-! ### comparisons -/

/-! ### and, or, not -/
variable {tA tB' : TT} {rest : List Expr}
def tAnd (t u : TT) : TT := fun σ H Q => t σ H fun c H1 => if c = true then u σ H1 Q else Q false H1
def tOr (t u : TT) : TT := fun σ H Q => t σ H fun c H1 => if c = true then Q true H1 else u σ H1 Q
def tNot (t : TT) : TT := fun σ H Q => t σ H fun c H1 => Q (!c) H1
theorem pw_and1 (ha : PT X a tA) : PW X (.BoolOp .And [a] pos) tA := by
  intro wh pins s σ H Q I h
  refine isTrue_and (thn (ha pins s σ H Q I h) fun c s1 e => ?_)
  cases c with
  | true => exact isTrue_and_nil e
  | false => exact e
theorem pw_or1 (ha : PT X a tA) : PW X (.BoolOp .Or [a] pos) tA := by
  intro wh pins s σ H Q I h
  refine isTrue_or (thn (ha pins s σ H Q I h) fun c s1 e => ?_)
  cases c with
  | false => exact isTrue_or_nil e
  | true => exact e
theorem pw_and (ha : PT X a tA) (hb : PW X (.BoolOp .And (b :: rest) pos) tB') : PW X (.BoolOp .And (a :: b :: rest) pos) (tAnd tA tB') := by
  intro wh pins s σ H Q I h
  refine isTrue_and (thn (ha pins s σ H _ I h) fun c s1 ⟨H1, I1, q1⟩ => ?_)
  cases c with
  | true => exact hb wh pins s1 σ H1 Q I1 q1
  | false => exact ⟨H1, I1, q1⟩
theorem pw_or (ha : PT X a tA) (hb : PW X (.BoolOp .Or (b :: rest) pos) tB') : PW X (.BoolOp .Or (a :: b :: rest) pos) (tOr tA tB') := by
  intro wh pins s σ H Q I h
  refine isTrue_or (thn (ha pins s σ H _ I h) fun c s1 ⟨H1, I1, q1⟩ => ?_)
  cases c with
  | true => exact ⟨H1, I1, q1⟩
  | false => exact hb wh pins s1 σ H1 Q I1 q1
theorem pt_not (ha : PT X a tA) : PT X (.UnaryOp .Not a pos) (tNot tA) := by
  intro pins s σ H Q I h
  exact isTrue_not (ha pins s σ H (fun c H1 => Q (!c) H1) I h)
/-- .. as values (bools) -/
def tAndV (ta tb : TE) : TE := fun σ H Q => ta σ H fun x H1 => ∃ c, x = .bl c ∧ if c = true then tb σ H1 Q else Q (.bl false) H1
def tOrV (ta tb : TE) : TE := fun σ H Q => ta σ H fun x H1 => ∃ c, x = .bl c ∧ if c = true then Q (.bl true) H1 else tb σ H1 Q
def tNotV (ta : TE) : TE := fun σ H Q => ta σ H fun x H1 => ∃ c, x = .bl c ∧ Q (.bl (!c)) H1
theorem pe_one {op} {t : TE} (h : PE X a t) : PE X (.BoolOp op [a] pos) t := fun pins s σ H Q I hw => BoolOp_one (h pins s σ H Q I hw)
theorem pe_and (ha : PE X a ta) (hb : PE X (.BoolOp .And (b :: rest) pos) tb) : PE X (.BoolOp .And (a :: b :: rest) pos) (tAndV ta tb) := by
  intro pins s σ H Q I h
  refine BoolOp_and (thn (ha pins s σ H _ I h) fun v s1 ⟨x, H1, I1, r1, q1⟩ => ?_)
  obtain ⟨c, rfl, q1⟩ := q1
  cases r1
  refine wpAny_truthy_bool ?_
  cases c with
  | true => exact hb pins s1 σ H1 Q I1 q1
  | false => exact ⟨.bl false, H1, I1, rfl, q1⟩
theorem pe_or (ha : PE X a ta) (hb : PE X (.BoolOp .Or (b :: rest) pos) tb) : PE X (.BoolOp .Or (a :: b :: rest) pos) (tOrV ta tb) := by
  intro pins s σ H Q I h
  refine BoolOp_or (thn (ha pins s σ H _ I h) fun v s1 ⟨x, H1, I1, r1, q1⟩ => ?_)
  obtain ⟨c, rfl, q1⟩ := q1
  cases r1
  refine wpAny_truthy_bool ?_
  cases c with
  | false => exact hb pins s1 σ H1 Q I1 q1
  | true => exact ⟨.bl true, H1, I1, rfl, q1⟩
theorem pe_not (ha : PE X a ta) : PE X (.UnaryOp .Not a pos) (tNotV ta) := by
  intro pins s σ H Q I h
  refine UnaryOp_ (thn (ha pins s σ H _ I h) fun v s1 ⟨x, H1, I1, r1, q1⟩ => ?_)
  obtain ⟨c, rfl, q1⟩ := q1
  cases r1
  exact not_of (wpAny_truthy_bool ⟨.bl (!c), H1, I1, rfl, q1⟩)
/-- a if t else b -/
def tIf (t : TT) (ta tb : TE) : TE := fun σ H Q => t σ H fun c H1 => if c = true then ta σ H1 Q else tb σ H1 Q
theorem pe_ifExp {c : Expr} (hc : PT X c tA) (ha : PE X a ta) (hb : PE X b tb) : PE X (.IfExp c a b pos) (tIf tA ta tb) := by
  intro pins s σ H Q I h
  refine wpAny_IfExp (thn (hc pins s σ H _ I h) fun d s1 ⟨H1, I1, q1⟩ => ?_)
  cases d with
  | true => exact ha pins s1 σ H1 Q I1 q1
  | false => exact hb pins s1 σ H1 Q I1 q1
end
end L2

namespace L2
open PySem PySem.Spec PyProof.Rows

/-! ### a list, a tuple that is read: tracked, frozen, or an object of the module -/
def SqL (K : PySem.W.Frag) (H : Hp) (a : Addr) (xs : List V) : Prop :=
  Rd H a (.lst xs) ∨
    ∃ (o : Obj) (its : Array Value) (n : Nat), K.lookup a = some o ∧ o.cls = .type "list" ∧ o.dict = none ∧ o.data = .seq its n ∧ its.size ≤ sizeLine ∧ Vals xs its.toList
def SqT (K : PySem.W.Frag) (H : Hp) (a : Addr) (xs : List V) : Prop :=
  Rd H a (.tup xs) ∨
    ∃ (o : Obj) (its : Array Value) (n : Nat), K.lookup a = some o ∧ o.cls = .type "tuple" ∧ o.data = .seq its n ∧ its.size ≤ sizeLine ∧ Vals xs its.toList
def absV : Value → Option V
  | .none => some .non
  | .bool b => some (.bl b)
  | .int i _ => some (.int i)
  | .str x _ => some (.str x)
  | .bytes b _ => some (.byt b)
  | .float b _ => some (.flt b)
  | .ref a => some (.ref a)
  | .type n => some (.ty n)
  | _ => none
theorem RelV.abs {x : V} {u : Value} (r : RelV x u) : absV u = some x := by
  cases x with
  | non => cases r; rfl
  | bl _ => cases r; rfl
  | int _ => obtain ⟨t, rfl⟩ := r; rfl
  | str _ => obtain ⟨t, rfl⟩ := r; rfl
  | byt _ => obtain ⟨t, rfl⟩ := r; rfl
  | flt _ => obtain ⟨t, rfl⟩ := r; rfl
  | ref _ => cases r; rfl
  | ty _ => cases r; rfl
theorem RelV.inj {x y : V} {u : Value} (r : RelV x u) (q : RelV y u) : x = y := Option.some.inj (r.abs.symm.trans q.abs)
theorem Vals.inj : ∀ {xs ys : List V} {us : List Value}, Vals xs us → Vals ys us → xs = ys
  | _, _, _, .nil, .nil => rfl
  | _, _, _, .cons r t, .cons r' t' => by rw [r.inj r', Vals.inj t t']
section
variable {X : Cx} {pins : List (Addr × Obj)} {σ : St} {H : Hp} {s : Shared} {a : Addr} {xs ys : List V}
theorem SqL.of {K : PySem.W.Frag} (h : H a = some (.lst xs)) : SqL K H a xs := .inl (.inl h)
theorem SqT.of {K : PySem.W.Frag} (h : H a = some (.tup xs)) : SqT K H a xs := .inl (.inl h)
theorem Inv.list (I : Inv X pins σ H s) (h : SqL X.K H a xs) : ∃ its : List Value, Vals xs its ∧ PlainL s.heap a its.toArray ∧ xs.length ≤ sizeLine := by
  rcases h with h | ⟨o, its, n, hk, hc, hd, hs, hz, r⟩
  · obtain ⟨z, its, n, r, e⟩ := h.ok I.hok
    exact ⟨its, r, ⟨_, n, e, rfl, rfl, rfl⟩, z⟩
  · refine ⟨its.toList, r, ⟨o, n, I.kIn a o hk, hc, hd, by simpa using hs⟩, ?_⟩
    have e := r.length
    simp only [Array.length_toList] at e
    omega
theorem Inv.tuple (I : Inv X pins σ H s) (h : SqT X.K H a xs) : ∃ its : List Value, Vals xs its ∧ IsTup s.heap a its.toArray ∧ xs.length ≤ sizeLine := by
  rcases h with h | ⟨o, its, n, hk, hc, hs, hz, r⟩
  · obtain ⟨z, its, r, p⟩ := h.ok I.hok
    exact ⟨its, r, p, z⟩
  · refine ⟨its.toList, r, ⟨o, I.kIn a o hk, hc, n, by simpa using hs⟩, ?_⟩
    have e := r.length
    simp only [Array.length_toList] at e
    omega
theorem Inv.list_inj (I : Inv X pins σ H s) (h : SqL X.K H a xs) (h' : SqL X.K H a ys) : xs = ys := by
  obtain ⟨its, r, ⟨o, n, e, _, _, d⟩, _⟩ := I.list h
  obtain ⟨its', r', ⟨o', n', e', _, _, d'⟩, _⟩ := I.list h'
  rw [e] at e'; cases e'
  rw [d] at d'
  injection d' with d1 _
  have : its = its' := by simpa using congrArg Array.toList d1
  subst this
  exact r.inj r'
end

/-! ### another wish about exceptions -/
abbrev Cx.wish (X : Cx) (E : Value → Shared → Prop) : Cx := { X with xe := E }
/-- no exception leaves -/
abbrev Cx.nox (X : Cx) : Cx := X.wish fun _ _ => False
theorem Cx.Ok.wish {X : Cx} (ok : X.Ok) (E : Value → Shared → Prop) : (X.wish E).Ok :=
  ⟨ok.mod, ok.kind, ok.glob, ok.blt, ok.above, ok.inj, ok.has, ok.cab, ok.hd, ok.frames, ok.stk, ok.exf, ok.bs, ok.bsz, ok.noex, ok.exfs, ok.funs, ok.frf⟩
theorem Cx.Ok.unwish {X : Cx} {E : Value → Shared → Prop} (ok : (X.wish E).Ok) : X.Ok :=
  ⟨ok.mod, ok.kind, ok.glob, ok.blt, ok.above, ok.inj, ok.has, ok.cab, ok.hd, ok.frames, ok.stk, ok.exf, ok.bs, ok.bsz, ok.noex, ok.exfs, ok.funs, ok.frf⟩
section
variable {X : Cx} {pins : List (Addr × Obj)} {σ : St} {H : Hp} {s : Shared} {E : Value → Shared → Prop}
theorem Inv.wish (I : Inv X pins σ H s) (E : Value → Shared → Prop) : Inv (X.wish E) pins σ H s := ⟨I.ok.wish E, I.os, I.bare, I.base, I.loc, I.cell, I.free, I.freeC, I.pin, I.hok, I.len⟩
theorem Inv.unwish (I : Inv (X.wish E) pins σ H s) : Inv X pins σ H s := ⟨I.ok.unwish, I.os, I.bare, I.base, I.loc, I.cell, I.free, I.freeC, I.pin, I.hok, I.len⟩
theorem SP.unwish {D : Ends} {f : Flow} {s' : Shared} (h : SP (X.wish E) pins D f s') : SP X pins D f s' := by
  cases f with
  | next => obtain ⟨σ', H', I, q⟩ := h; exact ⟨σ', H', I.unwish, q⟩
  | brk => obtain ⟨σ', H', I, q⟩ := h; exact ⟨σ', H', I.unwish, q⟩
  | cont => obtain ⟨σ', H', I, q⟩ := h; exact ⟨σ', H', I.unwish, q⟩
  | ret u => obtain ⟨v, σ', H', I, r, q⟩ := h; exact ⟨v, σ', H', I.unwish, r, q⟩
theorem PSs.nox {st : List Stmt} {t : TS} (h : PSs X.nox st t) : PSs X st t := fun pins s σ H D I hw =>
  wpAny_mono (h pins s σ H D (I.wish _) hw) (fun _ _ q => q.unwish) fun _ _ z => False.elim z
end

/-! ### blocks and small statements -/
section
variable {X : Cx} {st : Stmt} {rest : List Stmt} {t u : TS} {e : Expr} {te : TE} {pos : Pos}
def tNext : TS := fun D σ H => D.nx σ H
def tSeq (t u : TS) : TS := fun D σ H => t { D with nx := u D } σ H
theorem pss_nil : PSs X [] tNext := fun _ _ σ H _ I h => wpAny_execs_nil ⟨σ, H, I, h⟩
theorem pss_cons (h1 : PS X st t) (h2 : PSs X rest u) : PSs X (st :: rest) (tSeq t u) := by
  intro pins s σ H D I h
  refine wpAny_execs_cons (thn (h1 pins s σ H { D with nx := u D } I h) fun f s1 q => ?_)
  cases f with
  | next =>
    obtain ⟨σ', H', I', q⟩ := q
    exact h2 pins s1 σ' H' D I' q
  | ret v => exact q
  | brk => exact q
  | cont => exact q
theorem pss_one (h1 : PS X st t) : PSs X [st] t := by
  intro pins s σ H D I h
  refine wpAny_execs_cons (thn (h1 pins s σ H D I h) fun f s1 q => ?_)
  cases f with
  | next => exact wpAny_execs_nil q
  | ret v => exact q
  | brk => exact q
  | cont => exact q
/-- in a def's body nothing is shown -/
theorem Inv.quiet {pins : List (Addr × Obj)} {σ : St} {H : Hp} {s : Shared} (I : Inv X pins σ H s) : interactive X.env = false := by simp [interactive, I.ok.kind]
/-- an expression whose value is dropped -/
def tDrop (te : TE) : TS := fun D σ H => te σ H fun _ H1 => D.nx σ H1
theorem ps_expr (he : PE X e te) (hs : swapsWith e none pos.line X.env = pure false := by rfl) : PS X (.Expr e pos) (tDrop te) := by
  intro pins s σ H D I h
  exact wpAny_Expr_any (thn (he pins s σ H _ I h) fun v s1 ⟨x, H1, I1, r1, q1⟩ => ⟨σ, H1, I1, q1⟩) I.quiet hs
def tRet (te : TE) : TS := fun D σ H => te σ H D.rt
theorem ps_ret (he : PE X e te) : PS X (.Return (some e) pos) (tRet te) := by
  intro pins s σ H D I h
  exact wpAny_Return_some (thn (he pins s σ H _ I h) fun v s1 ⟨x, H1, I1, r1, q1⟩ => ⟨x, σ, H1, I1, r1, q1⟩)
def tIfS (c : TT) (t u : TS) : TS := fun D σ H => c σ H fun b H1 => if b = true then t D σ H1 else u D σ H1
theorem ps_if {c : Expr} {a b : List Stmt} {tc : TT} (hc : PT X c tc) (ha : PSs X a t) (hb : PSs X b u) : PS X (.If c a b pos) (tIfS tc t u) := by
  intro pins s σ H D I h
  refine wpAny_If (thn (hc pins s σ H _ I h) fun d s1 ⟨H1, I1, q1⟩ => ?_)
  cases d with
  | true => exact ha pins s1 σ H1 D I1 q1
  | false => exact hb pins s1 σ H1 D I1 q1
/-- code that the proof never comes to -/
def tNever : TS := fun _ _ _ => False
theorem ps_never : PS X st tNever := fun _ _ _ _ _ _ h => h.elim
theorem pss_never {sts : List Stmt} : PSs X sts tNever := fun _ _ _ _ _ _ h => h.elim
end

/-! ### targets -/
abbrev TG := V → St → Hp → (St → Hp → Prop) → Prop
abbrev TGs := List V → St → Hp → (St → Hp → Prop) → Prop
def PG (X : Cx) (target : Expr) (t : TG) : Prop :=
  ∀ (pins : List (Addr × Obj)) (s : Shared) (σ : St) (H : Hp) (v : V) (u : Value) (Q : St → Hp → Prop), Inv X pins σ H s → RelV v u → t v σ H Q →
    wpAny (model X.prog X.w) X.A (assign target X.env u) (fun _ s' => ∃ σ' H', Inv X pins σ' H' s' ∧ Q σ' H') X.xe s
/-- several targets, one after another -/
def PGs (X : Cx) (ts : List Expr) (t : TGs) : Prop :=
  ∀ (pins : List (Addr × Obj)) (s : Shared) (σ : St) (H : Hp) (vs : List V) (us : List Value) (Q : St → Hp → Prop), Inv X pins σ H s → Vals vs us → t vs σ H Q →
    wpAny (model X.prog X.w) X.A (assignInOrder ((assignEach ts X.env).map (·.2)) us) (fun _ s' => ∃ σ' H', Inv X pins σ' H' s' ∧ Q σ' H') X.xe s
/-- o[i] = v, by values -/
abbrev TSet := V → V → V → Hp → (Hp → Prop) → Prop
def PSet (X : Cx) (t : TSet) : Prop :=
  ∀ (pins : List (Addr × Obj)) (s : Shared) (σ : St) (H : Hp) (o i v : V) (ov iv u : Value) (Q : Hp → Prop), Inv X pins σ H s → RelV o ov → RelV i iv → RelV v u → t o i v H Q →
    wpAny (model X.prog X.w) X.A (setItem ov iv u) (fun _ s' => ∃ H', Inv X pins σ H' s' ∧ Q H') X.xe s
section
variable {X : Cx} {pos : Pos}
def gName (i : Nat) : TG := fun v σ H Q => Q (σ.set i (some v)) H
theorem pg_name {i : Nat} {x : Str} (hN : X.N.Nodup) (hi : X.N[i]? = some x) (hx : Loc X.env.scope x) (hf : X.fn x = true ∨ X.env.scope.names.lookup x = some .local := by first | exact .inl rfl | exact .inr rfl | assumption) : PG X (.Name x pos) (gName i) := by
  intro pins s σ H v u Q I r h
  exact wpAny_assign_Name (store_ok I hN hi hx r (fun s' I' => ⟨_, H, I', h⟩) hf)
def gNil : TGs := fun vs σ H Q => vs = [] ∧ Q σ H
def gCons (t : TG) (u : TGs) : TGs := fun vs σ H Q => ∃ v r, vs = v :: r ∧ t v σ H fun σ' H' => u r σ' H' Q
theorem pgs_nil : PGs X [] gNil := by
  intro pins s σ H vs us Q I r h
  obtain ⟨e, h⟩ := h
  subst e
  cases r
  exact assignInOrder_nil ⟨σ, H, I, h⟩
theorem pgs_cons {e : Expr} {es : List Expr} {t : TG} {u : TGs} (h1 : PG X e t) (h2 : PGs X es u)
    (hs : (assignEach (e :: es) X.env).map (·.2) = assign e X.env :: (assignEach es X.env).map (·.2) := by rfl) : PGs X (e :: es) (gCons t u) := by
  intro pins s σ H vs us Q I r h
  obtain ⟨v, vr, e1, h⟩ := h
  subst e1
  cases r with
  | cons r rr =>
    rw [hs]
    refine assignInOrder_cons (thn (h1 pins s σ H _ _ _ I r h) fun _ s1 ⟨σ1, H1, I1, q1⟩ => ?_)
    exact h2 pins s1 σ1 H1 _ _ Q I1 rr q1
/-- (a, b, ..) = a tuple of that length -/
def gTup (K : PySem.W.Frag) (n : Nat) (t : TGs) : TG := fun v σ H Q => ∃ a xs, v = .ref a ∧ SqT K H a xs ∧ xs.length = n ∧ t xs σ H Q
theorem pg_tup {es : List Expr} {k : Nat} {t : TGs} {n : Nat} (hc : X.calm = true) (h : PGs X es t)
    (hn : (assignEach es X.env).length = n := by rfl) (hst : (assignEach es X.env).findIdx? (·.1) = none := by rfl) : PG X (.Tuple es k pos) (gTup X.K n t) := by
  intro pins s σ H v u Q I r hw
  obtain ⟨a, xs, e1, hq, hl, hw⟩ := hw
  subst e1
  cases r
  obtain ⟨its, rv, ht, hz⟩ := I.tuple hq
  refine assign_Tuple_tuple (I.ok.hd hc) ht (by simp [hn, ← hl, rv.length]) hst fun h' hx => ?_
  have I1 : Inv X pins σ H { s with heap := h' } := I.kept (t' := s.toks) fun b o e => hx b o (Nat.ne_of_lt (Heap.lt_size e)) e
  exact h pins _ σ H xs _ Q I1 (by simpa using rv) hw
/-- o[i] = .. -/
def gSub (to ti : TE) (t : TSet) : TG := fun v σ H Q => to σ H fun o H1 => ti σ H1 fun i H2 => t o i v H2 fun H3 => Q σ H3
theorem pg_sub {o i : Expr} {to ti : TE} {t : TSet} (ho : PE X o to) (hi : PE X i ti) (hs : PSet X t)
    (ha : ∀ v, assign (.Subscript o i pos) X.env v = (do
      let ov ← holding [v] (eval o X.env)
      let iv ← holding [v, ov] (eval i X.env)
      standAt pos
      holding [v, ov, iv] (setItem ov iv v)
      release [v, ov, iv] []) := by intro _; rfl) : PG X (.Subscript o i pos) (gSub to ti t) := by
  intro pins s σ H v u Q I r h
  rw [ha]
  refine wpAny_bind (wpAny_holding (thn (ho pins s σ H _ I h) fun ov s1 ⟨x, H1, I1, r1, q1⟩ => ?_))
  refine wpAny_bind (wpAny_holding (thn (hi pins s1 σ H1 _ I1 q1) fun iv s2 ⟨y, H2, I2, r2, q2⟩ => ?_))
  refine wpAny_bind (wpAny_standAt (wpAny_bind (wpAny_holding (thn (hs pins s2 σ H2 x y v ov iv u _ I2 r1 r2 r q2) fun _ s3 ⟨H3, I3, q3⟩ => ?_))))
  exact wpAny_release ⟨σ, H3, I3, q3⟩
/-- target = value -/
def tAsg (te : TE) (g : TG) : TS := fun D σ H => te σ H fun x H1 => g x σ H1 D.nx
theorem ps_asg {tg e : Expr} {te : TE} {g : TG} (he : PE X e te) (hg : PG X tg g) (hs : swapsWithSole [tg] e pos.line X.env = pure false := by rfl) (hw : swappedStores [tg] e X.env = pure none := by rfl)
    (h1 : (assignEach [tg] X.env).map (·.2) = [assign tg X.env] := by rfl) : PS X (.Assign [tg] e pos) (tAsg te g) := by
  intro pins s σ H D I h
  refine wpAny_Assign_stores (thn (he pins s σ H _ I h) fun v s1 ⟨x, H1, I1, r1, q1⟩ => ?_) hs hw
  rw [h1]
  exact thn (hg pins s1 σ H1 x v _ I1 r1 q1) fun _ s2 q => q
/-- name = value -/
theorem ps_set {i : Nat} {x : Str} {e : Expr} {te : TE} {pos' : Pos} (hN : X.N.Nodup) (hi : X.N[i]? = some x) (hx : Loc X.env.scope x) (he : PE X e te) (hs : swapsWith e (some (.Name x pos')) pos.line X.env = pure false := by rfl) (hf : X.fn x = true ∨ X.env.scope.names.lookup x = some .local := by first | exact .inl rfl | exact .inr rfl | assumption) :
    PS X (.Assign [.Name x pos'] e pos) (tAsg te (gName i)) := by
  intro pins s σ H D I h
  refine wpAny_Assign_Name (thn (he pins s σ H _ I h) fun v s1 ⟨y, H1, I1, r1, q1⟩ => ?_) hs
  exact store_ok I1 hN hi hx r1 (fun s2 I2 => ⟨_, H1, I2, q1⟩) hf
end

/-! ### while -/
section
variable {X : Cx} {pos : Pos}
end

/-! ### what a loop or a comprehension walks -/
/-- at turn i: it yields x (the heap may grow), or it stops -/
structure It where
  go : Nat → Hp → Prop
  yld : Nat → Hp → V → Hp → Prop
  stop : Nat → Hp → Prop
/-- the iterator's own objects may turn: they are not the frame's, not pinned, younger than the entry (or a comprehension's own) -/
def FpOk (X : Cx) (pins : List (Addr × Obj)) (H : Hp) (b : Addr) : Prop :=
  H b = none ∧ b ≠ X.env.locals ∧ b ∉ X.fs ∧ (b ∈ X.ex ∨ X.s₀.heap.objs.size ≤ b) ∧ (∀ x c, X.env.cells.lookup x = some c → c ≠ b) ∧ ∀ p ∈ X.pn ++ pins, p.1 ≠ b
theorem Inv.fpOk {X : Cx} {pins : List (Addr × Obj)} {σ : St} {H H' : Hp} {s : Shared} {b : Addr} (I : Inv X pins σ H s) (hb : s.heap.objs.size ≤ b) (hn : H' b = none) : FpOk X pins H' b := by
  refine ⟨hn, Nat.ne_of_gt (Nat.lt_of_lt_of_le I.lt hb), I.nofs hb, .inr (Nat.le_trans I.sz hb), fun x c e z => ?_, fun p hp z => ?_⟩
  · obtain ⟨v, q⟩ := I.cell x c e
    exact absurd (Nat.lt_of_lt_of_le q.lt (by rw [z]; exact hb)) (Nat.lt_irrefl _)
  · exact absurd (Nat.lt_of_lt_of_le (Heap.lt_size (I.pin p hp).1) (by rw [z]; exact hb)) (Nat.lt_irrefl _)
structure Turn (P : Program) (w : World) (K : PySem.W.Frag) (tg : Expr) (J : It) (fp : List Addr) (it : Addr) (tn : Nat → Heap → Prop) : Prop where
  mem : it ∈ fp
  obj : ∀ i h, tn i h → ∀ b ∈ fp, ∃ o, h.get? b = some o ∧ ∀ v, o.data ≠ .cell v
  keep : ∀ i h h', tn i h → (∀ b ∈ fp, ∀ o, h.get? b = some o → h'.get? b = some o) → tn i h'
  item : ∀ (X : Cx), X.prog = P → X.w = w → X.K = K → X.calm = true → ∀ (i : Nat) (pins : List (Addr × Obj)) (s : Shared) (σ : St) (H : Hp) (E : Value → Shared → Prop), Inv X pins σ H s → (∀ b ∈ fp, FpOk X pins H b) → tn i s.heap → J.go i H →
    wpAny (model P w) X.A (pyNext (.ref it)) (fun r s1 => ∃ u, r = some u ∧
      wpAny (model P w) X.A (letOwnedTupleGo tg (.ref it) u) (fun _ s2 => ∃ x H', Inv X pins σ H' s2 ∧ RelV x u ∧ J.yld i H x H' ∧ tn (i + 1) s2.heap ∧ ∀ b ∈ fp, H' b = none) E s1) E s
  done : ∀ (X : Cx), X.prog = P → X.w = w → X.K = K → X.calm = true → ∀ (i : Nat) (pins : List (Addr × Obj)) (s : Shared) (σ : St) (H : Hp) (E : Value → Shared → Prop), Inv X pins σ H s → (∀ b ∈ fp, FpOk X pins H b) → tn i s.heap → J.stop i H →
    wpAny (model P w) X.A (pyNext (.ref it)) (fun r s1 => r = none ∧ Inv X pins σ H s1) E s
  self : ∀ (A : Around) (i : Nat) (s : Shared) (Q : Value → Shared → Prop) (E : Value → Shared → Prop), tn i s.heap → Q (.ref it) s → wpAny (model P w) A (pyIter (.ref it)) Q E s
abbrev TI := St → Hp → (It → Hp → Prop) → Prop
/-- an iterator has come -/
def PIE (X : Cx) (pins : List (Addr × Obj)) (σ : St) (tg : Expr) (R : It → Hp → Prop) (itv : Value) (s2 : Shared) : Prop :=
  ∃ (it : Addr) (fp : List Addr) (tn : Nat → Heap → Prop) (J : It) (H' : Hp), itv = .ref it ∧ Inv X pins σ H' s2 ∧ Turn X.prog X.w X.K tg J fp it tn ∧ tn 0 s2.heap ∧ (∀ b ∈ fp, FpOk X pins H' b) ∧ R J H'
def PI (X : Cx) (tg iter : Expr) (wi : TI) : Prop :=
  ∀ (pins : List (Addr × Obj)) (s : Shared) (σ : St) (H : Hp) (R : It → Hp → Prop), Inv X pins σ H s → wi σ H R →
    wpAny (model X.prog X.w) X.A (eval iter X.env) (fun v s1 => wpAny (model X.prog X.w) X.A (pyIter v) (PIE X pins σ tg R) X.xe s1) X.xe s

/-- the step ahead of the store is nothing for an iterator that keeps no tuple -/
theorem go_of {M : Model} {A : Around} {E : Value → Shared → Prop} {s : Shared} {tg : Expr} {it : Addr} {u : Value} {o : Obj} {n : String} {vs : Array Value} {Q : Unit → Shared → Prop} (ho : s.heap.get? it = some o) (hc : o.cls = .type n) (hd : o.data = .fields vs)
    (hn : ["enumerate", "zip", "dict_itemiterator", "dict_reverseitemiterator", "odict_iterator", "itertools.zip_longest", "itertools.pairwise"].contains n = false) (hQ : Q () s) : wpAny M A (letOwnedTupleGo tg (.ref it) u) Q E s := by
  unfold letOwnedTupleGo
  cases tg <;> first
    | exact wpAny_pure hQ
    | (cases u <;> first
        | exact wpAny_pure hQ
        | (refine wpAny_bind (wpAny_load ho ?_)
           rw [hc, hd]
           show wpAny M A (if (["enumerate", "zip", "dict_itemiterator", "dict_reverseitemiterator", "odict_iterator", "itertools.zip_longest", "itertools.pairwise"].contains n && vs[0]? == some (rawInt _)) = true then _ else _) Q E s
           rw [if_neg (by intro h; rw [hn, Bool.false_and] at h; cases h)]
           exact wpAny_pure hQ))

/-- the list at a, as it stands at each turn (a loop may append to it) -/
def Itl (K : PySem.W.Frag) (a : Addr) : It :=
  ⟨fun i H => ∃ xs x, SqL K H a xs ∧ xs[i]? = some x, fun i H x H' => H' = H ∧ ∀ xs, SqL K H a xs → xs[i]? = some x, fun i H => ∃ xs, SqL K H a xs ∧ xs.length ≤ i⟩
/-- lo, lo + 1, .. (n of them) -/
def Itr (lo : Int) (n : Nat) : It := ⟨fun i _ => i < n, fun i H x H' => H' = H ∧ x = .int (lo + i), fun i _ => n ≤ i⟩
theorem turn_list {P : Program} {w : World} {K : PySem.W.Frag} {tg : Expr} (a it : Addr) : Turn P w K tg (Itl K a) [it] it (fun i h => h.IsListIter it a i) where
  mem := by simp
  obj := fun i h st b hb => by
    have e : b = it := by simpa using hb
    subst e
    obtain ⟨o, e, c, d⟩ := st
    exact ⟨o, e, fun v z => by rw [d] at z; cases z⟩
  keep := fun i h h' st k => st.at fun o e => k it (by simp) o e
  item := by
    intro X hP hw hK hc i pins s σ H E I hf st hg
    subst hP hw hK
    obtain ⟨xs, x, hq, hx⟩ := hg
    obtain ⟨its, rv, p, hz⟩ := I.list hq
    obtain ⟨u, hu, ru⟩ := rv.get hx
    obtain ⟨f0, f1, f2, f3, f4, f5⟩ := hf it (by simp)
    refine wpAny_pyNext_list_item st p.isList (x := u) (by simpa using hu) fun h' st' sb => ?_
    have I1 : Inv X pins σ H { s with heap := h' } := I.turned (t' := s.toks) (fun b o hb e => (sb.2 b hb).trans e) f0 f1 f3 f4 f5
    obtain ⟨o, e, c, d⟩ := id st'
    exact ⟨u, rfl, go_of (s := { s with heap := h' }) e c d (by decide) ⟨x, H, I1, ru, ⟨rfl, fun ys hy => by rw [I.list_inj hy hq]; exact hx⟩, st', fun b hb => (hf b hb).1⟩⟩
  done := by
    intro X hP hw hK hc i pins s σ H E I hf st hg
    subst hP hw hK
    obtain ⟨xs, hq, hx⟩ := hg
    obtain ⟨its, rv, p, hz⟩ := I.list hq
    obtain ⟨f0, f1, f2, f3, f4, f5⟩ := hf it (by simp)
    have hl := rv.length
    exact wpAny_pyNext_list_end (I.ok.hd hc) st p.isList (by simp; omega) fun h' eb => ⟨rfl, I.turned (t' := s.toks) (fun b o hb e => eb b o hb e) f0 f1 f3 f4 f5⟩
  self := fun _ _ _ _ _ st h => wpAny_pyIter_listiter st h
theorem turn_range {P : Program} {w : World} {K : PySem.W.Frag} {tg : Expr} (it : Addr) (lo : Int) (n : Nat) : Turn P w K tg (Itr lo n) [it] it (fun i h => IsRangeIter h it (lo + (i : Nat) * 1) ((n : Int) - (i : Nat)) 1) where
  mem := by simp
  obj := fun i h st b hb => by
    have e : b = it := by simpa using hb
    subst e
    exact ⟨_, st, fun v z => by
      have z' : Data.fields _ = Data.cell v := z
      cases z'⟩
  keep := fun i h h' st k => k it (by simp) _ st
  item := by
    intro X hP hw hK hc i pins s σ H E I hf st hg
    subst hP hw hK
    obtain ⟨f0, f1, f2, f3, f4, f5⟩ := hf it (by simp)
    have W := Walks.range (prog := X.prog) (w := X.w) (I.ok.hd hc) it lo 1 n
    refine W.item i s _ _ hg st fun v h' tk hv st' kk => ?_
    obtain ⟨t, rfl⟩ := hv
    have I1 : Inv X pins σ H { s with heap := h', toks := tk } := I.turned (fun b o hb e => kk b o (by simpa using hb) e) f0 f1 f3 f4 f5
    refine ⟨_, rfl, go_of (s := { s with heap := h', toks := tk }) (n := "range_iterator") st' rfl rfl (by decide) ⟨.int (lo + i), H, I1, ⟨t, ?_⟩, ⟨rfl, rfl⟩, st', fun b hb => (hf b hb).1⟩⟩
    rw [Int.mul_one]
  done := by
    intro X hP hw hK hc i pins s σ H E I hf st hg
    subst hP hw hK
    obtain ⟨f0, f1, f2, f3, f4, f5⟩ := hf it (by simp)
    exact wpAny_pyNext_range_end (I.ok.hd hc) st (by have : n ≤ i := hg; omega) fun h' eb => ⟨rfl, I.turned (t' := s.toks) (fun b o hb e => eb b o hb e) f0 f1 f3 f4 f5⟩
  self := fun _ _ _ _ _ st h => wpAny_pyIter_rangeiter st h
end L2

namespace L2
open PySem PySem.Spec PyProof.Rows
section
variable {X : Cx} {tg : Expr}
def iList (K : PySem.W.Frag) (tl : TE) : TI := fun σ H R => tl σ H fun x H1 => ∃ a, x = .ref a ∧ (∃ xs, SqL K H1 a xs) ∧ R (Itl K a) H1
theorem pi_list {l : Expr} {tl : TE} (hl : PE X l tl) : PI X tg l (iList X.K tl) := by
  intro pins s σ H R I h
  refine thn (hl pins s σ H _ I h) fun v s1 ⟨x, H1, I1, r1, q1⟩ => ?_
  obtain ⟨a, e, ⟨xs, hq⟩, q⟩ := q1
  subst e
  cases r1
  obtain ⟨its, rv, p, hz⟩ := I1.list hq
  refine wpAny_pyIter_list p.isList ?_
  refine ⟨s1.heap.objs.size, [s1.heap.objs.size], _, _, H1, rfl, I1.kept (t' := s1.toks) fun b o e => Heap.get?_push_of_some _ e, turn_list a _, ⟨_, Heap.get?_push_size _ rfl, rfl, rfl⟩, fun b hb => ?_, q⟩
  have e : b = s1.heap.objs.size := by simpa using hb
  subst e
  exact I1.fpOk (Nat.le_refl _) (I1.hok.fresh (Nat.le_refl _))
/-- a range object just made, walked -/
theorem range_it {pins : List (Addr × Obj)} {σ : St} {H : Hp} {s : Shared} {R : It → Hp → Prop} {E : Value → Shared → Prop} {lo hi : Int} {t u v : Tok} {tk : Nat} (I : Inv X pins σ H s) (h1 : -(2 ^ 62) ≤ lo) (h2 : lo < 2 ^ 62) (h3 : -(2 ^ 62) ≤ hi) (h4 : hi < 2 ^ 62)
    (q : R (Itr lo (hi - lo).toNat) H) : wpAny (model X.prog X.w) X.A (pyIter (.ref s.heap.objs.size)) (PIE X pins σ tg R) E { s with heap := s.heap.push { cls := .type "range", data := .fields #[.int lo t, .int hi u, .int 1 v] }, toks := tk } := by
  refine wpAny_pyIter_range (IsRange.new ..) (small_one h1 h2 h3 h4) ?_
  have I1 : Inv X pins σ H { s with heap := s.heap.push { cls := .type "range", data := .fields #[.int lo t, .int hi u, .int 1 v] }, toks := tk } := I.kept fun b o e => Heap.get?_push_of_some _ e
  refine ⟨(s.heap.push { cls := .type "range", data := .fields #[.int lo t, .int hi u, .int 1 v] }).objs.size, [(s.heap.push { cls := .type "range", data := .fields #[.int lo t, .int hi u, .int 1 v] }).objs.size], _, _, H, rfl,
    I1.kept (t' := tk) fun b o e => Heap.get?_push_of_some _ e, turn_range _ lo (hi - lo).toNat, ?_, fun b hb => ?_, q⟩
  · have e1 : lo + ((0 : Nat) : Int) * 1 = lo := by simp
    have e2 : (((hi - lo).toNat : Nat) : Int) - ((0 : Nat) : Int) = Builtin.Range.rangeSize lo hi 1 := by rw [rangeSize_one]; split <;> omega
    show IsRangeIter _ _ (lo + ((0 : Nat) : Int) * 1) ((((hi - lo).toNat : Nat) : Int) - ((0 : Nat) : Int)) 1
    rw [e1, e2]
    exact Heap.get?_push_size _ rfl
  · have e : b = (s.heap.push { cls := .type "range", data := .fields #[.int lo t, .int hi u, .int 1 v] }).objs.size := by simpa using hb
    subst e
    exact I1.fpOk (Nat.le_refl _) (I1.hok.fresh (Nat.le_refl _))
def iRng1 (ta : TA) : TI := fun σ H R => ta σ H fun vs H1 => ∃ j : Int, vs = [.int j] ∧ -(2 ^ 62) ≤ j ∧ j < 2 ^ 62 ∧ R (Itr 0 j.toNat) H1
def iRng2 (ta : TA) : TI := fun σ H R => ta σ H fun vs H1 => ∃ i j : Int, vs = [.int i, .int j] ∧ (-(2 ^ 62) ≤ i ∧ i < 2 ^ 62 ∧ -(2 ^ 62) ≤ j ∧ j < 2 ^ 62) ∧ R (Itr i (j - i).toNat) H1
theorem pi_range1 {a : Expr} {ta : TA} {p pos : Pos} (hg : Gl X "range") (hm : X.mg "range" = none) (ha : PA X [a] ta) (hs : starEach [a] X.env = [(false, eval a X.env)] := by rfl) : PI X tg (.Call (.Name "range" p) [a] [] pos) (iRng1 ta) := by
  intro pins s σ H R I h
  refine Call_ (ld_blt I hg hm boot_range (PyProof.Rows.callWith_type1 (thn (ha pos pins s σ H _ I h) fun us s1 ⟨vs, H1, I1, r1, q1⟩ => ?_) hs rfl))
  obtain ⟨j, e, q1, q2, q⟩ := q1
  subst e
  cases r1 with
  | cons r rr =>
    cases rr
    obtain ⟨t, rfl⟩ := r
    exact call_range_1 (range_it I1 (by omega) (by omega) q1 q2 (by simpa using q))
theorem pi_range2 {a b : Expr} {ta : TA} {p pos : Pos} (hg : Gl X "range") (hm : X.mg "range" = none) (ha : PA X [a, b] ta) (hs : starEach [a, b] X.env = [(false, eval a X.env), (false, eval b X.env)] := by rfl) (hs2 : starEach [b] X.env = [(false, eval b X.env)] := by rfl) :
    PI X tg (.Call (.Name "range" p) [a, b] [] pos) (iRng2 ta) := by
  intro pins s σ H R I h
  refine Call_ (ld_blt I hg hm boot_range (PyProof.Rows.callWith_type1 (thn (ha pos pins s σ H _ I h) fun us s1 ⟨vs, H1, I1, r1, q1⟩ => ?_) (by rw [hs, hs2]) (by rw [hs2]; rfl)))
  obtain ⟨i, j, e, ⟨q1, q2, q3, q4⟩, q⟩ := q1
  subst e
  cases r1 with
  | cons r rr =>
    cases rr with
    | cons r' rr =>
      cases rr
      obtain ⟨t, rfl⟩ := r
      obtain ⟨t', rfl⟩ := r'
      exact call_range_2 (range_it I1 q1 q2 q3 q4 q)

/-! ### for -/
/-- W: the invariant by the turn and a measure; N: what the body is to reach -/
def tFor (wi : TI) (g : TG) (tb : TS) : TS := fun D σ H => wi σ H fun J H1 => ∃ W : Nat → Nat → St → Hp → Prop, (∃ m, W 0 m σ H1) ∧ ∀ i m σ H, W i m σ H →
  (J.stop i H ∧ D.nx σ H) ∨ (J.go i H ∧ ∃ N : St → Hp → Prop, (∀ σ' H', N σ' H' → ∃ m', m' < m ∧ W (i + 1) m' σ' H') ∧ ∀ x H', J.yld i H x H' → g x σ H' fun σ2 H2 => tb { D with nx := N, ct := N, bk := D.nx } σ2 H2)
/-- the records at fp as they stand -/
def pinsAt (fp : List Addr) (h : Heap) : List (Addr × Obj) := fp.filterMap fun b => (h.get? b).map fun o => (b, o)
theorem mem_pinsAt {fp : List Addr} {h : Heap} {b : Addr} {o : Obj} (hb : b ∈ fp) (e : h.get? b = some o) : (b, o) ∈ pinsAt fp h := List.mem_filterMap.mpr ⟨b, hb, by rw [e]; rfl⟩
theorem of_pinsAt {fp : List Addr} {h : Heap} {p : Addr × Obj} (hp : p ∈ pinsAt fp h) : p.1 ∈ fp ∧ h.get? p.1 = some p.2 := by
  obtain ⟨b, hb, e⟩ := List.mem_filterMap.mp hp
  cases q : h.get? b with
  | none => rw [q] at e; cases e
  | some o =>
    rw [q] at e
    have e' : (b, o) = p := Option.some.inj e
    subst e'
    exact ⟨hb, q⟩
theorem Inv.pinned {pins : List (Addr × Obj)} {σ : St} {H : Hp} {s : Shared} {fp : List Addr} (I : Inv X pins σ H s) (hf : ∀ b ∈ fp, FpOk X pins H b) (ho : ∀ b ∈ fp, ∃ o, s.heap.get? b = some o ∧ ∀ v, o.data ≠ .cell v) : Inv X (pins ++ pinsAt fp s.heap) σ H s :=
  I.pins_of fun p hp => (List.mem_append.mp hp).elim (fun z => I.pin p (List.mem_append_right _ z)) fun z => by
    obtain ⟨hb, e⟩ := of_pinsAt z
    obtain ⟨f0, f1, f2, _⟩ := hf p.1 hb
    obtain ⟨o, e', d⟩ := ho p.1 hb
    rw [e] at e'; cases e'
    exact ⟨e, f0, f1, f2, d⟩
theorem Inv.unpinned {pins pl : List (Addr × Obj)} {σ : St} {H : Hp} {s : Shared} (I : Inv X (pins ++ pl) σ H s) : Inv X pins σ H s := I.pins_of fun p hp => I.pin p (List.mem_append_right _ (List.mem_append_left _ hp))
theorem ps_for {iter : Expr} {body : List Stmt} {wi : TI} {g : TG} {tb : TS} {pos : Pos} (hp : PassesOwn (model X.prog X.w) X.A X.env X.xe) (hc : X.calm = true) (hi : PI X tg iter wi) (hg : PG X tg g) (hb : PSs X body tb)
    (hs : ∀ x, foldedSetIterable iter X.env x = pure x := by intro _; rfl) : PS X (.For tg iter body [] pos) (tFor wi g tb) := by
  intro pins s σ H D I h
  refine wpAny_For (thn (hi pins s σ H _ I h) fun v s1 h1 => thn h1 fun itv s2 h2 => ?_) hs
  obtain ⟨it, fp, tn, J, H2, e, I2, T, st2, f2, W, ⟨m0, w0⟩, turn⟩ := h2
  subst e
  have stat : ∀ {H' : Hp}, (∀ b ∈ fp, H' b = none) → ∀ b ∈ fp, FpOk X pins H' b := fun hn b hb => ⟨hn b hb, (f2 b hb).2⟩
  refine codeAny_forLoop_any (fun n s' => ∃ i σ' H', Inv X pins σ' H' s' ∧ tn i s'.heap ∧ (∀ b ∈ fp, H' b = none) ∧ W i n σ' H') ?_ m0 ⟨0, σ, H2, I2, st2, fun b hb => (f2 b hb).1, w0⟩
  rintro n s3 ⟨i, σ3, H3, I3, st3, fr3, w3⟩
  rcases turn i n σ3 H3 w3 with ⟨stop, qn⟩ | ⟨go, N, hN, step⟩
  · refine wpAny_passesOwn hp (thn (T.done X rfl rfl rfl hc i pins s3 σ3 H3 X.xe I3 (stat fr3) st3 stop) fun r s4 ⟨hr, I4⟩ => ?_)
    subst hr
    exact wpAny_execs_nil ⟨σ3, H3, I4, qn⟩
  · refine wpAny_passesOwn hp (thn (T.item X rfl rfl rfl hc i pins s3 σ3 H3 X.xe I3 (stat fr3) st3 go) fun r s4 ⟨u, hr, h4⟩ => ?_)
    subst hr
    refine wpAny_passesOwn hp (thn h4 fun _ s5 ⟨x, H5, I5, r5, y5, st5, fr5⟩ => ?_)
    have I5' := I5.pinned (stat fr5) (T.obj _ _ st5)
    refine wpAny_passesOwn hp (thn (hg _ s5 σ3 H5 x u _ I5' r5 (step x H5 y5)) fun _ s6 ⟨σ6, H6, I6, q6⟩ => ?_)
    refine wpAny_passesOwn hp (thn (hb _ s6 σ6 H6 _ I6 q6) fun f s7 q7 => ?_)
    have again : ∀ {σ7 : St} {H7 : Hp}, Inv X (pins ++ pinsAt fp s5.heap) σ7 H7 s7 → N σ7 H7 → ∃ m, m < n ∧ ∃ i σ' H', Inv X pins σ' H' s7 ∧ tn i s7.heap ∧ (∀ b ∈ fp, H' b = none) ∧ W i m σ' H' := fun {σ7 H7} I7 n7 => by
      obtain ⟨m', hm, w7⟩ := hN σ7 H7 n7
      refine ⟨m', hm, i + 1, σ7, H7, I7.unpinned, T.keep _ _ _ st5 fun b hb o e => (I7.pin (b, o) (List.mem_append_right _ (List.mem_append_right _ (mem_pinsAt hb e)))).1, fun b hb => ?_, w7⟩
      obtain ⟨o, e, d⟩ := T.obj _ _ st5 b hb
      exact (I7.pin (b, o) (List.mem_append_right _ (List.mem_append_right _ (mem_pinsAt hb e)))).2.1
    cases f with
    | next => obtain ⟨σ7, H7, I7, n7⟩ := q7; exact again I7 n7
    | cont => obtain ⟨σ7, H7, I7, n7⟩ := q7; exact again I7 n7
    | brk => obtain ⟨σ7, H7, I7, q7⟩ := q7; exact ⟨σ7, H7, I7.unpinned, q7⟩
    | ret v => obtain ⟨x7, σ7, H7, I7, r7, q7⟩ := q7; exact ⟨x7, σ7, H7, I7.unpinned, r7, q7⟩
end

/-! ### the forms one uses -/
/-- over a list that the body leaves as it is -/
theorem for_list {K : PySem.W.Frag} {a : Addr} {xs : List V} {g : TG} {tb : TS} {D : Ends} {σ : St} {H : Hp} (Pv : Nat → St → Hp → Prop) (h0 : Pv 0 σ H) (hl : ∀ i σ H, i ≤ xs.length → Pv i σ H → SqL K H a xs)
    (hs : ∀ i x σ H, xs[i]? = some x → Pv i σ H → g x σ H fun σ2 H2 => tb { D with nx := Pv (i + 1), ct := Pv (i + 1), bk := D.nx } σ2 H2) (hd : ∀ σ H, Pv xs.length σ H → D.nx σ H) :
    ∃ W : Nat → Nat → St → Hp → Prop, (∃ m, W 0 m σ H) ∧ ∀ i m σ H, W i m σ H →
      ((Itl K a).stop i H ∧ D.nx σ H) ∨ ((Itl K a).go i H ∧ ∃ N : St → Hp → Prop, (∀ σ' H', N σ' H' → ∃ m', m' < m ∧ W (i + 1) m' σ' H') ∧ ∀ x H', (Itl K a).yld i H x H' → g x σ H' fun σ2 H2 => tb { D with nx := N, ct := N, bk := D.nx } σ2 H2) := by
  refine ⟨fun i m σ H => m = xs.length - i ∧ i ≤ xs.length ∧ Pv i σ H, ⟨xs.length, by simp, Nat.zero_le _, h0⟩, ?_⟩
  rintro i m σ H ⟨rfl, hi, p⟩
  have q := hl i σ H hi p
  by_cases hlt : i < xs.length
  · refine .inr ⟨⟨xs, xs[i], q, by simp [hlt]⟩, Pv (i + 1), fun σ' H' p' => ⟨xs.length - (i + 1), by omega, rfl, hlt, p'⟩, fun x H' y => ?_⟩
    obtain ⟨e, y⟩ := y
    subst e
    exact hs i x σ _ (y xs q) p
  · have e : i = xs.length := by omega
    subst e
    exact .inl ⟨⟨xs, q, Nat.le_refl _⟩, hd σ H p⟩
theorem for_range {lo : Int} {n : Nat} {g : TG} {tb : TS} {D : Ends} {σ : St} {H : Hp} (Pv : Nat → St → Hp → Prop) (h0 : Pv 0 σ H)
    (hs : ∀ i σ H, i < n → Pv i σ H → g (.int (lo + i)) σ H fun σ2 H2 => tb { D with nx := Pv (i + 1), ct := Pv (i + 1), bk := D.nx } σ2 H2) (hd : ∀ σ H, Pv n σ H → D.nx σ H) :
    ∃ W : Nat → Nat → St → Hp → Prop, (∃ m, W 0 m σ H) ∧ ∀ i m σ H, W i m σ H →
      ((Itr lo n).stop i H ∧ D.nx σ H) ∨ ((Itr lo n).go i H ∧ ∃ N : St → Hp → Prop, (∀ σ' H', N σ' H' → ∃ m', m' < m ∧ W (i + 1) m' σ' H') ∧ ∀ x H', (Itr lo n).yld i H x H' → g x σ H' fun σ2 H2 => tb { D with nx := N, ct := N, bk := D.nx } σ2 H2) := by
  refine ⟨fun i m σ H => m = n - i ∧ i ≤ n ∧ Pv i σ H, ⟨n, by simp, Nat.zero_le _, h0⟩, ?_⟩
  rintro i m σ H ⟨rfl, hi, p⟩
  by_cases hlt : i < n
  · refine .inr ⟨hlt, Pv (i + 1), fun σ' H' p' => ⟨n - (i + 1), by omega, rfl, hlt, p'⟩, fun x H' y => ?_⟩
    obtain ⟨e, y⟩ := y
    subst e y
    exact hs i σ _ hlt p
  · have e : i = n := by omega
    subst e
    exact .inl ⟨Nat.le_refl _, hd σ H p⟩
end L2

namespace L2
open PySem PySem.Spec PyProof.Rows

abbrev R2 := V → V → Hp → VK → Prop
/-- a two-place operation on values: f is binaryOp op, inplaceOp op or compareOp op -/
def OpR (X : Cx) (f : Value → Value → Sem Value) (r : R2) : Prop :=
  ∀ (pins : List (Addr × Obj)) (s : Shared) (σ : St) (H : Hp) (x y : V) (v u : Value) (Q : VK), Inv X pins σ H s → RelV x v → RelV y u → r x y H Q →
    wpAny (model X.prog X.w) X.A (f v u) (EP X pins σ Q) X.xe s
/-- a one-place operation -/
def UnR (X : Cx) (f : Value → Sem Value) (r : V → Hp → VK → Prop) : Prop :=
  ∀ (pins : List (Addr × Obj)) (s : Shared) (σ : St) (H : Hp) (x : V) (v : Value) (Q : VK), Inv X pins σ H s → RelV x v → r x H Q →
    wpAny (model X.prog X.w) X.A (f v) (EP X pins σ Q) X.xe s
/-- a call of a value that is known (a builtin, a type) with values -/
def CallR (X : Cx) (f : Value) (r : List V → Hp → VK → Prop) : Prop :=
  ∀ (pins : List (Addr × Obj)) (s : Shared) (σ : St) (H : Hp) (xs : List V) (us : List Value) (Q : VK), Inv X pins σ H s → Vals xs us → r xs H Q →
    wpAny (model X.prog X.w) X.A (call f us) (EP X pins σ Q) X.xe s
/-- a value's truth -/
def TruR (X : Cx) (r : V → Hp → (Bool → Hp → Prop) → Prop) : Prop :=
  ∀ (pins : List (Addr × Obj)) (s : Shared) (σ : St) (H : Hp) (x : V) (v : Value) (Q : Bool → Hp → Prop), Inv X pins σ H s → RelV x v → r x H Q →
    wpAny (model X.prog X.w) X.A (truthy v) (TP X pins σ Q) X.xe s

def tOp (r : R2) (ta tb : TE) : TE := fun σ H Q => ta σ H fun x H1 => tb σ H1 fun y H2 => r x y H2 Q
def tUn (r : V → Hp → VK → Prop) (ta : TE) : TE := fun σ H Q => ta σ H fun x H1 => r x H1 Q
/-- ints in, under C, and a value out -/
def rI (C : Int → Int → Prop) (g : Int → Int → V) : R2 := fun x y H Q => ∃ i j, x = .int i ∧ y = .int j ∧ C i j ∧ Q (g i j) H
def rI0 (g : Int → Int → V) : R2 := fun x y H Q => ∃ i j, x = .int i ∧ y = .int j ∧ Q (g i j) H
def rU (g : Int → V) : V → Hp → VK → Prop := fun x H Q => ∃ i, x = .int i ∧ Q (g i) H

section
variable {X : Cx} {a b c : Expr} {ta tb tc : TE} {pos : Pos}

theorem binT (ha : PE X a ta) (hb : PE X b tb) {pins : List (Addr × Obj)} {s : Shared} {σ : St} {H : Hp} {R : V → V → Hp → Prop} (I : Inv X pins σ H s)
    (h : ta σ H fun x H1 => tb σ H1 fun y H2 => R x y H2) {Q : Value → Shared → Prop} {f : Value → Value → Sem Value}
    (hf : ∀ v u s2 x y H2, Inv X pins σ H2 s2 → RelV x v → RelV y u → R x y H2 → wpAny (model X.prog X.w) X.A (f v u) Q X.xe s2) :
    wpAny (model X.prog X.w) X.A (eval a X.env) (fun v s₁ => wpAny (model X.prog X.w) X.A (eval b X.env) (fun u s₂ => wpAny (model X.prog X.w) X.A (f v u) Q X.xe s₂) X.xe s₁) X.xe s := by
  refine thn (ha pins s σ H _ I h) fun v s1 ⟨x, H1, I1, r1, q1⟩ => ?_
  refine thn (hb pins s1 σ H1 _ I1 q1) fun u s2 ⟨y, H2, I2, r2, q2⟩ => ?_
  exact hf v u s2 x y H2 I2 r1 r2 q2

theorem pe_op {op : Operator} {r : R2} (ho : OpR X (binaryOp op) r) (ha : PE X a ta) (hb : PE X b tb) : PE X (.BinOp a op b pos) (tOp r ta tb) := by
  intro pins s σ H Q I h
  exact wpAny_BinOp (binT ha hb I h fun v u s2 x y H2 I2 rx ry q => ho pins s2 σ H2 x y v u Q I2 rx ry q)
theorem pe_un {op : UnaryOp} {r : V → Hp → VK → Prop} (ho : UnR X (unaryOp op) r) (ha : PE X a ta) : PE X (.UnaryOp op a pos) (tUn r ta) := by
  intro pins s σ H Q I h
  exact UnaryOp_ (thn (ha pins s σ H _ I h) fun v s1 ⟨x, H1, I1, r1, q1⟩ => ho pins s1 σ H1 x v Q I1 r1 q1)

/-! ### ints -/
theorem opI {f : Value → Value → Sem Value} {C : Int → Int → Prop} {g : Int → Int → Int}
    (rule : ∀ (i j : Int) (t u : Tok) (s : Shared) (Q : Value → Shared → Prop) (E : Value → Shared → Prop), C i j → Q (.int (g i j) s.toks) { s with toks := s.toks + 1 } → wpAny (model X.prog X.w) X.A (f (.int i t) (.int j u)) Q E s) :
    OpR X f (rI C fun i j => .int (g i j)) := by
  intro pins s σ H x y v u Q I rx ry h
  obtain ⟨i, j, rfl, rfl, hc, q⟩ := h
  obtain ⟨t, rfl⟩ := rx
  obtain ⟨t', rfl⟩ := ry
  exact rule i j t t' s _ _ hc ⟨.int (g i j), H, I.tok _, ⟨_, rfl⟩, q⟩
theorem opI0 {f : Value → Value → Sem Value} {g : Int → Int → Int}
    (rule : ∀ (i j : Int) (t u : Tok) (s : Shared) (Q : Value → Shared → Prop) (E : Value → Shared → Prop), Q (.int (g i j) s.toks) { s with toks := s.toks + 1 } → wpAny (model X.prog X.w) X.A (f (.int i t) (.int j u)) Q E s) :
    OpR X f (rI0 fun i j => .int (g i j)) := by
  intro pins s σ H x y v u Q I rx ry h
  obtain ⟨i, j, rfl, rfl, q⟩ := h
  obtain ⟨t, rfl⟩ := rx
  obtain ⟨t', rfl⟩ := ry
  exact rule i j t t' s _ _ ⟨.int (g i j), H, I.tok _, ⟨_, rfl⟩, q⟩
theorem opB0 {f : Value → Value → Sem Value} {g : Int → Int → Bool}
    (rule : ∀ (i j : Int) (t u : Tok) (s : Shared) (Q : Value → Shared → Prop) (E : Value → Shared → Prop), Q (.bool (g i j)) s → wpAny (model X.prog X.w) X.A (f (.int i t) (.int j u)) Q E s) :
    OpR X f (rI0 fun i j => .bl (g i j)) := by
  intro pins s σ H x y v u Q I rx ry h
  obtain ⟨i, j, rfl, rfl, q⟩ := h
  obtain ⟨t, rfl⟩ := rx
  obtain ⟨t', rfl⟩ := ry
  exact rule i j t t' s _ _ ⟨.bl (g i j), H, I, rfl, q⟩

def CDiv (i j : Int) : Prop := 0 < j ∧ j < 1073741824
def CPow (i j : Int) : Prop := 0 ≤ j ∧ j ≤ 1000000 ∧ i.natAbs < 2 ^ 64
def CMul (i j : Int) : Prop := (-(2 ^ 64) < i ∧ i < 2 ^ 64) ∨ (-(2 ^ 64) < j ∧ j < 2 ^ 64)
theorem CMul.ok {i j : Int} (h : CMul i j) : IntMulOk i j := by
  rcases h with ⟨h1, h2⟩ | ⟨h1, h2⟩
  · exact .of_left (intBits_le_64 h1 h2)
  · exact .of_right (intBits_le_64 h1 h2)
theorem two_pow_nn (k : Nat) : (0 : Int) ≤ 2 ^ k := by
  rw [two_pow_cast]
  exact Int.natCast_nonneg _

theorem op_add : OpR X (binaryOp .Add) (rI0 fun i j => .int (i + j)) := opI0 fun _ _ _ _ _ _ _ q => add_int q
theorem op_sub : OpR X (binaryOp .Sub) (rI0 fun i j => .int (i - j)) := opI0 fun _ _ _ _ _ _ _ q => sub_int q
theorem op_mul : OpR X (binaryOp .Mult) (rI CMul fun i j => .int (i * j)) := opI fun _ _ _ _ _ _ _ hc q => mul_int q hc.ok
/-- // by a positive divisor -/
theorem op_fdiv : OpR X (binaryOp .FloorDiv) (rI CDiv fun i j => .int (i / j)) := opI fun i j _ _ _ _ _ hc q => by
  have h1 : (0 : Int) < j := hc.1
  have h2 : j < 1073741824 := hc.2
  exact floordiv_int (by omega) (by rw [Int.fdiv_eq_ediv_of_nonneg i (by omega)]; exact q) (.inl (PyProof.noPylong_small (by omega)))
/-- % by a positive divisor of any size -/
theorem op_mod : OpR X (binaryOp .Mod) (rI (fun _ j => 0 < j) fun i j => .int (i % j)) := opI fun i j _ _ _ _ _ hc q => by
  have h1 : (0 : Int) < j := hc
  exact mod_int' (by omega) (by rw [Int.fmod_eq_emod_of_nonneg i (by omega)]; exact q)
theorem op_pow : OpR X (binaryOp .Pow) (rI CPow fun i j => .int (i ^ j.toNat)) := opI fun _ _ _ _ _ _ _ hc q => pow_int_small hc.1 hc.2.1 hc.2.2 q
theorem op_shl : OpR X (binaryOp .LShift) (rI CPow fun i j => .int (i * 2 ^ j.toNat)) := opI fun _ _ _ _ _ _ _ hc q => lshift_int_small hc.1 hc.2.1 hc.2.2 q
theorem op_shr : OpR X (binaryOp .RShift) (rI (fun _ j => 0 ≤ j) fun i j => .int (i / 2 ^ j.toNat)) := opI fun i j _ _ _ _ _ hc q =>
  rshift_int hc (by rw [Int.fdiv_eq_ediv_of_nonneg i (two_pow_nn _)]; exact q)
theorem op_and : OpR X (binaryOp .BitAnd) (rI0 fun i j => .int (Builtin.bitAnd i j)) := opI0 fun _ _ _ _ _ _ _ q => and_int q
theorem op_or : OpR X (binaryOp .BitOr) (rI0 fun i j => .int (Builtin.bitOr i j)) := opI0 fun _ _ _ _ _ _ _ q => or_int q


theorem unI {f : Value → Sem Value} {g : Int → Int}
    (rule : ∀ (i : Int) (t : Tok) (s : Shared) (Q : Value → Shared → Prop) (E : Value → Shared → Prop), Q (.int (g i) s.toks) { s with toks := s.toks + 1 } → wpAny (model X.prog X.w) X.A (f (.int i t)) Q E s) :
    UnR X f (rU fun i => .int (g i)) := by
  intro pins s σ H x v Q I rx h
  obtain ⟨i, rfl, q⟩ := h
  obtain ⟨t, rfl⟩ := rx
  exact rule i t s _ _ ⟨.int (g i), H, I.tok _, ⟨_, rfl⟩, q⟩
theorem un_neg : UnR X (unaryOp .USub) (rU fun i => .int (-i)) := unI fun _ _ _ _ _ q => neg_int q

/-! ### bools among ints: n += (a < b) -/
end

/-! ### comparisons -/
/-- the scalars that == tells apart as data does -/
def scal : V → V → Bool
  | .non, .non => true | .non, .int _ => true | .int _, .non => true | .non, .bl _ => true | .bl _, .non => true | .non, .str _ => true | .str _, .non => true
  | .int _, .int _ => true | .bl _, .bl _ => true | .str _, .str _ => true | .byt _, .byt _ => true
  | .int _, .str _ => true | .str _, .int _ => true | .bl _, .str _ => true | .str _, .bl _ => true
  | _, _ => false
def rEq : R2 := fun x y H Q => scal x y = true ∧ Q (.bl (decide (x = y))) H
def rNe : R2 := fun x y H Q => scal x y = true ∧ Q (.bl (!decide (x = y))) H

theorem dec_int {i j : Int} : decide (V.int i = V.int j) = (i == j) := by
  rw [Bool.eq_iff_iff]
  simp
theorem dec_bl {i j : Bool} : decide (V.bl i = V.bl j) = (i == j) := by
  rw [Bool.eq_iff_iff]
  simp
theorem dec_str {i j : Str} : decide (V.str i = V.str j) = (i == j) := by
  rw [Bool.eq_iff_iff]
  simp
theorem dec_byt {i j : Array UInt8} : decide (V.byt i = V.byt j) = (i.toList == j.toList) := by
  rw [Bool.eq_iff_iff]
  cases i
  cases j
  simp

section
variable {X : Cx} {a b c : Expr} {ta tb tc : TE} {pos : Pos}
theorem fin_bl {pins : List (Addr × Obj)} {σ : St} {H : Hp} {s : Shared} {Q : VK} {k k' : Bool} (I : Inv X pins σ H s) (q : Q (.bl k) H) (e : k = k') : EP X pins σ Q (.bool k') s := by
  subst e
  exact ⟨.bl k, H, I, rfl, q⟩
theorem op_eq : OpR X (compareOp .Eq) rEq := by
  intro pins s σ H x y v u Q I rx ry h
  obtain ⟨hs, q⟩ := h
  cases x with
  | non =>
    cases rx
    cases y with
    | non => cases ry; exact PySem.EqNone.eq_none_none (fin_bl I q (by simp))
    | bl j => cases ry; exact PySem.EqNone.eq_none_bool (fin_bl I q (by simp))
    | int j => obtain ⟨t', rfl⟩ := ry; exact PySem.EqNone.eq_none_int (fin_bl I q (by simp))
    | str j => obtain ⟨t', rfl⟩ := ry; exact PySem.EqNone.eq_none_str (fin_bl I q (by simp))
    | _ => exact absurd (show false = true from hs) Bool.false_ne_true
  | bl i =>
    cases rx
    cases y with
    | non => cases ry; exact PySem.EqNone.eq_bool_none (fin_bl I q (by simp))
    | bl j => cases ry; exact eq_bool (fin_bl I q dec_bl)
    | str j => obtain ⟨t', rfl⟩ := ry; exact PySem.EqMixed.eq_bool_str (fin_bl I q (by simp))
    | _ => exact absurd (show false = true from hs) Bool.false_ne_true
  | int i =>
    obtain ⟨t, rfl⟩ := rx
    cases y with
    | non => cases ry; exact PySem.EqNone.eq_int_none (fin_bl I q (by simp))
    | int j => obtain ⟨t', rfl⟩ := ry; exact eq_int (fin_bl I q dec_int)
    | str j => obtain ⟨t', rfl⟩ := ry; exact PySem.EqMixed.eq_int_str (fin_bl I q (by simp))
    | _ => exact absurd (show false = true from hs) Bool.false_ne_true
  | str i =>
    obtain ⟨t, rfl⟩ := rx
    cases y with
    | non => cases ry; exact PySem.EqNone.eq_str_none (fin_bl I q (by simp))
    | bl j => cases ry; exact PySem.EqMixed.eq_str_bool (fin_bl I q (by simp))
    | int j => obtain ⟨t', rfl⟩ := ry; exact PySem.EqMixed.eq_str_int (fin_bl I q (by simp))
    | str j => obtain ⟨t', rfl⟩ := ry; exact eq_str (fin_bl I q dec_str)
    | _ => exact absurd (show false = true from hs) Bool.false_ne_true
  | byt i =>
    obtain ⟨t, rfl⟩ := rx
    cases y with
    | byt j => obtain ⟨t', rfl⟩ := ry; exact PySem.W.eq_bytes (fin_bl I q dec_byt)
    | _ => exact absurd (show false = true from hs) Bool.false_ne_true
  | _ => cases y <;> exact absurd (show false = true from hs) Bool.false_ne_true
theorem op_ne : OpR X (compareOp .NotEq) rNe := by
  intro pins s σ H x y v u Q I rx ry h
  obtain ⟨hs, q⟩ := h
  cases x with
  | non =>
    cases rx
    cases y with
    | non => cases ry; exact PySem.EqNone.ne_none_none (fin_bl I q (by simp))
    | bl j => cases ry; exact PySem.EqNone.ne_none_bool (fin_bl I q (by simp))
    | int j => obtain ⟨t', rfl⟩ := ry; exact PySem.EqNone.ne_none_int (fin_bl I q (by simp))
    | str j => obtain ⟨t', rfl⟩ := ry; exact PySem.EqNone.ne_none_str (fin_bl I q (by simp))
    | _ => exact absurd (show false = true from hs) Bool.false_ne_true
  | bl i =>
    cases rx
    cases y with
    | non => cases ry; exact PySem.EqNone.ne_bool_none (fin_bl I q (by simp))
    | bl j => cases ry; exact ne_bool (fin_bl I q (congrArg not dec_bl))
    | str j => obtain ⟨t', rfl⟩ := ry; exact PySem.EqMixed.ne_bool_str (fin_bl I q (by simp))
    | _ => exact absurd (show false = true from hs) Bool.false_ne_true
  | int i =>
    obtain ⟨t, rfl⟩ := rx
    cases y with
    | non => cases ry; exact PySem.EqNone.ne_int_none (fin_bl I q (by simp))
    | int j => obtain ⟨t', rfl⟩ := ry; exact ne_int (fin_bl I q (congrArg not dec_int))
    | str j => obtain ⟨t', rfl⟩ := ry; exact PySem.EqMixed.ne_int_str (fin_bl I q (by simp))
    | _ => exact absurd (show false = true from hs) Bool.false_ne_true
  | str i =>
    obtain ⟨t, rfl⟩ := rx
    cases y with
    | non => cases ry; exact PySem.EqNone.ne_str_none (fin_bl I q (by simp))
    | bl j => cases ry; exact PySem.EqMixed.ne_str_bool (fin_bl I q (by simp))
    | int j => obtain ⟨t', rfl⟩ := ry; exact PySem.EqMixed.ne_str_int (fin_bl I q (by simp))
    | str j => obtain ⟨t', rfl⟩ := ry; exact ne_str (fin_bl I q (congrArg not dec_str))
    | _ => exact absurd (show false = true from hs) Bool.false_ne_true
  | byt i =>
    obtain ⟨t, rfl⟩ := rx
    cases y with
    | byt j => obtain ⟨t', rfl⟩ := ry; exact PySem.W.ne_bytes (fin_bl I q (congrArg not dec_byt))
    | _ => exact absurd (show false = true from hs) Bool.false_ne_true
  | _ => cases y <;> exact absurd (show false = true from hs) Bool.false_ne_true

theorem op_lt : OpR X (compareOp .Lt) (rI0 fun i j => .bl (decide (i < j))) := opB0 fun _ _ _ _ _ _ _ q => lt_int q
theorem op_le : OpR X (compareOp .LtE) (rI0 fun i j => .bl (decide (i ≤ j))) := opB0 fun _ _ _ _ _ _ _ q => le_int q
theorem op_gt : OpR X (compareOp .Gt) (rI0 fun i j => .bl (decide (j < i))) := opB0 fun _ _ _ _ _ _ _ q => gt_int q
theorem op_ge : OpR X (compareOp .GtE) (rI0 fun i j => .bl (decide (j ≤ i))) := opB0 fun _ _ _ _ _ _ _ q => ge_int q
/-- the one string within the other -/
theorem op_in_str : OpR X (compareOp .In) (fun x y H Q => ∃ i j, x = .str i ∧ y = .str j ∧ Q (.bl (!(Builtin.Str.occurrences j i 0 j.length 1).isEmpty)) H) := by
  intro pins s σ H x y v u Q I rx ry h
  obtain ⟨i, j, rfl, rfl, q⟩ := h
  obtain ⟨t, rfl⟩ := rx
  obtain ⟨t', rfl⟩ := ry
  exact in_str (fin_bl I q rfl)




theorem nomark (b : Expr) {op : CmpOp} (h : op ≠ .In := by decide) (h2 : op ≠ .NotIn := by decide) : behindInMarks op b = false := by
  have e1 : (op == CmpOp.In) = false := by cases op <;> first | rfl | exact absurd rfl h
  have e2 : (op == CmpOp.NotIn) = false := by cases op <;> first | rfl | exact absurd rfl h2
  cases b <;> simp [behindInMarks, e1, e2]
/-- a comparison as a value; hm: nomark b, or (for in, not in) by with_unfolding_all rfl -/
theorem pe_cmpR {op : CmpOp} {r : R2} (ho : OpR X (compareOp op) r) (ha : PE X a ta) (hb : PE X b tb) (hm : behindInMarks op b = false) : PE X (.Compare a [op] [b] pos) (tOp r ta tb) := by
  intro pins s σ H Q I h
  exact wpAny_Compare1 (binT ha hb I h fun v u s2 x y H2 I2 rx ry q => ho pins s2 σ H2 x y v u Q I2 rx ry q) hm
/-- a reading of a value as a test -/
def tTest (t : TE) : TT := fun σ H Q => t σ H fun x H' => ∃ k, x = .bl k ∧ Q k H'
theorem pt_cmpR {op : CmpOp} {r : R2} (ho : OpR X (compareOp op) r) (ha : PE X a ta) (hb : PE X b tb) (hm : behindInMarks op b = false) : PT X (.Compare a [op] [b] pos) (tTest (tOp r ta tb)) := by
  intro pins s σ H Q I h
  refine wpAny_isTrue_Compare1 (thn (ha pins s σ H _ I h) fun v s1 ⟨x, H1, I1, r1, q1⟩ => thn (hb pins s1 σ H1 _ I1 q1) fun u s2 ⟨y, H2, I2, r2, q2⟩ =>
    thn (ho pins s2 σ H2 x y v u _ I2 r1 r2 q2) fun c s3 ⟨z, H3, I3, r3, k, e, q3⟩ => ?_) hm
  subst e
  cases r3
  exact wpAny_truthy_bool ⟨H3, I3, q3⟩
/-- a op1 b op2 c -/
def tChain (r r' : R2) (ta tb tc : TE) : TE := fun σ H Q => ta σ H fun x H1 => tb σ H1 fun y H2 => r x y H2 fun z H3 => ∃ k, z = .bl k ∧
  (if k = true then tc σ H3 fun w' H4 => r' y w' H4 Q else Q (.bl false) H3)
theorem pe_chain {op op' : CmpOp} {r r' : R2} (ho : OpR X (compareOp op) r) (ho' : OpR X (compareOp op') r') (ha : PE X a ta) (hb : PE X b tb) (hc : PE X c tc)
    (hm : lastMarks [op, op'] [b, c] = false := by with_unfolding_all rfl) : PE X (.Compare a [op, op'] [b, c] pos) (tChain r r' ta tb tc) := by
  intro pins s σ H Q I h
  refine Compare_chain (thn (ha pins s σ H _ I h) fun v s1 ⟨x, H1, I1, r1, q1⟩ => chain_link (thn (hb pins s1 σ H1 _ I1 q1) fun u s2 ⟨y, H2, I2, r2, q2⟩ =>
    thn (ho pins s2 σ H2 x y v u _ I2 r1 r2 q2) fun d s3 ⟨z, H3, I3, r3, k, e, q3⟩ => ?_)) hm
  subst e
  cases r3
  refine wpAny_truthy_bool ?_
  cases k with
  | false => exact ite_ff ⟨.bl false, H3, I3, rfl, q3⟩
  | true => exact ite_tt (chain_last (thn (hc pins s3 σ H3 _ I3 q3) fun w' s4 ⟨z', H4, I4, r4, q4⟩ => ho' pins s4 σ H4 y z' u w' Q I4 r2 r4 q4))

/-! ### truth -/
/-- a value's truth by the abstract heap -/
def TruV (K : PySem.W.Frag) (x : V) (H : Hp) (k : Bool) : Prop :=
  match x with
  | .non => k = false
  | .bl b => k = b
  | .int i => k = (i != 0)
  | .str y => y.length ≤ sizeLine ∧ k = ((y.length : Int) != 0)
  | .byt y => y.size ≤ sizeLine ∧ k = ((y.size : Int) != 0)
  | .ref p => (∃ xs, SqL K H p xs ∧ k = !xs.isEmpty) ∨ (∃ xs, SqT K H p xs ∧ k = !xs.isEmpty) ∨ ∃ kvs, H p = some (.dK kvs) ∧ k = !kvs.isEmpty
  | _ => False
theorem isEmpty_kv {κ : Type} {kvs : List (κ × V)} {vs : List (κ × Value)} (r : KV kvs vs) : (!vs.isEmpty) = !kvs.isEmpty := by
  cases r <;> rfl
theorem isEmpty_of {xs : List V} {its : List Value} (r : Vals xs its) : (!its.toArray.isEmpty) = !xs.isEmpty := by
  cases r <;> simp
theorem line63 : (sizeLine : Nat) < 2 ^ 63 := by rw [sizeLine_eq]; decide
theorem tru_ok : TruR X (fun x H Q => ∃ k, TruV X.K x H k ∧ Q k H) := by
  intro pins s σ H x v Q I rx h
  obtain ⟨k, e, q⟩ := h
  have hl := line63
  have hs : sizeLine = 16777216 := sizeLine_eq
  cases x with
  | non =>
    cases rx
    have e' : k = false := e
    subst e'
    exact truthy_none ⟨H, I, q⟩
  | bl b =>
    cases rx
    have e' : k = b := e
    subst e'
    exact wpAny_truthy_bool ⟨H, I, q⟩
  | int i =>
    obtain ⟨t, rfl⟩ := rx
    have e' : k = (i != 0) := e
    subst e'
    exact PySem.P.truthy_int ⟨H, I, q⟩
  | str y =>
    obtain ⟨t, rfl⟩ := rx
    obtain ⟨hy, e'⟩ : y.length ≤ sizeLine ∧ k = ((y.length : Int) != 0) := e
    subst e'
    exact PySem.P.truthy_str (by omega) ⟨H, I.tok _, q⟩
  | byt y =>
    obtain ⟨t, rfl⟩ := rx
    obtain ⟨hy, e'⟩ : y.size ≤ sizeLine ∧ k = ((y.size : Int) != 0) := e
    subst e'
    exact PySem.W.truthy_bytes (by omega) ⟨H, I.tok _, q⟩
  | ref p =>
    cases rx
    have e' : (∃ xs, SqL X.K H p xs ∧ k = !xs.isEmpty) ∨ (∃ xs, SqT X.K H p xs ∧ k = !xs.isEmpty) ∨ ∃ kvs, H p = some (.dK kvs) ∧ k = !kvs.isEmpty := e
    rcases e' with ⟨xs, hx, e'⟩ | ⟨xs, hx, e'⟩ | ⟨kvs, hx, e'⟩
    · subst e'
      obtain ⟨its, r, pl, hz⟩ := I.list hx
      have hlen := r.length
      exact wpAny_truthy_list pl.isList (by simp only [List.size_toArray]; omega) ⟨H, I.tok _, by rw [isEmpty_of r]; exact q⟩
    · subst e'
      obtain ⟨its, r, pl, hz⟩ := I.tuple hx
      have hlen := r.length
      exact truthy_tuple pl (by simp only [List.size_toArray]; omega) ⟨H, I.tok _, by rw [isEmpty_of r]; exact q⟩
    · subst e'
      obtain ⟨hz, hS, vs, r, m⟩ : kvs.length ≤ sizeLine ∧ (p == sysModules) = false ∧ ∃ vs, KV kvs vs ∧ s.heap.DictOf (mixKind X.prog X.w) p vs := I.hok p _ hx
      have hlen : kvs.length = vs.length := Paired.length r
      exact wpAny_truthy_dict hS m (by omega) ⟨H, I.tok _, by rw [isEmpty_kv r]; exact q⟩
  | _ => exact (show False from e).elim
/-- any expression whose test is its value's truth (a name, a call, a subscript, a field ..: he by fun _ => rfl) -/
theorem pt_truth (ha : PE X a ta) (he : ∀ whole, isTrue a X.env whole = (do let v ← whole; standAt a.pos; holding [v] (truthy v))) :
    PT X a (fun σ H Q => ta σ H fun x H' => ∃ k, TruV X.K x H' k ∧ Q k H') := by
  intro pins s σ H Q I h
  exact isTrue_plain (thn (ha pins s σ H _ I h) fun v s1 ⟨x, H1, I1, r1, q1⟩ => tru_ok pins s1 σ H1 x v Q I1 r1 q1) (he _)

/-! ### strs and bytes -/
theorem op_add_str : OpR X (binaryOp .Add) (fun x y H Q => ∃ i j, x = .str i ∧ y = .str j ∧ i.length + j.length ≤ sizeLine ∧ Q (.str (i ++ j)) H) := by
  intro pins s σ H x y v u Q I rx ry h
  obtain ⟨i, j, rfl, rfl, hz, q⟩ := h
  obtain ⟨t, rfl⟩ := rx
  obtain ⟨t', rfl⟩ := ry
  exact add_str (fun t' tk => ⟨.str (i ++ j), H, I.tok _, ⟨_, rfl⟩, q⟩) hz


/-! ### scalar builtins, by CallR -/
theorem vals1 {x : V} {us : List Value} (r : Vals [x] us) : ∃ u, us = [u] ∧ RelV x u := by
  cases r with
  | cons r1 r2 => cases r2; exact ⟨_, rfl, r1⟩
theorem vals2 {x y : V} {us : List Value} (r : Vals [x, y] us) : ∃ u w', us = [u, w'] ∧ RelV x u ∧ RelV y w' := by
  cases r with
  | cons r1 r2 =>
    cases r2 with
    | cons r3 r4 => cases r4; exact ⟨_, _, rfl, r1, r3⟩
theorem call_max2 (hc : X.calm = true) : CallR X (.builtin "max") (fun xs H Q => ∃ i j, xs = [.int i, .int j] ∧ Q (.int (if j > i then j else i)) H) := by
  intro pins s σ H xs us Q I r h
  obtain ⟨i, j, rfl, q⟩ := h
  obtain ⟨u, w', rfl, ⟨t, rfl⟩, ⟨t', rfl⟩⟩ := vals2 r
  refine max_two_ints (I.ok.hd hc) fun h' tk k => ⟨_, H, I.kept k, ?_, q⟩
  by_cases hj : j > i
  · rw [if_pos hj, if_pos hj]; exact ⟨_, rfl⟩
  · rw [if_neg hj, if_neg hj]; exact ⟨_, rfl⟩
theorem call_min2 (hc : X.calm = true) : CallR X (.builtin "min") (fun xs H Q => ∃ i j, xs = [.int i, .int j] ∧ Q (.int (if j < i then j else i)) H) := by
  intro pins s σ H xs us Q I r h
  obtain ⟨i, j, rfl, q⟩ := h
  obtain ⟨u, w', rfl, ⟨t, rfl⟩, ⟨t', rfl⟩⟩ := vals2 r
  refine min_two_ints (I.ok.hd hc) fun h' tk k => ⟨_, H, I.kept k, ?_, q⟩
  by_cases hj : j < i
  · rw [if_pos hj, if_pos hj]; exact ⟨_, rfl⟩
  · rw [if_neg hj, if_neg hj]; exact ⟨_, rfl⟩
theorem call_str_int : CallR X (.type "str") (fun xs H Q => ∃ i, xs = [.int i] ∧ i.natAbs.log2 < 1920 ∧ Q (.str (toString i)) H) := by
  intro pins s σ H xs us Q I r h
  obtain ⟨i, rfl, hz, q⟩ := h
  obtain ⟨u, rfl, t, rfl⟩ := vals1 r
  exact PySem.P.str_of_int hz ⟨.str _, H, I.tok _, ⟨_, rfl⟩, q⟩
end
end L2

namespace L2
open PySem PySem.Spec PyProof.Rows

/-! ### an instance, its attributes a map -/
structure ObjM (h : Heap) (x dx C : Addr) (mA : Str → Option Value) : Prop where
  obj : h.get? x = some (PySem.W.instObj C dx)
  ns : h.Ns1 dx mA
  ne : dx ≠ x

theorem lookIn_ns {h : Heap} {dx : Addr} {mA : Str → Option Value} (n : h.Ns1 dx mA) : ∃ od, h.get? dx = some od ∧ ∀ name, PySem.W.lookIn name od = some (mA name) := by
  obtain ⟨o, es, ep, ho, hd, hk, _, hm⟩ := n
  refine ⟨o, ho, fun name => ?_⟩
  have e := hm name
  unfold nsFind findBy at e
  rw [← Array.find?_toList] at e
  unfold PySem.W.lookIn
  rw [hd]
  dsimp only
  split
  · rename_i y q
    rw [q] at e
    exact congrArg some e
  · rename_i q
    rw [q] at e
    have a : es.toList.any (·.refKey) = false := by
      rw [List.any_eq_false]
      intro y hy
      obtain ⟨z, t, hkey⟩ := hk y (Array.mem_toList_iff.mp hy)
      simp [DictEntry.refKey, hkey]
    have a' : ¬ es.toList.any (·.refKey) = true := by rw [a]; exact Bool.false_ne_true
    rw [if_neg a']
    exact congrArg some e

theorem ObjM.look {h : Heap} {x dx C : Addr} {mA : Str → Option Value} (I : ObjM h x dx C mA) : ∃ od, PySem.W.InstAt h x (PySem.W.instObj C dx) C (some od) ∧ ∀ name, PySem.W.lookIn name od = some (mA name) :=
  let ⟨od, ho, hl⟩ := lookIn_ns I.ns
  ⟨od, ⟨I.obj, rfl, rfl, ho⟩, hl⟩

section
variable {prog : Program} {w : World} {A : Around} {E : Value → Shared → Prop} {s : Shared} {K : PySem.W.Frag} {x dx C f : Addr} {mA : Str → Option Value} {name : Str} {v : Value}

theorem get_map {expr : Bool} {Q : Value → Shared → Prop} (X : K.In s.heap) (I : ObjM s.heap x dx C mA) (hg : PySem.W.plainGet K C name = true) (hh : PySem.W.hasDictIn K C = true)
    (ha : PySem.W.findIn K (.ref C) name = some none) (hv : mA name = some v) (hv' : PySem.W.handedIn v = true) (h : Q v { s with toks := s.toks + 1 }) :
    wpAny (model prog w) A (getAttr (.ref x) name expr) Q E s := by
  obtain ⟨od, J, hl⟩ := I.look
  exact PySem.W.get_value X J (PySem.W.plainGet_of hg).1 (PySem.W.findObj_own hh ha rfl (by rw [hl, hv])) hv' h


theorem get_meth {pl : Sem Bool} {Q : Value × List Value → Shared → Prop} (X : K.In s.heap) (I : ObjM s.heap x dx C mA) (hg : PySem.W.plainGet K C name = true)
    (hf : PySem.W.findIn K (.ref C) name = some (some (.ref f))) (ht : PySem.W.isFn K (.ref f) = true) (hv : mA name = none) (h : Q (.ref f, [.ref x]) s) :
    wpAny (model prog w) A (getMethod (.ref x) name pl) Q E s := by
  obtain ⟨od, J, hl⟩ := I.look
  exact PySem.W.method_fn X J (PySem.W.plainGet_of hg).1 (PySem.W.plainGet_of hg).2 hf (beq_iff_eq.mp ht) (by show (PySem.W.lookIn name od).map (·.isSome) = some false; rw [hl, hv]; rfl) h

theorem set_map {ns : List Str} {Q : Unit → Shared → Prop} (X : K.In s.heap) (I : ObjM s.heap x dx C mA)
    (hs : PySem.W.findIn K (.ref C) "__setattr__" = some (some (.builtin "object.__setattr__"))) (hp : PySem.W.plainOver K C = true) (ht : PySem.W.takerIn K C name = some none) (hh : PySem.W.hasDictIn K C = true)
    (hw : PySem.Within mA ns) (hsz : ns.length ≤ sizeLine)
    (h : ∀ h', ObjM h' x dx C (fun y => if y = name then some v else mA y) → Heap.SameBut dx s.heap h' → Q () { s with heap := h', toks := s.toks + 2 }) :
    wpAny (model prog w) A (setAttr (.ref x) name v) Q E s := by
  obtain ⟨od, J, hl⟩ := I.look
  refine PySem.W.set_plain X J hs (PySem.W.osa_open (s := { s with toks := s.toks + 1 }) (r := none) X J hp ht fun b => ?_)
  obtain ⟨cd, hc, hd'⟩ := PySem.W.any_some hh
  have hx : s.heap.get? x = some ⟨.ref C, some dx, .plain, #[]⟩ := I.obj
  refine wpAny_bind (wpAny_pure (wpAny_bind (wpAny_bind (wpAny_loadPart hx (wpAny_bind (PySem.W.Looks.here (s := { s with toks := s.toks + 1 }) (PySem.W.looks_clsIn X hc) ?_))))))
  rw [hd']
  refine wpAny_pure (a := some dx) (wpAny_bind (wpAny_pure (wpAny_bind ?_)))
  refine wpAny_nsSet1 (s := { s with toks := s.toks + 1 }) I.ns fun h' hn2 hs2 => ?_
  obtain ⟨oD, esD, epD, hoD, hdD, hcD⟩ := hn2.count (PySem.Within.cons name v hw)
  refine wpAny_bind (wpAny_lookBehind hoD (by rw [hdD]; exact pastItsLine_dict (Nat.le_trans hcD (by rw [List.length_cons]; omega))) ?_)
  exact wpAny_pure (h _ ⟨(hs2.2 _ (Ne.symm I.ne)).trans I.obj, hn2, I.ne⟩ hs2)

/-- C(..): the dict at the heap's end, the instance behind it; then its __init__ -/
theorem make_map {R : Result → Shared → Prop} {vs : List Value} {kw : List (Str × Value)} (X : K.In s.heap) (hm : PySem.W.makesIn K C = true)
    (hi : PySem.W.findIn K (.ref C) "__init__" = some (some (.ref f))) (hf : PySem.W.typeIn K (.ref f) = some (.type "function"))
    (h : codeAny (model prog w) (A.under (.builtin "type.__call__" ⟨.ref C :: vs, kw⟩)) (.call (.ref f) ⟨.ref (s.heap.objs.size + 1) :: vs, kw⟩) (PySem.W.InitBack (s.heap.objs.size + 1) R)
      { s with heap := (s.heap.push PySem.W.emptyDict).push (PySem.W.instObj C s.heap.objs.size) }) :
    codeAny (model prog w) A (.call (.ref C) ⟨vs, kw⟩) R s := by
  obtain ⟨hh, g, d, t, os⟩ := s
  exact PySem.W.make_core (PySem.W.makes_of X hm) (PySem.W.looks_findIn X hi) (fun self => PySem.W.bind_fn X self hf) (.inl rfl) h
end

/-! ### the attributes as a list of pairs -/
def putF (f : Str) (v : V) : List (Str × V) → List (Str × V)
  | [] => [(f, v)]
  | (g, x) :: r => if g = f then (g, v) :: r else (g, x) :: putF f v r
theorem lookup_putF (f g : Str) (v : V) : ∀ fs : List (Str × V), (putF f v fs).lookup g = if g = f then some v else fs.lookup g
  | [] => by
    show List.lookup g [(f, v)] = _
    by_cases h : g = f
    · have hb : (g == f) = true := beq_iff_eq.mpr h
      simp only [List.lookup, hb, if_pos h]
    · have hb : (g == f) = false := beq_eq_false_iff_ne.mpr h
      simp only [List.lookup, hb, if_neg h]
  | (k, x) :: r => by
    have ih := lookup_putF f g v r
    rw [show putF f v ((k, x) :: r) = (if k = f then (k, v) :: r else (k, x) :: putF f v r) from rfl]
    by_cases hk : k = f
    · rw [if_pos hk]
      by_cases h : g = k
      · have hb : (g == k) = true := beq_iff_eq.mpr h
        simp only [List.lookup, hb, if_pos (h.trans hk)]
      · have hb : (g == k) = false := beq_eq_false_iff_ne.mpr h
        simp only [List.lookup, hb, if_neg (fun e : g = f => h (e.trans hk.symm))]
    · rw [if_neg hk]
      by_cases h : g = k
      · have hb : (g == k) = true := beq_iff_eq.mpr h
        simp only [List.lookup, hb, if_neg (fun e : g = f => hk (h.symm.trans e))]
      · have hb : (g == k) = false := beq_eq_false_iff_ne.mpr h
        simp only [List.lookup, hb]
        exact ih
theorem keys_putF (f : Str) (v : V) : ∀ fs : List (Str × V), f ∈ (putF f v fs).map (·.1) ∧ ∀ g, g ∈ fs.map (·.1) → g ∈ (putF f v fs).map (·.1)
  | [] => ⟨by simp [putF], fun g h => by simp at h⟩
  | (k, x) :: r => by
    obtain ⟨i1, i2⟩ := keys_putF f v r
    rw [show putF f v ((k, x) :: r) = (if k = f then (k, v) :: r else (k, x) :: putF f v r) from rfl]
    by_cases hk : k = f
    · rw [if_pos hk]
      subst hk
      exact ⟨by simp, fun g h => by simpa using h⟩
    · rw [if_neg hk]
      refine ⟨?_, fun g h => ?_⟩
      · rw [List.map_cons]
        exact List.mem_cons_of_mem _ i1
      · rw [List.map_cons] at h ⊢
        rcases List.mem_cons.mp h with e | e
        · exact List.mem_cons.mpr (.inl e)
        · exact List.mem_cons_of_mem _ (i2 g e)
theorem length_putF (f : Str) (v : V) : ∀ fs : List (Str × V), (putF f v fs).length ≤ fs.length + 1
  | [] => by simp [putF]
  | (k, x) :: r => by
    have ih := length_putF f v r
    rw [show putF f v ((k, x) :: r) = (if k = f then (k, v) :: r else (k, x) :: putF f v r) from rfl]
    by_cases hk : k = f
    · rw [if_pos hk, List.length_cons, List.length_cons]; omega
    · rw [if_neg hk, List.length_cons, List.length_cons]; omega

theorem RelO.some_of {v : V} {o : Option Value} (r : RelO (some v) o) : ∃ u, o = some u ∧ RelV v u := by
  cases o with
  | none => exact (show False from r).elim
  | some u => exact ⟨u, rfl, r⟩
theorem RelO.none_of {o : Option Value} (r : RelO none o) : o = none := by
  cases o with
  | none => rfl
  | some u => exact (show False from r).elim
theorem handed_of {v : V} {u : Value} (r : RelV v u) : PySem.W.handedIn u = true := by
  cases v with
  | non => cases (show u = Value.none from r); rfl
  | bl b => cases (show u = Value.bool b from r); rfl
  | int i => obtain ⟨t, e⟩ := (show ∃ t, u = Value.int i t from r); cases e; rfl
  | str x => obtain ⟨t, e⟩ := (show ∃ t, u = Value.str x t from r); cases e; rfl
  | byt b => obtain ⟨t, e⟩ := (show ∃ t, u = Value.bytes b t from r); cases e; rfl
  | flt b => obtain ⟨t, e⟩ := (show ∃ t, u = Value.float b t from r); cases e; rfl
  | ref a => cases (show u = Value.ref a from r); rfl
  | ty n => cases (show u = Value.type n from r); rfl

section
variable {P : Program} {w : World} {H H' : Hp} {h h' : Heap} {a C dx : Addr} {fs fs' : List (Str × V)}
theorem ins_get (hok : HOk P w H h) (e : H a = some (.ins C dx fs)) : ∃ mA, ObjM h a dx C mA ∧ (∀ f, RelO (fs.lookup f) (mA f)) ∧ PySem.Within mA (fs.map (·.1)) ∧ fs.length ≤ 1000 ∧ H dx = some (.own a) := by
  obtain ⟨d, z, ne, ob, mA, n, r, q⟩ := (show ObjOk P w H h a (.ins C dx fs) from hok a _ e)
  exact ⟨mA, ⟨ob, n, ne⟩, r, q, z, d⟩
end

/-! ### what of the text a class must have -/
structure Cls (K : PySem.W.Frag) (C : Addr) : Prop where
  pg : PySem.W.plainGet K C Str.empty = true
  hd : PySem.W.hasDictIn K C = true
  po : PySem.W.plainOver K C = true
  sa : PySem.W.findIn K (.ref C) "__setattr__" = some (some (.builtin "object.__setattr__"))
theorem Cls.get {K : PySem.W.Frag} {C : Addr} (c : Cls K C) (f : Str) : PySem.W.plainGet K C f = true := c.pg
/-- no class of it has the name -/
def NoAttr (K : PySem.W.Frag) (C : Addr) (f : Str) : Prop := PySem.W.findIn K (.ref C) f = some none
theorem NoAttr.taker {K : PySem.W.Frag} {C : Addr} {f : Str} (n : NoAttr K C f) : PySem.W.takerIn K C f = some none := by
  unfold PySem.W.takerIn
  rw [show PySem.W.findIn K (.ref C) f = some none from n]
  rfl
/-- a method: a plain def of the class or of one above it -/
structure Meth (K : PySem.W.Frag) (C : Addr) (m : Str) (f : Addr) : Prop where
  at_ : PySem.W.findIn K (.ref C) m = some (some (.ref f))
  fn : PySem.W.isFn K (.ref f) = true
  kp : PySem.W.keepIn K (.ref f) = true

section
variable {X : Cx} {pins : List (Addr × Obj)} {σ : St} {H : Hp} {s : Shared} {a C dx : Addr} {fs : List (Str × V)} {f : Str} {v : V} {A : Around} {E : Value → Shared → Prop}

theorem getattr_ok {b : Bool} {Q : Value → Shared → Prop} (I : Inv X pins σ H s) (e : H a = some (.ins C dx fs)) (c : Cls X.K C) (n : NoAttr X.K C f) (l : fs.lookup f = some v)
    (h : ∀ u s', Inv X pins σ H s' → RelV v u → Q u s') : wpAny (model X.prog X.w) A (getAttr (.ref a) f b) Q E s := by
  obtain ⟨mA, O, r, _, _, _⟩ := ins_get I.hok e
  obtain ⟨u, hu, ru⟩ := RelO.some_of (v := v) (o := mA f) (by rw [← l]; exact r f)
  exact get_map I.kIn O (c.get f) c.hd n hu (handed_of ru) (h u _ (I.tok _) ru)


theorem getmeth_ok {m : Str} {g : Addr} {pl : Sem Bool} {Q : Value × List Value → Shared → Prop} (I : Inv X pins σ H s) (e : H a = some (.ins C dx fs)) (c : Cls X.K C) (k : Meth X.K C m g) (l : fs.lookup m = none)
    (h : Q (.ref g, [.ref a]) s) : wpAny (model X.prog X.w) A (getMethod (.ref a) m pl) Q E s := by
  obtain ⟨mA, O, r, _, _, _⟩ := ins_get I.hok e
  have hn : mA m = none := RelO.none_of (by rw [← l]; exact r m)
  exact get_meth I.kIn O (c.get m) k.at_ k.fn hn h

theorem setattr_ok {y : V} {u : Value} {Q : Unit → Shared → Prop} (I : Inv X pins σ H s) (e : H a = some (.ins C dx fs)) (c : Cls X.K C) (n : NoAttr X.K C f) (hl : fs.length < 1000) (ry : RelV y u)
    (h : ∀ s', Inv X pins σ (upd H a (.ins C dx (putF f y fs))) s' → Q () s') : wpAny (model X.prog X.w) A (setAttr (.ref a) f u) Q E s := by
  obtain ⟨mA, O, r, wi, _, ho⟩ := ins_get I.hok e
  have hz : (fs.map (·.1)).length ≤ sizeLine := by rw [List.length_map, sizeLine_eq]; omega
  refine set_map I.kIn O c.sa c.po n.taker c.hd wi hz fun h' O' sb => h _ ?_
  have hd : ∃ o, h'.get? dx = some o := let ⟨o, _, _, e', _⟩ := O'.ns; ⟨o, e'⟩
  refine I.write (x := a) (e := dx) (by rw [e]; exact True.intro) (.inr ho) (fun b q hb z => (sb.2 b hb).trans z) hd ?_
  refine ⟨by rw [upd_ne O.ne]; exact ho, ?_, O.ne, O'.obj, _, O'.ns, fun g => ?_, fun g hg => ?_⟩
  · have := length_putF f y fs; omega
  · show RelO ((putF f y fs).lookup g) (if g = f then some u else mA g)
    rw [lookup_putF]
    by_cases q : g = f
    · rw [if_pos q, if_pos q]; exact ry
    · rw [if_neg q, if_neg q]; exact r g
  · by_cases q : g = f
    · rw [q]; exact (keys_putF f y fs).1
    · refine (keys_putF f y fs).2 g (wi g fun z => hg ?_)
      show (if g = f then some u else mA g) = none
      rw [if_neg q]; exact z

/-- a new instance, tracked, without attributes -/
theorem Inv.made (I : Inv X pins σ H s) : Inv X pins σ (upd (upd H s.heap.objs.size (.own (s.heap.objs.size + 1))) (s.heap.objs.size + 1) (.ins C s.heap.objs.size []))
    { s with heap := (s.heap.push PySem.W.emptyDict).push (PySem.W.instObj C s.heap.objs.size) } := by
  have e1 : (s.heap.push PySem.W.emptyDict).get? s.heap.objs.size = some PySem.W.emptyDict := Heap.get?_push_size s.heap rfl
  have e2 : ((s.heap.push PySem.W.emptyDict).push (PySem.W.instObj C s.heap.objs.size)).get? (s.heap.objs.size + 1) = some (PySem.W.instObj C s.heap.objs.size) := by
    have := Heap.get?_push_size (s.heap.push PySem.W.emptyDict) (o := PySem.W.instObj C s.heap.objs.size) rfl
    rwa [Heap.size_push] at this
  have e3 : (s.heap.push PySem.W.emptyDict).Ns s.heap.objs.size (fun _ => none) := ⟨PySem.W.emptyDict, #[], _, e1, rfl, (fun e he => absurd he (by simp)), fun _ => rfl⟩
  have I1 := I.laid (a := s.heap.objs.size) (o := .own (s.heap.objs.size + 1)) (h' := s.heap.push PySem.W.emptyDict) (t' := s.toks) (fun b u q => Heap.get?_push_of_some _ q) (Nat.le_refl _) ⟨_, e1⟩
  refine I1.laid (a := s.heap.objs.size + 1) (o := .ins C s.heap.objs.size []) (t' := s.toks) (fun b u q => Heap.get?_push_of_some _ q) (Nat.le_of_eq (Heap.size_push _ _)) ?_
  have ne : s.heap.objs.size ≠ s.heap.objs.size + 1 := Nat.ne_of_lt (Nat.lt_succ_self _)
  refine ⟨by rw [upd_ne ne, upd_same], Nat.zero_le _, ne, e2, fun _ => none, (Heap.Ns1.of_empty e3).at fun o q => Heap.get?_push_of_some _ q, fun _ => True.intro, fun y hy => absurd rfl hy⟩

/-- e.f where nothing but the object is asked: through attributeBase (super) and the last hold -/
theorem attr_of {prog : Program} {w : World} {env : Env} {e : Expr} {f : Str} {pos : Pos} {s : Shared} {Q : Value → Shared → Prop} (hb : attributeBase e f env (eval e env) = eval e env)
    (h : wpAny (model prog w) A (eval e env) (fun o s₁ => wpAny (model prog w) A (getAttr o f true) Q E s₁) E s) : wpAny (model prog w) A (eval (.Attribute e f pos) env) Q E s :=
  Attribute_any_ h (by rw [arm_eval_Attribute, hb])
end

/-! ### readings and rules -/
/-- e.f, an attribute of the instance -/
def tFld (K : PySem.W.Frag) (ta : TE) (f : Str) : TE := fun σ H Q => ta σ H fun x H1 => ∃ a C dx fs v, x = .ref a ∧ H1 a = some (.ins C dx fs) ∧ Cls K C ∧ NoAttr K C f ∧ fs.lookup f = some v ∧ Q v H1
/-- e.f = value -/
def sFld (K : PySem.W.Frag) (ta tv : TE) (f : Str) : TS := fun D σ H => tv σ H fun y H1 => ta σ H1 fun x H2 => ∃ a C dx fs, x = .ref a ∧ H2 a = some (.ins C dx fs) ∧ Cls K C ∧ NoAttr K C f ∧ fs.length < 1000 ∧
  D.nx σ (upd H2 a (.ins C dx (putF f y fs)))

section
variable {X : Cx} {o e value : Expr} {f : Str} {pos pos' tpos : Pos} {ta tv : TE}
theorem pe_fld (he : PE X e ta) (hb : attributeBase e f X.env (eval e X.env) = eval e X.env) : PE X (.Attribute e f pos) (tFld X.K ta f) := by
  intro pins s σ H Q I h
  refine attr_of hb (thn (he pins s σ H _ I h) fun u s1 ⟨x, H1, I1, rx, a, C, dx, fs, v, ex, ea, c, n, l, q⟩ => ?_)
  subst ex
  obtain rfl : u = Value.ref a := rx
  exact getattr_ok I1 ea c n l fun u' s2 I2 ru => ⟨v, H1, I2, ru, q⟩
theorem ps_fld (ha : PE X o ta) (hv : PE X value tv) (hs : swapsWith value (some (.Attribute o f pos')) pos.line X.env = pure false) : PS X (.Assign [.Attribute o f pos'] value pos) (sFld X.K ta tv f) := by
  intro pins s σ H D I h
  refine plainObj_wpAny_Assign_Attribute (thn (hv pins s σ H _ I h) fun u s1 ⟨y, H1, I1, ry, q⟩ => thn (ha pins s1 σ H1 _ I1 q) fun ov s2 ⟨x, H2, I2, rx, a, C, dx, fs, ex, ea, c, n, l, q2⟩ => ?_) hs
  subst ex
  obtain rfl : ov = Value.ref a := rx
  exact setattr_ok I2 ea c n l ry fun s3 I3 => ⟨σ, _, I3, q2⟩

end

/-! ### isinstance -/
section
variable {X : Cx} {pins : List (Addr × Obj)} {σ : St} {H : Hp} {s : Shared} {A : Around} {E : Value → Shared → Prop} {Q : Value → Shared → Prop} {c : Value} {b : Bool}
/-- the type of a value, as the fragment's deciders take it; for an instance its class -/
inductive TyOf (K : PySem.W.Frag) (H : Hp) : V → Value → Prop where
  | non : TyOf K H .non (.type "NoneType")
  | bl (x : Bool) : TyOf K H (.bl x) (.type "bool")
  | int (i : Int) : TyOf K H (.int i) (.type "int")
  | str (x : Str) : TyOf K H (.str x) (.type "str")
  | flt (x : UInt64) : TyOf K H (.flt x) (.type "float")
  | lst {a : Addr} {xs : List V} (e : H a = some (.lst xs)) : TyOf K H (.ref a) (.type "list")
  | frz {a : Addr} {o : Obj} {xs : List V} (e : H a = some (.frz o (.lst xs))) : TyOf K H (.ref a) (.type "list")
  | tup {a : Addr} {xs : List V} (e : H a = some (.tup xs)) : TyOf K H (.ref a) (.type "tuple")
  | dK {a : Addr} {kvs : List (Key × V)} (e : H a = some (.dK kvs)) : TyOf K H (.ref a) (.type "dict")
  | dT {a : Addr} {kvs : List (List Key × V)} (e : H a = some (.dT kvs)) : TyOf K H (.ref a) (.type "dict")
  | ins {a C dx : Addr} {fs : List (Str × V)} (e : H a = some (.ins C dx fs)) (cl : Cls K C) (ha : PySem.W.findIn K (.ref C) "__class__" = some (some (.builtin "object.__class__")))
      (hn : PySem.W.specialIn K (.builtin "object.__class__") "__get__" = some (some (.builtin "getset_descriptor.__get__"))) (htk : PySem.W.takesIn K (.builtin "object.__class__") = some true)
      (hm : PySem.W.mroIn K C (.type "object") = some true) : TyOf K H (.ref a) (.ref C)
/-- isinstance(x, c) for one class c, a built-in or an own one: kitOne's answer -/
theorem isinst_ok {x : V} {u t : Value} (I : Inv X pins σ H s) (rx : RelV x u) (ty : TyOf X.K H x t) (e : PySem.W.kitOne X.K t c = some b) (h : ∀ tk, Q (.bool b) { s with toks := tk }) :
    wpAny (model X.prog X.w) A (call (.builtin "isinstance") [u, c]) Q E s := by
  cases ty with
  | non => cases (show u = Value.none from rx); exact PySem.W.kia_one PySem.W.kitx_none I.kIn True.intro e (fun z => nomatch z) h
  | bl y => cases (show u = Value.bool y from rx); exact PySem.W.kia_one PySem.W.kitx_bool I.kIn True.intro e (fun z => nomatch z) h
  | int i => obtain ⟨t, q⟩ := (show ∃ t, u = Value.int i t from rx); cases q; exact PySem.W.kia_one PySem.W.kitx_int I.kIn True.intro e (fun z => nomatch z) h
  | str y => obtain ⟨t, q⟩ := (show ∃ t, u = Value.str y t from rx); cases q; exact PySem.W.kia_one PySem.W.kitx_str I.kIn True.intro e (fun z => nomatch z) h
  | flt y => obtain ⟨t, q⟩ := (show ∃ t, u = Value.float y t from rx); cases q; exact PySem.W.kia_one PySem.W.kitx_float I.kIn True.intro e (fun z => nomatch z) h
  | @lst a xs ea =>
    cases (show u = Value.ref a from rx)
    obtain ⟨_, _, n, _, h1⟩ := (show ObjOk X.prog X.w H s.heap a (.lst xs) from I.hok a _ ea)
    exact PySem.W.kia_one PySem.W.kitx_list I.kIn ⟨_, h1, rfl⟩ e (fun z => nomatch z) h
  | @frz a ob xs ea =>
    cases (show u = Value.ref a from rx)
    obtain ⟨_, _, _, n, _, h1⟩ := (show ObjOk X.prog X.w H s.heap a (.frz ob (.lst xs)) from I.hok a _ ea)
    exact PySem.W.kia_one PySem.W.kitx_list I.kIn ⟨_, h1, rfl⟩ e (fun z => nomatch z) h
  | @tup a xs ea =>
    cases (show u = Value.ref a from rx)
    obtain ⟨_, _, _, p⟩ := (show ObjOk X.prog X.w H s.heap a (.tup xs) from I.hok a _ ea)
    obtain ⟨o, h1, h2, _⟩ := p
    exact PySem.W.kia_one PySem.W.kitx_tuple I.kIn ⟨o, h1, h2⟩ e (fun z => nomatch z) h
  | @dK a kvs ea =>
    cases (show u = Value.ref a from rx)
    obtain ⟨_, _, vs, _, p⟩ := (show ObjOk X.prog X.w H s.heap a (.dK kvs) from I.hok a _ ea)
    obtain ⟨o, es, ep, h1, h2, _⟩ := p
    exact PySem.W.kia_one PySem.W.kitx_dict I.kIn ⟨o, h1, h2.1⟩ e (fun z => nomatch z) h
  | @dT a kvs ea =>
    cases (show u = Value.ref a from rx)
    obtain ⟨_, _, xs, _, o, es, ep, h1, h2, _⟩ := (show ObjOk X.prog X.w H s.heap a (.dT kvs) from I.hok a _ ea)
    exact PySem.W.kia_one PySem.W.kitx_dict I.kIn ⟨o, h1, h2.1⟩ e (fun z => nomatch z) h
  | @ins a C dx fs ea cl ha hn htk hm =>
    cases (show u = Value.ref a from rx)
    obtain ⟨mA, O, _⟩ := ins_get I.hok ea
    obtain ⟨od, J, _⟩ := O.look
    exact PySem.W.kia_one (PySem.W.kitx_own (cl.get _) cl.hd ha hn htk hm) I.kIn J e (fun z => nomatch z) h
end
end L2

namespace L2
open PySem PySem.Spec PyProof.Rows

/-! ### room -/
structure Room (k : Nat) (A : Around) : Prop where
  hd : A.handled = none
  dp : A.depth + 3 * k + 5 < recursionLimit
  un : A.units + 16 * k + 200 < cLine
theorem Room.mono {j k : Nat} {A : Around} (r : Room k A) (h : j ≤ k) : Room j A := ⟨r.hd, by have := r.dp; omega, by have := r.un; omega⟩
theorem Room.deeper {k : Nat} {A : Around} (r : Room (k + 1) A) (env : Env) : Room k (A.deeper env) :=
  ⟨r.hd, by have := r.dp; show A.depth + 1 + 3 * k + 5 < _; omega, by have := r.un; show A.units + 3 + 16 * k + 200 < _; omega⟩
theorem make_depth {A : Around} {C : Addr} {us : List Value} {kw : List (Str × Value)} : (A.under (.builtin "type.__call__" ⟨.ref C :: us, kw⟩)).depth = A.depth + 1 := by
  first | rfl | simp [Around.under, Code.weight, Code.isCreation, Code.isGuard, Code.isCaller, Code.frames, Code.isFrame, guardIds]
theorem make_units {A : Around} {C : Addr} {us : List Value} {kw : List (Str × Value)} : (A.under (.builtin "type.__call__" ⟨.ref C :: us, kw⟩)).units = A.units + 1 := by
  first | rfl | simp [Around.under, Code.cUnits, Code.frames, Code.isFrame]
theorem Room.make {k : Nat} {A : Around} (r : Room (k + 1) A) (C : Addr) (us : List Value) (kw : List (Str × Value)) : Room k (A.under (.builtin "type.__call__" ⟨.ref C :: us, kw⟩)) :=
  ⟨r.hd, by have := r.dp; rw [make_depth]; omega, by have := r.un; rw [make_units]; omega⟩
theorem Room.depth {k : Nat} {A : Around} (r : Room k A) : A.depth < recursionLimit := by have := r.dp; omega

/-! ### argument lists and displays -/
def tNil : TA := fun _ H Q => Q [] H
def tCons (ta : TE) (tr : TA) : TA := fun σ H Q => ta σ H fun x H1 => tr σ H1 fun xs H2 => Q (x :: xs) H2
section
variable {X : Cx} {e : Expr} {es : List Expr} {te : TE} {t : TA} {pos : Pos}
theorem pa_nil : PA X [] tNil := fun _ _ _ _ H Q I h => Calls.spliced_nil ⟨[], H, I, .nil, h⟩
theorem pa_cons (ha : PE X e te) (hr : PA X es t) (hs : starEach (e :: es) X.env = (false, eval e X.env) :: starEach es X.env := by rfl) : PA X (e :: es) (tCons te t) := by
  intro pos pins s σ H Q I h
  rw [hs]
  show wpAny _ _ (spliced ((false, eval e X.env) :: backTo pos (starEach es X.env))) _ _ s
  refine Calls.spliced_cons (thn (ha pins s σ H _ I h) fun u s1 ⟨x, H1, I1, r1, q1⟩ => ?_)
  exact thn (hr pos pins s1 σ H1 _ I1 q1) fun us s2 ⟨xs, H2, I2, r2, q2⟩ => ⟨x :: xs, H2, I2, .cons r1 r2, q2⟩

end

/-! ### what a def promises -/
/-- a def's promise: the bound arguments in the parameters' order, the heap, the wanted end, the wanted exception -/
abbrev Sp := List V → Hp → VK → XK → Prop
/-- how an exception lies behind a call (file 08 gives it): the callers' frames, abstract heap and state ahead of the call, the wish, the exception, the state -/
abbrev CXT := List Env → Hp → Shared → XK → Value → Shared → Prop

/-- the state at a call -/
structure Env0 (P : Program) (w : World) (K : PySem.W.Frag) (mg : Str → Option Value) (base : Heap) (A : Around) (outer : List Env) (s : Shared) (H : Hp) : Prop where
  frames : A.frames = some outer
  mod : Mod K mg base
  bs : ∀ b o, base.get? b = some o → s.heap.get? b = some o ∧ H b = none
  bsz : base.objs.size ≤ s.heap.objs.size
  funs : s.heap.FunFrames base outer
  frf : ∀ b ∈ frs outer, H b = none
  hok : HOk P w H s.heap
  bare : AllBare s.gens
/-- a call's end -/
def CE (outer : List Env) (P : Program) (w : World) (H : Hp) (s : Shared) (Q : VK) (u : Value) (s' : Shared) : Prop :=
  ∃ v H', s'.os = s.os ∧ AllBare s'.gens ∧ Un (frs outer) [] H H' s.heap s'.heap ∧ HOk P w H' s'.heap ∧ RelV v u ∧ Q v H'
def CR (CX : CXT) (outer : List Env) (P : Program) (w : World) (H : Hp) (s : Shared) (Q : VK) (E : XK) (r : Result) (s' : Shared) : Prop :=
  match r with
  | .ok (.ret u) => CE outer P w H s Q u s'
  | .ok _ => False
  | .error e => CX outer H s E e s'
structure FnOk (P : Program) (w : World) (K : PySem.W.Frag) (mg : Str → Option Value) (base : Heap) (CX : CXT) (k : Nat) (f : Addr) (fd : FuncData) (ps : List Str) (sp : Sp) : Prop where
  len : ∀ vs H Q E, sp vs H Q E → vs.length = ps.length
  run : ∀ (A : Around) (outer : List Env) (s : Shared) (H : Hp) (args : Args) (us : List Value) (vs : List V) (Q : VK) (E : XK), Room k A → Env0 P w K mg base A outer s H → BindsTo s fd args (ps.zip us) → Vals vs us → sp vs H Q E →
    codeAny (model P w) A (.call (.ref f) args) (CR CX outer P w H s Q E) s
theorem FnOk.mono {P : Program} {w : World} {K : PySem.W.Frag} {mg : Str → Option Value} {base : Heap} {CX : CXT} {j k : Nat} {f : Addr} {fd : FuncData} {ps : List Str} {sp : Sp} (F : FnOk P w K mg base CX j f fd ps sp) (h : j ≤ k) :
    FnOk P w K mg base CX k f fd ps sp := ⟨F.len, fun A outer s H args us vs Q E hr => F.run A outer s H args us vs Q E (hr.mono h)⟩

theorem Env0.make {P : Program} {w : World} {K : PySem.W.Frag} {mg : Str → Option Value} {base : Heap} {A : Around} {outer : List Env} {s : Shared} {H : Hp} (e : Env0 P w K mg base A outer s H) (C : Addr) (us : List Value) (kw : List (Str × Value)) :
    Env0 P w K mg base (A.under (.builtin "type.__call__" ⟨.ref C :: us, kw⟩)) outer s H := ⟨by first | exact e.frames | (simpa [Around.under, Code.envs, Code.isFrame, pushEnvs] using e.frames), e.mod, e.bs, e.bsz, e.funs, e.frf, e.hok, e.bare⟩

section
variable {X : Cx} {pins : List (Addr × Obj)} {σ : St} {H : Hp} {s s' : Shared}
/-- from a body: what a callee wants -/
theorem Inv.env0 (I : Inv X pins σ H s) : Env0 X.prog X.w X.K X.mg X.base X.A X.stack s H :=
  ⟨I.ok.frames, I.ok.mod, I.bs, Nat.le_trans I.ok.bsz I.sz, I.stack, I.stkFree, I.hok, I.bare⟩
/-- behind a call -/
theorem Inv.after {Q : VK} {u : Value} (I : Inv X pins σ H s) (h : CE X.stack X.prog X.w H s Q u s') : EP X pins σ Q u s' := by
  obtain ⟨v, H', os, bare, un, hok, r, q⟩ := h
  obtain ⟨hh, g, d, t, os'⟩ := s'
  obtain rfl : os' = s.os := os
  exact ⟨v, H', I.call (h' := hh) (g' := g) (d' := d) (t' := t) (ch := []) un hok bare (fun b z => absurd z (by simp)), r, q⟩
end

/-! ### calls -/
/-- f(..): the written arguments, then the defaults dvs; E: what is wanted of an exception -/
def tCall (sp : Sp) (dvs : List V) (E : XK) (t : TA) : TE := fun σ H Q => t σ H fun vs H1 => sp (vs ++ dvs) H1 Q E
/-- o.m(..) of an instance of the class at C -/
def tMeth (C : Addr) (m : Str) (sp : Sp) (dvs : List V) (E : XK) (ta : TE) (t : TA) : TE := fun σ H Q => ta σ H fun x H1 => ∃ a dx fs, x = .ref a ∧ H1 a = some (.ins C dx fs) ∧ fs.lookup m = none ∧
  t σ H1 fun vs H2 => sp (x :: (vs ++ dvs)) H2 Q E
/-- C(..): a new instance and its dict, then __init__ -/
def tMake (C : Addr) (sp : Sp) (dvs : List V) (E : XK) (t : TA) : TE := fun σ H Q => t σ H fun vs H1 => ∀ x dx, H1 x = none → H1 dx = none → dx ≠ x →
  sp (.ref x :: (vs ++ dvs)) (upd (upd H1 dx (.own x)) x (.ins C dx [])) (fun v H2 => v = .non ∧ Q (.ref x) H2) E

/-- how the parameters are bound: us the positional arguments, kw the keywords' values by name, ds the defaults that fill up -/
def Binds (K : PySem.W.Frag) (fd : FuncData) (ps : List Str) (ds : List Value) : Prop :=
  ∀ (s : Shared) (us : List Value), K.In s.heap → (us ++ ds).length = ps.length → BindsTo s fd ⟨us, []⟩ (ps.zip (us ++ ds))
/-- every parameter is given -/
theorem Binds.all {K : PySem.W.Frag} {fd : FuncData} {ps : List Str} (h : ∀ us : List Value, us.length = ps.length → bindArgs fd ⟨us, []⟩ = pure (ps.zip us)) : Binds K fd ps [] := fun s us _ hl => by
  rw [List.append_nil] at hl ⊢
  exact .of_eq (h us hl)

/-- an exception of a callee reaches what this body wants of exceptions -/
def Passes (CX : CXT) (X : Cx) (E : XK) : Prop := ∀ (pins : List (Addr × Obj)) (σ : St) (H : Hp) (s : Shared) (e : Value) (s' : Shared), Inv X pins σ H s → CX X.stack H s E e s' → X.xe e s'

section
variable {X : Cx} {CX : CXT} {k : Nat} {f C : Addr} {fd : FuncData} {ps : List Str} {sp : Sp} {dvs : List V} {ds : List Value} {E : XK} {x m : Str} {p pos apos : Pos} {e o : Expr} {es : List Expr} {ta : TE} {t : TA}

/-- the callee runs -/
theorem run_fn {pins : List (Addr × Obj)} {σ : St} {H : Hp} {s : Shared} {Q : VK} {us : List Value} {vs : List V} (F : FnOk X.prog X.w X.K X.mg X.base CX k f fd ps sp) (hr : Room k X.A) (hb : Binds X.K fd ps ds) (hd : Vals dvs ds) (hx : Passes CX X E)
    (I : Inv X pins σ H s) (r : Vals vs us) (h : sp (vs ++ dvs) H Q E) : wpAny (model X.prog X.w) X.A (call (.ref f) us) (EP X pins σ Q) X.xe s := by
  have r2 : Vals (vs ++ dvs) (us ++ ds) := r.append hd
  have hl : (us ++ ds).length = ps.length := by rw [← r2.length]; exact F.len _ _ _ _ h
  refine wpAny_call (codeAny_mono (F.run X.A X.stack s H ⟨us, []⟩ (us ++ ds) (vs ++ dvs) Q E hr I.env0 (hb s us I.kIn hl) r2 h) fun r s' hq => ?_)
  cases r with
  | error e => exact hx pins σ H s e s' I hq
  | ok fl =>
    cases fl with
    | ret u => exact I.after hq
    | next => exact False.elim hq
    | brk => exact False.elim hq
    | cont => exact False.elim hq

theorem pe_call (F : FnOk X.prog X.w X.K X.mg X.base CX k f fd ps sp) (hr : Room k X.A) (hg : Gl X x) (hm : X.mg x = some (.ref f)) (hk : PySem.W.keepIn X.K (.ref f) = true) (hb : Binds X.K fd ps ds) (hd : Vals dvs ds) (hx : Passes CX X E)
    (ha : PA X (e :: es) t) (hdb : (x == ("__debug__" : Str)) = false := by decide) (he : starEach (e :: es) X.env = (false, eval e X.env) :: starEach es X.env := by rfl) (hpl : (backTo pos (starEach es X.env)).any (·.1) = false := by rfl) :
    PE X (.Call (.Name x p) (e :: es) [] pos) (tCall sp dvs E t) := by
  intro pins s σ H Q I h
  refine wpAny_Call_Name_kw (ld_glob I hg hm ?_ hdb)
  refine PySem.W.callWith_K (h₀ := X.base) I.ok.mod.kin hk (thn (ha pos pins s σ H _ I h) fun us s1 ⟨vs, H1, I1, r, q⟩ => ⟨I1.kIn, ?_⟩) he hpl
  exact run_fn F hr hb hd hx I1 r q

/-- o.m(e, ..) -/
theorem pe_meth {pl : Sem Bool} (he : PE X o ta) (c : Cls X.K C) (hm : Meth X.K C m f) (F : FnOk X.prog X.w X.K X.mg X.base CX k f fd ps sp) (hr : Room k X.A) (hb : Binds X.K fd ps ds) (hd : Vals dvs ds) (hx : Passes CX X E) (ha : PA X (e :: es) t)
    (hst : starEach (e :: es) X.env = (false, eval e X.env) :: starEach es X.env := by rfl) (hpl : (backTo pos (starEach es X.env)).any (·.1) = false := by rfl)
    (ht : eval (.Call (.Attribute o m apos) (e :: es) [] pos) X.env = (do
      let ov ← eval o X.env
      standAt apos.atName
      let (f, first) ← holding [ov] (getMethod ov m pl)
      callWith pos f first (backTo pos (starEach (e :: es) X.env)) (backToKw pos (keywordEach [] X.env))) := by rfl) :
    PE X (.Call (.Attribute o m apos) (e :: es) [] pos) (tMeth C m sp dvs E ta t) := by
  intro pins s σ H Q I h
  refine PySem.W.methodCall_KW (pl := pl) (thn (he pins s σ H _ I h) fun u s1 ⟨x, H1, I1, rx, a, dx, fs, ex, ea, l, q⟩ => ?_) ht
  subst ex
  obtain rfl : u = Value.ref a := rx
  refine getmeth_ok I1 ea c hm l ?_
  refine PySem.W.callWith_K (first := [.ref a]) (h₀ := X.base) I.ok.mod.kin hm.kp (thn (ha pos pins s1 σ H1 _ I1 q) fun us s2 ⟨vs, H2, I2, r, q2⟩ => ⟨I2.kIn, ?_⟩) hst hpl
  exact run_fn (us := .ref a :: us) (vs := .ref a :: vs) F hr hb hd hx I2 (.cons rfl r) q2
/-- o.m() -/
theorem pe_meth0 {pl : Sem Bool} (he : PE X o ta) (c : Cls X.K C) (hm : Meth X.K C m f) (F : FnOk X.prog X.w X.K X.mg X.base CX k f fd ps sp) (hr : Room k X.A) (hb : Binds X.K fd ps ds) (hd : Vals dvs ds) (hx : Passes CX X E)
    (ht : eval (.Call (.Attribute o m apos) [] [] pos) X.env = (do
      let ov ← eval o X.env
      standAt apos.atName
      let (f, first) ← holding [ov] (getMethod ov m pl)
      callWith pos f first (backTo pos (starEach [] X.env)) (backToKw pos (keywordEach [] X.env))) := by rfl) :
    PE X (.Call (.Attribute o m apos) [] [] pos) (tMeth C m sp dvs E ta tNil) := by
  intro pins s σ H Q I h
  refine PySem.W.methodCall_KW (pl := pl) (thn (he pins s σ H _ I h) fun u s1 ⟨x, H1, I1, rx, a, dx, fs, ex, ea, l, q⟩ => ?_) ht
  subst ex
  obtain rfl : u = Value.ref a := rx
  refine getmeth_ok I1 ea c hm l ?_
  exact PySem.W.callWith_K0 (first := [.ref a]) I1.kIn hm.kp (run_fn (us := [.ref a]) (vs := [.ref a]) F hr hb hd hx I1 (.cons rfl .nil) q)

/-- what a class must have to be made -/
structure Mk (K : PySem.W.Frag) (C f : Addr) : Prop where
  makes : PySem.W.makesIn K C = true
  init : PySem.W.findIn K (.ref C) "__init__" = some (some (.ref f))
  fn : PySem.W.isFn K (.ref f) = true
  kp : PySem.W.keepIn K (.ref C) = true

theorem run_make {pins : List (Addr × Obj)} {σ : St} {H : Hp} {s : Shared} {Q : VK} {us : List Value} {vs : List V} (M : Mk X.K C f) (F : FnOk X.prog X.w X.K X.mg X.base CX k f fd ps sp) (hr : Room (k + 1) X.A) (hb : Binds X.K fd ps ds) (hd : Vals dvs ds)
    (hx : Passes CX X E) (I : Inv X pins σ H s) (r : Vals vs us)
    (h : ∀ x dx, H x = none → H dx = none → dx ≠ x → sp (.ref x :: (vs ++ dvs)) (upd (upd H dx (.own x)) x (.ins C dx [])) (fun v H2 => v = .non ∧ Q (.ref x) H2) E) :
    wpAny (model X.prog X.w) X.A (call (.ref C) us) (EP X pins σ Q) X.xe s := by
  have hq := h (s.heap.objs.size + 1) s.heap.objs.size (I.hok.fresh (Nat.le_succ _)) (I.hok.fresh (Nat.le_refl _)) (Nat.ne_of_lt (Nat.lt_succ_self _))
  have I2 := Inv.made (C := C) I
  have r2 : Vals (V.ref (s.heap.objs.size + 1) :: (vs ++ dvs)) (Value.ref (s.heap.objs.size + 1) :: (us ++ ds)) := .cons rfl (r.append hd)
  have hl : (Value.ref (s.heap.objs.size + 1) :: us ++ ds).length = ps.length := by
    have e := r2.length
    rw [F.len _ _ _ _ hq] at e
    exact e.symm
  refine wpAny_call (make_map (f := f) I.kIn M.makes M.init (beq_iff_eq.mp M.fn) (codeAny_mono (F.run _ X.stack _ _ ⟨Value.ref (s.heap.objs.size + 1) :: us, []⟩ (Value.ref (s.heap.objs.size + 1) :: (us ++ ds)) _ _ E (hr.make C us [])
    (I2.env0.make C us []) (hb _ (Value.ref (s.heap.objs.size + 1) :: us) I2.kIn hl) r2 hq) fun r s' hq' => ?_))
  cases r with
  | error e => exact hx pins σ _ _ e s' I2 hq'
  | ok fl =>
    cases fl with
    | ret u =>
      obtain ⟨v, H', I3, rv, ev, q3⟩ := I2.after hq'
      subst ev
      exact ⟨rv, ⟨V.ref (s.heap.objs.size + 1), H', I3, rfl, q3⟩⟩
    | next => exact False.elim hq'
    | brk => exact False.elim hq'
    | cont => exact False.elim hq'
theorem pe_make0 (M : Mk X.K C f) (F : FnOk X.prog X.w X.K X.mg X.base CX k f fd ps sp) (hr : Room (k + 1) X.A) (hg : Gl X x) (hm : X.mg x = some (.ref C)) (hb : Binds X.K fd ps ds) (hd : Vals dvs ds) (hx : Passes CX X E)
    (hdb : (x == ("__debug__" : Str)) = false := by decide) : PE X (.Call (.Name x p) [] [] pos) (tMake C sp dvs E tNil) := by
  intro pins s σ H Q I h
  refine wpAny_Call_Name_kw (ld_glob I hg hm ?_ hdb)
  exact PySem.W.callWith_K0 I.kIn M.kp (run_make (us := []) M F hr hb hd hx I .nil h)
end

/-! ### keywords -/
section
variable {X : Cx} {CX : CXT} {k : Nat} {f C : Addr} {fd : FuncData} {ps ks : List Str} {sp : Sp} {E : XK} {x m : Str} {p pos apos kpos : Pos} {e o : Expr} {es : List Expr} {kws : List Keyword} {te ta : TE} {t tk : TA} {nm : Option Str}

variable {g : List Value → List Value → List Value} {gV : List V → List V → List V}
end

/-! ### a def's body keeps its promise -/
/-- names: the parameters first -/
structure FnScope (N P : List Str) (sc : Scope) : Prop where
  kind : sc.kind = .function
  co : sc.isCoroutine = false
  gen : sc.isGenerator = false
  nd : N.Nodup
  pre : N.take P.length = P
  par : ∀ x ∈ P, sc.names.lookup x = some .local ∨ sc.names.lookup x = some .cell
  nofree : ∀ y ∈ sc.names, y.2 ≠ .free

theorem bindL_out {kindOf : Str → Option NameKind} {x : Str} : ∀ {binds : List (Str × Value)} {m : Str → Option Value}, (∀ v, (x, v) ∉ binds) → bindL kindOf binds m x = m x
  | [], _, _ => rfl
  | (n, v) :: r, m, h => by
    unfold bindL
    rw [bindL_out fun w hw => h w (List.mem_cons_of_mem _ hw)]
    split
    · have : x ≠ n := by rintro rfl; exact h v List.mem_cons_self
      simp [this]
    · rfl
theorem bindC_out {kindOf : Str → Option NameKind} {x : Str} : ∀ {binds : List (Str × Value)} {m : Str → Option Value}, (∀ v, (x, v) ∉ binds) → bindC kindOf binds m x = m x
  | [], _, _ => rfl
  | (n, v) :: r, m, h => by
    unfold bindC
    rw [bindC_out fun w hw => h w (List.mem_cons_of_mem _ hw)]
    split
    · rfl
    · have : x ≠ n := by rintro rfl; exact h v List.mem_cons_self
      simp [this]
theorem bindL_get {kindOf : Str → Option NameKind} {x : Str} {v : Value} : ∀ {P : List Str} {vs : List Value} {i : Nat} {m : Str → Option Value}, P.Nodup → P[i]? = some x → vs[i]? = some v → kindOf x = some .local →
    bindL kindOf (P.zip vs) m x = some v
  | [], _, _, _, _, h, _, _ => by simp at h
  | _ :: _, [], _, _, _, _, h, _ => by simp at h
  | p :: P, w :: vs, 0, m, nd, h1, h2, hk => by
    simp at h1 h2; subst h1; subst h2
    show bindL kindOf ((p, w) :: P.zip vs) m p = _
    unfold bindL
    rw [bindL_out fun v hv => (List.nodup_cons.mp nd).1 (List.of_mem_zip hv).1, if_pos hk]
    simp
  | p :: P, w :: vs, i + 1, m, nd, h1, h2, hk => by
    show bindL kindOf ((p, w) :: P.zip vs) m x = _
    unfold bindL
    exact bindL_get (i := i) (List.nodup_cons.mp nd).2 (by simpa using h1) (by simpa using h2) hk
theorem bindC_get {kindOf : Str → Option NameKind} {x : Str} {v : Value} : ∀ {P : List Str} {vs : List Value} {i : Nat} {m : Str → Option Value}, P.Nodup → P[i]? = some x → vs[i]? = some v → kindOf x ≠ some .local →
    bindC kindOf (P.zip vs) m x = some v
  | [], _, _, _, _, h, _, _ => by simp at h
  | _ :: _, [], _, _, _, _, h, _ => by simp at h
  | p :: P, w :: vs, 0, m, nd, h1, h2, hk => by
    simp at h1 h2; subst h1; subst h2
    show bindC kindOf ((p, w) :: P.zip vs) m p = _
    unfold bindC
    rw [bindC_out fun v hv => (List.nodup_cons.mp nd).1 (List.of_mem_zip hv).1, if_neg hk]
    simp
  | p :: P, w :: vs, i + 1, m, nd, h1, h2, hk => by
    show bindC kindOf ((p, w) :: P.zip vs) m x = _
    unfold bindC
    exact bindC_get (i := i) (List.nodup_cons.mp nd).2 (by simpa using h1) (by simpa using h2) hk

/-- the names' values at the entry -/
def start (N : List Str) (vs : List V) : St := vs.map some ++ List.replicate (N.length - vs.length) none

/-- the context of a def's body, at its entry; an exception leaves the frame, then lies as CX says -/
def cxOf (CX : CXT) (P : Program) (w : World) (K : PySem.W.Frag) (mg : Str → Option Value) (base : Heap) (N : List Str) (qual : Str) (scope : Scope) (f : Addr) (cd : Value) (A : Around) (outer : List Env) (s : Shared) (H : Hp) (E : XK) : Cx where
  prog := P
  w := w
  K := K
  mg := mg
  base := base
  A := A.deeper (envOfC qual scope s.heap.objs.size f cd)
  N := N
  s₀ := s
  H₀ := H
  env := envOfC qual scope s.heap.objs.size f cd
  outer := outer
  stack := envOfC qual scope s.heap.objs.size f cd :: outer
  ex := []
  calm := true
  fn := fun _ => true
  pn := []
  xe := fun e s' => wpAny (model P w) (A.deeper (envOfC qual scope s.heap.objs.size f cd)) (leaving (envOfC qual scope s.heap.objs.size f cd) e) (fun _ s'' => CX outer H s E e s'') (fun e' s'' => CX outer H s E e' s'') s'

theorem cell_has {sc : Scope} {n : Nat} {x : Str} (h : sc.names.lookup x = some .cell) : ∃ c, (cellsFrom n sc.names []).lookup x = some c := by
  have q := PySem.W.cellsFrom_some sc.names n [] (.inl h)
  exact Option.isSome_iff_exists.mp q

theorem inv_start {CX : CXT} {P : Program} {w : World} {K : PySem.W.Frag} {mg : Str → Option Value} {base : Heap} {N ps : List Str} {qual : Str} {scope : Scope} {f : Addr} {cd : Value} {A : Around} {outer : List Env} {s s1 : Shared} {H : Hp} {E : XK} {us : List Value} {vs : List V}
    (S : FnScope N ps scope) (hd : A.handled = none) (e0 : Env0 P w K mg base A outer s H) (hl : vs.length = ps.length) (r : Vals vs us)
    (x : InCallC s s.heap.objs.size (bindL (envOfC qual scope s.heap.objs.size f cd).kindOf (ps.zip us) fun _ => none) (cellsFrom (s.heap.objs.size + 1) scope.names []) (bindC (envOfC qual scope s.heap.objs.size f cd).kindOf (ps.zip us) fun _ => none) s1) :
    Inv (cxOf CX P w K mg base N qual scope f cd A outer s H E) [] (start N vs) H s1 := by
  have hpl : ps.length ≤ N.length := by have := congrArg List.length S.pre; rw [List.length_take] at this; omega
  obtain ⟨h1, tk, rfl, hk⟩ := x.done
  have noA : ∀ b : Addr, b ∉ (cxOf CX P w K mg base N qual scope f cd A outer s H E).ex := fun b z => absurd (show b ∈ ([] : List Addr) from z) (by simp)
  refine ⟨⟨e0.mod, S.kind, rfl, rfl, Nat.le_refl _, fun y z c h1 h2 => ?_, fun y hy => ?_, fun y c _ h => ?_, fun _ => hd, Around.frames_deeper e0.frames, .inr ⟨rfl, rfl⟩, fun b z => absurd z (noA b), e0.bs, e0.bsz, fun b _ _ => noA b, fun b z => absurd z (noA b), e0.funs, e0.frf⟩,
    rfl, e0.bare, Un.kept hk, ⟨_, x.toInCall.ns, fun i y v h1 h2 h3 => ?_⟩, fun y c h => ⟨_, x.cell y c h⟩, e0.hok.fresh (Nat.le_refl _), fun y c h => ?_, fun p hp => absurd (show p ∈ ([] : List (Addr × Obj)) from hp) (by simp), e0.hok.kept hk, ?_⟩
  · exact name_of_addr x.apart (PySem.mem_of_lookup h1) (PySem.mem_of_lookup h2)
  · have hy : scope.names.lookup y = some .cell ∨ scope.names.lookup y = some .free := hy
    rcases hy with hy | hy
    · exact cell_has hy
    · exact absurd rfl (S.nofree _ (PySem.mem_of_lookup hy))
  · exact Nat.le_of_lt (x.above y c (PySem.mem_of_lookup h))
  · have hi : i < vs.length := by
      unfold start at h2
      by_cases hi : i < vs.length
      · exact hi
      · rw [List.getElem?_append_right (by simpa using hi)] at h2
        rw [List.getElem?_replicate] at h2
        split at h2 <;> cases h2
    have ha : vs[i]? = some v := by
      unfold start at h2
      rw [List.getElem?_append_left (by simpa using hi), List.getElem?_map] at h2
      cases e : vs[i]? with
      | none => rw [e] at h2; cases h2
      | some a => rw [e] at h2; cases h2; rfl
    obtain ⟨u, hu, rv⟩ := r.get ha
    have hp : ps[i]? = some y := by
      rw [← S.pre, List.getElem?_take_of_lt (by omega)]; exact h1
    have ndP : ps.Nodup := by rw [← S.pre]; exact S.nd.sublist (List.take_sublist _ _)
    refine ⟨u, rv, ?_⟩
    rcases S.par y (List.mem_of_getElem? hp) with k | k
    · exact .inl ⟨k, bindL_get ndP hp hu k⟩
    · obtain ⟨c, e⟩ := cell_has (n := s.heap.objs.size + 1) k
      refine .inr ⟨.inl k, c, e, ?_⟩
      have q := x.cell y c e
      rw [bindC_get ndP hp hu (by show scope.names.lookup y ≠ _; rw [k]; decide)] at q
      exact q
  · exact e0.hok.fresh (Nat.le_of_lt (x.above y c (PySem.mem_of_lookup h)))
  · unfold start
    show _ = N.length
    rw [List.length_append, List.length_map, List.length_replicate]
    omega

/-- THE RULE: a def (or a method) of the text, by its body. The body's reading t is chosen for each entry; it is run at the parameters' values -/
theorem fn_of {CX : CXT} {P : Program} {w : World} {K : PySem.W.Frag} {mg : Str → Option Value} {base : Heap} {k : Nat} {f : Addr} {name qual : Str} {params : Arguments} {body : List Stmt} {scope : Scope} {dV kV doc pm cdv ct oc : Value} {an od : Option Addr}
    {osl : Array (Option Value)} {N ps : List Str} {sp : Sp} (lk : K.lookup f = some ⟨oc, od, .func (PySem.W.fnOf name qual params body scope dV kV doc pm an cdv ct), osl⟩) (hcd : PySem.W.codeIn K cdv qual = true) (S : FnScope N ps scope)
    (len : ∀ vs H Q E, sp vs H Q E → vs.length = ps.length)
    (hbody : ∀ (A : Around) (outer : List Env) (s : Shared) (H : Hp) (vs : List V) (Q : VK) (E : XK), Room k (A.deeper (envOfC qual scope s.heap.objs.size f cdv)) → sp vs H Q E →
      ∃ t, PSs (cxOf CX P w K mg base N qual scope f cdv A outer s H E) body t ∧ t { nx := fun _ H' => Q .non H', rt := Q } (start N vs) H) :
    FnOk P w K mg base CX (k + 1) f (PySem.W.fnOf name qual params body scope dV kV doc pm an cdv ct) ps sp := by
  refine ⟨len, fun A outer s H args us vs Q E hr e0 hb r hsp => ?_⟩
  have hl := len _ _ _ _ hsp
  have KX : K.In s.heap := e0.mod.kin.keeps fun b o e => (e0.bs b o e).1
  have lim : s.heap.NoLimit := e0.mod.nolimit.keeps fun b o e => (e0.bs b o e).1
  have hkind : ∀ y ∈ ps.zip us, scope.names.lookup y.1 = some .local ∨ (scope.names.lookup y.1 = some .cell ∧ ((cellsFrom (s.heap.objs.size + 1) scope.names []).lookup y.1).isSome = true) := fun ⟨n, v⟩ hy => by
    rcases S.par n (List.of_mem_zip hy).1 with q | q
    · exact .inl q
    · exact .inr ⟨q, PySem.W.cellsFrom_some _ _ _ (.inl q)⟩
  refine codeAny_call_function hr.depth (KX _ _ lk) rfl S.co S.gen rfl (PySem.W.codeRec_of KX hcd) (hb _ _ _ _ ?_)
  refine wpAny_newFunctionEnv_cells S.kind hkind fun env he s1 x => ?_
  subst he
  refine ⟨lim.keeps x.toInCall.keep, codeAny_func ?_⟩
  obtain ⟨t, ht, hq⟩ := hbody A outer s H vs Q E (hr.deeper _) hsp
  have I : Inv (cxOf CX P w K mg base N qual scope f cdv A outer s H E) [] (start N vs) H s1 := inv_start S hr.hd e0 hl r x
  refine wpAny_mono (ht [] s1 (start N vs) H _ I hq) (fun fl s' hs => ?_) fun e s' hs => hs
  have fin : ∀ {σ' : St} {H' : Hp} {v : V} {u : Value}, Inv (cxOf CX P w K mg base N qual scope f cdv A outer s H E) [] σ' H' s' → RelV v u → Q v H' → CE outer P w H s Q u s' :=
    fun {σ' H' v u} J rv q => ⟨v, H', J.os, J.bare, J.base, J.hok, rv, q⟩
  cases fl with
  | ret u =>
    obtain ⟨v, σ', H', J, rv, q⟩ := hs
    exact fin J rv q
  | next =>
    obtain ⟨σ', H', J, q⟩ := hs
    exact fin (v := V.non) (u := Value.none) J rfl q
  | brk =>
    obtain ⟨_, _, _, q⟩ := hs
    exact False.elim q
  | cont =>
    obtain ⟨_, _, _, q⟩ := hs
    exact False.elim q
end L2

namespace L2
open PySem PySem.Spec PyProof.Rows
section
variable {X : Cx} {x : Str} {p pos : Pos} {e : Expr} {es : List Expr} {t : TA} {id T : String} {r : List V → Hp → VK → Prop}

def tCB (r : List V → Hp → VK → Prop) (t : TA) : TE := fun σ H Q => t σ H fun vs H1 => r vs H1 Q
/-- f(e, ..), f a built-in function -/
theorem pe_callB (hc : CallR X (.builtin id) r) (hg : Gl X x) (hm : X.mg x = none) (hv : bootBuiltins x = some (.builtin id)) (ha : PA X (e :: es) t) (hn : x ≠ "__name__" := by decide) (hdb : (x == ("__debug__" : Str)) = false := by decide)
    (he : starEach (e :: es) X.env = (false, eval e X.env) :: starEach es X.env := by rfl) (hpl : (backTo pos (starEach es X.env)).any (·.1) = false := by rfl) : PE X (.Call (.Name x p) (e :: es) [] pos) (tCB r t) := by
  intro pins s σ H Q I h
  refine wpAny_Call_Name_kw (ld_blt I hg hm hv ?_ hn hdb)
  exact PyProof.Rows.callWith_builtin1 (thn (ha pos pins s σ H _ I h) fun us s1 ⟨vs, H1, I1, r1, q1⟩ => hc pins s1 σ H1 vs us Q I1 r1 q1) he hpl
/-- T(e, ..), T a built-in type -/
theorem pe_callTy (hc : CallR X (.type T) r) (hg : Gl X x) (hm : X.mg x = none) (hv : bootBuiltins x = some (.type T)) (ha : PA X (e :: es) t) (hn : x ≠ "__name__" := by decide) (hdb : (x == ("__debug__" : Str)) = false := by decide)
    (he : starEach (e :: es) X.env = (false, eval e X.env) :: starEach es X.env := by rfl) (hpl : (backTo pos (starEach es X.env)).any (·.1) = false := by rfl) : PE X (.Call (.Name x p) (e :: es) [] pos) (tCB r t) := by
  intro pins s σ H Q I h
  refine wpAny_Call_Name_kw (ld_blt I hg hm hv ?_ hn hdb)
  exact PyProof.Rows.callWith_type1 (thn (ha pos pins s σ H _ I h) fun us s1 ⟨vs, H1, I1, r1, q1⟩ => hc pins s1 σ H1 vs us Q I1 r1 q1) he hpl
end
end L2

namespace HT
open PySem PyProof.Rows



section
open PySem.SeqAt
open PySem.AutoSeq1 (wpAny_loadPart')
open PySem.MeetsSeq PySem.MeetsSeq2 PySem.MeetsSeq3

end

section
variable {prog : Program} {w : World} {A : Around} {E : Value → Shared → Prop} {s : Shared}



/-! ### t[a:b], not the whole -/
/-- a slice's bound as a place among n (d where it is left out) -/
def sIx (n d : Nat) : Option Int → Nat
  | none => d
  | some v => if v < 0 then (v + (n : Int)).toNat else min v.toNat n
theorem sIx_nat (n d k : Nat) : sIx n d (some (k : Int)) = min k n := by
  show (if (k : Int) < 0 then ((k : Int) + (n : Int)).toNat else min (k : Int).toNat n) = min k n
  rw [if_neg (by omega), Int.toNat_natCast]

end
end HT

namespace L2
open PySem PySem.Spec PyProof.Rows

/-! ### the parts of a slice -/
abbrev TO := St → Hp → (Option Int → Hp → Prop) → Prop
/-- a slice's part (left out, or an int) -/
def PO (X : Cx) (e : Option Expr) (t : TO) : Prop :=
  ∀ (pins : List (Addr × Obj)) (s : Shared) (σ : St) (H : Hp) (Q : Option Int → Hp → Prop), Inv X pins σ H s → t σ H Q →
    wpAny (model X.prog X.w) X.A (evalPart e X.env) (fun u s' => ∃ o H', Inv X pins σ H' s' ∧ IsPart u o ∧ Q o H') X.xe s
def tNoPart : TO := fun _ H Q => Q none H
def tPart (t : TE) : TO := fun σ H Q => t σ H fun x H1 => ∃ i, x = .int i ∧ Q (some i) H1


section
variable {X : Cx} {e : Expr} {te : TE} {lo hi : Option Expr} {tl th : TO} {pos p2 : Pos}

theorem po_none : PO X none tNoPart := by
  intro pins s σ H Q I h
  rw [evalPart_none]
  exact wpAny_pure ⟨none, H, I, .none, h⟩
theorem po_some (h : PE X e te) : PO X (some e) (tPart te) := by
  intro pins s σ H Q I hw
  rw [evalPart_some]
  refine thn (h pins s σ H _ I hw) fun u s1 ⟨x, H1, I1, r1, q1⟩ => ?_
  obtain ⟨i, rfl, q⟩ := q1
  obtain ⟨t, rfl⟩ := r1
  exact ⟨some i, H1, I1, .int i t, q⟩

/-- what a slice of a value is, by values: the slice object stands at sl -/
def SlR (X : Cx) (r : V → Option Int → Option Int → Hp → VK → Prop) : Prop :=
  ∀ (pins : List (Addr × Obj)) (s : Shared) (σ : St) (H : Hp) (x : V) (v vl vu : Value) (lo hi : Option Int) (sl : Addr) (Q : VK), Inv X pins σ H s → RelV x v → s.heap.IsSliceOf sl vl vu .none → IsPart vl lo → IsPart vu hi → r x lo hi H Q →
    ∃ T id, typeLookup (.type T) "__getitem__" = pure (some (.builtin id)) ∧ s.TypeIs v T ∧ wpAny (model X.prog X.w) X.A (getItem v (.ref sl)) (EP X pins σ Q) X.xe s
def tSl (r : V → Option Int → Option Int → Hp → VK → Prop) (te : TE) (tl th : TO) : TE := fun σ H Q => te σ H fun x H1 => tl σ H1 fun l H2 => th σ H2 fun u H3 => r x l u H3 Q
/-- a[lo:hi], any a -/
theorem pe_slice {r : V → Option Int → Option Int → Hp → VK → Prop} (hr : SlR X r) (he : PE X e te) (hl : PO X lo tl) (hu : PO X hi th) : PE X (.Subscript e (.Slice lo hi none p2) pos) (tSl r te tl th) := by
  intro pins s σ H Q I h
  refine Subscript_ (thn (he pins s σ H _ I h) fun v s1 ⟨x, H1, I1, r1, q1⟩ => ?_)
  refine wpAny_Slice (thn (hl pins s1 σ H1 _ I1 q1) fun vl s2 ⟨l, H2, I2, pl, q2⟩ => thn (hu pins s2 σ H2 _ I2 q2) fun vu s3 ⟨u, H3, I3, pu, q3⟩ => ?_)
  rw [evalPart_none]
  refine wpAny_pure ?_
  have I4 : Inv X pins σ H3 { s3 with heap := s3.heap.push { cls := .type "slice", data := .fields #[vl, vu, .none] } } := I3.kept (t' := s3.toks) fun b ob q => Heap.get?_push_of_some _ q
  obtain ⟨T, id, hT, ht, hg⟩ := hr pins { s3 with heap := s3.heap.push { cls := .type "slice", data := .fields #[vl, vu, .none] } } σ H3 x v vl vu l u s3.heap.objs.size Q I4 r1 (Heap.IsSliceOf.new ..) pl pu q3
  show wpAny (model X.prog X.w) X.A (subscriptTail e (.Slice lo hi none p2) v (.ref s3.heap.objs.size)) (EP X pins σ Q) X.xe { s3 with heap := s3.heap.push { cls := .type "slice", data := .fields #[vl, vu, .none] } }
  exact tail_any (ops := [.ref s3.heap.objs.size, v]) ht hT hg (by with_unfolding_all rfl)

/-- the items of xs[lo:hi] -/
def cutV (xs : List V) (lo hi : Option Int) : List V := (xs.drop (HT.sIx xs.length 0 lo)).take (HT.sIx xs.length xs.length hi - HT.sIx xs.length 0 lo)
theorem cutV_length (xs : List V) (lo hi : Option Int) : (cutV xs lo hi).length ≤ xs.length := by
  unfold cutV
  rw [List.length_take, List.length_drop]
  omega

/-! ### t < u, t + u -/
end
end L2

namespace L2
open PySem PySem.Spec PyProof.Rows

/-! ### places -/
/-- the place that an index of any sign means -/
def ixN (n : Nat) (i : Int) : Option Nat := if 0 ≤ i then (if i < n then some i.toNat else none) else if -(n : Int) ≤ i then some (i + n).toNat else none
def atI {α : Type} (xs : List α) (i : Int) : Option α := (ixN xs.length i).bind fun j => xs[j]?
theorem ixN_seq {n : Nat} {i : Int} {j : Nat} (h : ixN n i = some j) : seqIndex? i n = some j ∧ j < n ∧ -(n : Int) ≤ i ∧ i < n := by
  unfold ixN at h
  by_cases h0 : 0 ≤ i
  · rw [if_pos h0] at h
    by_cases h1 : i < n
    · rw [if_pos h1] at h
      have e : i.toNat = j := Option.some.inj h
      exact ⟨by rw [seqIndex_of h0 h1, e], by omega, by omega, h1⟩
    · rw [if_neg h1] at h; cases h
  · rw [if_neg h0] at h
    by_cases h1 : -(n : Int) ≤ i
    · rw [if_pos h1] at h
      have e : (i + n).toNat = j := Option.some.inj h
      exact ⟨by rw [seqIndex_neg (by omega) h1, e], by omega, h1, by omega⟩
    · rw [if_neg h1] at h; cases h
theorem atI_get {α : Type} {xs : List α} {i : Int} {v : α} (h : atI xs i = some v) : ∃ j, seqIndex? i xs.length = some j ∧ xs[j]? = some v ∧ j < xs.length ∧ -(xs.length : Int) ≤ i ∧ i < xs.length := by
  unfold atI at h
  cases e : ixN xs.length i with
  | none => rw [e] at h; cases h
  | some j =>
    rw [e] at h
    obtain ⟨h1, h2, h3, h4⟩ := ixN_seq e
    exact ⟨j, h1, h, h2, h3, h4⟩
theorem atI_nat {α : Type} {xs : List α} {j : Nat} {v : α} (h : xs[j]? = some v) : atI xs (j : Int) = some v := by
  have hj : j < xs.length := (List.getElem?_eq_some_iff.mp h).1
  have e : ixN xs.length (j : Int) = some j := by
    unfold ixN
    rw [if_pos (by omega), if_pos (by omega)]; simp
  unfold atI; rw [e]; exact h
theorem atI_last {α : Type} (xs : List α) (v : α) : atI (xs ++ [v]) (-1) = some v := by
  have hl : (xs ++ [v]).length = xs.length + 1 := by simp
  have e : ixN (xs ++ [v]).length (-1) = some xs.length := by
    unfold ixN
    rw [hl, if_neg (by decide), if_pos (by omega)]
    congr 1
    omega
  unfold atI
  rw [e]
  show (xs ++ [v])[xs.length]? = some v
  simp

/-! ### what may be subscripted -/
/-- what stands as an index of a plain subscript -/
def PlainIx (b : Expr) : Prop := ∀ o i, subscripted b false o i = operate [o, i] (getItem o i)
/-- a subscript by values -/
def IxR (X : Cx) (r : R2) : Prop :=
  ∀ (value slice : Expr) (pins : List (Addr × Obj)) (s : Shared) (σ : St) (H : Hp) (x y : V) (v u : Value) (Q : VK), Inv X pins σ H s → RelV x v → RelV y u → r x y H Q →
    subscripted slice false v u = operate [v, u] (getItem v u) → wpAny (model X.prog X.w) X.A (subscriptTail value slice v u) (EP X pins σ Q) X.xe s
/-- a call of a builtin's method by values: the receiver, the arguments -/
def MtR (X : Cx) (id : String) (r : V → List V → Hp → VK → Prop) : Prop :=
  ∀ (pins : List (Addr × Obj)) (s : Shared) (σ : St) (H : Hp) (x : V) (xs : List V) (v : Value) (us : List Value) (Q : VK), Inv X pins σ H s → RelV x v → Vals xs us → r x xs H Q →
    wpAny (model X.prog X.w) X.A (call (.builtin id) (v :: us)) (EP X pins σ Q) X.xe s
section
variable {X : Cx} {a b : Expr} {ta tb : TE} {pos : Pos}
/-- a[b] -/
theorem pe_ix {r : R2} (hr : IxR X r) (ha : PE X a ta) (hb : PE X b tb) (hs : PlainIx b) : PE X (.Subscript a b pos) (tOp r ta tb) := by
  intro pins s σ H Q I h
  exact Subscript_ (binT ha hb I h fun v u s2 x y H2 I2 rx ry q => hr a b pins s2 σ H2 x y v u Q I2 rx ry q (hs _ _))

def rIxL (K : PySem.W.Frag) : R2 := fun x y H Q => ∃ p xs i v, x = .ref p ∧ y = .int i ∧ SqL K H p xs ∧ atI xs i = some v ∧ Q v H
def rIxT (K : PySem.W.Frag) : R2 := fun x y H Q => ∃ p xs i v, x = .ref p ∧ y = .int i ∧ SqT K H p xs ∧ atI xs i = some v ∧ Q v H
def rIxS : R2 := fun x y H Q => ∃ z i c, x = .str z ∧ y = .int i ∧ z.length ≤ sizeLine ∧ atI z.cps.toList i = some c ∧ Q (.str ⟨#[c]⟩) H
theorem ix_list : IxR X (rIxL X.K) := by
  intro value slice pins s σ H x y v u Q I rx ry h hs
  obtain ⟨p, xs, i, z, rfl, rfl, hq, he, q⟩ := h
  cases rx
  obtain ⟨t, rfl⟩ := ry
  obtain ⟨its, r, pl, hz⟩ := I.list hq
  obtain ⟨j, h1, h2, h3, h4, h5⟩ := atI_get he
  obtain ⟨w, ew, rw'⟩ := r.get h2
  have hl := r.length
  have hn := line63
  have fin : EP X pins σ Q w s := ⟨z, H, I, rw', q⟩
  by_cases h0 : 0 ≤ i
  · have hj : i.toNat = j := by
      rw [seqIndex_of h0 h5] at h1
      exact Option.some.inj h1
    exact item_listR pl.isList h0 (by omega) (by rw [hj]; simpa using ew) fin hs
  · have hj : (i + (its.toArray.size : Int)).toNat = j := by
      rw [seqIndex_neg (by omega) h4] at h1
      rw [List.size_toArray, ← hl]
      exact Option.some.inj h1
    exact subscriptTail_builtinR (x := w) pl.isList.typeIs slot_list_getitem.lookup
      (wpAny_getItem_list_neg (Q := fun r s' => r = w ∧ EP X pins σ Q r s') pl.isList (by omega) (by rw [List.size_toArray] <;> omega) (by omega) (by rw [hj]; simpa using ew) ⟨rfl, fin⟩) hs
theorem ix_tup : IxR X (rIxT X.K) := by
  intro value slice pins s σ H x y v u Q I rx ry h hs
  obtain ⟨p, xs, i, z, rfl, rfl, hq, he, q⟩ := h
  cases rx
  obtain ⟨t, rfl⟩ := ry
  obtain ⟨its, r, pl, hz⟩ := I.tuple hq
  obtain ⟨j, h1, h2, h3, h4, h5⟩ := atI_get he
  obtain ⟨w, ew, rw'⟩ := r.get h2
  have hl := r.length
  have hn := line63
  have fin : EP X pins σ Q w s := ⟨z, H, I, rw', q⟩
  exact subscriptTail_builtinR (x := w) pl.typeIs slot_tuple_getitem.lookup
    (getItem_tuple (j := j) (Q := fun r s' => r = w ∧ EP X pins σ Q r s') pl (by omega) (by omega) (by rw [List.size_toArray, ← hl]; exact h1) (by simpa using ew) ⟨rfl, fin⟩) hs
theorem ix_str : IxR X rIxS := by
  intro value slice pins s σ H x y v u Q I rx ry h hs
  obtain ⟨z, i, c, rfl, rfl, hz, he, q⟩ := h
  obtain ⟨t, rfl⟩ := rx
  obtain ⟨t', rfl⟩ := ry
  obtain ⟨j, h1, h2, h3, h4, h5⟩ := atI_get he
  have hl : z.cps.toList.length = z.length := by simp [Str.length]
  rw [hl] at h1 h4 h5
  have hn := line63
  exact tail_any (typeIs_str s z t) slot_str_getitem.lookup (getItem_str (c := c) (by
    have e1 : decide (i < -(2 ^ 63 : Int)) = false := decide_eq_false (by omega)
    have e2 : decide (i ≥ 2 ^ 63) = false := decide_eq_false (by omega)
    rw [e1, e2, Bool.or_false]) (by rw [h1]; simpa using h2) ⟨.str ⟨#[c]⟩, H, I.tok _, ⟨_, rfl⟩, q⟩) hs

/-! ### xs[i] = v, any sign -/
/-- the list's object behind a store -/
theorem mapSeq_set (its : List Value) (n j : Nat) (u : Value) : Obj.mapSeq (·.setIfInBounds j u) { cls := .type "list", data := .seq its.toArray n } = { cls := .type "list", data := .seq (its.set j u).toArray n } := by
  simp [Obj.mapSeq]
theorem Inv.lst {pins : List (Addr × Obj)} {σ : St} {H : Hp} {s : Shared} {p : Addr} {xs : List V} (I : Inv X pins σ H s) (h : H p = some (.lst xs)) :
    ∃ (its : List Value) (n : Nat), Vals xs its ∧ s.heap.get? p = some { cls := .type "list", data := .seq its.toArray n } ∧ xs.length ≤ sizeLine := by
  obtain ⟨z, its, n, r, e⟩ := I.hok p _ h
  exact ⟨its, n, r, e, z⟩
/-- the list at p is written by an update of its object -/
theorem Inv.lstUpd {pins : List (Addr × Obj)} {σ : St} {H : Hp} {s : Shared} {p : Addr} {xs ys : List V} {its its' : List Value} {n n' : Nat} {f : Obj → Obj} (I : Inv X pins σ H s) (h : H p = some (.lst xs))
    (ho : s.heap.get? p = some { cls := .type "list", data := .seq its.toArray n }) (hf : f { cls := .type "list", data := .seq its.toArray n } = { cls := .type "list", data := .seq its'.toArray n' }) (r : Vals ys its') (hz : ys.length ≤ sizeLine) (t : Nat) :
    Inv X pins σ (upd H p (.lst ys)) { s with heap := s.heap.update p f, toks := t } := by
  have e : (s.heap.update p f).get? p = some { cls := .type "list", data := .seq its'.toArray n' } := by
    rw [Heap.get?_update_self f ho (by rw [hf] <;> rfl), hf]
  refine I.write (x := p) (e := p) (by rw [h]; trivial) (.inl rfl) (fun b u hb q => (Heap.get?_update_other _ _ (Ne.symm hb)).trans q) ⟨_, e⟩ ?_
  exact ⟨hz, its', n', r, e⟩
def rSetL : V → V → V → Hp → (Hp → Prop) → Prop := fun o i v H Q => ∃ p xs k j, o = .ref p ∧ i = .int k ∧ H p = some (.lst xs) ∧ ixN xs.length k = some j ∧ Q (upd H p (.lst (xs.set j v)))
theorem set_list : PSet X rSetL := by
  intro pins s σ H o i v ov iv u Q I ro ri rv h
  obtain ⟨p, xs, k, j, rfl, rfl, hp, hj, q⟩ := h
  cases ro
  obtain ⟨t, rfl⟩ := ri
  obtain ⟨its, n, r, ho, hz⟩ := I.lst hp
  obtain ⟨h1, h2, h3, h4⟩ := ixN_seq hj
  have hl := r.length
  have hn := line63
  have I' : Inv X pins σ (upd H p (.lst (xs.set j v))) { s with heap := s.heap.update p (Obj.mapSeq (·.setIfInBounds j u)) } :=
    I.lstUpd hp ho (mapSeq_set its n j u) (r.set rv j) (by rw [List.length_set]; exact hz) s.toks
  by_cases h0 : 0 ≤ k
  · have hk : k.toNat = j := by
      rw [seqIndex_of h0 h4] at h1
      exact Option.some.inj h1
    exact PySem.W.ki_setAt ho h0 (by omega) (by rw [List.size_toArray, ← hl]; exact h4) (by rw [hk]; exact ⟨_, I', q⟩)
  · have hk : (k + (its.toArray.size : Int)).toNat = j := by
      rw [seqIndex_neg (by omega) h3] at h1
      rw [List.size_toArray, ← hl]
      exact Option.some.inj h1
    exact PySem.W.ki_setBack ho (by omega) (by rw [List.size_toArray, ← hl]; exact h3) (by omega) (by rw [hk]; exact ⟨_, I', q⟩)

/-! ### slices -/
theorem slice_bounds (lo hi : Option Int) (n : Nat) : (sliceBounds lo hi none n).1 = ((HT.sIx n 0 lo : Nat) : Int) ∧ (sliceBounds lo hi none n).2.1 = ((HT.sIx n n hi : Nat) : Int) ∧ (sliceBounds lo hi none n).2.2 = 1 := by
  refine ⟨?_, ?_, rfl⟩
  · cases lo with
    | none => simp [sliceBounds, HT.sIx]
    | some i =>
      simp only [sliceBounds, HT.sIx, Option.getD_none, show (1 : Int) > 0 by decide, if_true]
      by_cases h : i < 0
      · simp only [h, if_true] <;> omega
      · simp only [h, if_false] <;> omega
  · cases hi with
    | none => simp [sliceBounds, HT.sIx]
    | some i =>
      simp only [sliceBounds, HT.sIx, Option.getD_none, show (1 : Int) > 0 by decide, if_true]
      by_cases h : i < 0
      · simp only [h, if_true] <;> omega
      · simp only [h, if_false] <;> omega
theorem slicePick_cut (its : List Value) (lo hi : Option Int) : slicePick its.toArray lo hi none = ((its.drop (HT.sIx its.length 0 lo)).take (HT.sIx its.length its.length hi - HT.sIx its.length 0 lo)).toArray := by
  obtain ⟨h1, h2, h3⟩ := slice_bounds lo hi its.toArray.size
  unfold slicePick
  rw [h1, h2, h3]
  simp only [sliceRange_one, pick_run, List.size_toArray] <;> rfl
/-- xs[lo:hi] of a list: a new list -/
def rSlL (K : PySem.W.Frag) : V → Option Int → Option Int → Hp → VK → Prop := fun x lo hi H Q => ∃ a xs, x = .ref a ∧ SqL K H a xs ∧ ∀ p, H p = none → Q (.ref p) (upd H p (.lst (cutV xs lo hi)))
theorem sl_list : SlR X (rSlL X.K) := by
  intro pins s σ H x v vl vu lo hi sl Q I rx hs pl pu h
  obtain ⟨a, xs, rfl, hx, q⟩ := h
  cases rx
  obtain ⟨its, r, ht, hz⟩ := I.list hx
  have hlen := r.length
  refine ⟨"list", _, slot_list_getitem.lookup, ht.isList.typeIs, ?_⟩
  refine wpAny_getItem_list_slice ht.isList hs pl pu .none (by simp) ?_ (by rw [List.size_toArray] <;> omega)
  rw [slicePick_cut, ← hlen]
  refine ⟨.ref s.heap.objs.size, _, I.laid (t' := s.toks) (o := .lst (cutV xs lo hi)) (fun b ob q => Heap.get?_push_of_some _ q) (Nat.le_refl _) ?_, rfl, q _ (I.hok.fresh (Nat.le_refl _))⟩
  exact ⟨Nat.le_trans (cutV_length xs lo hi) hz, _, 0, (r.drop (HT.sIx xs.length 0 lo)).take (HT.sIx xs.length xs.length hi - HT.sIx xs.length 0 lo), Heap.get?_push_size _ rfl⟩

/-! ### in, not in: flat items -/
def flatV : V → Bool
  | .non => true
  | .bl _ => true
  | .int _ => true
  | .str _ => true
  | _ => false
/-- == of flat values -/
def eqV : V → V → Bool
  | .non, .non => true
  | .bl a, .bl b => a == b
  | .bl a, .int b => (if a then 1 else 0) == b
  | .int a, .bl b => a == (if b then 1 else 0)
  | .int a, .int b => a == b
  | .str a, .str b => a == b
  | _, _ => false
theorem eqAt_V {A : Around} {s : Shared} {y x : V} {u v : Value} (ry : RelV y u) (rx : RelV x v) (fy : flatV y = true) (fx : flatV x = true) : SeqAt.EqAt A s u v (eqV y x) := by
  cases y with
  | non =>
    cases ry
    cases x with
    | non => cases rx; exact SeqAt.EqAt.same _
    | bl b => cases rx; exact SeqAt.EqAt.none_bool b
    | int b => obtain ⟨t, rfl⟩ := rx; exact SeqAt.EqAt.none_int b t
    | str b => obtain ⟨t, rfl⟩ := rx; exact SeqAt.EqAt.none_str b t
    | _ => exact absurd (show false = true from fx) Bool.false_ne_true
  | bl a =>
    cases ry
    cases x with
    | non => cases rx; exact SeqAt.EqAt.bool_none a
    | bl b => cases rx; exact SeqAt.EqAt.bool_bool a b
    | int b => obtain ⟨t, rfl⟩ := rx; exact SeqAt.EqAt.bool_int a b t
    | str b => obtain ⟨t, rfl⟩ := rx; exact SeqAt.EqAt.bool_str a b t
    | _ => exact absurd (show false = true from fx) Bool.false_ne_true
  | int a =>
    obtain ⟨t', rfl⟩ := ry
    cases x with
    | non => cases rx; exact SeqAt.EqAt.int_none a t'
    | bl b => cases rx; exact SeqAt.EqAt.int_bool a t' b
    | int b => obtain ⟨t, rfl⟩ := rx; exact SeqAt.EqAt.int_int a t' b t
    | str b => obtain ⟨t, rfl⟩ := rx; exact SeqAt.EqAt.int_str a t' b t
    | _ => exact absurd (show false = true from fx) Bool.false_ne_true
  | str a =>
    obtain ⟨t', rfl⟩ := ry
    cases x with
    | non => cases rx; exact SeqAt.EqAt.str_none a t'
    | bl b => cases rx; exact SeqAt.EqAt.str_bool a t' b
    | int b => obtain ⟨t, rfl⟩ := rx; exact SeqAt.EqAt.str_int a t' b t
    | str b => obtain ⟨t, rfl⟩ := rx; exact SeqAt.EqAt.str_str a t' b t
    | _ => exact absurd (show false = true from fx) Bool.false_ne_true
  | _ => exact absurd (show false = true from fy) Bool.false_ne_true
/-- the items' answers, read off the values (a value's own answer does not lean on its token) -/
def eqU (x : V) (u : Value) : Bool := match u with
  | .none => eqV .non x
  | .bool b => eqV (.bl b) x
  | .int i _ => eqV (.int i) x
  | .str z _ => eqV (.str z) x
  | _ => false
theorem eqU_of {x y : V} {u : Value} (r : RelV y u) (f : flatV y = true) : eqU x u = eqV y x := by
  cases y with
  | non => cases r; rfl
  | bl b => cases r; rfl
  | int i => obtain ⟨t, rfl⟩ := r; rfl
  | str z => obtain ⟨t, rfl⟩ := r; rfl
  | _ => exact absurd (show false = true from f) Bool.false_ne_true
theorem any_eqU {x : V} : ∀ {xs : List V} {us : List Value}, Vals xs us → xs.all flatV = true → us.any (eqU x) = xs.any fun y => eqV y x
  | _, _, .nil, _ => rfl
  | y :: xs, u :: us, .cons r t, f => by
    rw [List.all_cons, Bool.and_eq_true] at f
    rw [List.any_cons, List.any_cons, eqU_of r f.1, any_eqU t f.2]
theorem mem_eqAt {A : Around} {s : Shared} {x : V} {v : Value} (rx : RelV x v) (fx : flatV x = true) : ∀ {xs : List V} {us : List Value}, Vals xs us → xs.all flatV = true → ∀ u ∈ us, SeqAt.EqAt A s u v (eqU x u)
  | _, _, .nil, _ => fun u hu => by cases hu
  | y :: xs, u :: us, .cons r t, f => fun u' hu => by
    rw [List.all_cons, Bool.and_eq_true] at f
    rcases List.mem_cons.mp hu with rfl | hu
    · rw [eqU_of r f.1]; exact eqAt_V r rx f.1 fx
    · exact mem_eqAt rx fx t f.2 u' hu
def inV (x : V) (xs : List V) : Bool := xs.any fun y => eqV y x
/-- x in a list or tuple of flat items -/
def rIn (K : PySem.W.Frag) (neg : Bool) : R2 := fun x y H Q => ∃ p xs, y = .ref p ∧ (SqL K H p xs ∨ SqT K H p xs) ∧ flatV x = true ∧ xs.all flatV = true ∧ Q (.bl (if neg then !inV x xs else inV x xs)) H
theorem op_in_seq : OpR X (compareOp .In) (rIn X.K false) := by
  intro pins s σ H x y v u Q I rx ry h
  obtain ⟨p, xs, rfl, hq, fx, fs, q⟩ := h
  cases ry
  rcases hq with hq | hq
  · obtain ⟨its, r, pl, hz⟩ := I.list hq
    refine SeqAt.in_listAt (eqU x) pl.isList (fun w hw => mem_eqAt rx fx r fs w (by simpa using hw)) ⟨.bl _, H, I, rfl, ?_⟩
    rw [show its.toArray.any (eqU x) = its.any (eqU x) by simp, any_eqU r fs]
    exact q
  · obtain ⟨its, r, pl, hz⟩ := I.tuple hq
    refine SeqAt.in_tupleAt (eqU x) pl (fun w hw => mem_eqAt rx fx r fs w (by simpa using hw)) ⟨.bl _, H, I, rfl, ?_⟩
    rw [show its.toArray.any (eqU x) = its.any (eqU x) by simp, any_eqU r fs]
    exact q
theorem op_notIn_seq : OpR X (compareOp .NotIn) (rIn X.K true) := by
  intro pins s σ H x y v u Q I rx ry h
  obtain ⟨p, xs, rfl, hq, fx, fs, q⟩ := h
  cases ry
  rcases hq with hq | hq
  · obtain ⟨its, r, pl, hz⟩ := I.list hq
    refine SeqAt.notIn_listAt (eqU x) pl.isList (fun w hw => mem_eqAt rx fx r fs w (by simpa using hw)) ⟨.bl _, H, I, rfl, ?_⟩
    rw [show its.toArray.any (eqU x) = its.any (eqU x) by simp, any_eqU r fs]
    exact q
  · obtain ⟨its, r, pl, hz⟩ := I.tuple hq
    refine SeqAt.notIn_tupleAt (eqU x) pl (fun w hw => mem_eqAt rx fx r fs w (by simpa using hw)) ⟨.bl _, H, I, rfl, ?_⟩
    rw [show its.toArray.any (eqU x) = its.any (eqU x) by simp, any_eqU r fs]
    exact q

/-! ### len, list(x), tuple(x) of any list or tuple that is read -/
theorem call_len_seq : CallR X (.builtin "len") (fun xs H Q => ∃ p ys, xs = [.ref p] ∧ (SqL X.K H p ys ∨ SqT X.K H p ys) ∧ Q (.int ys.length) H) := by
  intro pins s σ H xs us Q I r h
  obtain ⟨p, ys, rfl, hq, q⟩ := h
  obtain ⟨u, rfl, rx⟩ := vals1 r
  cases rx
  have hn := line63
  rcases hq with hq | hq
  · obtain ⟨its, r', pl, hz⟩ := I.list hq
    have hlen := r'.length
    exact Calls.call_len_list pl.isList (by simp only [List.size_toArray] <;> omega) ⟨.int ys.length, H, I.tok _, ⟨s.toks + 1, by rw [List.size_toArray, hlen]⟩, q⟩
  · obtain ⟨its, r', pl, hz⟩ := I.tuple hq
    have hlen := r'.length
    exact len_tuple pl (by simp only [List.size_toArray] <;> omega) ⟨.int ys.length, H, I.tok _, ⟨s.toks + 1, by rw [List.size_toArray, hlen]⟩, q⟩
theorem call_len_str : CallR X (.builtin "len") (fun xs H Q => ∃ z, xs = [.str z] ∧ z.length ≤ sizeLine ∧ Q (.int z.length) H) := by
  intro pins s σ H xs us Q I r h
  obtain ⟨z, rfl, hz, q⟩ := h
  obtain ⟨u, rfl, t, rfl⟩ := vals1 r
  have hn := line63
  exact len_str (by omega) ⟨.int z.length, H, I.tok _, ⟨_, rfl⟩, q⟩

/-! ### the call of a builtin's method: o.m(..) -/
/-- the value is of that builtin type -/
def tyV (K : PySem.W.Frag) (T : String) (x : V) (H : Hp) : Prop := match x with
  | .str _ => T = "str"
  | .int _ => T = "int"
  | .ref p => (T = "list" ∧ ∃ xs, SqL K H p xs) ∨ (T = "tuple" ∧ ∃ o, K.lookup p = some o ∧ o.cls = .type "tuple" ∧ o.dict = none) ∨
      (T = "dict" ∧ ((∃ kvs, H p = some (.dK kvs)) ∨ ∃ kvs, H p = some (.dT kvs))) ∨ (T = "set" ∧ ∃ S n, H p = some (.set S n))
  | _ => False
theorem tyV_is {pins : List (Addr × Obj)} {σ : St} {H : Hp} {s : Shared} {T : String} {x : V} {v : Value} (I : Inv X pins σ H s) (r : RelV x v) (ty : tyV X.K T x H) :
    s.TypeIs v T ∧ ∀ a, v = .ref a → ∃ ob, s.heap.get? a = some ob ∧ ob.dict = none := by
  cases x with
  | str z =>
    obtain ⟨t, rfl⟩ := r
    cases (show T = "str" from ty)
    exact ⟨typeIs_str s z t, fun _ e => nomatch e⟩
  | int i =>
    obtain ⟨t, rfl⟩ := r
    cases (show T = "int" from ty)
    exact ⟨typeIs_int s i t, fun _ e => nomatch e⟩
  | ref p =>
    cases r
    rcases ty with ⟨rfl, xs, hq⟩ | ⟨rfl, o, hk, hc, hd⟩ | ⟨rfl, hk⟩ | ⟨rfl, S, n, hk⟩
    · obtain ⟨its, _, pl, _⟩ := I.list hq
      refine ⟨pl.isList.typeIs, fun a e => ?_⟩
      cases e
      obtain ⟨o, n, e, c, hd, _⟩ := pl
      exact ⟨o, e, hd⟩
    · refine ⟨⟨o, I.kIn p o hk, hc⟩, fun a e => ?_⟩
      cases e
      exact ⟨o, I.kIn _ o hk, hd⟩
    · have z : ∃ o, s.heap.get? p = some o ∧ o.ExactDict := by
        rcases hk with ⟨kvs, hk⟩ | ⟨kvs, hk⟩
        · obtain ⟨_, _, _, _, o, _, _, e, ex, _⟩ := I.hok p _ hk
          exact ⟨o, e, ex⟩
        · obtain ⟨_, _, _, _, o, _, _, e, ex, _⟩ := I.hok p _ hk
          exact ⟨o, e, ex⟩
      obtain ⟨o, e, ex⟩ := z
      refine ⟨⟨o, e, ex.1⟩, fun a e2 => ?_⟩
      cases e2
      exact ⟨o, e, ex.2.1⟩
    · obtain ⟨o, _, _, _, e, ex, _⟩ := I.hok p _ hk
      refine ⟨⟨o, e, ex.1⟩, fun a e2 => ?_⟩
      cases e2
      exact ⟨o, e, ex.2.1⟩
  | _ => exact False.elim ty
def tBM0 (K : PySem.W.Frag) (T : String) (r : V → List V → Hp → VK → Prop) (to : TE) : TE := fun σ H Q => to σ H fun x H1 => tyV K T x H1 ∧ r x [] H1 Q
def tBM (K : PySem.W.Frag) (T : String) (r : V → List V → Hp → VK → Prop) (to : TE) (t : TA) : TE := fun σ H Q => to σ H fun x H1 => tyV K T x H1 ∧ t σ H1 fun xs H2 => r x xs H2 Q
variable {o e : Expr} {es : List Expr} {to : TE} {t : TA} {name : Str} {apos cpos : Pos} {T id : String} {r : V → List V → Hp → VK → Prop}
theorem pe_bm0 (pa : PlainAttrs T) (slot : Slot T name id) (hty : typeOf (.builtin id) = pure (.type "method_descriptor")) (hm : MtR X id r) (ho : PE X o to)
    (hbase : attributeBase o name X.env (eval o X.env) = eval o X.env := by rfl) (hline : (apos.endLine == cpos.line) = true := by rfl) : PE X (.Call (.Attribute o name apos) [] [] cpos) (tBM0 X.K T r to) := by
  intro pins s σ H Q I h
  refine wpAny_Call_method0_late hbase hline (thn (ho pins s σ H _ I h) fun v s1 ⟨x, H1, I1, r1, ty, q1⟩ => ?_)
  obtain ⟨h1, h2⟩ := tyV_is I1 r1 ty
  exact ⟨T, id, pa, slot, hty, h1, h2, Calls.callWith_builtin rfl (PySem.evalArgs_none (hm pins s1 σ H1 x [] v [] Q I1 r1 .nil q1))⟩
theorem pe_bm (pa : PlainAttrs T) (slot : Slot T name id) (hty : typeOf (.builtin id) = pure (.type "method_descriptor")) (hm : MtR X id r) (ho : PE X o to) (ha : PA X (e :: es) t)
    (hbase : attributeBase o name X.env (eval o X.env) = eval o X.env := by rfl)
    (hfew : ((backTo cpos (starEach (e :: es) X.env)).all (fun x => !x.1) && (backToKw cpos (keywordEach [] X.env)).all (fun x => x.1.isSome)
      && decide ((e :: es).length + ([] : List Keyword).length + (if ([] : List Keyword).isEmpty then 0 else 1) < 30)) = true := by rfl)
    (hline : (apos.endLine == cpos.line) = true := by rfl) (hs : starEach (e :: es) X.env = (false, eval e X.env) :: starEach es X.env := by rfl) (hplain : (backTo cpos (starEach es X.env)).any (·.1) = false := by rfl) :
    PE X (.Call (.Attribute o name apos) (e :: es) [] cpos) (tBM X.K T r to t) := by
  intro pins s σ H Q I h
  refine wpAny_Call_method_late hbase hfew hline rfl (thn (ho pins s σ H _ I h) fun v s1 ⟨x, H1, I1, r1, ty, q1⟩ => ?_)
  obtain ⟨h1, h2⟩ := tyV_is I1 r1 ty
  refine ⟨T, id, pa, slot, hty, h1, h2, ?_⟩
  have hA := ha cpos pins s1 σ H1 _ I1 q1
  rw [hs] at hA ⊢
  refine Calls.callWith_builtin (by show (false || (backTo cpos (starEach es X.env)).any (·.1)) = false; rw [hplain] <;> rfl) (Calls.evalArgs_plain ?_)
  exact thn hA fun us s2 ⟨vs, H2, I2, r2, q2⟩ => hm pins s2 σ H2 x vs v us Q I2 r1 r2 q2
/- xs.append(e), list.index on a module's tuple .. are MtR facts of 06m -/
end
end L2

namespace L2
open PySem PySem.Spec PyProof.Rows

def MtM (X : Cx) (id : String) (r : V → List V → Hp → VK → Prop) : Prop :=
  ∀ (pins : List (Addr × Obj)) (s : Shared) (σ : St) (H : Hp) (x : V) (xs : List V) (v : Value) (us : List Value) (Q : VK), Inv X pins σ H s → RelV x v → Vals xs us → r x xs H Q →
    wpAny (model X.prog X.w) X.A (call (.builtin id) (v :: us)) (EP X pins σ Q) X.xe s

/-! ### lists of values -/
theorem Vals.one : ∀ {x : V} {us : List Value}, Vals [x] us → ∃ u, us = [u] ∧ RelV x u
  | _, _, .cons r .nil => ⟨_, rfl, r⟩
theorem Vals.eraseIdx : ∀ {xs : List V} {us : List Value} (i : Nat), Vals xs us → Vals (xs.eraseIdx i) (us.eraseIdx i)
  | _, _, _, .nil => .nil
  | _, _, 0, .cons _ t => t
  | _, _, i + 1, .cons r t => .cons r (Vals.eraseIdx i t)
theorem len_erase {α : Type} : ∀ (l : List α) (i : Nat), (l.eraseIdx i).length ≤ l.length
  | [], _ => Nat.le_refl _
  | _ :: _, 0 => Nat.le_succ _
  | _ :: r, i + 1 => Nat.succ_le_succ (len_erase r i)

section
variable {X : Cx} {pins : List (Addr × Obj)} {σ : St} {H : Hp} {s : Shared} {l b : Addr} {xs ys zs : List V}

/-! ### the two steps: a tracked list is rewritten, a new list is laid -/
theorem Inv.lset {its its' : List Value} {n : Nat} {f : Array Value → Array Value} {t' : Nat} (I : Inv X pins σ H s) (hH : H l = some (.lst xs))
    (e : s.heap.get? l = some { cls := .type "list", data := .seq its.toArray n }) (hf : f its.toArray = its'.toArray) (hv : Vals ys its') (hz : ys.length ≤ sizeLine) :
    Inv X pins σ (upd H l (.lst ys)) { s with heap := s.heap.update l (Obj.mapSeq f), toks := t' } := by
  have q := PySem.IsL.update e f
  rw [hf] at q
  refine I.write (x := l) (e := l) (by rw [hH]; exact trivial) (.inl rfl) (fun b' u hb hu => (Heap.get?_update_other s.heap (Obj.mapSeq f) (Ne.symm hb)).trans hu) ⟨_, q⟩ ?_
  exact ⟨hz, its', _, hv, q⟩
theorem Inv.lnew {its : List Value} {t' : Nat} (I : Inv X pins σ H s) (hv : Vals ys its) (hz : ys.length ≤ sizeLine) :
    Inv X pins σ (upd H s.heap.objs.size (.lst ys)) { s with heap := s.heap.push { cls := .type "list", data := .seq its.toArray }, toks := t' } :=
  I.laid (fun _ _ q => Heap.get?_push_of_some _ q) (Nat.le_refl _) ⟨hz, its, 0, hv, Heap.get?_push_size _ rfl⟩
theorem Inv.fresh (I : Inv X pins σ H s) : H s.heap.objs.size = none := I.hok.fresh (Nat.le_refl _)
theorem Inv.lstM (I : Inv X pins σ H s) (hH : H l = some (.lst xs)) : xs.length ≤ sizeLine ∧ ∃ (its : List Value) (n : Nat), Vals xs its ∧ xs.length = its.length ∧ s.heap.get? l = some { cls := .type "list", data := .seq its.toArray n } := by
  obtain ⟨z, its, n, r, e⟩ := I.hok l _ hH
  exact ⟨z, its, n, r, r.length, e⟩

end

section
variable {X : Cx}

/-! ### methods -/
def rAppend : V → List V → Hp → VK → Prop := fun x vs H Q => ∃ l xs y, x = .ref l ∧ vs = [y] ∧ H l = some (.lst xs) ∧ xs.length < sizeLine ∧ Q .non (upd H l (.lst (xs ++ [y])))
theorem mt_append : MtM X "list.append" rAppend := by
  intro pins s σ H x vs v us Q I rx rv h
  obtain ⟨l, xs, y, rfl, rfl, hH, hz, q⟩ := h
  cases rx
  obtain ⟨u, rfl, ru⟩ := rv.one
  obtain ⟨z, its, n, r, hl, e⟩ := I.lstM hH
  refine call_meets F.slot_list_append ⟨_, e, rfl⟩ F.entry_list_append (F.args_list_append_2 _ _) (PySem.list_append l its.toArray n u (by rw [List.size_toArray]; omega)) ⟨e, ?_⟩
  refine ⟨.non, _, I.lset (its' := its ++ [u]) hH e (by simp) (r.append (.cons ru .nil)) ?_, rfl, q⟩
  rw [List.length_append, List.length_singleton]
  omega



def rPopAt : V → List V → Hp → VK → Prop := fun x vs H Q => ∃ l xs i k y, x = .ref l ∧ vs = [.int i] ∧ H l = some (.lst xs) ∧ -(2 ^ 63) ≤ i ∧ i < 2 ^ 63 ∧ seqIndex? i xs.length = some k ∧ xs[k]? = some y ∧ Q y (upd H l (.lst (xs.eraseIdx k)))
theorem mt_popAt : MtM X "list.pop" rPopAt := by
  intro pins s σ H x vs v us Q I rx rv h
  obtain ⟨l, xs, i, k, y, rfl, rfl, hH, h1, h2, hk, hy, q⟩ := h
  cases rx
  obtain ⟨u, rfl, ru⟩ := rv.one
  obtain ⟨t, rfl⟩ := ru
  obtain ⟨z, its, n, r, hl, e⟩ := I.lstM hH
  obtain ⟨w, hw, rw'⟩ := r.get hy
  refine call_meets F.slot_list_pop ⟨_, e, rfl⟩ F.entry_list_pop (F.args_list_pop_2 _ _)
    (MeetsSeq.list_pop_at l its.toArray n i t k w (fitsIndex_both h1 h2) (by rw [List.size_toArray, ← hl]; exact hk) (by rw [← Array.getElem?_toList]; exact hw) (by rw [List.size_toArray]; omega)) ⟨e, ?_⟩
  refine ⟨y, _, I.lset (its' := its.eraseIdx k) hH e ?_ (r.eraseIdx k) ?_, rw', q⟩
  · show its.toArray.eraseIdxIfInBounds k = (its.eraseIdx k).toArray
    rw [List.eraseIdxIfInBounds_toArray]
  · have := len_erase xs k
    omega



/-! ### list + list, list += list, list * int -/
def rCat : R2 := fun x y H Q => ∃ l b xs zs, x = .ref l ∧ y = .ref b ∧ H l = some (.lst xs) ∧ H b = some (.lst zs) ∧ xs.length + zs.length ≤ sizeLine ∧ ∀ p, H p = none → Q (.ref p) (upd H p (.lst (xs ++ zs)))
theorem op_cat : OpR X (binaryOp .Add) rCat := by
  intro pins s σ H x y v u Q I rx ry h
  obtain ⟨l, b, xs, zs, rfl, rfl, hH, hB, hz, q⟩ := h
  cases rx
  cases ry
  obtain ⟨z, its, n, r, hl, e⟩ := I.lstM hH
  obtain ⟨z2, its2, n2, r2, hl2, e2⟩ := I.lstM hB
  refine PySem.P.add_list e e2 ?_ (by rw [List.size_toArray, List.size_toArray]; omega)
  have ea : its.toArray ++ its2.toArray = (its ++ its2).toArray := by simp
  rw [ea]
  exact ⟨.ref _, _, I.lnew (t' := s.toks) (r.append r2) (by rw [List.length_append]; omega), rfl, q _ I.fresh⟩

/-! ### del xs[i] -/
end

/-! ### xs[a:b] = ys -/
section
variable {prog : Program} {w : World} {A : Around} {E : Value → Shared → Prop} {s : Shared}
end

section
variable {X : Cx}
end
end L2

namespace Att
open PySem PySem.W PySem.Calls PyProof.Rows

/-! ### the script -/
theorem ints_of_wellAll {P : Params} {h : Heap} : ∀ (ns : List Int) (vs : List Value), WellAll P h vs (ns.map WData.int) → IntsAre vs ns := by
  intro ns
  induction ns with
  | nil =>
    intro vs w
    rw [List.map_nil] at w
    cases w
    exact .nil
  | cons n ns ih =>
    intro vs w
    rw [List.map_cons] at w
    cases w with
    | cons a b =>
      cases a
      exact .cons _ _ (ih _ b)

theorem script_of {l : OpenLaw} {n : Nat} (hn : l.most = some n) {P : Params} {h : Heap} {args : List WData} {vals : List Value}
    (hpre : l.row.toRowW.claim.pre args = true) (hwl : WellAll P h vals args) :
    ∃ a vs ns, vals = [Value.ref a] ∧ args = [WData.list (ns.map WData.int)] ∧ h.get? a = some { cls := .type "list", data := .seq vs.toArray } ∧ IntsAre vs ns ∧ ns.length ≤ n := by
  have hsh : WShape.hasAll [] args [.list .int] = true := (pre_splitW hpre).1
  have hc : l.pre.holds [] { args := args } = true := (pre_splitW hpre).2
  obtain ⟨d, r, rfl, h1, h2⟩ := hasAllW_cons hsh
  obtain rfl := hasAllW_nil h2
  obtain ⟨xs, rfl, h3⟩ := hasW_list h1
  obtain ⟨ns, rfl⟩ := items_int h3
  have hlen : ns.length ≤ n := by
    unfold OpenLaw.pre at hc
    have h4 : (WTm.not (.lt (.lit (.int (n : Int))) (.len (.arg 0)))).holds [] { args := [.list (ns.map .int)] } = true := by
      have h4 := (holds_andW hc).1
      rw [hn] at h4
      exact h4
    have h5 := condW_of h4 (w_not (w_lt w_lit (w_len_list (w_arg rfl))))
    rw [List.length_map] at h5
    refine Nat.le_of_not_lt fun q => ?_
    have q' : (n : Int) < ((ns.length : Nat) : Int) := by omega
    first
      | (rw [decide_eq_true q'] at h5; exact absurd h5 (by decide))
      | (simp at h5; omega)
  cases hwl with
  | cons w1 w2 =>
    cases w2
    cases w1 with
    | list ho hall => exact ⟨_, _, ns, rfl, rfl, ho, ints_of_wellAll ns _ hall, hlen⟩

theorem post_true (l : OpenLaw) (args : List WData) : l.row.toRowW.claim.post args (.bool true) args = true :=
  postW_of (r := l.row.toRowW) (X := (true == true))
    (show WShape.has [] (.bool true) .bool = true by first | rfl | decide | simp [WShape.has, WShape.arms, WShape.armsAll])
    (show (WTm.eq .res (.lit (.bool true))).value [] { args := args, res := some (.bool true), after := args } = some (.bool (true == true)) from w_eq_bool (w_res rfl) w_lit) rfl

/-! ### the attachment: holds_open's last premise (the goal 'hc' behind k_head) from a wpAny of the law's body -/

/-- the same from a codeAny of the CALL (for a layer whose function contracts speak of calls) -/
theorem attach_call {l : OpenLaw} {n : Nat} {q : Program} {loose : List Str} {XP : (Str → Option Value) → Heap → Prop} {YP : World → Heap → Prop} {d : DefRec}
    (hn : l.most = some n) (hdf : d.params.defaults = [])
    (call : ∀ (w : World) (s₀ s₁ : Shared) (mg mb : Str → Option Value) (fa : Addr) (o : Obj) (pm cd doc : Value) (a : Addr) (vs : List Value) (ns : List Int),
      Ground q loose [] XP w s₀ mg mb s₁.heap → YP w s₁.heap →
      s₁.heap.get? fa = some o → o.data = .func (docDef d.name d.params d.body d.scope pm cd doc) → s₁.heap.CodeRec cd d.name → mg d.name = some (.ref fa) →
      s₁.heap.get? a = some { cls := .type "list", data := .seq vs.toArray } → IntsAre vs ns → ns.length ≤ n → s₁.gens = #[] →
      codeAny (model l.prog w) callerA (.call (.ref fa) ⟨[.ref a], []⟩) (fun r s' => r = .ok (.ret (.bool true)) ∧ OldK s₁.heap s'.heap ∧ s'.os = s₁.os ∧ AllBare s'.gens) s₁) :
    WalkO q loose XP YP l.row.toRowW d [] (fun f vs => PySem.call f vs) := by
  intro w s₀ s₁ mg mb G Y fa o pm cd doc dV kV ho hd hcd hD hmg hg args vals as hpre hlay hrd hwl hlo
  obtain rfl : dV = .none := Dflts.none hD hdf
  obtain rfl : kV = .none := Dflts.noKw hD
  obtain ⟨a, vs, ns, rfl, rfl, hobj, hints, hlen⟩ := script_of hn hpre hwl
  refine enter_call (codeAny_mono (call w s₀ s₁ mg mb fa o pm cd doc a vs ns G Y ho (fd_plain hd) hcd hmg hobj hints hlen hg) fun r s' hq => ?_)
  obtain ⟨rfl, h2, h3, h4⟩ := hq
  exact ⟨.inl ⟨.bool true, .bool true, [], rfl, fun _ => rfl, .bool true, post_true l _, fun _ => ⟨List.Pairwise.nil, fun _ hm => (nomatch hm)⟩⟩, h2, h3, h4⟩


/-! ### rules over ANY heap (no ledger) from facts about the written part K: the library's own take a ledger (News) for what they write -/
section
variable {prog : Program} {w : World} {A : Around} {E : Value → Shared → Prop} {s : Shared} {K : Frag}





/-! the whole heap as the ledger: makes every rule that writes through a ledger a rule over any heap -/

end
end Att

namespace L2
open PySem PySem.Spec PyProof.Rows

theorem vals_ints : ∀ {vs : List Value} {ns : List Int}, IntsAre vs ns → Vals (ns.map V.int) vs
  | _, _, .nil => .nil
  | _, _, .cons n t h => .cons ⟨t, rfl⟩ (vals_ints h)

/-- nothing is tracked but the script, known to the object (or it is an object of the module) -/
def Only (H : Hp) : Prop := ∀ b, H b = none ∨ ∃ o xs, H b = some (.frz o (.lst xs))

/-- THE HEAD: the law's promise, at the heap behind the top. F, the promise of the law's def, may use that base is part of the heap (so K.In base, base.Ns mainGlobals mg stand in Mod) -/
theorem law_call {P : Program} {w : World} {K : PySem.W.Frag} {mg mb : Str → Option Value} {CX : CXT} {k : Nat} {fa a : Addr} {fd : FuncData} {x : Str} {sp : Sp} {s₁ : Shared} {vs : List Value} {ns : List Int}
    (KX : K.In s₁.heap) (hns : s₁.heap.Ns mainGlobals mg) (hb : s₁.heap.Ns builtinsNs mb) (hbb : ∀ x : Str, x ≠ "__name__" → mb x = bootBuiltins x) (hlim : s₁.heap.NoLimit) (hg : s₁.gens = #[])
    (ha : s₁.heap.get? a = some { cls := .type "list", data := .seq vs.toArray }) (hi : IntsAre vs ns) (hl : ns.length ≤ sizeLine) (hr : Room k callerA)
    (F : ∀ base : Heap, K.In base → base.Ns mainGlobals mg → FnOk P w K mg base CX k fa fd [x] sp) (hbind : ∀ (s : Shared) (u : Value), BindsTo s fd ⟨[u], []⟩ [(x, u)])
    (hsp : ∀ H : Hp, Only H → SqL K H a (ns.map V.int) → sp [.ref a] H (fun v _ => v = .bl true) fun _ _ _ => False)
    (hCX : ∀ H e s', CX [] H s₁ (fun _ _ _ => False) e s' → False) :
    codeAny (model P w) callerA (.call (.ref fa) ⟨[.ref a], []⟩) (fun r s' => r = .ok (.ret (.bool true)) ∧ OldK s₁.heap s'.heap ∧ s'.os = s₁.os ∧ AllBare s'.gens) s₁ := by
  have rv := vals_ints hi
  have lenV := hi.length
  have core : ∀ H : Hp, Only H → SqL K H a (ns.map V.int) → HOk P w H s₁.heap → (∀ b, H b ≠ none → b = a) → (H a ≠ none → K.lookup a = none) →
      codeAny (model P w) callerA (.call (.ref fa) ⟨[.ref a], []⟩) (fun r s' => r = .ok (.ret (.bool true)) ∧ OldK s₁.heap s'.heap ∧ s'.os = s₁.os ∧ AllBare s'.gens) s₁ := by
    intro H hO hS hok hA hK
    have base_of : ∀ {b : Addr} {o : Obj}, s₁.heap.get? b = some o → H b = none → (hidT s₁.heap H).get? b = some o := fun e n => hidT_get e n
    have noA : ∀ {b : Addr} {o : Obj} {es : Array DictEntry} {ep : Nat}, s₁.heap.get? b = some o → o.data = .dict es ep → H b = none := fun {b o es ep} e d => by
      cases q : H b with
      | none => rfl
      | some u =>
        have e' : b = a := hA b (by rw [q]; simp)
        subst e'
        rw [ha] at e; cases e
        have d' : Data.seq vs.toArray _ = Data.dict es ep := d
        cases d'
    have nsK : ∀ {b : Addr} {m : Str → Option Value}, s₁.heap.Ns b m → (hidT s₁.heap H).Ns b m := fun {b m} ⟨o, es, ep, e, d, r⟩ => ⟨o, es, ep, base_of e (noA e d), d, r⟩
    have hKb : K.In (hidT s₁.heap H) := fun b o e => base_of (KX b o e) (by
      cases q : H b with
      | none => rfl
      | some u =>
        have e' : b = a := hA b (by rw [q]; simp)
        subst e'
        rw [hK (by rw [q]; simp)] at e; cases e)
    have hM : Mod K mg (hidT s₁.heap H) := ⟨hKb, nsK hns, ⟨mb, nsK hb, hbb⟩, let ⟨mc, h1, h2⟩ := hlim; ⟨mc, nsK h1, h2⟩⟩
    have e0 : Env0 P w K mg (hidT s₁.heap H) callerA [] s₁ H := ⟨rfl, hM, fun b o e => of_hidT e, Nat.le_of_eq (hidT_size _ _), trivial, fun b hb => absurd (show b ∈ ([] : List Addr) from hb) (by simp), hok, .of_eq hg⟩
    refine codeAny_mono ((F _ hKb (nsK hns)).run callerA [] s₁ H ⟨[.ref a], []⟩ [.ref a] [.ref a] _ _ hr e0 (hbind s₁ (.ref a)) (.cons rfl .nil) (hsp H hO hS)) fun r s' h => ?_
    cases r with
    | error e => exact (hCX H e s' h).elim
    | ok fl =>
      cases fl with
      | next => exact False.elim h
      | brk => exact False.elim h
      | cont => exact False.elim h
      | ret u =>
        obtain ⟨v, H', os, bare, un, hok', r', q⟩ := h
        have q' : v = .bl true := q
        subst q'
        obtain rfl : u = Value.bool true := r'
        refine ⟨rfl, OldK.of_keep fun b o e => ?_, os, bare⟩
        cases q : H b with
        | none => exact un.keep b o e q (by intro z; exact absurd (show b ∈ ([] : List Addr) from z) (by simp)) (by simp)
        | some u =>
          rcases hO b with z | ⟨ob, xs, z⟩
          · rw [q] at z; cases z
          · have z2 := un.frzs b ob _ z
            obtain ⟨e1, _⟩ := hok b _ z
            obtain ⟨e2, _⟩ := hok' b _ z2
            rw [e] at e1; cases e1
            exact e2
  cases hk : K.lookup a with
  | some o =>
    have e := KX a o hk
    rw [ha] at e
    cases e
    refine core (fun _ => none) (fun _ => .inl rfl) (.inr ⟨_, vs.toArray, _, hk, rfl, rfl, rfl, by rw [List.size_toArray, lenV]; exact hl, by simpa using rv⟩) (fun b u z => by have z' : (none : Option HO) = some u := z; cases z') (fun b z => absurd rfl z) fun z => absurd rfl z
  | none =>
    refine core (fun b => if b = a then some (.frz { cls := .type "list", data := .seq vs.toArray } (.lst (ns.map V.int))) else none) (fun b => ?_) (.inl (.inr ⟨{ cls := .type "list", data := .seq vs.toArray }, if_pos rfl⟩)) (fun b u z => ?_) (fun b z => ?_) fun _ => hk
    · by_cases hb : b = a
      · exact .inr ⟨_, _, if_pos hb⟩
      · exact .inl (if_neg hb)
    · by_cases hb : b = a
      · have z' := (if_pos hb).symm.trans z
        cases z'
        subst hb
        exact ⟨ha, by rw [List.length_map]; exact hl, vs, _, rv, ha⟩
      · have z' := (if_neg hb).symm.trans z
        cases z'
    · by_cases hb : b = a
      · exact hb
      · exact absurd (if_neg hb) z
end L2

namespace L2
open PySem PySem.Spec PyProof.Rows

abbrev KOf {K : PySem.W.Frag} {h : Heap} (_ : K.In h) : PySem.W.Frag := K

/-- the goal that k_head leaves (case hc), from the law's promise. F gives the function object fd (K's own) once, then the promise over every base -/
theorem walk_of {l : PySem.W.OpenLaw} {n k : Nat} {q : Program} {loose : List Str} {XP : (Str → Option Value) → Heap → Prop} {YP : World → Heap → Prop} {d : DefRec} {K : Params → PySem.W.Frag} {CX : World → CXT} {sp : World → Sp} {x : Str}
    (hn : l.most = some n) (hn2 : n ≤ sizeLine) (hdf : d.params.defaults = []) (hr : Room k callerA)
    (hY : ∀ (w : World) (h : Heap), YP w h → (K w.params).In h)
    (F : ∀ (w : World) (mg : Str → Option Value) (fa : Addr) (h : Heap), (K w.params).In h → h.Ns mainGlobals mg → mg d.name = some (.ref fa) →
      ∃ fd : FuncData, (∀ (s : Shared) (u : Value), BindsTo s fd ⟨[u], []⟩ [(x, u)]) ∧
        ∀ base : Heap, (K w.params).In base → base.Ns mainGlobals mg → FnOk l.prog w (K w.params) mg base (CX w) k fa fd [x] (sp w))
    (hsp : ∀ (w : World) (H : Hp) (a : Addr) (ns : List Int), ns.length ≤ n → Only H → SqL (K w.params) H a (ns.map V.int) → sp w [.ref a] H (fun v _ => v = .bl true) fun _ _ _ => False)
    (hCX : ∀ (w : World) (H : Hp) (s : Shared) (e : Value) (s' : Shared), CX w [] H s (fun _ _ _ => False) e s' → False) :
    PySem.W.WalkO q loose XP YP l.row.toRowW d [] (fun f vs => PySem.call f vs) := by
  refine Att.attach_call hn hdf fun w s₀ s₁ mg mb fa o pm cd doc a vs ns G Y ho hd hcd hmg hobj hints hlen hg => ?_
  have KX := hY w _ Y
  obtain ⟨fd, hb, hF⟩ := F w mg fa _ KX G.T.g hmg
  exact law_call KX G.T.g G.T.b G.T.builtins G.T.nolimit hg hobj hints (Nat.le_trans hlen hn2) hr hF hb (fun H hO hS => hsp w H a ns hlen hO hS) fun H e s' => hCX w H s₁ e s'
/-- the same where the promise hangs on the written part alone: (sp := My.sp_law), no hole under a binder -/
theorem walk_ofK {l : PySem.W.OpenLaw} {n k : Nat} {q : Program} {loose : List Str} {XP : (Str → Option Value) → Heap → Prop} {YP : World → Heap → Prop} {d : DefRec} {K : Params → PySem.W.Frag} {CX : CXT} {sp : PySem.W.Frag → Sp} {x : Str}
    (hn : l.most = some n) (hn2 : n ≤ sizeLine) (hdf : d.params.defaults = []) (hr : Room k callerA)
    (hY : ∀ (w : World) (h : Heap), YP w h → (K w.params).In h)
    (F : ∀ (w : World) (mg : Str → Option Value) (fa : Addr) (h : Heap), (K w.params).In h → h.Ns mainGlobals mg → mg d.name = some (.ref fa) →
      ∃ fd : FuncData, (∀ (s : Shared) (u : Value), BindsTo s fd ⟨[u], []⟩ [(x, u)]) ∧
        ∀ base : Heap, (K w.params).In base → base.Ns mainGlobals mg → FnOk l.prog w (K w.params) mg base CX k fa fd [x] (sp (K w.params)))
    (hsp : ∀ (K : PySem.W.Frag) (H : Hp) (a : Addr) (ns : List Int), ns.length ≤ n → Only H → SqL K H a (ns.map V.int) → sp K [.ref a] H (fun v _ => v = .bl true) fun _ _ _ => False)
    (hCX : ∀ (H : Hp) (s : Shared) (e : Value) (s' : Shared), CX [] H s (fun _ _ _ => False) e s' → False) :
    PySem.W.WalkO q loose XP YP l.row.toRowW d [] (fun f vs => PySem.call f vs) :=
  walk_of (K := K) (CX := fun _ => CX) (sp := fun w => sp (K w.params)) hn hn2 hdf hr hY F (fun w H a ns h1 h2 h3 => hsp (K w.params) H a ns h1 h2 h3) fun _ H s e s' => hCX H s e s'
end L2

/- THE LAST THEOREM (shape; LID, My.* are yours):
   My.Adr: a structure of the addresses that your layer names (classes, functions); My.Txt K t: a structure (Prop) of the equations over K;
   My.txt_mk : {K} {implicit addresses ..} (e1 : nsIn K mainGlobals "law" = some (some (.ref f))) (e2 : K.lookup f = some ⟨oc, od, .func (fnOf "law" "law" params body scope dV kV doc pm an cdv ct), sl⟩) (e3 : codeIn K cdv "law" = true) .. : ∃ t, My.Txt K t

set_option maxRecDepth 100000 in
set_option maxHeartbeats 0 in
theorem PySem.Challenge.cw_LID_holds : PySem.Challenge.rw_LID.Holds := by
  w_on; o_law; k_head; (case hw => w_witness2)
  k_fill
  refine L2.walk_of (l := PySem.Challenge.rw_LID) (n := 63) (k := 40) (x := "script") (CX := fun w => ..) (sp := fun _ => My.sp_law) rfl (by decide) rfl ⟨rfl, by decide, by decide⟩ (fun w h Y => PySem.W.kIn_of Y) ?F ?S ?C
  case F =>
    intro w mg fa h KX G hmg
    have T : ∃ t, My.Txt (L2.KOf KX) t := by
      dsimp only [L2.KOf]                          -- K must stand as «<heap const> w.params» for k_is
      refine' My.txt_mk ?e1 ?e2 ?e3 ..
      (case e1 => PySem.W.k_is)                    -- in the order: a name -> its address -> its object -> its parts
      (case e2 => PySem.W.k_is)
      ..
    obtain ⟨t, T⟩ := T
    have e0 := hmg.symm.trans (PySem.W.mg_of KX G T.law)
    cases e0                                       -- fa is the law's own address
    exact ⟨_, fun s u => .of_eq rfl, fun base kb nb => My.law_fn T kb nb⟩     -- if «.of_eq rfl» comes too early: refine' ⟨_, ?b, fun base kb nb => My.law_fn T kb nb⟩; exact fun s u => .of_eq rfl
  case S => exact fun w H a ns hl hO hS => ..
  case C => exact ..
(the tactic k_is has no namespace: write k_is) -/

/-! SHORT WORDS over the layer: a def of the text, its body, what a loop and a test want. -/
namespace L2
open PySem PySem.Spec PyProof.Rows

/-! ### the text by places -/
/-- the j-th statement of a class's body -/
def inClass (s : Stmt) (j : Nat) : Stmt := match s with
  | .ClassDef _ _ _ body _ _ _ _ _ _ _ => body.getD j (.Pass ⟨0, 0, 0, 0⟩)
  | _ => .Pass ⟨0, 0, 0, 0⟩
def defArgs (s : Stmt) : Arguments := match s with
  | .FunctionDef _ a _ _ _ _ _ _ _ _ => a
  | _ => { posonlyargs := [], args := [], vararg := none, kwonlyargs := [], kw_defaults := [], kwarg := none, defaults := [] }
def defBody (s : Stmt) : List Stmt := match s with
  | .FunctionDef _ _ b _ _ _ _ _ _ _ => b
  | _ => []
def defScope (s : Stmt) : Scope := match s with
  | .FunctionDef _ _ _ _ _ _ sc _ _ _ => sc
  | _ => { kind := .function, names := [], isGenerator := false, isCoroutine := false }

/-! ### no exception leaves a def -/
abbrev CX0 : CXT := fun _ _ _ _ _ _ => False
abbrev E0 : XK := fun _ _ _ => False
theorem pass0 {X : Cx} : Passes CX0 X E0 := fun _ _ _ _ _ _ _ h => h.elim

/-! ### a def (or method) of the text as it stands behind the top -/
structure Fun (K : PySem.W.Frag) (x qual : Str) (st : Stmt) (f : Addr) (fd : FuncData) : Prop where
  ex : ∃ (oc : Value) (od : Option Addr) (kV doc pm : Value) (an : Option Addr) (cdv ct : Value) (osl : Array (Option Value)),
    fd = PySem.W.fnOf x qual (defArgs st) (defBody st) (defScope st) .none kV doc pm an cdv ct ∧ K.lookup f = some ⟨oc, od, .func fd, osl⟩ ∧ PySem.W.codeIn K cdv qual = true
  kp : PySem.W.keepIn K (.ref f) = true
section
variable {P : Program} {w : World} {K : PySem.W.Frag} {mg : Str → Option Value} {base : Heap}
/-- THE RULE for a def: its body as a term of rules, and the reading of that term -/
theorem Fun.ok {x qual : Str} {st : Stmt} {f : Addr} {fd : FuncData} {N ps : List Str} {k : Nat} {sp : Sp} (F : Fun K x qual st f fd) (S : FnScope N ps (defScope st)) (len : ∀ vs H Q E, sp vs H Q E → vs.length = ps.length)
    (hbody : ∀ (cdv : Value) (A : Around) (outer : List Env) (s : Shared) (H : Hp) (vs : List V) (Q : VK) (E : XK), Room k (A.deeper (envOfC qual (defScope st) s.heap.objs.size f cdv)) → sp vs H Q E →
      ∃ t, PSs (cxOf CX0 P w K mg base N qual (defScope st) f cdv A outer s H E).nox (defBody st) t ∧ t { nx := fun _ H' => Q .non H', rt := Q } (start N vs) H) : FnOk P w K mg base CX0 (k + 1) f fd ps sp := by
  obtain ⟨oc, od, kV, doc, pm, an, cdv, ct, osl, rfl, lk, hcd⟩ := F.ex
  refine fn_of lk hcd S len fun A outer s H vs Q E hr hsp => ?_
  obtain ⟨t, h, q⟩ := hbody cdv A outer s H vs Q E hr hsp
  exact ⟨t, h.nox, q⟩
/-- how its arguments bind (no defaults): h is «fun _ _ _ _ _ _ us hl => match us, hl with | [_, _], _ => rfl», one _ a parameter -/
theorem Fun.binds {x qual : Str} {st : Stmt} {f : Addr} {fd : FuncData} {ps : List Str} (F : Fun K x qual st f fd)
    (h : ∀ (kV doc pm : Value) (an : Option Addr) (cdv ct : Value) (us : List Value), us.length = ps.length → bindArgs (PySem.W.fnOf x qual (defArgs st) (defBody st) (defScope st) .none kV doc pm an cdv ct) ⟨us, []⟩ = pure (ps.zip us)) : Binds K fd ps [] := by
  obtain ⟨oc, od, kV, doc, pm, an, cdv, ct, osl, rfl, lk, hcd⟩ := F.ex
  exact .all (h kV doc pm an cdv ct)
theorem fun_mk {x qual : Str} {st : Stmt} {f : Addr} {oc : Value} {od an : Option Addr} {osl : Array (Option Value)} {kV doc pm cdv ct : Value} (l : K.lookup f = some ⟨oc, od, .func (PySem.W.fnOf x qual (defArgs st) (defBody st) (defScope st) .none kV doc pm an cdv ct), osl⟩)
    (c : PySem.W.codeIn K cdv qual = true) (k : PySem.W.keepIn K (.ref f) = true) : Fun K x qual st f (PySem.W.fnOf x qual (defArgs st) (defBody st) (defScope st) .none kV doc pm an cdv ct) := ⟨⟨oc, od, kV, doc, pm, an, cdv, ct, osl, rfl, l, c⟩, k⟩
end
theorem small1000 {n : Nat} (h : n ≤ 1000) : n < sizeLine := Nat.lt_of_le_of_lt h (by decide)

/-! ### expressions in short: the name that stands in the i-th slot -/
section
variable {X : Cx}
theorem pv (i : Nat) {x : Str} {pos : Pos} (hN : X.N[i]? = some x := by rfl) (hv : Vis X.env.scope x := by first | exact Or.inl rfl | exact Or.inr (Or.inl rfl) | exact Or.inr (Or.inr rfl)) (hd : (x == ("__debug__" : Str)) = false := by decide)
    (hcd : (x == ("__classdict__" : Str)) = false := by decide) : PE X (.Name x pos) (tVar i) := pe_var hN hv hd hcd
end

/-! ### tests -/
theorem iteF {A B : Prop} (h : B) : if false = true then A else B := by
  rw [if_neg Bool.false_ne_true]
  exact h
theorem iteT {A B : Prop} (h : A) : if true = true then A else B := by
  rw [if_pos rfl]
  exact h
theorem ite2 {c A B : Prop} [Decidable c] (h1 : c → A) (h2 : ¬ c → B) : if c then A else B := by
  by_cases h : c
  · rw [if_pos h]
    exact h1 h
  · rw [if_neg h]
    exact h2 h

/-! ### heaps -/
/-- all that was tracked is as it was -/
def Same (H H' : Hp) : Prop := ∀ b o, H b = some o → H' b = some o
theorem Same.refl (H : Hp) : Same H H := fun _ _ h => h
theorem Same.trans {H H1 H2 : Hp} (a : Same H H1) (b : Same H1 H2) : Same H H2 := fun c o h => b c o (a c o h)
theorem Same.free {H H' : Hp} (e : Same H H') {l : Addr} (h : H' l = Option.none) : H l = Option.none := by
  cases q : H l with
  | none => rfl
  | some o =>
    rw [e l o q] at h
    cases h
theorem Same.seq {K : PySem.W.Frag} {H H' : Hp} {a : Addr} {xs : List V} (e : Same H H') (h : SqL K H a xs) : SqL K H' a xs := by
  rcases h with (h | ⟨o, h⟩) | h
  · exact .inl (.inl (e _ _ h))
  · exact .inl (.inr ⟨o, e _ _ h⟩)
  · exact .inr h

end L2

namespace L2
open PySem PySem.Spec PyProof.Rows

/-! ### a comprehension: its closure -/
def clOf (cells : List (Str × Addr)) : List (Str × NameKind) → List (Str × Addr) → List (Str × Addr)
  | [], acc => acc
  | (n, k) :: r, acc => clOf cells r (if k == .free then (match cells.lookup n with | some c => (n, c) :: acc | none => acc) else acc)
theorem clo_go {env : Env} : ∀ (ns : List (Str × NameKind)) (acc : List (Str × Addr)), (∀ x ∈ ns, x.2 = .free → ∃ c, env.cells.lookup x.1 = some c) →
    (forIn ns acc fun (x : Str × NameKind) (cs : List (Str × Addr)) => (if x.2 == NameKind.free then do let a ← cellOf env x.1; pure (ForInStep.yield ((x.1, a) :: cs)) else pure (ForInStep.yield cs) : Sem (ForInStep (List (Str × Addr))))) = pure (clOf env.cells ns acc)
  | [], acc, _ => by simp [clOf]
  | (n, k) :: r, acc, h => by
    rw [List.forIn_cons]
    have ih := fun a => clo_go (env := env) r a fun x hx => h x (List.mem_cons_of_mem _ hx)
    unfold clOf
    by_cases hk : (k == NameKind.free) = true
    · obtain ⟨c, hc⟩ := h (n, k) List.mem_cons_self (by simpa using hk)
      have hc' : env.cells.lookup n = some c := hc
      have hce : cellOf env n = pure c := by simp only [cellOf, hc']
      simp only [hk, if_true, hce, pure_bind, hc']
      exact ih _
    · simp only [hk, if_false, pure_bind, ih]
      simp
theorem closure_is {scope : Scope} {env : Env} (h : ∀ x ∈ scope.names, x.2 = .free → ∃ c, env.cells.lookup x.1 = some c) : closureFor scope env = pure (clOf env.cells scope.names []) := by
  have q := clo_go (env := env) scope.names [] h
  unfold closureFor
  rw [← q]
  first
    | rfl
    | simp
theorem clOf_has {cells : List (Str × Addr)} : ∀ (ns : List (Str × NameKind)) (acc : List (Str × Addr)) {x : Str} {c : Addr}, (∀ y d, acc.lookup y = some d → cells.lookup y = some d) → (clOf cells ns acc).lookup x = some c → cells.lookup x = some c
  | [], acc, x, c, ha, h => ha x c h
  | (n, k) :: r, acc, x, c, ha, h => by
    unfold clOf at h
    refine clOf_has r _ (fun y d hy => ?_) h
    split at hy
    · split at hy
      · rename_i c' hc'
        rw [List.lookup_cons] at hy
        split at hy
        · rename_i e
          have e' : y = n := by simpa using e
          subst e'
          rw [hc']; exact hy
        · exact ha y d hy
      · exact ha y d hy
    · exact ha y d hy
theorem clOf_keep {cells : List (Str × Addr)} : ∀ (ns : List (Str × NameKind)) (acc : List (Str × Addr)) {x : Str}, (∃ c, acc.lookup x = some c) → ∃ c, (clOf cells ns acc).lookup x = some c
  | [], acc, x, h => h
  | (n, k) :: r, acc, x, h => by
    unfold clOf
    refine clOf_keep r _ ?_
    split
    · split
      · rw [List.lookup_cons]
        split
        · exact ⟨_, rfl⟩
        · exact h
      · exact h
    · exact h
theorem clOf_get {cells : List (Str × Addr)} : ∀ (ns : List (Str × NameKind)) (acc : List (Str × Addr)) {x : Str}, (x, NameKind.free) ∈ ns → (∃ c, cells.lookup x = some c) → ∃ c, (clOf cells ns acc).lookup x = some c
  | [], acc, x, h, _ => nomatch h
  | (n, k) :: r, acc, x, h, hc => by
    unfold clOf
    rcases List.mem_cons.mp h with e | h
    · cases e
      obtain ⟨c, hc⟩ := hc
      refine clOf_keep r _ ?_
      simp [hc]
    · exact clOf_get r _ h hc
end L2

namespace L2
open PySem PySem.Spec PyProof.Rows

/-- an untracked object of ours is tracked from now on -/
theorem Inv.track {X : Cx} {pins : List (Addr × Obj)} {σ : St} {H : Hp} {s : Shared} {a : Addr} {o : HO} (I : Inv X pins σ H s) (hn : H a = none) (h0 : X.s₀.heap.objs.size ≤ a) (hL : a ≠ X.env.locals)
    (hc : ∀ x c, X.env.cells.lookup x = some c → c ≠ a) (hp : ∀ p ∈ X.pn ++ pins, p.1 ≠ a) (new : ObjOk X.prog X.w (upd H a o) s.heap a o) : Inv X pins σ (upd H a o) s := by
  have ne : ∀ b u, H b = some u → b ≠ a := fun b u e => ne_of_none e hn
  have q := I.step (g' := s.gens) (d' := s.drawn) (t' := s.toks) (h' := s.heap) (H' := upd H a o) (ch := [a]) (fun b hb => ?_) (fun b ob _ _ _ e _ => e) (fun b ob _ _ _ e _ => ⟨ob.slots, e⟩) (fun b ob hb _ n => ?_)
    (fun b ob _ e => ⟨ob, e⟩) (fun b xs e => by rw [upd_ne (ne b _ e)]; exact e) (fun b ob u e => by rw [upd_ne (ne b _ e)]; exact e) (fun b ps e => ⟨#[], by rw [upd_ne (ne b _ e), e]; simp⟩) (fun m hm => hm) (fun b u e => ?_) I.bare
  · exact q
  · have e : b = a := by simpa using hb
    subst e
    exact ⟨.inr h0, hL, hc, hp⟩
  · rw [upd_ne (fun z => hb (by simp [z]))]; exact n
  · by_cases hb : b = a
    · subst hb; rw [upd_same] at e; cases e; exact new
    · rw [upd_ne hb] at e
      exact (I.hok b u e).stay (fun c v _ q => q) (fun c q => by rw [upd_ne (ne_of_none q hn)]; exact q) fun c xs q => by rw [upd_ne (ne_of_none q hn)]; exact q

/-- the context of a comprehension's block -/
def cxComp (X : Cx) (N' : List Str) (scope : Scope) (C : Addr) (s : Shared) (H : Hp) (fp : List Addr) (xe : Value → Shared → Prop) : Cx :=
  { X with N := N', s₀ := s, H₀ := H, env := compEnvC scope (clOf X.env.cells scope.names []) C X.env, outer := X.stack, ex := fp, fn := fun _ => false, xe := xe }

/-- what is asked of the block's names: ix says where a captured name stands outside -/
structure BlkOk (X : Cx) (N' : List Str) (ix : List (Option Nat)) (scope : Scope) : Prop where
  kind : scope.kind = .function
  nocell : ∀ y ∈ scope.names, y.2 ≠ .cell
  locs : ∀ y ∈ scope.names, y.2 = .local → scope.names.lookup y.1 = some .local
  free : ∀ y ∈ scope.names, y.2 = .free → X.env.kindOf y.1 = some .cell ∨ X.env.kindOf y.1 = some .free
  len : ix.length = N'.length
  cap : ∀ (i j : Nat), ix[i]? = some (some j) → ∃ x, N'[i]? = some x ∧ X.N[j]? = some x ∧ scope.names.lookup x = some .free
def capt (ix : List (Option Nat)) (σ : St) : St := ix.map fun o => o.bind fun j => (σ[j]?).join

theorem relabel_free {env : Env} {x : Str} : ∀ {names : List (Str × NameKind)}, names.lookup x = some .free → (names.map fun (n, k) => if (k == NameKind.free && env.scope.kind == .function && env.kindOf n == some .cell) then (n, NameKind.cell) else (n, k)).lookup x = some .cell ∨ (names.map fun (n, k) => if (k == NameKind.free && env.scope.kind == .function && env.kindOf n == some .cell) then (n, NameKind.cell) else (n, k)).lookup x = some .free
  | [], h => by simp at h
  | (n, k) :: r, h => by
    have ih := @relabel_free env x r
    simp only [List.map_cons]
    cases hx : x == n with
    | true =>
      simp only [List.lookup_cons, hx] at h
      cases h
      by_cases hc : (NameKind.free == NameKind.free && env.scope.kind == .function && env.kindOf n == some .cell) = true
      · rw [if_pos hc]; left; simp [List.lookup_cons, hx]
      · rw [if_neg hc]; right; simp [List.lookup_cons, hx]
    | false =>
      simp only [List.lookup_cons, hx] at h
      by_cases hc : (k == NameKind.free && env.scope.kind == .function && env.kindOf n == some .cell) = true
      · rw [if_pos hc]; simp only [List.lookup_cons, hx]; exact ih h
      · rw [if_neg hc]; simp only [List.lookup_cons, hx]; exact ih h
theorem relabel_back {env : Env} {x : Str} : ∀ {names : List (Str × NameKind)}, (∀ y ∈ names, y.2 ≠ .cell) → ((names.map fun (n, k) => if (k == NameKind.free && env.scope.kind == .function && env.kindOf n == some .cell) then (n, NameKind.cell) else (n, k)).lookup x = some .cell ∨ (names.map fun (n, k) => if (k == NameKind.free && env.scope.kind == .function && env.kindOf n == some .cell) then (n, NameKind.cell) else (n, k)).lookup x = some .free) → (x, NameKind.free) ∈ names
  | [], _, h => by simp at h
  | (n, k) :: r, hn, h => by
    have ih := @relabel_back env x r fun y hy => hn y (List.mem_cons_of_mem _ hy)
    simp only [List.map_cons] at h
    cases hx : x == n with
    | true =>
      have e : x = n := by simpa using hx
      subst e
      have hk := hn (x, k) List.mem_cons_self
      by_cases hc : (k == NameKind.free && env.scope.kind == .function && env.kindOf x == some .cell) = true
      · have hf : k = .free := by
          simp only [Bool.and_eq_true, beq_iff_eq] at hc
          exact hc.1.1
        subst hf
        exact List.mem_cons_self
      · rw [if_neg hc] at h
        simp only [List.lookup_cons, hx] at h
        rcases h with h | h
        · exact absurd (Option.some.inj h) hk
        · have hf : k = .free := Option.some.inj h
          subst hf
          exact List.mem_cons_self
    | false =>
      refine List.mem_cons_of_mem _ (ih ?_)
      by_cases hc : (k == NameKind.free && env.scope.kind == .function && env.kindOf n == some .cell) = true
      · rw [if_pos hc] at h; simpa only [List.lookup_cons, hx] using h
      · rw [if_neg hc] at h; simpa only [List.lookup_cons, hx] using h

theorem capt_cell {X : Cx} {pins : List (Addr × Obj)} {σ : St} {H : Hp} {s : Shared} {N' : List Str} {ix : List (Option Nat)} {scope : Scope} {i : Nat} {x : Str} {v : V} (B : BlkOk X N' ix scope) (I : Inv X pins σ H s)
    (h1 : N'[i]? = some x) (h2 : (capt ix σ)[i]? = some (some v)) : ∃ u c, RelV v u ∧ (clOf X.env.cells scope.names []).lookup x = some c ∧ X.env.cells.lookup x = some c ∧ s.heap.IsCell c (some u) ∧
      ((relabel scope X.env).names.lookup x = some .cell ∨ (relabel scope X.env).names.lookup x = some .free) := by
  have clB : ∀ x c, (clOf X.env.cells scope.names []).lookup x = some c → X.env.cells.lookup x = some c := fun x c h => clOf_has scope.names [] (fun _ _ z => by simp at z) h
  obtain ⟨j, hj, hv⟩ : ∃ j, ix[i]? = some (some j) ∧ σ[j]? = some (some v) := by
    unfold capt at h2
    rw [List.getElem?_map] at h2
    cases e : ix[i]? with
    | none => rw [e] at h2; cases h2
    | some o =>
      rw [e] at h2
      cases o with
      | none => cases h2
      | some j =>
        refine ⟨j, rfl, ?_⟩
        have h2' : (σ[j]?).join = some v := Option.some.inj h2
        cases e2 : σ[j]? with
        | none => rw [e2] at h2'; cases h2'
        | some o2 => rw [e2] at h2'; have : o2 = some v := h2'; rw [this]
  obtain ⟨x', hx1, hx2, hx3⟩ := B.cap i j hj
  have exx : x' = x := by
    have h1' : N'[i]? = some x := h1
    rw [hx1] at h1'; exact Option.some.inj h1'
  subst exx
  have hmem := PySem.mem_of_lookup hx3
  have hout := B.free _ hmem rfl
  obtain ⟨m0, _, hl⟩ := I.loc
  obtain ⟨u, r, l⟩ := hl j x' v hx2 hv (by
    rcases hout with e | e
    · exact .inr (.inl e)
    · exact .inr (.inr e))
  rcases l with ⟨k, _⟩ | ⟨k, c, e, z⟩
  · rcases hout with e | e
    · rw [e] at k; cases k
    · rw [e] at k; cases k
  · obtain ⟨c', hc'⟩ := clOf_get scope.names [] hmem (I.ok.has x' hout)
    have := clB x' c' hc'
    rw [e] at this; cases this
    exact ⟨u, c, r, hc', e, z, relabel_free hx3⟩

theorem inv_block {X : Cx} {pins : List (Addr × Obj)} {σ : St} {H : Hp} {s s4 : Shared} {N' : List Str} {ix : List (Option Nat)} {scope : Scope} {C : Addr} {fp : List Addr} {xe : Value → Shared → Prop} {m : Str → Option Value}
    (B : BlkOk X N' ix scope) (I : Inv X pins σ H s) (hf : ∀ b ∈ fp, FpOk X pins H b) (hC : s.heap.objs.size ≤ C) (hfs : ∀ b ∈ fp, b < s.heap.objs.size)
    (ho : s4.os = s.os) (hg : s4.gens = s.gens) (hk : ∀ b o, s.heap.get? b = some o → s4.heap.get? b = some o) (hns : s4.heap.Ns C m) :
    Inv (cxComp X N' scope C s H fp xe) pins (capt ix σ) H s4 := by
  have clB : ∀ x c, (clOf X.env.cells scope.names []).lookup x = some c → X.env.cells.lookup x = some c := fun x c h => clOf_has scope.names [] (fun _ _ z => by simp at z) h
  have hfree : H C = none := I.hok.fresh hC
  have neC : ∀ b o, s.heap.get? b = some o → b ≠ C := fun b o e => Nat.ne_of_lt (Nat.lt_of_lt_of_le (Heap.lt_size e) hC)
  refine ⟨⟨I.ok.mod, B.kind, I.ok.glob, I.ok.blt, hC, fun x y c h1 h2 => I.ok.inj x y c (clB x c h1) (clB y c h2), fun x hx => ?_, fun x c h => absurd (show false = true from h) Bool.false_ne_true, I.ok.hd, I.ok.frames, .inl rfl, fun b hb => ⟨?_, fun x c e => ?_⟩, I.bs, ?_, fun b o e hb => ?_, fun b hb z => ?_, I.stack, I.stkFree⟩,
    ho, ?_, Un.kept hk, ⟨m, hns, fun i x v h1 h2 h3 => ?_⟩, fun x c e => ?_, hfree, fun x c e => I.freeC x c (clB x c e), fun p hp => ?_, I.hok.kept hk, ?_⟩
  · have hx' := relabel_back (env := X.env) (x := x) B.nocell hx
    exact clOf_get scope.names [] hx' (I.ok.has x (B.free _ hx' rfl))
  · exact Nat.ne_of_lt (Nat.lt_of_lt_of_le (hfs b hb) hC)
  · exact (hf b hb).2.2.2.2.1 x c (clB x c e)
  · exact Nat.le_trans I.ok.bsz I.sz
  · obtain ⟨_, _, _, q, _⟩ := hf b hb
    rcases q with q | q
    · exact I.ok.noex b o e q
    · exact absurd (Nat.lt_of_lt_of_le (Heap.lt_size (I.ok.bs b o e).1) q) (Nat.lt_irrefl _)
  · obtain ⟨_, q1, q2, _⟩ := hf b hb
    rcases List.mem_cons.mp (I.stkSub b z) with e | e
    · exact q1 e
    · exact q2 e
  · rw [hg]; exact I.bare
  · obtain ⟨u, c, r, hc1, _, ⟨oc, z1, z2⟩, hk'⟩ := capt_cell B I h1 h2
    exact ⟨u, r, .inr ⟨hk', c, hc1, oc, hk _ _ z1, z2⟩⟩
  · obtain ⟨v, oc, h1, h2⟩ := I.cell x c (clB x c e)
    exact ⟨v, oc, hk _ _ h1, h2⟩
  · obtain ⟨e, n, ne, nf, d⟩ := I.pin p hp
    refine ⟨hk _ _ e, n, neC _ _ e, fun z => ?_, d⟩
    rcases List.mem_cons.mp (I.stkSub p.1 z) with e' | e'
    · exact ne e'
    · exact nf e'
  · show (ix.map _).length = N'.length
    rw [List.length_map]; exact B.len
end L2

namespace L2
open PySem PySem.Spec PyProof.Rows

theorem compLoop_go {prog : Program} {w : World} {A : Around} {R : Result → Shared → Prop} {s : Shared} {elt target iter : Expr} {ifs : List Expr} {scope : Scope} {pos : Pos} {it acc : Value} {env : Env} (Iv : Nat → Shared → Prop)
    (turn : ∀ n s, Iv n s → wpAny (model prog w) A (pyNext it) (fun r s₁ => match r with
      | none => R (.ok .next) s₁
      | some v => wpAny (model prog w) A (letOwnedTupleGo target it v) (fun _ s₁' => wpAny (model prog w) A (assign target env v) (fun _ s₂ =>
          wpAny (model prog w) A (forIn ifs true fun c r => if r = true then do let ok ← isTrue c env (eval c env); pure (ForInStep.yield ok) else pure (ForInStep.yield r)) (fun ok s₃ =>
            if ok = true then wpAny (model prog w) A (eval elt env) (fun x s₄ =>
              wpAny (model prog w) A (call (.builtin "list.append") [acc, x]) (fun _ s₅ => ∃ m, m < n ∧ Iv m s₅) (notedBy (model prog w) A env fun e s' => R (.error e) s') s₄) (notedBy (model prog w) A env fun e s' => R (.error e) s') s₃
            else ∃ m, m < n ∧ Iv m s₃) (notedBy (model prog w) A env fun e s' => R (.error e) s') s₂) (notedBy (model prog w) A env fun e s' => R (.error e) s') s₁') (notedBy (model prog w) A env fun e s' => R (.error e) s') s₁) (notedBy (model prog w) A env fun e s' => R (.error e) s') s)
    (n : Nat) (h : Iv n s) :
    codeAny (model prog w) A (.compLoop (.ListComp elt [⟨target, iter, ifs, 0⟩] scope pos) 0 it acc env) R s := by
  refine codeAny_loop rfl Iv (fun n s hI => ?_) n h
  show wpAny _ A ((compTurn (.ListComp elt [⟨target, iter, ifs, 0⟩] scope pos) 0 it acc env).onRaise (fun x => do noteFrame x env; theTreesLotGoes x)) _ _ s
  refine wpAny_noted ?_
  rw [compTurn_list]
  refine wpAny_bind (wpAny_standAt (wpAny_bind (wpAny_mono (turn n s hI) (fun r s₁ h₁ => ?_) fun _ _ h' => h')))
  cases r with
  | none => exact wpAny_pure h₁
  | some v =>
    refine wpAny_bind (wpAny_mono h₁ (fun _ s₁' h₁' => ?_) fun _ _ h' => h')
    refine wpAny_bind (wpAny_mono h₁' (fun _ s₂ h₂ => wpAny_bind (wpAny_mono h₂ (fun ok s₃ h₃ => ?_) fun _ _ h' => h')) fun _ _ h' => h')
    cases ok with
    | false => exact wpAny_pure ⟨rfl, h₃⟩
    | true =>
      exact wpAny_bind (wpAny_bind (wpAny_mono h₃ (fun x s₄ h₄ => wpAny_bind (wpAny_mono h₄ (fun _ s₅ h₅ => wpAny_pure (wpAny_pure ⟨rfl, h₅⟩)) fun _ _ h' => h')) fun _ _ h' => h'))

/-- the tests of a comprehension's clause -/
def PTs (X : Cx) (ifs : List Expr) (t : TT) : Prop :=
  ∀ (pins : List (Addr × Obj)) (s : Shared) (σ : St) (H : Hp) (Q : Bool → Hp → Prop), Inv X pins σ H s → t σ H Q →
    wpAny (model X.prog X.w) X.A (forIn ifs true fun c r => if r = true then do let ok ← isTrue c X.env (eval c X.env); pure (ForInStep.yield ok) else pure (ForInStep.yield r)) (TP X pins σ Q) X.xe s
def tTrue : TT := fun _ H Q => Q true H
theorem pts_nil {X : Cx} : PTs X [] tTrue := fun _ _ _ H _ I h => wpAny_tests_nil ⟨H, I, h⟩
theorem pts_one {X : Cx} {c : Expr} {t : TT} (h : PT X c t) : PTs X [c] t := fun pins s σ H Q I hw => wpAny_tests_one (h pins s σ H Q I hw)

/-- the turns of a comprehension's block -/
def LcGoal (ix : List (Option Nat)) (g : TG) (tt : TT) (te : TE) (σ : St) (H1 : Hp) (Q : VK) (J : It) : Prop := ∃ W : Nat → Nat → List V → Hp → Prop, (∃ m, W 0 m [] H1) ∧ ∀ i m ys H, W i m ys H →
  (J.stop i H ∧ ys.length ≤ sizeLine ∧ ∀ p, H p = none → Q (.ref p) (upd H p (.lst ys))) ∨
  (J.go i H ∧ ys.length ≤ sizeLine ∧ ∃ N : List V → Hp → Prop, (∀ ys' H', N ys' H' → ∃ m', m' < m ∧ W (i + 1) m' ys' H') ∧ ∀ x H', J.yld i H x H' → g x (capt ix σ) H' fun σ2 H2 => tt σ2 H2 fun b H3 => if b = true then te σ2 H3 fun v H4 => N (ys ++ [v]) H4 else N ys H3)
def tLC (ix : List (Option Nat)) (wi : TI) (g : TG) (tt : TT) (te : TE) : TE := fun σ H Q => wi σ H fun J H1 => LcGoal ix g tt te σ H1 Q J

section
variable {X : Cx} {elt tg iter : Expr} {ifs : List Expr} {scope : Scope} {pos : Pos} {N' : List Str} {ix : List (Option Nat)} {wi : TI} {g : TG} {tt : TT} {te : TE}

/-- the loop's end, by what is wanted -/
theorem lc_run (B : BlkOk X N' ix scope) (hc : X.calm = true)
    (hg : ∀ C s H fp xe, PG (cxComp X N' scope C s H fp xe) tg g) (ht : ∀ C s H fp xe, PTs (cxComp X N' scope C s H fp xe) ifs tt) (he : ∀ C s H fp xe, PE (cxComp X N' scope C s H fp xe) elt te)
    {pins : List (Addr × Obj)} {s2 : Shared} {σ : St} {H2 : Hp} {Q : VK} {it : Addr} {fp : List Addr} {tn : Nat → Heap → Prop} {J : It} {RR : Value → Addr → Result → Shared → Prop} {E : Value → Shared → Prop}
    (I2 : Inv X pins σ H2 s2) (T : Turn X.prog X.w X.K tg J fp it tn) (st2 : tn 0 s2.heap) (f2 : ∀ b ∈ fp, FpOk X pins H2 b)
    (q : ∃ W : Nat → Nat → List V → Hp → Prop, (∃ m, W 0 m [] H2) ∧ ∀ i m ys H, W i m ys H →
      (J.stop i H ∧ ys.length ≤ sizeLine ∧ ∀ p, H p = none → Q (.ref p) (upd H p (.lst ys))) ∨
      (J.go i H ∧ ys.length ≤ sizeLine ∧ ∃ N : List V → Hp → Prop, (∀ ys' H', N ys' H' → ∃ m', m' < m ∧ W (i + 1) m' ys' H') ∧ ∀ x H', J.yld i H x H' → g x (capt ix σ) H' fun σ2 H2 => tt σ2 H2 fun b H3 => if b = true then te σ2 H3 fun v H4 => N (ys ++ [v]) H4 else N ys H3))
    (hRR : ∀ D C s' H' ys, Inv X pins σ (upd H' D (.lst ys)) s' → H' D = none → Q (.ref D) (upd H' D (.lst ys)) → (∃ m, s'.heap.Ns C m) → upd H' D (.lst ys) C = none → C ≠ X.env.locals → X.s₀.heap.objs.size ≤ C → (∀ x c, X.env.cells.lookup x = some c → c ≠ C) → (∀ p ∈ X.pn ++ pins, p.1 ≠ C) → RR (.ref D) C (.ok .next) s') :
    wpAny (model X.prog X.w) X.A (newList []) (fun acc s₃ => wpAny (model X.prog X.w) X.A (newFunctionEnv scope X.env.globals (clOf X.env.cells scope.names []) [] X.env.qual none .none (some X.env)) (fun cenv s₄ =>
      codeAny (model X.prog X.w) X.A (.compStart (.ListComp elt [⟨tg, iter, ifs, 0⟩] scope pos) 0 (.ref it) acc { cenv with scope := relabel scope X.env }) (RR acc cenv.locals) s₄) E s₃) E s2 := by
  have hfs : ∀ b ∈ fp, b < s2.heap.objs.size := fun b hb => by
    obtain ⟨o, e, _⟩ := T.obj _ _ st2 b hb
    exact Heap.lt_size e
  refine wpAny_newObj_type (wpAny_newFunctionEnv B.nocell (by intro y hy; simp at hy) (fun h₁ hns₁ hsb₁ => ?_) B.kind)
  dsimp only at hns₁ hsb₁ ⊢
  generalize hH3 : s2.heap.push { cls := .type "list", dict := none, data := .seq ([] : List Value).toArray } = H3 at hns₁ hsb₁ ⊢
  have hC : H3.objs.size = s2.heap.objs.size + 1 := by rw [← hH3, Heap.size_push]
  have hDC : s2.heap.objs.size ≠ H3.objs.size := by rw [hC]; exact Nat.ne_of_lt (Nat.lt_succ_self _)
  have below : ∀ b, b < s2.heap.objs.size → b ≠ H3.objs.size ∧ b ≠ s2.heap.objs.size := fun b hb => ⟨by rw [hC]; exact Nat.ne_of_lt (Nat.lt_succ_of_lt hb), Nat.ne_of_lt hb⟩
  have old : ∀ b o, s2.heap.get? b = some o → h₁.get? b = some o := fun b o e => hsb₁.extBut b o (below b (Heap.lt_size e)).1 (Heap.get?_push_of_some _ (hH3 ▸ Heap.get?_push_of_some _ e))
  have hacc : h₁.get? s2.heap.objs.size = some { cls := .type "list", data := .seq ([] : List Value).toArray 0 } := hsb₁.extBut _ _ hDC (Heap.get?_push_of_some _ (hH3 ▸ Heap.get?_push_size _ rfl))
  have hCle : s2.heap.objs.size ≤ H3.objs.size := by rw [hC]; exact Nat.le_succ _
  generalize hD : s2.heap.objs.size = D at *
  generalize hCC : H3.objs.size = C at *
  obtain ⟨W, ⟨m0, w0⟩, turn⟩ := q
  let xe : Value → Shared → Prop := notedBy (model X.prog X.w) X.A (compEnvC scope (clOf X.env.cells scope.names []) C X.env) fun e s' => RR (.ref D) C (.error e) s'
  let X' : Cx := cxComp X N' scope C s2 H2 fp xe
  have DL : D ∉ frs X.stack := fun z => by
    rcases List.mem_cons.mp (I2.stkSub D z) with e | e
    · exact absurd I2.lt (by rw [← e, hD]; exact Nat.lt_irrefl _)
    · exact I2.nofs (by rw [hD]; exact Nat.le_refl _) e
  have cellLt : ∀ x c, X.env.cells.lookup x = some c → c < D := fun x c e => by
    obtain ⟨v, oc, h, _⟩ := I2.cell x c e
    rw [← hD]; exact Heap.lt_size h
  have clB : ∀ x c, (clOf X.env.cells scope.names []).lookup x = some c → X.env.cells.lookup x = some c := fun x c h => clOf_has scope.names [] (fun _ _ z => by simp at z) h
  have pinLt : ∀ p ∈ X.pn ++ pins, p.1 < D := fun p hp => by rw [← hD]; exact Heap.lt_size (I2.pin p hp).1
  have fpX : ∀ {pl : List (Addr × Obj)} {H' : Hp}, (∀ b ∈ fp, H' b = none) → (∀ p ∈ pl, p ∈ pins ∨ p.1 = D) → ∀ b ∈ fp, FpOk X' pl H' b := fun {pl H'} hn hpl b hb => by
    obtain ⟨_, q1, q2, q3, q4, q5⟩ := f2 b hb
    refine ⟨hn b hb, (below b (hfs b hb)).1, fun z => ?_, .inl hb, fun x c e => q4 x c (clB x c e), fun p hp => ?_⟩
    · rcases List.mem_cons.mp (I2.stkSub b z) with e | e
      · exact q1 e
      · exact q2 e
    · rcases List.mem_append.mp hp with hp | hp
      · exact q5 p (List.mem_append_left _ hp)
      · rcases hpl p hp with z | z
        · exact q5 p (List.mem_append_right _ z)
        · rw [z]; exact Ne.symm (below b (hfs b hb)).2
  have loop : ∀ s₃ : Shared, s₃ = { s2 with heap := h₁, toks := s2.toks + ([] : List (Str × Value)).length } →
      codeAny (model X.prog X.w) X.A (.compLoop (.ListComp elt [⟨tg, iter, ifs, 0⟩] scope pos) 0 (.ref it) (.ref D) (compEnvC scope (clOf X.env.cells scope.names []) C X.env)) (RR (.ref D) C) s₃ := by
    rintro s₃ rfl
    refine compLoop_go (fun n s' => ∃ i H' ys its k, Inv X' pins (capt ix σ) H' s' ∧ tn i s'.heap ∧ (∀ b ∈ fp, H' b = none) ∧ H' D = none ∧ s'.heap.get? D = some { cls := .type "list", data := .seq (List.toArray its) k } ∧ Vals ys its ∧ W i n ys H') ?_ m0
      ⟨0, H2, [], [], 0, inv_block B I2 f2 (by rw [hD]; exact hCle) (fun b hb => by rw [hD]; exact hfs b hb) rfl rfl old hns₁, T.keep _ _ _ st2 fun b _ o e => old b o e, fun b hb => (f2 b hb).1, I2.hok.fresh (by rw [hD]; exact Nat.le_refl _), hacc, .nil, w0⟩
    rintro n s' ⟨i, H', ys, its, k, I', st', fr', hDn, hDo, rv, w'⟩
    have hDX : ∀ v, ({ cls := .type "list", data := .seq (List.toArray its) k } : Obj).data ≠ .cell v := fun v z => by
      have z' : Data.seq (List.toArray its) k = Data.cell v := z
      cases z'
    have pinD : ∀ {σ' : St} {H'' : Hp} {s'' : Shared} {its' : List Value} {k' : Nat}, Inv X' pins σ' H'' s'' → H'' D = none → s''.heap.get? D = some { cls := .type "list", data := .seq (List.toArray its') k' } → Inv X' (pins ++ [(D, { cls := .type "list", data := .seq (List.toArray its') k' })]) σ' H'' s'' := fun {σ' H'' s'' its' k'} J hn ho =>
      J.pins_of fun p hp => (List.mem_append.mp hp).elim (fun z => J.pin p (List.mem_append_right _ z)) fun z => by
        have e : p = (D, { cls := .type "list", data := .seq (List.toArray its') k' }) := by simpa using z
        subst e
        exact ⟨ho, hn, hDC, DL, fun v z => by
          have z' : Data.seq (List.toArray its') k' = Data.cell v := z
          cases z'⟩
    have plD : ∀ {its' : List Value} {k' : Nat}, ∀ p ∈ pins ++ [(D, ({ cls := .type "list", data := .seq (List.toArray its') k' } : Obj))], p ∈ pins ∨ p.1 = D := fun {its' k'} p hp => (List.mem_append.mp hp).elim .inl fun z => by
      have e : p = (D, { cls := .type "list", data := .seq (List.toArray its') k' }) := by simpa using z
      subst e
      exact .inr rfl
    have unD : ∀ {pl : List (Addr × Obj)} {σ' : St} {H'' : Hp} {s'' : Shared}, Inv X' (pins ++ pl) σ' H'' s'' → Inv X' pins σ' H'' s'' := fun J => J.pins_of fun p hp => J.pin p (List.mem_append_right _ (List.mem_append_left _ hp))
    have I'p := pinD I' hDn hDo
    rcases turn i n ys H' w' with ⟨stop, hsz, fin⟩ | ⟨go, hsz, N, hN, step⟩
    · refine wpAny_mono (T.done X' rfl rfl rfl hc i _ s' (capt ix σ) H' X'.xe I'p (fpX fr' plD) st' stop) (fun r s5 ⟨hr, I5⟩ => ?_) fun _ _ z => z
      subst hr
      have hDo5 : s5.heap.get? D = some { cls := .type "list", data := .seq (List.toArray its) k } := (I5.pin (D, _) (List.mem_append_right _ (List.mem_append_right _ (List.mem_singleton.mpr rfl)))).1
      have sz0 : X.s₀.heap.objs.size ≤ D := by rw [← hD]; exact I2.sz
      have J : Inv X pins σ H' s5 := I2.call' (ch := fp) I5.os I5.base I5.hok I5.bare fun b hb => by
        obtain ⟨_, q1, _, q3, q4, q5⟩ := f2 b hb
        exact ⟨q3, q1, q4, q5⟩
      have nL : X.env.locals < D := by rw [← hD]; exact I2.lt
      have J2 : Inv X pins σ (upd H' D (.lst ys)) s5 := Inv.track J hDn sz0 (Nat.ne_of_gt nL) (fun x c e => Nat.ne_of_lt (cellLt x c e)) (fun p hp => Nat.ne_of_lt (pinLt p hp)) ⟨hsz, its, k, rv, hDo5⟩
      obtain ⟨mC, hnC, _⟩ := I5.loc
      have DltC : D < C := Nat.lt_of_le_of_ne hCle hDC
      refine hRR D C s5 H' ys J2 hDn (fin D hDn) ⟨mC, hnC⟩ ?_ (Nat.ne_of_gt (Nat.lt_trans nL DltC)) (Nat.le_trans sz0 hCle) (fun x c e => Nat.ne_of_lt (Nat.lt_trans (cellLt x c e) DltC)) fun p hp => Nat.ne_of_lt (Nat.lt_trans (pinLt p hp) DltC)
      rw [upd_ne (Ne.symm hDC)]
      exact I5.free
    · refine wpAny_mono (T.item X' rfl rfl rfl hc i _ s' (capt ix σ) H' X'.xe I'p (fpX fr' plD) st' go) (fun r s5 ⟨u, hr, h5⟩ => ?_) fun _ _ z => z
      subst hr
      refine wpAny_mono h5 (fun _ s6 ⟨x, H6, I6, r6, y6, st6, fr6⟩ => ?_) fun _ _ z => z
      have I6' := I6.pinned (fpX fr6 plD) (T.obj _ _ st6)
      refine wpAny_mono (hg C s2 H2 fp xe _ s6 (capt ix σ) H6 x u _ I6' r6 (step x H6 y6)) (fun _ s7 ⟨σ7, H7, I7, q7⟩ => ?_) fun _ _ z => z
      have after : ∀ {σ8 : St} {H8 : Hp} {s8 : Shared}, Inv X' ((pins ++ [(D, { cls := .type "list", data := .seq (List.toArray its) k })]) ++ pinsAt fp s6.heap) σ8 H8 s8 →
          Inv X' pins (capt ix σ) H8 s8 ∧ tn (i + 1) s8.heap ∧ (∀ b ∈ fp, H8 b = none) ∧ H8 D = none ∧ s8.heap.get? D = some { cls := .type "list", data := .seq (List.toArray its) k } := fun {σ8 H8 s8} I8 => by
        have pD := I8.pin (D, { cls := .type "list", data := .seq (List.toArray its) k }) (List.mem_append_right _ (List.mem_append_left _ (List.mem_append_right _ (List.mem_singleton.mpr rfl))))
        have fpP : ∀ b ∈ fp, ∀ o, s6.heap.get? b = some o → s8.heap.get? b = some o ∧ H8 b = none := fun b hb o e => by
          have z := I8.pin (b, o) (List.mem_append_right _ (List.mem_append_right _ (mem_pinsAt hb e)))
          exact ⟨z.1, z.2.1⟩
        refine ⟨⟨I8.ok, I8.os, I8.bare, I8.base, ?_, I8.cell, I8.free, I8.freeC, fun p hp => ?_, I8.hok, ?_⟩, T.keep _ _ _ st6 fun b hb o e => (fpP b hb o e).1, fun b hb => ?_, pD.2.1, pD.1⟩
        · obtain ⟨m8, hn8, _⟩ := I8.loc
          refine ⟨m8, hn8, fun i x v h1 h2 h3 => ?_⟩
          obtain ⟨u, c, r, hc1, hc2, ⟨oc, z1, z2⟩, hk'⟩ := capt_cell B I2 h1 h2
          obtain ⟨sl, e8⟩ := I8.base.any z1 (I2.freeC x c hc2) fun z => (f2 c z).2.2.2.2.1 x c hc2 rfl
          exact ⟨u, r, .inr ⟨hk', c, hc1, _, e8, z2⟩⟩
        · rcases List.mem_append.mp hp with hp | hp
          · exact I8.pin p (List.mem_append_left _ hp)
          · exact I8.pin p (List.mem_append_right _ (List.mem_append_left _ (List.mem_append_left _ hp)))
        · show (capt ix σ).length = N'.length
          unfold capt
          rw [List.length_map]; exact B.len
        · obtain ⟨o, e, _⟩ := T.obj _ _ st6 b hb
          exact (fpP b hb o e).2
      refine wpAny_mono (ht C s2 H2 fp xe _ s7 σ7 H7 _ I7 q7) (fun b s8 ⟨H8, I8, q8⟩ => ?_) fun _ _ z => z
      cases b with
      | false =>
        rw [if_neg Bool.false_ne_true] at q8 ⊢
        obtain ⟨m', hm, w8⟩ := hN _ _ q8
        obtain ⟨J, tn8, f8, d8, o8⟩ := after I8
        exact ⟨m', hm, i + 1, H8, ys, its, k, J, tn8, f8, d8, o8, rv, w8⟩
      | true =>
        rw [if_pos rfl] at q8 ⊢
        refine wpAny_mono (he C s2 H2 fp xe _ s8 σ7 H8 _ I8 q8) (fun v s9 ⟨y, H9, I9, r9, q9⟩ => ?_) fun _ _ z => z
        obtain ⟨J, tn9, f9, d9, o9⟩ := after I9
        obtain ⟨m', hm, w9⟩ := hN _ _ q9
        refine append_at (hsz := by rw [List.size_toArray, ← rv.length]; exact hsz) o9 fun h10 hs10 hD10 => ?_
        refine ⟨m', hm, i + 1, H9, ys ++ [y], its ++ [v], k + 1, ?_, T.keep _ _ _ tn9 fun b hb o e => hs10.extBut b o (fun z => ?_) e, f9, d9, by rw [List.push_toArray] at hD10; exact hD10, rv.append (.cons r9 .nil), w9⟩
        · refine J.turned (t' := s9.toks) (it := D) (fun b o hb e => hs10.extBut b o hb e) d9 hDC (.inr (by show s2.heap.objs.size ≤ D; rw [hD]; exact Nat.le_refl _)) (fun x c e => Nat.ne_of_lt (cellLt x c (clB x c e))) fun p hp => Nat.ne_of_lt (pinLt p hp)
        · exact (below b (hfs b hb)).2 z
  exact codeAny_compStart_list (loop _ rfl) (T.self X.A 0 _ _ _ (T.keep _ _ _ st2 fun b _ o e => old b o e) (loop _ rfl))
end
end L2

namespace L2
open PySem PySem.Spec PyProof.Rows

/-- the block's names, checked -/
def blkCheck (outer : Scope) (N N' : List Str) (ix : List (Option Nat)) (scope : Scope) : Bool :=
  (scope.kind == .function) && (scope.names.all fun y => y.2 != .cell) && (scope.names.all fun y => y.2 != .local || scope.names.lookup y.1 == some .local) &&
  (scope.names.all fun y => y.2 != .free || outer.names.lookup y.1 == some .cell || outer.names.lookup y.1 == some .free) && (ix.length == N'.length) &&
  (List.range ix.length).all fun i => match ix[i]? with
    | some (some j) => (match N'[i]? with | some x => N[j]? == some x && scope.names.lookup x == some .free | none => false)
    | _ => true
theorem blk_of {X : Cx} {N' : List Str} {ix : List (Option Nat)} {scope : Scope} (h : blkCheck X.env.scope X.N N' ix scope = true) : BlkOk X N' ix scope := by
  unfold blkCheck at h
  simp only [Bool.and_eq_true] at h
  obtain ⟨⟨⟨⟨⟨h1, h2⟩, h3⟩, h4⟩, h5⟩, h6⟩ := h
  refine ⟨?_, fun y hy => ?_, fun y hy hl => ?_, fun y hy hl => ?_, by simpa using h5, fun i j e => ?_⟩
  · simpa using h1
  · have := List.all_eq_true.mp h2 y hy
    simpa using this
  · have := List.all_eq_true.mp h3 y hy
    rw [hl] at this
    simpa using this
  · have := List.all_eq_true.mp h4 y hy
    rw [hl] at this
    simp at this
    exact this
  · have hi : i < ix.length := (List.getElem?_eq_some_iff.mp e).1
    have := List.all_eq_true.mp h6 i (List.mem_range.mpr hi)
    rw [e] at this
    simp only at this
    cases q : N'[i]? with
    | none => rw [q] at this; simp at this
    | some x =>
      rw [q] at this
      simp at this
      exact ⟨x, rfl, this.1, this.2⟩

section
variable {X : Cx} {elt tg iter : Expr} {ifs : List Expr} {scope : Scope} {pos : Pos} {N' : List Str} {ix : List (Option Nat)} {wi : TI} {g : TG} {tt : TT} {te : TE}
theorem pe_lc (N' : List Str) (ix : List (Option Nat)) (hB : blkCheck X.env.scope X.N N' ix scope = true) (hc : X.calm = true) (hi : PI X tg iter wi)
    (hg : ∀ C s H fp xe, PG (cxComp X N' scope C s H fp xe) tg g) (ht : ∀ C s H fp xe, PTs (cxComp X N' scope C s H fp xe) ifs tt) (he : ∀ C s H fp xe, PE (cxComp X N' scope C s H fp xe) elt te)
    (hs : ∀ x, foldedSetIterable iter X.env x = pure x := by intro _; rfl) : PE X (.ListComp elt [⟨tg, iter, ifs, 0⟩] scope pos) (tLC ix wi g tt te) := by
  intro pins s σ H Q I h
  have B := blk_of hB
  rw [eval_ListComp]
  refine wpAny_comprehension_free (use := none) rfl hs (closure_is fun y hy hf => I.ok.has y.1 (B.free y hy hf)) B.kind B.locs (thn (hi pins s σ H _ I h) fun v s1 h1 => thn h1 fun itv s2 h2 => ?_)
  obtain ⟨it, fp, tn, J, H2, e, I2, T, st2, f2, q⟩ := h2
  subst e
  refine lc_run B hc hg ht he I2 T st2 f2 q ?_
  intro D C s' H' ys J2 hDn hq ⟨m, hn⟩ hC1 hC2 hC3 hC4 hC5
  refine ⟨m, hn, fun h' hs' => ?_⟩
  exact ⟨.ref D, _, J2.turned (t' := s'.toks) (it := C) (fun b o hb e => hs'.extBut b o hb e) hC1 hC2 (.inr hC3) hC4 hC5, rfl, hq⟩
/-- name = [..]: the stores are exchanged -/
theorem ps_setLC {i : Nat} {x : Str} {pos' spos : Pos} (N' : List Str) (ix : List (Option Nat)) (hN : X.N.Nodup) (hi' : X.N[i]? = some x) (hx : X.env.scope.names.lookup x = some .local)
    (hB : blkCheck X.env.scope X.N N' ix scope = true) (hc : X.calm = true) (hi : PI X tg iter wi)
    (hg : ∀ C s H fp xe, PG (cxComp X N' scope C s H fp xe) tg g) (ht : ∀ C s H fp xe, PTs (cxComp X N' scope C s H fp xe) ifs tt) (he : ∀ C s H fp xe, PE (cxComp X N' scope C s H fp xe) elt te)
    (hsw : swapsWith (.ListComp elt [⟨tg, iter, ifs, 0⟩] scope pos) (some (.Name x pos')) spos.line X.env = pure true)
    (hs : ∀ x, foldedSetIterable iter X.env x = pure x := by intro _; rfl) : PS X (.Assign [.Name x pos'] (.ListComp elt [⟨tg, iter, ifs, 0⟩] scope pos) spos) (tAsg (tLC ix wi g tt te) (gName i)) := by
  intro pins s σ H D0 I h
  have B := blk_of hB
  rw [exec_Assign_Name_used _ _ _ _ hsw]
  refine wpAny_bind (wpAny_standAt (wpAny_bind ?_))
  show wpAny _ X.A (do let _ ← comprehension (.ListComp elt [⟨tg, iter, ifs, 0⟩] scope pos) scope X.env _ (newList []) false (eval iter X.env) (some (assign (.Name x pos') X.env))) _ _ s
  refine wpAny_bind (wpAny_mono (wpAny_comprehension_free (use := some (assign (.Name x pos') X.env)) (Q := fun _ s' => SP X pins D0 .next s') rfl hs (closure_is fun y hy hf => I.ok.has y.1 (B.free y hy hf)) B.kind B.locs
    (thn (hi pins s σ H _ I h) fun v s1 h1 => thn h1 fun itv s2 h2 => ?_)) (fun _ s' hq => wpAny_pure (wpAny_pure hq)) fun _ _ e => e)
  obtain ⟨it, fp, tn, J, H2, e, I2, T, st2, f2, q⟩ := h2
  subst e
  refine lc_run (Q := fun x H1 => gName i x σ H1 D0.nx) B hc hg ht he I2 T st2 f2 q ?_
  intro D C s' H' ys J2 hDn hq ⟨m, hn⟩ hC1 hC2 hC3 hC4 hC5
  show wpAny _ X.A (assign (.Name x pos') X.env (.ref D)) _ _ _
  refine wpAny_assign_Name (store_ok2 (v := .ref D) J2 hN hi' (.inl hx) rfl (fun s'' I'' hsb => ?_) (.inr hx))
  obtain ⟨a, hsb, ha⟩ := hsb
  have aC : C ≠ a := by
    rcases ha with rfl | ha
    · exact hC2
    · exact fun z => hC4 x a ha z.symm
  refine ⟨m, hn.sameBut hsb aC, fun h'' hs'' => ?_⟩
  exact ⟨_, _, I''.turned (t' := s''.toks) (it := C) (fun b o hb e => hs''.extBut b o hb e) hC1 hC2 (.inr hC3) hC4 hC5, hq⟩
end

/-! ### the forms one uses: over a list that the block leaves as it is; over a range -/
section
variable {K : PySem.W.Frag} {a : Addr} {xs : List V} {ix : List (Option Nat)} {g : TG} {tt : TT} {te : TE} {σ : St} {H1 : Hp} {Q : VK}
theorem lc_list (Pv : Nat → List V → Hp → Prop) (h0 : Pv 0 [] H1) (hl : ∀ i ys H, i ≤ xs.length → Pv i ys H → SqL K H a xs ∧ ys.length ≤ sizeLine)
    (hs : ∀ i x ys H, xs[i]? = some x → Pv i ys H → g x (capt ix σ) H fun σ2 H2 => tt σ2 H2 fun b H3 => if b = true then te σ2 H3 fun v H4 => Pv (i + 1) (ys ++ [v]) H4 else Pv (i + 1) ys H3)
    (hd : ∀ ys H, Pv xs.length ys H → ∀ p, H p = none → Q (.ref p) (upd H p (.lst ys))) : LcGoal ix g tt te σ H1 Q (Itl K a) := by
  refine ⟨fun i m ys H => m = xs.length - i ∧ i ≤ xs.length ∧ Pv i ys H, ⟨xs.length, by simp, Nat.zero_le _, h0⟩, ?_⟩
  rintro i m ys H ⟨rfl, hi, p⟩
  obtain ⟨q, z⟩ := hl i ys H hi p
  by_cases hlt : i < xs.length
  · refine .inr ⟨⟨xs, xs[i], q, by simp [hlt]⟩, z, Pv (i + 1), fun ys' H' p' => ⟨xs.length - (i + 1), by omega, rfl, hlt, p'⟩, fun x H' y => ?_⟩
    obtain ⟨e, y⟩ := y
    subst e
    exact hs i x ys _ (y xs q) p
  · have e : i = xs.length := by omega
    subst e
    exact .inl ⟨⟨xs, q, Nat.le_refl _⟩, z, hd ys H p⟩
theorem lc_range {lo : Int} {n : Nat} (Pv : Nat → List V → Hp → Prop) (h0 : Pv 0 [] H1) (hl : ∀ i ys H, i ≤ n → Pv i ys H → ys.length ≤ sizeLine)
    (hs : ∀ i ys H, i < n → Pv i ys H → g (.int (lo + i)) (capt ix σ) H fun σ2 H2 => tt σ2 H2 fun b H3 => if b = true then te σ2 H3 fun v H4 => Pv (i + 1) (ys ++ [v]) H4 else Pv (i + 1) ys H3)
    (hd : ∀ ys H, Pv n ys H → ∀ p, H p = none → Q (.ref p) (upd H p (.lst ys))) : LcGoal ix g tt te σ H1 Q (Itr lo n) := by
  refine ⟨fun i m ys H => m = n - i ∧ i ≤ n ∧ Pv i ys H, ⟨n, by simp, Nat.zero_le _, h0⟩, ?_⟩
  rintro i m ys H ⟨rfl, hi, p⟩
  have z := hl i ys H hi p
  by_cases hlt : i < n
  · refine .inr ⟨hlt, z, Pv (i + 1), fun ys' H' p' => ⟨n - (i + 1), by omega, rfl, hlt, p'⟩, fun x H' y => ?_⟩
    obtain ⟨e, y⟩ := y
    subst e y
    exact hs i ys _ hlt p
  · have e : i = n := by omega
    subst e
    exact .inl ⟨Nat.le_refl _, z, hd ys H p⟩
end
/-- by a function of the item: nothing that was tracked is changed -/
theorem lc_fm {K : PySem.W.Frag} {a : Addr} {xs : List V} {ix : List (Option Nat)} {g : TG} {tt : TT} {te : TE} {σ : St} {H1 : Hp} {Q : VK} (f : V → Option V) (hx : SqL K H1 a xs) (hz : xs.length ≤ sizeLine)
    (hs : ∀ x H (N : Option V → Hp → Prop), x ∈ xs → Same H1 H → (∀ H', Same H1 H' → N (f x) H') → g x (capt ix σ) H fun σ2 H2 => tt σ2 H2 fun b H3 => if b = true then te σ2 H3 fun v H4 => N (some v) H4 else N none H3)
    (hd : ∀ H p, Same H1 H → H p = none → Q (.ref p) (upd H p (.lst (xs.filterMap f)))) : LcGoal ix g tt te σ H1 Q (Itl K a) := by
  refine lc_list (K := K) (a := a) (xs := xs) (fun i ys H => ys = (xs.take i).filterMap f ∧ Same H1 H) ⟨rfl, Same.refl _⟩ (fun i ys H hi ⟨e, s⟩ => ⟨s.seq hx, ?_⟩) (fun i x ys H hi ⟨e, s⟩ => ?_) fun ys H ⟨e, s⟩ p hp => ?_
  · subst e
    refine Nat.le_trans (List.length_filterMap_le _ _) (Nat.le_trans ?_ hz)
    rw [List.length_take]; exact Nat.min_le_right _ _
  · have hm : x ∈ xs := List.mem_of_getElem? hi
    obtain ⟨hil, hix⟩ := List.getElem?_eq_some_iff.mp hi
    have et : xs.take (i + 1) = xs.take i ++ [x] := by rw [List.take_succ_eq_append_getElem hil, hix]
    refine hs x H (fun o H' => match o with | some v => (ys ++ [v] = (xs.take (i + 1)).filterMap f ∧ Same H1 H') | none => (ys = (xs.take (i + 1)).filterMap f ∧ Same H1 H')) hm s fun H' s' => ?_
    cases ef : f x with
    | some v =>
      refine ⟨?_, s'⟩
      rw [e, et, List.filterMap_append]
      simp [ef]
    | none =>
      refine ⟨?_, s'⟩
      rw [e, et, List.filterMap_append]
      simp [ef]
  · subst e
    rw [List.take_length]
    exact hd H p s hp
theorem lc_fmR {lo : Int} {n : Nat} {ix : List (Option Nat)} {g : TG} {tt : TT} {te : TE} {σ : St} {H1 : Hp} {Q : VK} (f : Nat → Option V) (hz : n ≤ sizeLine)
    (hs : ∀ i H (N : Option V → Hp → Prop), i < n → Same H1 H → (∀ H', Same H1 H' → N (f i) H') → g (.int (lo + i)) (capt ix σ) H fun σ2 H2 => tt σ2 H2 fun b H3 => if b = true then te σ2 H3 fun v H4 => N (some v) H4 else N none H3)
    (hd : ∀ H p, Same H1 H → H p = none → Q (.ref p) (upd H p (.lst ((List.range n).filterMap f)))) : LcGoal ix g tt te σ H1 Q (Itr lo n) := by
  refine lc_range (fun i ys H => ys = (List.range i).filterMap f ∧ Same H1 H) ⟨rfl, Same.refl _⟩ (fun i ys H hi ⟨e, s⟩ => ?_) (fun i ys H hi ⟨e, s⟩ => ?_) fun ys H ⟨e, s⟩ p hp => ?_
  · subst e
    refine Nat.le_trans (List.length_filterMap_le _ _) (Nat.le_trans ?_ hz)
    rw [List.length_range]; exact hi
  · refine hs i H (fun o H' => match o with | some v => (ys ++ [v] = (List.range (i + 1)).filterMap f ∧ Same H1 H') | none => (ys = (List.range (i + 1)).filterMap f ∧ Same H1 H')) hi s fun H' s' => ?_
    cases ef : f i with
    | some v =>
      refine ⟨?_, s'⟩
      rw [e, List.range_succ, List.filterMap_append]
      simp [ef]
    | none =>
      refine ⟨?_, s'⟩
      rw [e, List.range_succ, List.filterMap_append]
      simp [ef]
  · subst e
    exact hd H p s hp
end L2

namespace L2
open PySem PySem.Spec PyProof.Rows

/-! ### data, by the abstract heap -/
mutual
inductive IsD (K : PySem.W.Frag) (H : Hp) : V → PyData → Prop
  | non : IsD K H .non .none
  | bl (b : Bool) : IsD K H (.bl b) (.bool b)
  | int (i : Int) : IsD K H (.int i) (.int i)
  | str (x : Str) : IsD K H (.str x) (.str x)
  | lst {a : Addr} {xs : List V} {ds : List PyData} : SqL K H a xs → IsDs K H xs ds → IsD K H (.ref a) (.list ds)
  | tup {a : Addr} {xs : List V} {ds : List PyData} : SqT K H a xs → IsDs K H xs ds → IsD K H (.ref a) (.tuple ds)
inductive IsDs (K : PySem.W.Frag) (H : Hp) : List V → List PyData → Prop
  | nil : IsDs K H [] []
  | cons {x : V} {xs : List V} {d : PyData} {ds : List PyData} : IsD K H x d → IsDs K H xs ds → IsDs K H (x :: xs) (d :: ds)
end
theorem Same.tupq {K : PySem.W.Frag} {H H' : Hp} {a : Addr} {xs : List V} (e : Same H H') (h : SqT K H a xs) : SqT K H' a xs := by
  rcases h with (h | ⟨o, h⟩) | h
  · exact .inl (.inl (e _ _ h))
  · exact .inl (.inr ⟨o, e _ _ h⟩)
  · exact .inr h
mutual
theorem IsD.reads {X : Cx} {pins : List (Addr × Obj)} {σ : St} {H : Hp} {s : Shared} (I : Inv X pins σ H s) : ∀ {v : V} {d : PyData} {u : Value}, IsD X.K H v d → RelV v u → ∃ as, Reads s.heap u d as
  | _, _, _, .non, r => by cases r; exact ⟨_, .none⟩
  | _, _, _, .bl b, r => by cases r; exact ⟨_, .bool b⟩
  | _, _, _, .int i, r => by obtain ⟨t, rfl⟩ := r; exact ⟨_, .int i t⟩
  | _, _, _, .str x, r => by obtain ⟨t, rfl⟩ := r; exact ⟨_, .str x t⟩
  | _, _, _, .lst h q, r => by
    cases r
    obtain ⟨its, rv, ⟨o, n, e, c, _, d⟩, _⟩ := I.list h
    obtain ⟨as, ra⟩ := IsDs.reads I q rv
    exact ⟨_, .list e c d (by simpa using ra)⟩
  | _, _, _, .tup h q, r => by
    cases r
    obtain ⟨its, rv, ⟨o, e, c, n, d⟩, _⟩ := I.tuple h
    obtain ⟨as, ra⟩ := IsDs.reads I q rv
    exact ⟨_, .tuple e c d (by simpa using ra)⟩
theorem IsDs.reads {X : Cx} {pins : List (Addr × Obj)} {σ : St} {H : Hp} {s : Shared} (I : Inv X pins σ H s) : ∀ {xs : List V} {ds : List PyData} {us : List Value}, IsDs X.K H xs ds → Vals xs us → ∃ as, ReadsAll s.heap us ds as
  | _, _, _, .nil, .nil => ⟨_, .nil⟩
  | _, _, _, .cons h q, .cons r t => by
    obtain ⟨as, ra⟩ := IsD.reads I h r
    obtain ⟨bs, rb⟩ := IsDs.reads I q t
    exact ⟨_, .cons ra rb⟩
end

section
variable {X : Cx}
def rInD (K : PySem.W.Frag) (neg : Bool) : R2 := fun x y H Q => ∃ d ds, IsD K H x d ∧ IsD K H y (.list ds) ∧ SeqAt.shaped d = true ∧ SeqAt.shaped (.list ds) = true ∧ Q (.bl (if neg then !ds.any (fun e => PyData.eqv e d) else ds.any (fun e => PyData.eqv e d))) H
theorem op_inD (hu : X.A.units + 65 < cLine) : OpR X (compareOp .In) (rInD X.K false) := by
  intro pins s σ H x y v u Q I rx ry h
  obtain ⟨d, ds, h1, h2, s1, s2, q⟩ := h
  obtain ⟨as, ra⟩ := h1.reads I rx
  obtain ⟨bs, rb⟩ := h2.reads I ry
  exact SeqAt.in_list_reads rb ra (SeqAt.canLay_of_shaped s2) (SeqAt.canLay_of_shaped s1) (room_in_shaped s1 hu) ⟨.bl _, H, I, rfl, q⟩
theorem op_notInD (hu : X.A.units + 65 < cLine) : OpR X (compareOp .NotIn) (rInD X.K true) := by
  intro pins s σ H x y v u Q I rx ry h
  obtain ⟨d, ds, h1, h2, s1, s2, q⟩ := h
  obtain ⟨as, ra⟩ := h1.reads I rx
  obtain ⟨bs, rb⟩ := h2.reads I ry
  exact SeqAt.notIn_list_reads rb ra (SeqAt.canLay_of_shaped s2) (SeqAt.canLay_of_shaped s1) (room_in_shaped s1 hu) ⟨.bl _, H, I, rfl, q⟩

/-! ### isinstance -/
def clsV : V → Option Value
  | .ty n => some (.type n)
  | .ref a => some (.ref a)
  | _ => none
theorem clsV_rel {c : V} {cv u : Value} (h : clsV c = some cv) (r : RelV c u) : u = cv := by
  cases c with
  | ty n => cases h; exact r
  | ref a => cases h; exact r
  | _ => cases h
theorem call_isinst : CallR X (.builtin "isinstance") (fun xs H Q => ∃ x c cv t b, xs = [x, c] ∧ clsV c = some cv ∧ TyOf X.K H x t ∧ PySem.W.kitOne X.K t cv = some b ∧ Q (.bl b) H) := by
  intro pins s σ H xs us Q I r h
  obtain ⟨x, c, cv, t, b, rfl, hc, ty, hk, q⟩ := h
  obtain ⟨u1, u2, rfl, r1, r2⟩ := vals2 r
  obtain rfl := clsV_rel hc r2
  exact isinst_ok I r1 ty hk fun tk => ⟨.bl b, H, I.tok tk, rfl, q⟩

/-! ### all, any by the items' truth -/
abbrev Cx.in1 (X : Cx) : Cx := { X with A := X.A.in1 }
theorem Inv.in1 {pins : List (Addr × Obj)} {σ : St} {H : Hp} {s : Shared} (I : Inv X pins σ H s) : Inv X.in1 pins σ H s :=
  ⟨⟨I.ok.mod, I.ok.kind, I.ok.glob, I.ok.blt, I.ok.above, I.ok.inj, I.ok.has, I.ok.cab, I.ok.hd, I.ok.frames, I.ok.stk, I.ok.exf, I.ok.bs, I.ok.bsz, I.ok.noex, I.ok.exfs, I.ok.funs, I.ok.frf⟩, I.os, I.bare, I.base, I.loc, I.cell, I.free, I.freeC, I.pin, I.hok, I.len⟩
theorem Inv.of_in1 {pins : List (Addr × Obj)} {σ : St} {H : Hp} {s : Shared} (I : Inv X.in1 pins σ H s) : Inv X pins σ H s :=
  ⟨⟨I.ok.mod, I.ok.kind, I.ok.glob, I.ok.blt, I.ok.above, I.ok.inj, I.ok.has, I.ok.cab, I.ok.hd, I.ok.frames, I.ok.stk, I.ok.exf, I.ok.bs, I.ok.bsz, I.ok.noex, I.ok.exfs, I.ok.funs, I.ok.frf⟩, I.os, I.bare, I.base, I.loc, I.cell, I.free, I.freeC, I.pin, I.hok, I.len⟩
def Truths (K : PySem.W.Frag) (H : Hp) (xs : List V) (bs : List Bool) : Prop := Paired (fun x b => TruV K x H b) xs bs
theorem Truths.get {K : PySem.W.Frag} {H : Hp} : ∀ {xs : List V} {bs : List Bool} {i : Nat} {x : V}, Truths K H xs bs → xs[i]? = some x → ∃ b, bs[i]? = some b ∧ TruV K x H b
  | _, _, _, _, .nil, h => by simp at h
  | _, _, 0, _, .cons h r, e => by
    simp at e; subst e
    exact ⟨_, rfl, h⟩
  | _, _, i + 1, _, .cons h r, e => by
    obtain ⟨d, e1, q⟩ := Truths.get (i := i) r (by simpa using e)
    exact ⟨d, by simpa using e1, q⟩
theorem Truths.bls {K : PySem.W.Frag} {H : Hp} : ∀ bs : List Bool, Truths K H (bs.map V.bl) bs
  | [] => .nil
  | b :: bs => .cons rfl (Truths.bls bs)
theorem all_loop {pins : List (Addr × Obj)} {σ : St} {H : Hp} {p it : Addr} {ys : List V} {bs : List Bool} {R : Result → Shared → Prop} (hc : X.calm = true) (hq : SqL X.K H p ys) (ht : Truths X.K H ys bs) (f : FpOk X pins H it) :
    ∀ (k i : Nat) (s : Shared), ys.length - i = k → Inv X pins σ H s → s.heap.IsListIter it p i → (∀ s', Inv X pins σ H s' → R (.ok (.ret (.bool ((bs.drop i).all id)))) s') →
    codeAny (model X.prog X.w) X.A (.builtin "all.loop" ⟨[.ref it], []⟩) R s := by
  obtain ⟨f0, f1, f2, f3, f4, f5⟩ := f
  intro k
  induction k with
  | zero =>
    intro i s hk I st hR
    obtain ⟨its, rv, pl, hz⟩ := I.list hq
    have hl := rv.length
    refine codeAny_builtin F.entry_all_loop ?_
    rw [Around.under_plainId F.plain_all_loop _]
    show wpAny _ X.A.in1 (pyNext (.ref it) >>= _) _ _ s
    refine wpAny_bind (wpAny_pyNext_list_end (I.ok.hd hc) st pl.isList (by simp; omega) fun h' eb => ?_)
    refine wpAny_bind (wpAny_rule (wpAny_pure ?_))
    have q := hR _ (I.turned (t' := s.toks) (fun b o hb e => eb b o hb e) f0 f1 f3 f4 f5)
    have hlb : bs.length = ys.length := (Paired.length ht).symm
    rw [List.drop_of_length_le (by omega)] at q
    exact q
  | succ k ih =>
    intro i s hk I st hR
    obtain ⟨its, rv, pl, hz⟩ := I.list hq
    have hl := rv.length
    have hlt : i < ys.length := by omega
    have hx : ys[i]? = some ys[i] := by simp [hlt]
    obtain ⟨u, hu, ru⟩ := rv.get hx
    obtain ⟨b, hb, tb⟩ := ht.get hx
    refine codeAny_builtin F.entry_all_loop ?_
    rw [Around.under_plainId F.plain_all_loop _]
    show wpAny _ X.A.in1 (pyNext (.ref it) >>= _) _ _ s
    refine wpAny_bind (wpAny_pyNext_list_item st pl.isList (x := u) (by simpa using hu) fun h' st' sb => ?_)
    have I1 : Inv X pins σ H { s with heap := h' } := I.turned (t' := s.toks) (fun b o hb e => (sb.2 b hb).trans e) f0 f1 f3 f4 f5
    have hdb : bs.drop i = b :: bs.drop (i + 1) := by
      obtain ⟨hlb, eb⟩ := List.getElem?_eq_some_iff.mp hb
      rw [List.drop_eq_getElem_cons hlb, eb]
    rw [hdb] at hR
    have I1p : Inv X (pins ++ pinsAt [it] h') σ H { s with heap := h' } := I1.pinned (fp := [it]) (fun c hcc => by rw [List.mem_singleton.mp hcc]; exact ⟨f0, f1, f2, f3, f4, f5⟩) fun c hcc => by
      rw [List.mem_singleton.mp hcc]
      obtain ⟨o, e, c', d⟩ := st'
      exact ⟨o, e, fun v z => by rw [d] at z; cases z⟩
    refine wpAny_bind (wpAny_holding (wpAny_mono (tru_ok (X := X.in1.nox) _ _ σ H ys[i] u (fun c H' => c = b ∧ H' = H) ((Inv.in1 I1p).wish _) ru ⟨b, tb, rfl, rfl⟩) (fun c s2 ⟨H', I2, e1, e2⟩ => ?_) fun _ _ z => False.elim z))
    rw [e2] at I2
    subst e1
    have I2' : Inv X (pins ++ pinsAt [it] h') σ H s2 := Inv.of_in1 I2.unwish
    have I2'' : Inv X pins σ H s2 := I2'.unpinned
    have st2 : s2.heap.IsListIter it p (i + 1) := st'.at fun o e => (I2'.pin (it, o) (List.mem_append_right _ (List.mem_append_right _ (mem_pinsAt (List.mem_singleton.mpr rfl) e)))).1
    refine wpAny_bind (wpAny_letGo ?_)
    cases c with
    | true =>
      simp only [if_true]
      exact wpAny_pure ⟨plainId_quiet F.plain_all_loop _, ih (i + 1) s2 (by omega) I2'' st2 fun s' I' => by simpa using hR s' I'⟩
    | false =>
      simp only [Bool.false_eq_true, if_false]
      refine wpAny_bind (wpAny_rule (wpAny_pure ?_))
      simpa using hR s2 I2''
theorem call_allT (hc : X.calm = true) : CallR X (.builtin "all") (fun xs H Q => ∃ p ys bs, xs = [.ref p] ∧ SqL X.K H p ys ∧ Truths X.K H ys bs ∧ Q (.bl (bs.all id)) H) := by
  intro pins s σ H xs us Q I r h
  obtain ⟨p, ys, bs, rfl, hq, ht, q⟩ := h
  obtain ⟨u, rfl, rx⟩ := vals1 r
  cases rx
  refine call_function_tree F.kind_all F.plain_all F.entry_all (F.args_all1 _) ?_
  unfold Builtin.«all»
  refine wpAny_bind (m := oneArg "all" _) (wpAny_pure ?_)
  obtain ⟨its, rv, pl, hz⟩ := I.list hq
  refine wpAny_bind (wpAny_pyIter_list pl.isList ?_)
  have I1 : Inv X pins σ H { s with heap := s.heap.push { cls := .type "list_iterator", data := .fields #[.ref p, .int 0 0] } } := I.kept (t' := s.toks) fun b o e => Heap.get?_push_of_some _ e
  refine wpAny_pure ⟨plainId_quiet F.plain_all_loop _, all_loop hc hq ht (I.fpOk (Nat.le_refl _) (I.hok.fresh (Nat.le_refl _))) ys.length 0 _ (Nat.sub_zero _) I1 ⟨_, Heap.get?_push_size _ rfl, rfl, rfl⟩ fun s' I' => ?_⟩
  exact ⟨.bl _, H, I', rfl, by simpa using q⟩
end
end L2

namespace L2
open PySem PySem.Spec PyProof.Rows

/-- a def of the text as it stands behind the top -/
structure Dn (K : PySem.W.Frag) (mg : Str → Option Value) (x : Str) (st : Stmt) (ps : List Str) where
  f : Addr
  fd : FuncData
  F : Fun K x x st f fd
  b : Binds K fd ps []
  m : mg x = some (.ref f)
  bd : ∀ (s : Shared) (us : List Value), us.length = ps.length → BindsTo s fd ⟨us, []⟩ (ps.zip us)
/-- the built-ins' names are the built-ins' -/
structure Bl (mg : Str → Option Value) : Prop where
  get : ∀ x : Str, x ∈ (["len", "range", "list", "isinstance", "int", "bool", "str", "all", "any", "sorted", "set", "min", "max", "tuple", "enumerate", "dict", "ValueError"] : List Str) → mg x = none
theorem Bl.len {mg : Str → Option Value} (B : Bl mg) : mg "len" = none := B.get _ (by decide +kernel)
theorem Bl.range {mg : Str → Option Value} (B : Bl mg) : mg "range" = none := B.get _ (by decide +kernel)
theorem Bl.isinstance {mg : Str → Option Value} (B : Bl mg) : mg "isinstance" = none := B.get _ (by decide +kernel)
theorem Bl.int {mg : Str → Option Value} (B : Bl mg) : mg "int" = none := B.get _ (by decide +kernel)
theorem Bl.bool {mg : Str → Option Value} (B : Bl mg) : mg "bool" = none := B.get _ (by decide +kernel)
theorem Bl.str {mg : Str → Option Value} (B : Bl mg) : mg "str" = none := B.get _ (by decide +kernel)
theorem Bl.all {mg : Str → Option Value} (B : Bl mg) : mg "all" = none := B.get _ (by decide +kernel)
theorem Bl.sorted {mg : Str → Option Value} (B : Bl mg) : mg "sorted" = none := B.get _ (by decide +kernel)
theorem Bl.min {mg : Str → Option Value} (B : Bl mg) : mg "min" = none := B.get _ (by decide +kernel)
theorem Bl.max {mg : Str → Option Value} (B : Bl mg) : mg "max" = none := B.get _ (by decide +kernel)
theorem Bl.enumerate {mg : Str → Option Value} (B : Bl mg) : mg "enumerate" = none := B.get _ (by decide +kernel)
theorem Bl.dict {mg : Str → Option Value} (B : Bl mg) : mg "dict" = none := B.get _ (by decide +kernel)

/-! ### the kinds of plain values -/
theorem kit_int_int {K : PySem.W.Frag} : PySem.W.kitOne K (.type "int") (.type "int") = some true := by rfl
theorem kit_int_bool {K : PySem.W.Frag} : PySem.W.kitOne K (.type "int") (.type "bool") = some false := by rfl
theorem kit_non_int {K : PySem.W.Frag} : PySem.W.kitOne K (.type "NoneType") (.type "int") = some false := by rfl
theorem kit_non_bool {K : PySem.W.Frag} : PySem.W.kitOne K (.type "NoneType") (.type "bool") = some false := by rfl
end L2

namespace L2
open PySem PySem.Spec PyProof.Rows
/-! the rules with the written part named (a block's own context does not show it) -/
section
variable {X : Cx} {K : PySem.W.Frag}
theorem ix_listK (e : X.K = K) : IxR X (rIxL K) := by subst e; exact ix_list
theorem ix_tupK (e : X.K = K) : IxR X (rIxT K) := by subst e; exact ix_tup
theorem op_inDK (e : X.K = K) (hu : X.A.units + 65 < cLine) : OpR X (compareOp .In) (rInD K false) := by subst e; exact op_inD hu
theorem op_notInDK (e : X.K = K) (hu : X.A.units + 65 < cLine) : OpR X (compareOp .NotIn) (rInD K true) := by subst e; exact op_notInD hu
theorem op_inSK (e : X.K = K) : OpR X (compareOp .In) (rIn K false) := by subst e; exact op_in_seq
theorem op_notInSK (e : X.K = K) : OpR X (compareOp .NotIn) (rIn K true) := by subst e; exact op_notIn_seq
def rLen (K : PySem.W.Frag) : List V → Hp → VK → Prop := fun xs H Q => ∃ p ys, xs = [.ref p] ∧ (SqL K H p ys ∨ SqT K H p ys) ∧ Q (.int ys.length) H
theorem call_lenK (e : X.K = K) : CallR X (.builtin "len") (rLen K) := by subst e; exact call_len_seq
def rIsin (K : PySem.W.Frag) : List V → Hp → VK → Prop := fun xs H Q => ∃ x c cv t b, xs = [x, c] ∧ clsV c = some cv ∧ TyOf K H x t ∧ PySem.W.kitOne K t cv = some b ∧ Q (.bl b) H
theorem call_isinstK (e : X.K = K) : CallR X (.builtin "isinstance") (rIsin K) := by subst e; exact call_isinst
def rAll (K : PySem.W.Frag) : List V → Hp → VK → Prop := fun xs H Q => ∃ p ys bs, xs = [.ref p] ∧ SqL K H p ys ∧ Truths K H ys bs ∧ Q (.bl (bs.all id)) H
theorem call_allK (e : X.K = K) (hc : X.calm = true) : CallR X (.builtin "all") (rAll K) := by subst e; exact call_allT hc
theorem pi_listK {tg l : Expr} {tl : TE} (e : X.K = K) (hl : PE X l tl) : PI X tg l (iList K tl) := by subst e; exact pi_list hl
def tTru (K : PySem.W.Frag) (ta : TE) : TT := fun σ H Q => ta σ H fun x H' => ∃ k, TruV K x H' k ∧ Q k H'
theorem pt_truthK {a : Expr} {ta : TE} (e : X.K = K) (ha : PE X a ta) (he : ∀ whole, isTrue a X.env whole = (do let v ← whole; standAt a.pos; holding [v] (truthy v))) : PT X a (tTru K ta) := by subst e; exact pt_truth ha he
theorem pg_tupK {es : List Expr} {k : Nat} {t : TGs} {n : Nat} {pos : Pos} (e : X.K = K) (hc : X.calm = true) (h : PGs X es t)
    (hn : (assignEach es X.env).length = n := by rfl) (hst : (assignEach es X.env).findIdx? (·.1) = none := by rfl) : PG X (.Tuple es k pos) (gTup K n t) := by subst e; exact pg_tup hc h hn hst
theorem pe_bm0K {o : Expr} {to : TE} {name : Str} {apos cpos : Pos} {T id : String} {r : V → List V → Hp → VK → Prop} (e : X.K = K) (pa : PlainAttrs T) (slot : Slot T name id) (hty : typeOf (.builtin id) = pure (.type "method_descriptor")) (hm : MtR X id r) (ho : PE X o to)
    (hbase : attributeBase o name X.env (eval o X.env) = eval o X.env := by rfl) (hline : (apos.endLine == cpos.line) = true := by rfl) : PE X (.Call (.Attribute o name apos) [] [] cpos) (tBM0 K T r to) := by subst e; exact pe_bm0 pa slot hty hm ho hbase hline
theorem pe_bmK {o e : Expr} {es : List Expr} {to : TE} {t : TA} {name : Str} {apos cpos : Pos} {T id : String} {r : V → List V → Hp → VK → Prop} (e0 : X.K = K) (pa : PlainAttrs T) (slot : Slot T name id) (hty : typeOf (.builtin id) = pure (.type "method_descriptor")) (hm : MtR X id r) (ho : PE X o to) (ha : PA X (e :: es) t)
    (hbase : attributeBase o name X.env (eval o X.env) = eval o X.env := by rfl)
    (hfew : ((backTo cpos (starEach (e :: es) X.env)).all (fun x => !x.1) && (backToKw cpos (keywordEach [] X.env)).all (fun x => x.1.isSome)
      && decide ((e :: es).length + ([] : List Keyword).length + (if ([] : List Keyword).isEmpty then 0 else 1) < 30)) = true := by rfl)
    (hline : (apos.endLine == cpos.line) = true := by rfl) (hs : starEach (e :: es) X.env = (false, eval e X.env) :: starEach es X.env := by rfl) (hplain : (backTo cpos (starEach es X.env)).any (·.1) = false := by rfl) :
    PE X (.Call (.Attribute o name apos) (e :: es) [] cpos) (tBM K T r to t) := by subst e0; exact pe_bm pa slot hty hm ho ha hbase hfew hline hs hplain

/-! ### xs.insert(i, v) -/
end
end L2

namespace L2
open PySem PySem.Spec PyProof.Rows
/-- a statement whose ways meet: J is what holds behind it -/
def tCut (t u : TS) : TS := fun D σ H => ∃ J : St → Hp → Prop, t { D with nx := J } σ H ∧ ∀ σ' H', J σ' H' → u D σ' H'
theorem pss_cut {X : Cx} {st : Stmt} {rest : List Stmt} {t u : TS} (h1 : PS X st t) (h2 : PSs X rest u) : PSs X (st :: rest) (tCut t u) := by
  intro pins s σ H D I h
  obtain ⟨J, q1, q2⟩ := h
  refine wpAny_execs_cons (thn (h1 pins s σ H { D with nx := J } I q1) fun f s1 q => ?_)
  cases f with
  | next =>
    obtain ⟨σ', H', I', q⟩ := q
    exact h2 pins s1 σ' H' D I' (q2 σ' H' q)
  | ret v => exact q
  | brk => exact q
  | cont => exact q
end L2

namespace L2
open PySem PySem.Spec PyProof.Rows
/-- o has been laid at p -/
structure New (H : Hp) (p : Addr) (o : HO) (H' : Hp) : Prop where
  fresh : H p = none
  here : H' p = some o
  rest : ∀ b, b ≠ p → H' b = H b
theorem New.mk0 {H : Hp} {p : Addr} {o : HO} (h : H p = none) : New H p o (upd H p o) := ⟨h, upd_same, fun _ hb => upd_ne hb⟩
theorem New.same {H H' : Hp} {p : Addr} {o : HO} (n : New H p o H') : Same H H' := fun b u e => (n.rest b (ne_of_none e n.fresh)).trans e
theorem New.ne {H H' : Hp} {p b : Addr} {o u : HO} (n : New H p o H') (h : H b = some u) : b ≠ p := ne_of_none h n.fresh
/-- the object at l has been changed into o -/
structure Chg (H : Hp) (l : Addr) (o : HO) (H' : Hp) : Prop where
  here : H' l = some o
  rest : ∀ b, b ≠ l → H' b = H b
theorem Chg.mk0 {H : Hp} {l : Addr} {o : HO} : Chg H l o (upd H l o) := ⟨upd_same, fun _ hb => upd_ne hb⟩
section
variable {X : Cx} {K : PySem.W.Frag} {es : List Expr} {t : TA} {pos : Pos}
def tTupN (t : TA) : TE := fun σ H Q => t σ H fun xs H1 => xs.length ≤ 1000 ∧ ∀ p H', New H1 p (.tup xs) H' → Q (.ref p) H'
def tLstN (t : TA) : TE := fun σ H Q => t σ H fun xs H1 => xs.length ≤ 1000 ∧ ∀ p H', New H1 p (.lst xs) H' → Q (.ref p) H'
theorem pe_tupN {x1} (h : PA X es t) : PE X (.Tuple es x1 pos) (tTupN t) := by
  intro pins s σ H Q I hq
  refine wpAny_Tuple_spliced (thn (h pos pins s σ H _ I hq) fun us s1 ⟨xs, H1, I1, r, z, q⟩ => ?_)
  have z' : xs.length ≤ sizeLine := Nat.le_of_lt (small1000 z)
  refine ⟨by rw [← r.length]; exact z', ?_⟩
  have hf : H1 s1.heap.objs.size = none := I1.hok.fresh (Nat.le_refl _)
  refine ⟨.ref s1.heap.objs.size, upd H1 s1.heap.objs.size (.tup xs), I1.laid (t' := s1.toks) (fun b u e => Heap.get?_push_of_some _ e) (Nat.le_refl _) ?_, rfl, q _ _ (New.mk0 hf)⟩
  exact ⟨z', us, r, ⟨_, Heap.get?_push_size _ rfl, rfl, _, rfl⟩⟩
theorem pe_lstN (h : PA X es t) : PE X (.List es pos) (tLstN t) := by
  intro pins s σ H Q I hq
  refine wpAny_List_spliced (thn (h pos pins s σ H _ I hq) fun us s1 ⟨xs, H1, I1, r, z, q⟩ => ?_)
  have z' : xs.length ≤ sizeLine := Nat.le_of_lt (small1000 z)
  refine ⟨by rw [← r.length]; exact z', ?_⟩
  have hf : H1 s1.heap.objs.size = none := I1.hok.fresh (Nat.le_refl _)
  refine ⟨.ref s1.heap.objs.size, upd H1 s1.heap.objs.size (.lst xs), I1.laid (t' := s1.toks) (fun b u e => Heap.get?_push_of_some _ e) (Nat.le_refl _) ?_, rfl, q _ _ (New.mk0 hf)⟩
  exact ⟨z', us, 0, r, Heap.get?_push_size _ rfl⟩
theorem OpR.weak {f : Value → Value → Sem Value} {r r' : R2} (h : OpR X f r) (m : ∀ x y H Q, r' x y H Q → r x y H Q) : OpR X f r' := fun pins s σ H x y v u Q I rx ry q => h pins s σ H x y v u Q I rx ry (m x y H Q q)
def rCatN : R2 := fun x y H Q => ∃ l b xs zs, x = .ref l ∧ y = .ref b ∧ H l = some (.lst xs) ∧ H b = some (.lst zs) ∧ xs.length + zs.length ≤ 1000 ∧ ∀ p H', New H p (.lst (xs ++ zs)) H' → Q (.ref p) H'
theorem op_catN : OpR X (binaryOp .Add) rCatN := op_cat.weak fun x y H Q ⟨l, b, xs, zs, e1, e2, h1, h2, z, q⟩ => ⟨l, b, xs, zs, e1, e2, h1, h2, Nat.le_of_lt (small1000 z), fun p hp => q p _ (New.mk0 hp)⟩
def rSlN (K : PySem.W.Frag) : V → Option Int → Option Int → Hp → VK → Prop := fun x lo hi H Q => ∃ a xs, x = .ref a ∧ SqL K H a xs ∧ ∀ p H', New H p (.lst (cutV xs lo hi)) H' → Q (.ref p) H'
theorem sl_listN (e : X.K = K) : SlR X (rSlN K) := by
  subst e
  exact fun pins s σ H x v vl vu lo hi sl Q I rx hs pl pu ⟨a, xs, e, h, q⟩ => sl_list pins s σ H x v vl vu lo hi sl Q I rx hs pl pu ⟨a, xs, e, h, fun p hp => q p _ (New.mk0 hp)⟩
theorem MtM.weak {id : String} {r r' : V → List V → Hp → VK → Prop} (h : MtM X id r) (m : ∀ x xs H Q, r' x xs H Q → r x xs H Q) : MtM X id r' := fun pins s σ H x xs v us Q I rx rs q => h pins s σ H x xs v us Q I rx rs (m x xs H Q q)
def rAppN : V → List V → Hp → VK → Prop := fun x vs H Q => ∃ l xs y, x = .ref l ∧ vs = [y] ∧ H l = some (.lst xs) ∧ xs.length < 1000 ∧ ∀ H', Chg H l (.lst (xs ++ [y])) H' → Q .non H'
theorem mt_appendN : MtM X "list.append" rAppN := mt_append.weak fun x vs H Q ⟨l, xs, y, e1, e2, h, z, q⟩ => ⟨l, xs, y, e1, e2, h, small1000 (Nat.le_of_lt z), q _ Chg.mk0⟩
end
theorem lc_fmN {K : PySem.W.Frag} {a : Addr} {xs : List V} {ix : List (Option Nat)} {g : TG} {tt : TT} {te : TE} {σ : St} {H1 : Hp} {Q : VK} (f : V → Option V) (hx : SqL K H1 a xs) (hz : xs.length ≤ 1000)
    (hs : ∀ x H (N : Option V → Hp → Prop), x ∈ xs → Same H1 H → (∀ H', Same H1 H' → N (f x) H') → g x (capt ix σ) H fun σ2 H2 => tt σ2 H2 fun b H3 => if b = true then te σ2 H3 fun v H4 => N (some v) H4 else N none H3)
    (hd : ∀ H p H', Same H1 H → New H p (.lst (xs.filterMap f)) H' → Q (.ref p) H') : LcGoal ix g tt te σ H1 Q (Itl K a) :=
  lc_fm f hx (Nat.le_of_lt (small1000 hz)) hs fun H p s hp => hd H p _ s (New.mk0 hp)
theorem lc_fmRN {lo : Int} {n : Nat} {ix : List (Option Nat)} {g : TG} {tt : TT} {te : TE} {σ : St} {H1 : Hp} {Q : VK} (f : Nat → Option V) (hz : n ≤ 1000)
    (hs : ∀ i H (N : Option V → Hp → Prop), i < n → Same H1 H → (∀ H', Same H1 H' → N (f i) H') → g (.int (lo + i)) (capt ix σ) H fun σ2 H2 => tt σ2 H2 fun b H3 => if b = true then te σ2 H3 fun v H4 => N (some v) H4 else N none H3)
    (hd : ∀ H p H', Same H1 H → New H p (.lst ((List.range n).filterMap f)) H' → Q (.ref p) H') : LcGoal ix g tt te σ H1 Q (Itr lo n) :=
  lc_fmR f (Nat.le_of_lt (small1000 hz)) hs fun H p s hp => hd H p _ s (New.mk0 hp)
end L2

/-! the law's own draws, as functions -/
namespace Lw
open PySem L2
theorem fm_some {α β : Type} {f : α → Option β} {g : α → β} : ∀ {l : List α}, (∀ x ∈ l, f x = some (g x)) → l.filterMap f = l.map g
  | [], _ => rfl
  | x :: r, h => by
    rw [List.filterMap_cons_some (h x List.mem_cons_self), List.map_cons, fm_some fun y hy => h y (List.mem_cons_of_mem _ hy)]
/-- the cell k of the script -/
def cellF (ns : List Int) (k : Int) : Int :=
  if k < (ns.length : Int) then ns.getD k.toNat 0
  else
    let z : Int := if (ns.length : Int) > 0 then (ns.getD (k * 7 % (ns.length : Int)).toNat 0) % 2147483647 * 48271 + k * 7919 else k * 7919 + 5
    z * z % 2147483629
def mixF (c m : Int) : Int := c % 2 ^ 64 * 11400714819323198485 % 2 ^ 64 / 2 ^ 11 % m
theorem mixF_lo {c m : Int} (h : 0 < m) : 0 ≤ mixF c m := Int.emod_nonneg _ (by omega)
theorem mixF_hi {c m : Int} (h : 0 < m) : mixF c m < m := Int.emod_lt_of_pos _ h
theorem at_ints {ns : List Int} {k : Int} (h0 : 0 ≤ k) (h : k < (ns.length : Int)) : atI (ns.map V.int) k = some (.int (ns.getD k.toNat 0)) := by
  have hk : k.toNat < ns.length := by omega
  have ek : k = ((k.toNat : Nat) : Int) := by omega
  have q : atI (ns.map V.int) ((k.toNat : Nat) : Int) = some (.int (ns.getD k.toNat 0)) := atI_nat (by
    rw [List.getElem?_map, List.getElem?_eq_getElem hk, List.getD_eq_getElem?_getD, List.getElem?_eq_getElem hk]; rfl)
  rw [← ek] at q
  exact q
/-- the script: frozen, or the module's own -/
def Scr (K : PySem.W.Frag) (H : Hp) (a : Addr) (ns : List Int) : Prop := (∃ o, H a = some (.frz o (.lst (ns.map V.int)))) ∨
  ∃ (o : Obj) (its : Array Value) (n : Nat), K.lookup a = some o ∧ o.cls = .type "list" ∧ o.dict = none ∧ o.data = .seq its n ∧ its.size ≤ sizeLine ∧ Vals (ns.map V.int) its.toList
theorem Scr.seq {K : PySem.W.Frag} {H : Hp} {a : Addr} {ns : List Int} (h : Scr K H a ns) : SqL K H a (ns.map V.int) := by
  rcases h with ⟨o, h⟩ | h
  · exact .inl (.inr ⟨o, h⟩)
  · exact .inr h
theorem Scr.of {K : PySem.W.Frag} {H : Hp} {a : Addr} {ns : List Int} (hO : Only H) (h : SqL K H a (ns.map V.int)) : Scr K H a ns := by
  rcases h with (h | ⟨o, h⟩) | h
  · rcases hO a with z | ⟨ob, xs, z⟩
    · rw [z] at h; cases h
    · rw [z] at h; cases h
  · exact .inl ⟨o, h⟩
  · exact .inr h
/-- the promise of the cell -/
def spCell (K : PySem.W.Frag) : Sp := fun vs H Q _ => ∃ (a : Addr) (ns : List Int) (k : Int), vs = [.ref a, .int k] ∧ SqL K H a (ns.map V.int) ∧ ns.length ≤ 63 ∧ 0 ≤ k ∧ k ≤ 1000 ∧ Q (.int (cellF ns k)) H
def spMix : Sp := fun vs H Q _ => ∃ (c m : Int), vs = [.int c, .int m] ∧ 0 < m ∧ Q (.int (mixF c m)) H
/-- the script, and law's promise -/
def spLaw (K : PySem.W.Frag) : Sp := fun vs H Q _ => ∃ (a : Addr) (ns : List Int), vs = [.ref a] ∧ Scr K H a ns ∧ ns.length ≤ 63 ∧ ∀ H', Q (.bl true) H'
theorem cell_bound (c k : Int) (h0 : 0 ≤ k) (h1 : k ≤ 1000) : -(2 ^ 64) < c % 2147483647 * 48271 + k * 7919 ∧ c % 2147483647 * 48271 + k * 7919 < 2 ^ 64 := by
  have a1 := Int.emod_nonneg c (show (2147483647 : Int) ≠ 0 by decide)
  have a2 := Int.emod_lt_of_pos c (show (0 : Int) < 2147483647 by decide)
  omega
end Lw

namespace L2
open PySem PySem.Spec PyProof.Rows
theorem dn_mk {K : PySem.W.Frag} {h : Heap} {mg : Str → Option Value} {x : Str} {st : Stmt} {ps : List Str} {f : Addr} {oc : Value} {od an : Option Addr} {osl : Array (Option Value)} {kV doc pm cdv ct : Value} (X : K.In h) (G : h.Ns mainGlobals mg)
    (a : PySem.W.nsIn K mainGlobals x = some (some (.ref f))) (l : K.lookup f = some ⟨oc, od, .func (PySem.W.fnOf x x (defArgs st) (defBody st) (defScope st) .none kV doc pm an cdv ct), osl⟩) (c : PySem.W.codeIn K cdv x = true) (k : PySem.W.keepIn K (.ref f) = true)
    (hb : ∀ (kV doc pm : Value) (an : Option Addr) (cdv ct : Value) (us : List Value), us.length = ps.length → bindArgs (PySem.W.fnOf x x (defArgs st) (defBody st) (defScope st) .none kV doc pm an cdv ct) ⟨us, []⟩ = pure (ps.zip us)) :
    Nonempty (Dn K mg x st ps) :=
  have F := fun_mk (st := st) l c k
  ⟨⟨f, _, F, F.binds hb, PySem.W.mg_of X G a, fun s us hl => .of_eq (hb _ _ _ _ _ _ us hl)⟩⟩
theorem bl_mk {K : PySem.W.Frag} {h : Heap} {mg : Str → Option Value} (X : K.In h) (G : h.Ns mainGlobals mg)
    (z1 : PySem.W.nsIn K mainGlobals "len" = some none) (z2 : PySem.W.nsIn K mainGlobals "range" = some none) (z3 : PySem.W.nsIn K mainGlobals "list" = some none) (z4 : PySem.W.nsIn K mainGlobals "isinstance" = some none) (z5 : PySem.W.nsIn K mainGlobals "int" = some none)
    (z6 : PySem.W.nsIn K mainGlobals "bool" = some none) (z7 : PySem.W.nsIn K mainGlobals "str" = some none) (z8 : PySem.W.nsIn K mainGlobals "all" = some none) (z9 : PySem.W.nsIn K mainGlobals "any" = some none) (z10 : PySem.W.nsIn K mainGlobals "sorted" = some none)
    (z11 : PySem.W.nsIn K mainGlobals "set" = some none) (z12 : PySem.W.nsIn K mainGlobals "min" = some none) (z13 : PySem.W.nsIn K mainGlobals "max" = some none) (z14 : PySem.W.nsIn K mainGlobals "tuple" = some none) (z15 : PySem.W.nsIn K mainGlobals "enumerate" = some none)
    (z16 : PySem.W.nsIn K mainGlobals "dict" = some none) (z17 : PySem.W.nsIn K mainGlobals "ValueError" = some none) : Bl mg := by
  refine ⟨fun x hx => ?_⟩
  simp only [List.mem_cons, List.not_mem_nil, or_false] at hx
  rcases hx with rfl | rfl | rfl | rfl | rfl | rfl | rfl | rfl | rfl | rfl | rfl | rfl | rfl | rfl | rfl | rfl | rfl
  · exact PySem.W.mg_none_of X G z1
  · exact PySem.W.mg_none_of X G z2
  · exact PySem.W.mg_none_of X G z3
  · exact PySem.W.mg_none_of X G z4
  · exact PySem.W.mg_none_of X G z5
  · exact PySem.W.mg_none_of X G z6
  · exact PySem.W.mg_none_of X G z7
  · exact PySem.W.mg_none_of X G z8
  · exact PySem.W.mg_none_of X G z9
  · exact PySem.W.mg_none_of X G z10
  · exact PySem.W.mg_none_of X G z11
  · exact PySem.W.mg_none_of X G z12
  · exact PySem.W.mg_none_of X G z13
  · exact PySem.W.mg_none_of X G z14
  · exact PySem.W.mg_none_of X G z15
  · exact PySem.W.mg_none_of X G z16
  · exact PySem.W.mg_none_of X G z17
/-- law's own call: the promise of a def d is the promise at its address -/
theorem law_at {P : Program} {w : World} {K : PySem.W.Frag} {mg : Str → Option Value} {fa : Addr} {st : Stmt} {k : Nat} {sp : Sp} {x : Str} (hfa : mg "law" = some (.ref fa)) (d : Dn K mg "law" st [x]) (F : ∀ base : Heap, FnOk P w K mg base CX0 k d.f d.fd [x] sp) :
    ∃ fd : FuncData, (∀ (s : Shared) (u : Value), BindsTo s fd ⟨[u], []⟩ [(x, u)]) ∧ ∀ base : Heap, K.In base → base.Ns mainGlobals mg → FnOk P w K mg base CX0 k fa fd [x] sp := by
  have e : fa = d.f := by
    have := hfa.symm.trans d.m
    have := Option.some.inj this
    cases this
    rfl
  subst e
  exact ⟨d.fd, fun s u => d.bd s [u] rfl, fun base _ _ => F base⟩
end L2

namespace L2
open PySem PySem.Spec PyProof.Rows
/-! ### for k, x in enumerate(xs) -/
def Ite (K : PySem.W.Frag) (a : Addr) : It :=
  ⟨fun i H => ∃ xs x, SqL K H a xs ∧ xs[i]? = some x, fun i H x H' => ∃ p y, x = .ref p ∧ New H p (.tup [.int i, y]) H' ∧ ∀ xs, SqL K H a xs → xs[i]? = some y, fun i H => ∃ xs, SqL K H a xs ∧ xs.length ≤ i⟩
theorem turn_enum {P : Program} {w : World} {K : PySem.W.Frag} {elts : List Expr} {k : Nat} {pos : Pos} (a it e : Addr) (hei : e ≠ it) : Turn P w K (.Tuple elts k pos) (Ite K a) [e, it] e (fun i h => (∃ old, IsEnum h e it i old) ∧ h.IsListIter it a i) where
  mem := by simp
  obj := fun i h st b hb => by
    obtain ⟨⟨old, he⟩, hit⟩ := st
    rcases List.mem_cons.mp hb with rfl | hb
    · exact ⟨_, he, fun v z => by
        have z' : Data.fields _ = Data.cell v := z
        cases z'⟩
    · rw [List.mem_singleton.mp hb]
      obtain ⟨o, e1, c, d⟩ := hit
      exact ⟨o, e1, fun v z => by rw [d] at z; cases z⟩
  keep := fun i h h' st kk => by
    obtain ⟨⟨old, he⟩, hit⟩ := st
    exact ⟨⟨old, kk e (by simp) _ he⟩, hit.at fun o q => kk it (by simp) o q⟩
  item := by
    intro X hP hw hK hc i pins s σ H E I hf st hg
    subst hP hw hK
    obtain ⟨xs, x, hq, hx⟩ := hg
    obtain ⟨its, rv, pl, hz⟩ := I.list hq
    obtain ⟨u, hu, ru⟩ := rv.get hx
    obtain ⟨⟨old, he⟩, hit⟩ := st
    obtain ⟨f0, f1, f2, f3, f4, f5⟩ := hf e (by simp)
    obtain ⟨g0, g1, g2, g3, g4, g5⟩ := hf it (by simp)
    refine wpAny_pyNext_enum_item he hit pl.isList (x := u) (by simpa using hu) hei fun h' ho hit' hT hsz hk => ?_
    refine ⟨_, rfl, wpAny_letOwnedTupleGo_enum ho fun h2 he2 hs2 => ?_⟩
    have eT : s.heap.objs.size ≠ e := Nat.ne_of_gt (Heap.lt_size he)
    have iT : s.heap.objs.size ≠ it := by
      obtain ⟨o, e1, _⟩ := hit
      exact Nat.ne_of_gt (Heap.lt_size e1)
    have hT2 : h2.get? s.heap.objs.size = some { cls := .type "tuple", data := .seq #[.int i s.toks, u] } := (hs2.2 _ eT).trans hT
    have kp : ∀ b o, b ≠ e → b ≠ it → s.heap.get? b = some o → h2.get? b = some o := fun b o h1 h2' q => (hs2.2 b h1).trans (hk b o h1 h2' q)
    have I1 : Inv X pins σ H { s with heap := h2, toks := s.toks + 1 } := by
      refine I.step (g' := s.gens) (d' := s.drawn) (H' := H) (ch := [e, it]) (fun b hb => ?_) (fun b o _ _ hc q _ => kp b o (fun z => hc (by simp [z])) (fun z => hc (by simp [z])) q) (fun b o _ _ hc q _ => ⟨o.slots, kp b o (fun z => hc (by simp [z])) (fun z => hc (by simp [z])) q⟩) (fun _ _ _ _ n => n)
        (fun b o hc q => ⟨o, kp b o (fun z => hc (by simp [z])) (fun z => hc (by simp [z])) q⟩) (fun _ _ q => q) (fun _ _ _ q => q) (fun b ps q => ⟨#[], by rw [q]; simp⟩) (fun m hm => ?_) (fun b o q => ?_) I.bare
      · rcases List.mem_cons.mp hb with rfl | hb
        · exact ⟨f3, f1, f4, f5⟩
        · rw [List.mem_singleton.mp hb]; exact ⟨g3, g1, g4, g5⟩
      · obtain ⟨o, es, ep, q, r⟩ := hm
        exact ⟨o, es, ep, kp _ o (Ne.symm f1) (Ne.symm g1) q, r⟩
      · have nb : ∀ c v, H c = some v → c ≠ e ∧ c ≠ it := fun c v q => ⟨ne_of_none q f0, ne_of_none q g0⟩
        refine (I.hok b o q).stay (fun c v hcc r => kp c v ?_ ?_ r) (fun _ q => q) fun _ _ q => q
        · rcases hcc with z | z
          · rw [z]; exact (nb b o q).1
          · exact (nb c _ z).1
        · rcases hcc with z | z
          · rw [z]; exact (nb b o q).2
          · exact (nb c _ z).2
    have hfree : H s.heap.objs.size = none := I.hok.fresh (Nat.le_refl _)
    have I2 : Inv X pins σ (upd H s.heap.objs.size (.tup [.int i, x])) { s with heap := h2, toks := s.toks + 1 } := by
      refine Inv.track I1 hfree I.sz (Nat.ne_of_gt I.lt) (fun y c q => ?_) (fun p hp => Nat.ne_of_lt (Heap.lt_size (I.pin p hp).1)) ?_
      · obtain ⟨v, oc, q1, _⟩ := I.cell y c q
        exact Nat.ne_of_lt (Heap.lt_size q1)
      · exact ⟨(by show 2 ≤ sizeLine; decide), [.int i s.toks, u], .cons ⟨_, rfl⟩ (.cons ru .nil), ⟨_, hT2, rfl, _, rfl⟩⟩
    refine ⟨.ref s.heap.objs.size, _, I2, rfl, ⟨_, x, rfl, New.mk0 hfree, fun ys hy => by rw [I.list_inj hy hq]; exact hx⟩, ⟨⟨u, ?_⟩, hit'.at fun o q => (hs2.2 it (Ne.symm hei)).trans q⟩, fun b hb => ?_⟩
    · have e1 : ((i + 1 : Nat) : Int) = (i : Int) + 1 := by omega
      show IsEnum h2 e it ((i + 1 : Nat) : Int) u
      rw [e1]; exact he2
    · rcases List.mem_cons.mp hb with rfl | hb
      · rw [upd_ne (Ne.symm eT)]; exact f0
      · rw [List.mem_singleton.mp hb, upd_ne (Ne.symm iT)]; exact g0
  done := by
    intro X hP hw hK hc i pins s σ H E I hf st hg
    subst hP hw hK
    obtain ⟨xs, hq, hx⟩ := hg
    obtain ⟨its, rv, pl, hz⟩ := I.list hq
    obtain ⟨⟨old, he⟩, hit⟩ := st
    obtain ⟨g0, g1, g2, g3, g4, g5⟩ := hf it (by simp)
    have hl := rv.length
    exact wpAny_pyNext_enum_end (I.ok.hd hc) he hit pl.isList (by simp; omega) fun h' eb => ⟨rfl, I.turned (t' := s.toks) (fun b o hb q => eb b o hb q) g0 g1 g3 g4 g5⟩
  self := fun _ _ _ _ _ st h => by
    obtain ⟨⟨old, he⟩, _⟩ := st
    exact wpAny_pyIter_enum he h
section
variable {X : Cx} {K : PySem.W.Frag}
def iEnum (K : PySem.W.Frag) (ta : TA) : TI := fun σ H R => ta σ H fun vs H1 => ∃ a, vs = [.ref a] ∧ (∃ xs, SqL K H1 a xs) ∧ R (Ite K a) H1
theorem pi_enum {elts : List Expr} {k : Nat} {tpos : Pos} {l : Expr} {ta : TA} {p pos : Pos} (e0 : X.K = K) (hg : Gl X "enumerate") (hm : X.mg "enumerate" = none) (ha : PA X [l] ta) (hs : starEach [l] X.env = [(false, eval l X.env)] := by rfl) :
    PI X (.Tuple elts k tpos) (.Call (.Name "enumerate" p) [l] [] pos) (iEnum K ta) := by
  subst e0
  intro pins s σ H R I h
  refine wpAny_Call_Name_kw (ld_blt I hg hm boot_enumerate ?_)
  refine PyProof.Rows.callWith_type1 (thn (ha pos pins s σ H _ I h) fun us s1 ⟨vs, H1, I1, r1, q1⟩ => ?_) hs (by rfl)
  obtain ⟨a, e, ⟨xs, hq⟩, q⟩ := q1
  subst e
  obtain ⟨u, rfl, ru⟩ := vals1 r1
  cases ru
  obtain ⟨its, rv, pl, hz⟩ := I1.list hq
  refine call_enumerate_list pl.isList fun h' he hit hsz hk => ?_
  refine wpAny_pyIter_enum he ?_
  have I2 : Inv X pins σ H1 { s1 with heap := h' } := I1.kept (t' := s1.toks) hk
  refine ⟨s1.heap.objs.size + 1, [s1.heap.objs.size + 1, s1.heap.objs.size], _, _, H1, rfl, I2, turn_enum a s1.heap.objs.size (s1.heap.objs.size + 1) (Nat.ne_of_gt (Nat.lt_succ_self _)), ⟨⟨_, he⟩, hit⟩, fun b hb => ?_, q⟩
  have hb' : s1.heap.objs.size ≤ b := by
    rcases List.mem_cons.mp hb with rfl | hb
    · exact Nat.le_succ _
    · rw [List.mem_singleton.mp hb]; exact Nat.le_refl _
  exact I1.fpOk hb' (I1.hok.fresh hb')
end
/-- over a list that the body leaves as it is -/
theorem for_enum {K : PySem.W.Frag} {a : Addr} {xs : List V} {g : TG} {tb : TS} {D : Ends} {σ : St} {H : Hp} (Pv : Nat → St → Hp → Prop) (h0 : Pv 0 σ H) (hl : ∀ i σ H, i ≤ xs.length → Pv i σ H → SqL K H a xs)
    (hs : ∀ (i : Nat) x σ H p H', xs[i]? = some x → Pv i σ H → New H p (.tup [.int i, x]) H' → g (.ref p) σ H' fun σ2 H2 => tb { D with nx := Pv (i + 1), ct := Pv (i + 1), bk := D.nx } σ2 H2) (hd : ∀ σ H, Pv xs.length σ H → D.nx σ H) :
    ∃ W : Nat → Nat → St → Hp → Prop, (∃ m, W 0 m σ H) ∧ ∀ i m σ H, W i m σ H →
      ((Ite K a).stop i H ∧ D.nx σ H) ∨ ((Ite K a).go i H ∧ ∃ N : St → Hp → Prop, (∀ σ' H', N σ' H' → ∃ m', m' < m ∧ W (i + 1) m' σ' H') ∧ ∀ x H', (Ite K a).yld i H x H' → g x σ H' fun σ2 H2 => tb { D with nx := N, ct := N, bk := D.nx } σ2 H2) := by
  refine ⟨fun i m σ H => m = xs.length - i ∧ i ≤ xs.length ∧ Pv i σ H, ⟨xs.length, by simp, Nat.zero_le _, h0⟩, ?_⟩
  rintro i m σ H ⟨rfl, hi, p⟩
  have q := hl i σ H hi p
  by_cases hlt : i < xs.length
  · refine .inr ⟨⟨xs, xs[i], q, by simp [hlt]⟩, Pv (i + 1), fun σ' H' p' => ⟨xs.length - (i + 1), by omega, rfl, hlt, p'⟩, fun x H' y => ?_⟩
    obtain ⟨pp, y0, rfl, nw, ex⟩ := y
    exact hs i y0 σ H pp H' (ex xs q) p nw
  · have e : i = xs.length := by omega
    subst e
    exact .inl ⟨⟨xs, q, Nat.le_refl _⟩, hd σ H p⟩
end L2

/-! the program's answers as functions, and how rows and graphs lie in the heap -/
namespace Bg
open PySem L2 Lw
def belowF (n : Int) : Option Int → Bool
  | none => false
  | some i => decide (0 ≤ i ∧ i < n)
inductive Flt where
  | ok | row (k : Nat) | place (v : Nat) | tie (a b : Int) | apart (v j k : Nat)
  deriving DecidableEq
/-! ### in the heap -/
def upV : Option Int → V
  | none => .non
  | some i => .int i
def TieV (K : PySem.W.Frag) (H : Hp) (v : V) (t : Int × Int) : Prop := ∃ p, v = .ref p ∧ SqT K H p [.int t.1, .int t.2]
def TiesAt (K : PySem.W.Frag) (H : Hp) (a : Addr) (ts : List (Int × Int)) : Prop := ∃ xs, SqL K H a xs ∧ Paired (TieV K H) xs ts ∧ ts.length ≤ 1000
def GraphV (K : PySem.W.Frag) (H : Hp) (v : V) (n : Int) (ts : List (Int × Int)) : Prop := ∃ p a, v = .ref p ∧ SqT K H p [.int n, .ref a] ∧ TiesAt K H a ts
theorem paired_get {α β : Type} {F : α → β → Prop} : ∀ {xs : List α} {ys : List β} {i : Nat} {x : α}, Paired F xs ys → xs[i]? = some x → ∃ y, ys[i]? = some y ∧ F x y
  | _, _, _, _, .nil, h => by simp at h
  | _, _, 0, _, .cons h r, e => by
    simp at e; subst e
    exact ⟨_, rfl, h⟩
  | _, _, i + 1, _, .cons h r, e => by
    obtain ⟨d, e1, q⟩ := paired_get (i := i) r (by simpa using e)
    exact ⟨d, by simpa using e1, q⟩
theorem paired_getr {α β : Type} {F : α → β → Prop} : ∀ {xs : List α} {ys : List β} {i : Nat} {y : β}, Paired F xs ys → ys[i]? = some y → ∃ x, xs[i]? = some x ∧ F x y
  | _, _, _, _, .nil, h => by simp at h
  | _, _, 0, _, .cons h r, e => by
    simp at e; subst e
    exact ⟨_, rfl, h⟩
  | _, _, i + 1, _, .cons h r, e => by
    obtain ⟨d, e1, q⟩ := paired_getr (i := i) r (by simpa using e)
    exact ⟨d, by simpa using e1, q⟩
/-! ### data -/
end Bg

namespace L2
open PySem PySem.Spec PyProof.Rows
def rSetN : V → V → V → Hp → (Hp → Prop) → Prop := fun o i v H Q => ∃ p xs k j, o = .ref p ∧ i = .int k ∧ H p = some (.lst xs) ∧ ixN xs.length k = some j ∧ ∀ H', Chg H p (.lst (xs.set j v)) H' → Q H'
theorem set_listN {X : Cx} : PSet X rSetN := fun pins s σ H o i v ov iv u Q I ro ri rv ⟨p, xs, k, j, e1, e2, h1, h2, q⟩ => set_list pins s σ H o i v ov iv u Q I ro ri rv ⟨p, xs, k, j, e1, e2, h1, h2, q _ Chg.mk0⟩
theorem ixN_nat {n j : Nat} (h : j < n) : ixN n (j : Int) = some j := by
  unfold ixN
  rw [if_pos (by omega), if_pos (by omega)]; simp
theorem Same.chg {H H' : Hp} {l : Addr} {o : HO} {H0 : Hp} (s : Same H0 H) (h0 : H0 l = none) (c : Chg H l o H') : Same H0 H' := fun b u e => (c.rest b (ne_of_none e h0)).trans (s b u e)
end L2
namespace Bg
open PySem L2 Lw
/-! ### sets of places -/
/-! ### rows and ties as they are made -/
def TieL (H : Hp) (v : V) (t : Int × Int) : Prop := ∃ p, v = .ref p ∧ H p = some (.tup [.int t.1, .int t.2])
theorem TieL.same {H H' : Hp} {v : V} {t : Int × Int} (s : Same H H') (h : TieL H v t) : TieL H' v t := by
  obtain ⟨p, e, q⟩ := h
  exact ⟨p, e, s _ _ q⟩
theorem TieL.chg {H H' : Hp} {l : Addr} {xs ys : List V} {v : V} {t : Int × Int} (hl : H l = some (.lst xs)) (c : Chg H l (.lst ys) H') (h : TieL H v t) : TieL H' v t := by
  obtain ⟨p, e, q⟩ := h
  exact ⟨p, e, (c.rest p (ne_of q hl (by intro z; cases z))).trans q⟩
theorem paired_snoc {α β : Type} {F : α → β → Prop} : ∀ {xs : List α} {ys : List β} {x : α} {y : β}, Paired F xs ys → F x y → Paired F (xs ++ [x]) (ys ++ [y])
  | _, _, _, _, .nil, h => .cons h .nil
  | _, _, _, _, .cons h r, q => .cons h (paired_snoc r q)
/-! ### data -/
end Bg

set_option maxHeartbeats 4100000
namespace L2
open PySem PySem.Spec PyProof.Rows
section
variable {X : Cx} {K : PySem.W.Frag} {a b : Expr} {rest : List Expr} {pos : Pos} {ta tb : TE}
end
end L2

set_option maxHeartbeats 4100000
namespace L2
open PySem PySem.Spec PyProof.Rows
section
variable {K : PySem.W.Frag} {a : Addr} {xs : List V} {ix : List (Option Nat)} {g : TG} {tt : TT} {te : TE} {σ : St} {H1 : Hp} {Q : VK}
end
section
variable {X : Cx} {K : PySem.W.Frag}
end
end L2

namespace Srt
open PySem PySem.W PyProof.Rows
/-- a tree of questions, answered by a key: all asked places are below n, and the end is as wished -/
def Ok (n : Nat) (key : Nat → Int) {α : Type} : KasT α → (α → Prop) → Prop
  | .ret a, Q => Q a
  | .ask i j k, Q => i < n ∧ j < n ∧ Ok n key (k (decide (key i < key j))) Q
section
variable {n : Nat} {key : Nat → Int} {α β : Type}
theorem Ok.mono {Q Q' : α → Prop} (h : ∀ a, Q a → Q' a) : ∀ {t : KasT α}, Ok n key t Q → Ok n key t Q'
  | .ret _, x => h _ x
  | .ask _ _ _, ⟨a, b, x⟩ => ⟨a, b, Ok.mono h x⟩
theorem Ok.bind {f : α → KasT β} {Q : β → Prop} : ∀ {t : KasT α}, Ok n key t (fun a => Ok n key (f a) Q) → Ok n key (t.bind f) Q
  | .ret _, x => x
  | .ask _ _ _, ⟨a, b, x⟩ => ⟨a, b, Ok.bind x⟩
theorem Ok.wp {cmp : Nat → Nat → (Bool → Shared → Prop) → Shared → Prop} {s : Shared} {Q : α → Prop} {R : α → Shared → Prop} (hc : ∀ i j (C : Bool → Shared → Prop), i < n → j < n → C (decide (key i < key j)) s → cmp i j C s) (hq : ∀ a, Q a → R a s) :
    ∀ {t : KasT α}, Ok n key t Q → t.kasWp cmp R s
  | .ret _, x => hq _ x
  | .ask i j k, ⟨a, b, x⟩ => hc i j _ a b (Ok.wp hc hq x)
/-- the places, in some order -/
structure Pm (n : Nat) (p : Array Nat) : Prop where
  perm : p.Perm (List.range n).toArray
theorem Pm.size {p : Array Nat} (h : Pm n p) : p.size = n := by
  have := h.perm.size_eq
  simpa using this
theorem Pm.lt {p : Array Nat} (h : Pm n p) {i : Nat} (hi : i < n) : p.getD i 0 < n := by
  have hs := h.size
  have hi' : i < p.size := by omega
  have hm : p[i] ∈ (List.range n) := by
    have := (Array.perm_iff_toList_perm.mp h.perm).mem_iff (a := p[i])
    simpa using this
  have : p.getD i 0 = p[i] := by simp [Array.getD, hi']
  rw [this]; exact List.mem_range.mp hm
theorem Pm.of {p q : Array Nat} (h : Pm n p) (e : q.Perm p) : Pm n q := ⟨e.trans h.perm⟩
def KK (key : Nat → Int) (p : Array Nat) (i : Nat) : Int := key (p.getD i 0)
theorem getD_q (p : Array Nat) (i : Nat) : p.getD i 0 = (p[i]?).getD 0 := by simp [Array.getD_eq_getD_getElem?]
theorem KK_rev {p : Array Nat} {i j : Nat} (hj : j ≤ p.size) (k : Nat) : KK key (kas_rev p i j) k = if i ≤ k ∧ k < j then KK key p (i + j - 1 - k) else KK key p k := by
  unfold KK kas_rev
  rw [getD_q, getElem?_mirror_all hj]
  split <;> rw [getD_q]
theorem KK_bub {p : Array Nat} {k d : Nat} (hk : k < p.size) (hd : d ≤ k) (i : Nat) : KK key (bubble p k d) i = if i = k - d then KK key p k else if k - d < i ∧ i ≤ k then KK key p (i - 1) else KK key p i := by
  unfold KK
  rw [getD_q, getD_q p k, getD_q p (i - 1), getD_q p i, getElem?_bubble hk d hd]
  split
  · rfl
  · split <;> rfl
def Srtd (key : Nat → Int) (p : Array Nat) (m : Nat) : Prop := ∀ i j, i ≤ j → j < m → KK key p i ≤ KK key p j
def Down (key : Nat → Int) (p : Array Nat) (m : Nat) : Prop := ∀ i j, i ≤ j → j < m → KK key p j ≤ KK key p i
theorem Pm.rev {p : Array Nat} (h : Pm n p) (i j : Nat) : Pm n (kas_rev p i j) := h.of (mirror_perm _ _ _ _)
theorem ok_asc {p : Array Nat} (hp : Pm n p) : ∀ (f m : Nat), 1 ≤ m → m + f ≤ n → Srtd key p m → Ok n key (kas_asc p f m) (fun r => m ≤ r ∧ r ≤ m + f ∧ Srtd key p r ∧ (r = m + f ∨ KK key p r < KK key p (r - 1)))
  | 0, m, _, _, hs => ⟨Nat.le_refl _, Nat.le_refl _, hs, .inl rfl⟩
  | f + 1, m, h1, hm, hs => by
    refine ⟨hp.lt (by omega), hp.lt (by omega), ?_⟩
    by_cases c : key (p.getD m 0) < key (p.getD (m - 1) 0)
    · rw [decide_eq_true c]; dsimp only; rw [if_pos rfl]
      exact ⟨Nat.le_refl _, by omega, hs, .inr c⟩
    · rw [decide_eq_false c]; dsimp only; rw [if_neg Bool.false_ne_true]
      refine Ok.mono (fun r ⟨a, b, d, e⟩ => ⟨by omega, by omega, d, ?_⟩) (ok_asc hp f (m + 1) (by omega) (by omega) ?_)
      · intro i j hij hj
        by_cases hjm : j < m
        · exact hs i j hij hjm
        · have : j = m := by omega
          subst this
          by_cases hi : i = j
          · subst hi; exact Int.le_refl _
          · have q := hs i (j - 1) (by omega) (by omega)
            have c' : KK key p (j - 1) ≤ KK key p j := by unfold KK; omega
            omega
      · rcases e with e | e
        · exact .inl (by omega)
        · exact .inr e
theorem ok_tail3 {p : Array Nat} (hp : Pm n p) {m : Nat} (h1 : 1 ≤ m) (hm : m ≤ n) (hd : Down key p m) : Ok n key (kas_tail3 m n p) (fun r => Pm n r.2 ∧ 1 ≤ r.1 ∧ r.1 ≤ n ∧ Srtd key r.2 r.1) := by
  refine Ok.bind (Ok.mono (fun r ⟨a, b, c, _⟩ => ?_) (ok_asc (hp.rev 0 m) (n - m) m h1 (by omega) ?_))
  · intro i j hij hj
    have hs := hp.size
    rw [KK_rev (by omega), KK_rev (by omega), if_pos (by omega), if_pos (by omega)]
    exact hd _ _ (by omega) (by omega)
  · exact ⟨hp.rev 0 m, by show 1 ≤ r; omega, by show r ≤ n; omega, c⟩
theorem KK_rev_eq {p : Array Nat} {m q : Nat} (hm : m ≤ p.size) (he : ∀ i, m - (q + 1) ≤ i → i < m → KK key p i = KK key p (m - 1)) (k : Nat) : KK key (kas_rev p (m - (q + 1)) m) k = KK key p k := by
  rw [KK_rev hm]
  by_cases c : m - (q + 1) ≤ k ∧ k < m
  · rw [if_pos c, he k c.1 c.2, he _ (by omega) (by omega)]
  · rw [if_neg c]
theorem ok_desc : ∀ (f : Nat) {p : Array Nat} (m q : Nat), Pm n p → 1 ≤ m → m + f ≤ n → Down key p m → q + 1 ≤ m → (∀ i, m - (q + 1) ≤ i → i < m → KK key p i = KK key p (m - 1)) →
    Ok n key (kas_desc f p m q) (fun r => Pm n r.1 ∧ 1 ≤ r.2.1 ∧ r.2.1 ≤ n ∧ Down key r.1 r.2.1 ∧ r.2.2 + 1 ≤ r.2.1 ∧ ∀ i, r.2.1 - (r.2.2 + 1) ≤ i → i < r.2.1 → KK key r.1 i = KK key r.1 (r.2.1 - 1))
  | 0, p, m, q, hp, h1, hm, hd, hq, he => ⟨hp, h1, by show m ≤ n; omega, hd, hq, he⟩
  | f + 1, p, m, q, hp, h1, hm, hd, hq, he => by
    refine ⟨hp.lt (by omega), hp.lt (by omega), ?_⟩
    have hs := hp.size
    have one : ∀ (p' : Array Nat), (∀ k, KK key p' k = KK key p k) → KK key p m ≤ KK key p (m - 1) → Down key p' (m + 1) := fun p' hk c i j hij hj => by
      rw [hk, hk]
      by_cases hjm : j < m
      · exact hd i j hij hjm
      · have : j = m := by omega
        subst this
        by_cases hi : i = j
        · subst hi; exact Int.le_refl _
        · have := hd i (j - 1) (by omega) (by omega); omega
    by_cases c : key (p.getD m 0) < key (p.getD (m - 1) 0)
    · rw [decide_eq_true c]; dsimp only; rw [if_pos rfl]
      have c1 : KK key p m ≤ KK key p (m - 1) := by unfold KK; omega
      by_cases hq0 : q > 0
      · rw [if_pos hq0]
        exact ok_desc f (m + 1) 0 (hp.rev _ _) (by omega) (by omega) (one _ (KK_rev_eq (by omega) he) c1) (by omega) fun i a b => by congr 1; omega
      · rw [if_neg hq0]
        exact ok_desc f (m + 1) 0 hp (by omega) (by omega) (one _ (fun _ => rfl) c1) (by omega) fun i a b => by congr 1; omega
    · rw [decide_eq_false c]; dsimp only; rw [if_neg Bool.false_ne_true]
      refine ⟨hp.lt (by omega), hp.lt (by omega), ?_⟩
      by_cases d : key (p.getD (m - 1) 0) < key (p.getD m 0)
      · rw [decide_eq_true d]; dsimp only; rw [if_pos rfl]
        exact ⟨hp, h1, by show m ≤ n; omega, hd, hq, he⟩
      · rw [decide_eq_false d]; dsimp only; rw [if_neg Bool.false_ne_true]
        have e : KK key p m = KK key p (m - 1) := by unfold KK; omega
        refine ok_desc f (m + 1) (q + 1) hp (by omega) (by omega) (one _ (fun _ => rfl) (by omega)) (by omega) fun i a b => ?_
        rw [show m + 1 - 1 = m by omega]
        by_cases hi : i = m
        · subst hi; rfl
        · rw [e]; exact he i (by omega) (by omega)
theorem ok_descPart {p : Array Nat} (hp : Pm n p) {m : Nat} (hm : m + 1 ≤ n) (hd : Down key p (m + 1)) : Ok n key (kas_descPart m n p) (fun r => Pm n r.2 ∧ 1 ≤ r.1 ∧ r.1 ≤ n ∧ Srtd key r.2 r.1) := by
  refine Ok.bind (Ok.mono (fun r ⟨a, b, c, d, e, g⟩ => ?_) (ok_desc (n - (m + 1)) (m + 1) 0 hp (by omega) (by omega) hd (by omega) fun i x y => by congr 1; omega))
  have hs := a.size
  by_cases q : r.2.2 > 0
  · rw [if_pos q]
    exact ok_tail3 (a.rev _ _) b c fun i j x y => by rw [KK_rev_eq (by omega) g, KK_rev_eq (by omega) g]; exact d i j x y
  · rw [if_neg q]
    exact ok_tail3 a b c d
theorem ok_count {p : Array Nat} (hp : Pm n p) (h1 : 1 ≤ n) : Ok n key (kas_count n p) (fun r => Pm n r.2 ∧ 1 ≤ r.1 ∧ r.1 ≤ n ∧ Srtd key r.2 r.1) := by
  refine Ok.bind (Ok.mono (fun m ⟨a, b, c, d⟩ => ?_) (ok_asc hp (n - 1) 1 (Nat.le_refl _) (by omega) fun i j x y => by have : i = j := (by omega); subst this; exact Int.le_refl _))
  by_cases e : m = n
  · rw [if_pos (by simpa using e)]
    exact ⟨hp, a, by omega, c⟩
  · rw [if_neg (by simpa using e)]
    have lt : KK key p m < KK key p (m - 1) := by
      rcases d with d | d
      · omega
      · exact d
    have hs := hp.size
    by_cases g : m > 1
    · rw [if_pos g]
      refine ⟨hp.lt (by omega), hp.lt (by omega), ?_⟩
      by_cases z : key (p.getD 0 0) < key (p.getD (m - 1) 0)
      · rw [decide_eq_true z]; dsimp only; rw [if_pos rfl]
        exact ⟨hp, a, by show m ≤ n; omega, c⟩
      · rw [decide_eq_false z]; dsimp only; rw [if_neg Bool.false_ne_true]
        refine ok_descPart (hp.rev _ _) (by omega) ?_
        have z' : KK key p (m - 1) ≤ KK key p 0 := by unfold KK; omega
        have all : ∀ i, i < m → KK key p i = KK key p 0 := fun i hi => by
          have q1 := c 0 i (by omega) hi
          have q2 := c i (m - 1) (by omega) (by omega)
          omega
        intro i j hij hj
        rw [KK_rev (by omega), KK_rev (by omega)]
        by_cases hjm : j < m
        · rw [if_pos (by omega), if_pos (by omega)]
          have u1 := all (0 + m - 1 - j) (by omega)
          have u2 := all (0 + m - 1 - i) (by omega)
          omega
        · have : j = m := by omega
          subst this
          rw [if_neg (by omega)]
          by_cases hi : i < j
          · rw [if_pos (by omega)]
            have u1 := all (j - 1) (by omega)
            have u2 := all (0 + j - 1 - i) (by omega)
            omega
          · rw [if_neg (by omega)]
            have : i = j := by omega
            subst this; exact Int.le_refl _
    · rw [if_neg g]
      have m1 : m = 1 := by omega
      subst m1
      refine ok_descPart hp (by omega) fun i j hij hj => ?_
      by_cases hi : i = j
      · subst hi; exact Int.le_refl _
      · have i0 : i = 0 := by omega
        have j1 : j = 1 := by omega
        subst i0; subst j1
        exact Int.le_of_lt lt
theorem ok_place {p : Array Nat} (hp : Pm n p) {k : Nat} (hk : k < n) (hs : Srtd key p k) : ∀ (f l r : Nat), l ≤ r → r ≤ k → r - l ≤ f → (∀ i, i < l → KK key p i ≤ KK key p k) → (∀ i, r ≤ i → i < k → KK key p k < KK key p i) →
    Ok n key (kas_place p k f l r) (fun l => l ≤ k ∧ (∀ i, i < l → KK key p i ≤ KK key p k) ∧ ∀ i, l ≤ i → i < k → KK key p k < KK key p i)
  | 0, l, r, h1, h2, h3, lo, hi => ⟨by omega, lo, fun i a b => hi i (by omega) b⟩
  | f + 1, l, r, h1, h2, h3, lo, hi => by
    unfold kas_place
    by_cases c : l ≥ r
    · rw [if_pos c]
      exact ⟨by omega, lo, fun i a b => hi i (by omega) b⟩
    · rw [if_neg c]
      refine ⟨hp.lt hk, hp.lt (by omega), ?_⟩
      by_cases d : key (p.getD k 0) < key (p.getD ((l + r) / 2) 0)
      · rw [decide_eq_true d]; dsimp only; rw [if_pos rfl]
        refine ok_place hp hk hs f l ((l + r) / 2) (by omega) (by omega) (by omega) lo fun i a b => ?_
        have := hs ((l + r) / 2) i a b
        have d' : KK key p k < KK key p ((l + r) / 2) := d
        omega
      · rw [decide_eq_false d]; dsimp only; rw [if_neg Bool.false_ne_true]
        refine ok_place hp hk hs f ((l + r) / 2 + 1) r (by omega) h2 (by omega) (fun i a => ?_) hi
        have := hs i ((l + r) / 2) (by omega) (by omega)
        have d' : KK key p ((l + r) / 2) ≤ KK key p k := by unfold KK; omega
        omega
theorem ok_bin : ∀ (f : Nat) {p : Array Nat} (k : Nat), Pm n p → k + f = n → Srtd key p k → Ok n key (kas_bin f p k) (fun p => Pm n p ∧ Srtd key p n)
  | 0, p, k, hp, hk, hs => ⟨hp, by have : k = n := (by omega); rw [← this]; exact hs⟩
  | f + 1, p, k, hp, hk, hs => by
    refine Ok.bind (Ok.mono (fun l ⟨a, lo, hi⟩ => ?_) (ok_place hp (by omega) hs k 0 k (by omega) (Nat.le_refl _) (by omega) (fun i h => by omega) fun i h1 h2 => by omega))
    have hz := hp.size
    refine ok_bin f (k + 1) (hp.of (bubble_perm _ _ _)) (by omega) fun i j hij hj => ?_
    rw [KK_bub (by omega) (by omega), KK_bub (by omega) (by omega)]
    rw [show k - (k - l) = l by omega]
    by_cases i1 : i = l
    · rw [if_pos i1]
      by_cases j1 : j = l
      · rw [if_pos j1]; exact Int.le_refl _
      · rw [if_neg j1, if_pos (by omega)]
        exact Int.le_of_lt (hi (j - 1) (by omega) (by omega))
    · rw [if_neg i1]
      by_cases i2 : l < i ∧ i ≤ k
      · rw [if_pos i2, if_neg (by omega), if_pos (by omega)]
        exact hs (i - 1) (j - 1) (by omega) (by omega)
      · rw [if_neg i2]
        by_cases j1 : j = l
        · rw [if_pos j1]; exact lo i (by omega)
        · rw [if_neg j1]
          by_cases j2 : l < j ∧ j ≤ k
          · rw [if_pos j2]; exact hs i (j - 1) (by omega) (by omega)
          · rw [if_neg j2]; exact hs i j hij (by omega)
/-- the sort by questions: the places in some order, rising by the key -/
theorem ok_sort (h1 : 1 ≤ n) : Ok n key (kas_sort n) (fun p => Pm n p ∧ Srtd key p n) := by
  refine Ok.bind (Ok.mono (fun r ⟨a, b, c, d⟩ => ?_) (ok_count ⟨Array.Perm.refl _⟩ h1))
  by_cases e : r.1 < n
  · rw [if_pos e]
    refine ok_bin _ _ a (by omega) ?_
    rw [show max r.1 1 = r.1 by omega]
    exact d
  · rw [if_neg e]
    exact ⟨a, by have : r.1 = n := (by omega); rw [← this]; exact d⟩
end
end Srt

set_option maxHeartbeats 4100000
namespace Srt
open PySem PyProof.Rows PySem.Calls PySem.W
section
variable {prog : Program} {wo : World} {A : Around} {E : Value → Shared → Prop} {s : Shared}
/-- how the things of zs are asked for at a heap: their kind, and each two by the key -/
def Asks (prog : Program) (wo : World) (A : Around) (κ : SortKind) (zs : List Value) (key : Nat → Int) (s : Shared) : Prop :=
  (∀ (E : Value → Shared → Prop) (R : SortKind → Shared → Prop), R κ s → wpAny (model prog wo) A (keyKind' zs.toArray) R E s) ∧
  ∀ (i j : Nat) (C : Bool → Shared → Prop), i < zs.length → j < zs.length → C (decide (key i < key j)) s → kas_ask prog wo A κ zs i j C s
abbrev outOf (zs : List Value) (p : Array Nat) : Array Value := List.toArray (p.toList.map fun i => zs.getD i Value.none)
theorem out_id (zs : List Value) : outOf zs (List.range zs.length).toArray = zs.toArray := by
  unfold outOf
  congr 1
  apply List.ext_getElem?
  intro i
  by_cases h : i < zs.length
  · simp [h]
  · simp [h]
theorem list_sort_by {a : Addr} {zs : List Value} {n : Nat} {κ : SortKind} {key : Nat → Int} {P : PySem.Fin → Shared → Prop} (oa : s.heap.get? a = some (seqObj "list" zs.toArray n)) (h64 : zs.length < 64)
    (hk : 2 ≤ zs.length → ∀ h', (∀ b o, b ≠ a → s.heap.get? b = some o → h'.get? b = some o) → Asks prog wo A κ zs key { s with heap := h' })
    (h : ∀ p, Pm zs.length p → Srtd key p zs.length → P (.done (.ret .none)) { s with heap := sortedHeap s.heap a zs (outOf zs p) }) :
    wpAny (model prog wo) A (Builtin.«list.sort» ⟨[.ref a], []⟩) P E s := by
  rw [list_sort_plain]
  have la : a < s.heap.objs.size := Heap.lt_size oa
  refine wpAny_bind (listItems_at oa rfl ?_)
  refine wpAny_bind (listUpdate_at oa rfl ?_ (by rw [List.size_toArray, sizeLine_eq]; omega) (Nat.zero_le _))
  obtain ⟨ep, oa1⟩ : ∃ ep, (s.heap.update a (Obj.mapSeq fun _ => #[])).get? a = some (seqObj "list" #[] ep) := ⟨_, get?_update_seq oa (fun _ => #[])⟩
  refine wpAny_bind (seqEpoch_at oa1 rfl ?_)
  refine wpAny_bind (wpAny_newTuple ?_ (by show zs.length ≤ _; rw [sizeLine_eq]; omega))
  refine wpAny_bind (wpAny_newList (wpAny_holding ?_) (Nat.zero_le _))
  have oa6 : (((s.heap.update a (Obj.mapSeq fun _ => #[])).push (seqObj "tuple" zs.toArray 0)).push (seqObj "list" #[] 0)).get? a = some (seqObj "list" #[] ep) := by
    rw [Heap.get?_push_ne _ _ _ (by rw [size_push', Heap.size_update]; exact Nat.ne_of_lt (Nat.lt_succ_of_lt la)), Heap.get?_push_ne _ _ _ (by rw [Heap.size_update]; exact Nat.ne_of_lt la)]
    exact oa1
  show wpAny (model prog wo) A _ P E { s with heap := ((s.heap.update a (Obj.mapSeq fun _ => #[])).push (seqObj "tuple" zs.toArray 0)).push (seqObj "list" #[] 0) }
  dsimp only
  have lz : zs.toArray.size = zs.length := by simp
  by_cases g2 : zs.toArray.size < 2
  · rw [if_pos g2, if_pos g2]
    refine wpAny_bind (wpAny_pure ?_); rw [StateT.run_pure]; refine wpAny_bind (wpAny_pure ?_); dsimp only
    refine wpAny_bind (seqEpoch_at oa6 rfl ?_)
    refine wpAny_bind (listUpdate_at oa6 rfl ?_ (Nat.zero_le _) (by rw [Array.size_map]; show (pairsOf zs).size ≤ _; rw [pairsOf_size, sizeLine_eq]; omega))
    simp only [if_false, Bool.false_eq_true, bne_self_eq_false]
    have q := h (List.range zs.length).toArray ⟨Array.Perm.refl _⟩ (fun i j hij hj => by have : i = j := (by omega); subst this; exact Int.le_refl _)
    rw [out_id] at q
    refine wpAny_pure ?_
    have e : (arrOf (SortSt.mk' general' (zs.toArray.zip zs.toArray) #[] 7 none)).map (·.2) = zs.toArray := by
      show (zs.toArray.zip zs.toArray).map (·.2) = zs.toArray
      rw [Array.map_snd_zip]
      exact Nat.le_refl _
    rw [e]
    exact q
  · rw [if_neg g2, if_neg g2]
    have h2' : 2 ≤ zs.length := by omega
    obtain ⟨ak, ac⟩ := hk h2' (((s.heap.update a (Obj.mapSeq fun _ => #[])).push (seqObj "tuple" zs.toArray 0)).push (seqObj "list" #[] 0)) fun b o hb e => Heap.get?_push_of_some _ (Heap.get?_push_of_some _ (by rw [Heap.get?_update_ne _ _ _ _ hb]; exact e))
    refine wpAny_bind (ak _ _ ?_)
    have ask : (kas_sort zs.length).kasWp (kas_ask prog wo A κ zs) (fun p s' => s' = { s with heap := ((s.heap.update a (Obj.mapSeq fun _ => #[])).push (seqObj "tuple" zs.toArray 0)).push (seqObj "list" #[] 0) } ∧ Pm zs.length p ∧ Srtd key p zs.length)
        { s with heap := ((s.heap.update a (Obj.mapSeq fun _ => #[])).push (seqObj "tuple" zs.toArray 0)).push (seqObj "list" #[] 0) } :=
      Ok.wp (n := zs.length) (key := key) ac (fun p hp => ⟨rfl, hp⟩) (ok_sort (by omega))
    rw [kas_ask_eq] at ask
    have est : SortSt.mk' κ (zs.toArray.zip zs.toArray) #[] 7 none = kas_st κ (pairsOf zs) (List.toArray (List.range zs.length)) := by
      have e := kas_range (pairsOf zs)
      rw [pairsOf_size] at e
      show SortSt.mk' κ (pairsOf zs) #[] 7 none = SortSt.mk' κ ((List.toArray (List.range zs.length)).map (kas_item (pairsOf zs))) #[] 7 none
      rw [e]
    have rn := kas_runs (E := E) (Q := fun _ st' s' => ∃ p : Array Nat, p.size = zs.length ∧ arrOf st' = p.map (kas_item (pairsOf zs)) ∧ failedOf st' = none ∧ (s' = { s with heap := ((s.heap.update a (Obj.mapSeq fun _ => #[])).push (seqObj "tuple" zs.toArray 0)).push (seqObj "list" #[] 0) } ∧ Pm zs.length p ∧ Srtd key p zs.length))
      h2' h64 (fun p' st' s' a1 a2 a3 a4 => ⟨p', a1, a2, a3, a4⟩) ask
    rw [← est] at rn
    refine wpAny_bind (wpAny_mono rn ?_ fun _ _ e => e)
    rintro ⟨⟨⟩, st'⟩ s' ⟨p, hp, ra, hf, rfl, pm, sr⟩
    dsimp only
    have hout : (arrOf st').map (·.2) = outOf zs p := by
      apply Array.toList_inj.mp
      rw [ra, Array.map_map, Array.toList_map]
      exact List.map_congr_left fun i _ => by show (kas_item (pairsOf zs) i).2 = _; rw [kas_item_eq]
    have hso : (outOf zs p).size = zs.length := by rw [List.size_toArray, List.length_map, Array.length_toList, hp]
    rw [hout]
    refine wpAny_bind (seqEpoch_at oa6 rfl ?_)
    refine wpAny_bind (listUpdate_at oa6 rfl ?_ (Nat.zero_le _) (Nat.le_trans (Nat.le_of_eq hso) (by rw [sizeLine_eq]; omega)))
    rw [hf]
    simp only [if_false, Bool.false_eq_true, bne_self_eq_false]
    exact wpAny_pure (h p pm sr)
end
end Srt

set_option maxHeartbeats 4100000
namespace Srt
open PySem PyProof.Rows PySem.Calls PySem.W
/-! ### lists of ints by their order: a rank -/
theorem countP_le {α : Type} {p q : α → Bool} (h : ∀ x, p x = true → q x = true) (l : List α) : l.countP p ≤ l.countP q := by
  induction l with
  | nil => exact Nat.le_refl _
  | cons a r ih =>
    rw [List.countP_cons, List.countP_cons]
    by_cases c : p a = true
    · rw [if_pos c, if_pos (h a c)]; omega
    · rw [if_neg c]; omega
theorem countP_lt {α : Type} {p q : α → Bool} (h : ∀ x, p x = true → q x = true) {x : α} : ∀ {l : List α}, x ∈ l → p x = false → q x = true → l.countP p < l.countP q
  | a :: r, hx, h1, h2 => by
    rw [List.countP_cons, List.countP_cons]
    have le := countP_le h r
    rcases List.mem_cons.mp hx with rfl | hx
    · rw [if_neg (by rw [h1]; exact Bool.false_ne_true), if_pos h2]; omega
    · have ih := countP_lt h hx h1 h2
      by_cases c : p a = true
      · rw [if_pos c, if_pos (h a c)]; omega
      · rw [if_neg c]; omega
def rank (ls : List (List Int)) (i : Nat) : Int := (ls.countP fun z => decide (z < ls.getD i []) : Nat)
theorem lt_le {x y z : List Int} (h : z < y) (h2 : ¬ x < y) : z < x := by
  by_cases c : z < x
  · exact c
  · exact absurd (List.lt_of_le_of_lt (List.not_lt.mp c) h) h2
theorem rank_lt {ls : List (List Int)} {i j : Nat} (hi : i < ls.length) : decide (rank ls i < rank ls j) = decide (ls.getD i [] < ls.getD j []) := by
  have hm : ls.getD i [] ∈ ls := by
    rw [List.getD_eq_getElem?_getD, List.getElem?_eq_getElem hi]; exact List.getElem_mem hi
  unfold rank
  by_cases c : ls.getD i [] < ls.getD j []
  · rw [decide_eq_true c]
    refine decide_eq_true (Int.ofNat_lt.mpr (countP_lt (fun z hz => ?_) hm ?_ ?_))
    · exact decide_eq_true (List.lt_trans (of_decide_eq_true hz) c)
    · exact decide_eq_false (List.lt_irrefl _)
    · exact decide_eq_true c
  · rw [decide_eq_false c]
    refine decide_eq_false fun z => ?_
    have := countP_le (p := fun z => decide (z < ls.getD j [])) (q := fun z => decide (z < ls.getD i [])) (fun z hz => decide_eq_true (lt_le (of_decide_eq_true hz) c)) ls
    omega
/-! ### tuples of ints -/
section
variable {prog : Program} {w : World} {A : Around} {E : Value → Shared → Prop} {s : Shared} {Q : Bool → Shared → Prop}
theorem kat_ints : ∀ {xs ys : List Value} {ns ms : List Int} (i : Nat), IntsAre xs ns → IntsAre ys ms → Q (decide (ns < ms)) s → KatLex prog w A true (decide (xs.length < ys.length)) Q (xs.zip ys) i s
  | _, _, _, _, i, .nil, .nil, h => by
    refine kat_nil ?_
    exact h
  | _, _, _, _, i, .nil, .cons (vs := ys) (ns := ms) m u y, h => by
    refine kat_nil ?_
    have e : decide (([] : List Int) < m :: ms) = true := decide_eq_true (List.Lex.nil)
    rw [e] at h
    have e2 : decide (([] : List Value).length < (Value.int m u :: ys).length) = true := by simp
    rw [e2]; exact h
  | _, _, _, _, i, .cons (vs := xs) (ns := ns) n t x, .nil, h => by
    refine kat_nil ?_
    have e : decide (n :: ns < ([] : List Int)) = false := decide_eq_false (List.not_lt_nil _)
    rw [e] at h
    have e2 : decide ((Value.int n t :: xs).length < ([] : List Value).length) = false := by simp
    rw [e2]; exact h
  | _, _, _, _, i, .cons (vs := xs) (ns := ns) n t x, .cons (vs := ys) (ns := ms) m u y, h => by
    have ef : decide ((Value.int n t :: xs).length < (Value.int m u :: ys).length) = decide (xs.length < ys.length) := by
      simp only [List.length_cons, Nat.add_lt_add_iff_right]
    rw [ef]
    refine kat_cons (wpAny_eqBool_int ?_)
    by_cases c : n = m
    · subst c
      rw [beq_self_eq_true]
      refine kat_yes (kat_ints (i + 1) x y ?_)
      have e : decide (n :: ns < n :: ms) = decide (ns < ms) := by
        have : (n :: ns < n :: ms) ↔ ns < ms := by rw [List.cons_lt_cons_iff]; simp
        simp only [this]
      rw [e] at h; exact h
    · rw [beq_eq_false_iff_ne.mpr c]
      refine kat_no ?_
      have e : decide (n :: ns < m :: ms) = decide (n < m) := by
        have : (n :: ns < m :: ms) ↔ n < m := by rw [List.cons_lt_cons_iff]; simp [c]
        simp only [this]
      rw [e] at h
      cases z : (true && i == 0) with
      | true => exact oneLt_int h
      | false => exact kat_one _ _ (lt_int h)
/-- the tuples at a heap -/
structure TupI (h : Heap) (v : Value) (ns : List Int) : Prop where
  at' : ∃ a o xs n, v = .ref a ∧ h.get? a = some o ∧ o.cls = .type "tuple" ∧ o.data = .seq xs n ∧ IntsAre xs.toList ns
  ne : ns ≠ []
inductive TupsI (h : Heap) : List Value → List (List Int) → Prop
  | nil : TupsI h [] []
  | cons {v ns vs ls} : TupI h v ns → TupsI h vs ls → TupsI h (v :: vs) (ns :: ls)
theorem TupsI.keep {h h' : Heap} (k : ∀ b o, h.get? b = some o → h'.get? b = some o) : ∀ {vs ls}, TupsI h vs ls → TupsI h' vs ls
  | _, _, .nil => .nil
  | _, _, .cons ⟨⟨a, o, xs, n, e, ho, r⟩, ne⟩ t => .cons ⟨⟨a, o, xs, n, e, k _ _ ho, r⟩, ne⟩ (TupsI.keep k t)
theorem TupsI.len {h : Heap} : ∀ {vs ls}, TupsI h vs ls → vs.length = ls.length
  | _, _, .nil => rfl
  | _, _, .cons _ t => by rw [List.length_cons, List.length_cons, t.len]
theorem TupsI.get {h : Heap} : ∀ {vs ls}, TupsI h vs ls → ∀ {i}, i < vs.length → TupI h (vs.getD i .none) (ls.getD i [])
  | _, _, .cons a t, 0, _ => a
  | _, _, .cons a t, i + 1, hi => by
    have := t.get (i := i) (by simpa using hi)
    simpa using this
theorem TupsI.kat {h : Heap} : ∀ {vs ls}, TupsI h vs ls → ∃ fs, KatTups h vs fs ∧ fs.length = vs.length ∧ ∀ v ∈ fs, ∃ n t, v = Value.int n t
  | _, _, .nil => ⟨[], KatTups.nil, rfl, fun v hv => absurd hv List.not_mem_nil⟩
  | _, _, .cons (ns := ns) ⟨⟨a, o, xs, n, e, ho, hc, hd, hi⟩, ne⟩ t => by
    obtain ⟨fs, k, l, q⟩ := t.kat
    subst e
    obtain ⟨xl⟩ := xs
    have hi : IntsAre xl ns := hi
    cases hi with
    | nil => exact absurd rfl ne
    | cons m u r =>
      refine ⟨.int m u :: fs, KatTups.cons ho hc hd rfl k, by rw [List.length_cons, List.length_cons, l], fun v hv => ?_⟩
      rcases List.mem_cons.mp hv with rfl | hv
      · exact ⟨m, u, rfl⟩
      · exact q v hv
theorem asks_tups {vs : List Value} {ls : List (List Int)} (h : TupsI s.heap vs ls) (h2 : 2 ≤ vs.length) : Asks prog w A (tuples' true) vs (rank ls) s := by
  refine ⟨fun E Q q => ?_, fun i j C hi hj q => ?_⟩
  · obtain ⟨fs, k, l, ty⟩ := h.kat
    refine kat_kind (T := .type "int") k (by omega) (fun v hv => ?_) rfl q
    obtain ⟨n, t, rfl⟩ := ty v hv
    exact Looks.of_pure rfl
  · obtain ⟨⟨a, o, xs, n, e1, ho, hc, hd, hx⟩, _⟩ := h.get hi
    obtain ⟨⟨a', o', ys, n', e2, ho', hc', hd', hy⟩, _⟩ := h.get hj
    unfold kas_ask
    rw [e1, e2]
    refine kat_lt ho hd ho' hd' ?_
    rw [rank_lt (by rw [← h.len]; exact hi)] at q
    exact kat_ints 0 hx hy q
end
end Srt

set_option maxHeartbeats 4100000
namespace L2
open PySem PySem.Spec PyProof.Rows Bg Srt
def TupV (K : PySem.W.Frag) (H : Hp) (v : V) (ns : List Int) : Prop := ∃ p, v = .ref p ∧ SqT K H p (ns.map V.int)
theorem ints_of : ∀ {ns : List Int} {us : List Value}, Vals (ns.map V.int) us → IntsAre us ns
  | [], _, .nil => .nil
  | n :: ns, _, .cons r t => by
    obtain ⟨k, rfl⟩ := r
    exact .cons n k (ints_of t)
section
variable {X : Cx} {K : PySem.W.Frag}
theorem tups_of {pins : List (Addr × Obj)} {σ : St} {H : Hp} {s : Shared} (I : Inv X pins σ H s) : ∀ {vs : List V} {us : List Value} {ls : List (List Int)}, Vals vs us → Paired (TupV X.K H) vs ls → (∀ ns ∈ ls, ns ≠ []) → TupsI s.heap us ls
  | _, _, _, .nil, p, _ => by
    cases p
    exact .nil
  | _, _, _, .cons r t, p, ne => by
    cases p with
    | cons a b =>
      obtain ⟨pt, rfl, hT⟩ := a
      obtain ⟨its, ri, ⟨o, ho, hc, n, hd⟩, _⟩ := I.tuple hT
      cases r
      exact .cons ⟨⟨pt, o, its.toArray, n, rfl, ho, hc, hd, by simpa using ints_of ri⟩, ne _ List.mem_cons_self⟩ (tups_of I t b fun ns h => ne ns (List.mem_cons_of_mem _ h))
theorem getD_vals : ∀ {vs : List V} {us : List Value}, Vals vs us → ∀ i, i < vs.length → RelV (vs.getD i .non) (us.getD i .none)
  | _, _, .cons r t, 0, _ => r
  | _, _, .cons r t, i + 1, hi => by
    have := getD_vals t i (by simpa using hi)
    simpa using this
theorem vals_map {vs : List V} {us : List Value} (r : Vals vs us) : ∀ (q : List Nat), (∀ i ∈ q, i < vs.length) → Vals (q.map fun i => vs.getD i .non) (q.map fun i => us.getD i .none)
  | [], _ => .nil
  | i :: q, h => .cons (getD_vals r i (h i List.mem_cons_self)) (vals_map r q fun j hj => h j (List.mem_cons_of_mem _ hj))
end
end L2

set_option maxHeartbeats 4100000
namespace L2
open PySem PySem.Spec PyProof.Rows
section
variable {X : Cx} {K : PySem.W.Frag}
end
end L2

set_option maxHeartbeats 4100000
namespace L2
open PySem PySem.Spec PyProof.Rows

section
variable {prog : Program} {w : World} {A : Around} {R : Result → Shared → Prop} {I : Addr} {fp wr : List Addr} {n : Nat} {P : Nat → Value → Prop} {St : Nat → Heap → Prop} {kw : List (Str × Value)}
end
section
variable {prog : Program} {w : World} {A : Around} {E : Value → Shared → Prop} {s : Shared} {xs : Array (Int × Tok)} {l : Addr}
end
section
variable {X : Cx} {K : PySem.W.Frag}
end
end L2

namespace L2
open PySem PySem.Spec PyProof.Rows
section
variable {X : Cx}
/-- m.bit_length() -/
def rBits : V → List V → Hp → VK → Prop := fun x vs H Q => ∃ m : Nat, x = .int (m : Int) ∧ vs = [] ∧ Q (.int ((Builtin.Int.intBits (m : Int) : Nat) : Int)) H
theorem mt_bits : MtR X "int.bit_length" rBits := by
  intro pins s σ H x xs v us Q I rx rs h
  obtain ⟨m, rfl, rfl, q⟩ := h
  obtain ⟨t, rfl⟩ := (show ∃ t, v = Value.int (m : Int) t from rx)
  cases rs
  exact call_int_bit_length ⟨.int _, H, I.tok _, ⟨_, rfl⟩, q⟩
end
theorem and_nat (a b : Nat) : Builtin.bitAnd (a : Int) (b : Int) = ((a &&& b : Nat) : Int) := by
  unfold Builtin.bitAnd
  simp
theorem or_nat (a b : Nat) : Builtin.bitOr (a : Int) (b : Int) = ((a ||| b : Nat) : Int) := by
  unfold Builtin.bitOr Builtin.bitAnd Builtin.bitNot
  rw [decide_eq_false (show ¬ (0 : Int) ≤ -(a : Int) - 1 by omega), decide_eq_false (show ¬ (0 : Int) ≤ -(b : Int) - 1 by omega)]
  dsimp only
  rw [show (-(-(a : Int) - 1) - 1).toNat = a by omega, show (-(-(b : Int) - 1) - 1).toNat = b by omega]
  omega
theorem bits_le {m k : Nat} (h : m < 2 ^ k) : Builtin.Int.intBits (m : Int) ≤ k := by
  unfold Builtin.Int.intBits
  split
  · exact Nat.zero_le _
  · rename_i c
    have hm : m ≠ 0 := fun z => c (by rw [z]; rfl)
    rw [Int.natAbs_natCast]
    exact (Nat.log2_lt hm).mpr h
theorem bits_test {m v : Nat} (h : m.testBit v = true) : v < Builtin.Int.intBits (m : Int) := by
  unfold Builtin.Int.intBits
  have hm : m ≠ 0 := fun z => by rw [z] at h; simp at h
  have hc : ¬ (((m : Int) == 0) = true) := by simpa using hm
  rw [if_neg hc, Int.natAbs_natCast]
  have := Nat.ge_two_pow_of_testBit h
  exact Nat.lt_succ_of_le ((Nat.le_log2 hm).mpr this)
/-- the places of a mask -/
def placesF (m : Nat) : List Nat := (List.range 10).filter (m.testBit ·)
theorem and_bit (m v : Nat) : (m &&& 2 ^ v = 0) ↔ m.testBit v = false := by
  constructor
  · intro h
    have : (m &&& 2 ^ v).testBit v = false := by rw [h]; simp
    rw [Nat.testBit_and, Nat.testBit_two_pow_self, Bool.and_true] at this
    exact this
  · intro h
    refine Nat.eq_of_testBit_eq fun i => ?_
    rw [Nat.testBit_and, Nat.zero_testBit, Nat.testBit_two_pow]
    by_cases c : v = i
    · subst c; rw [h]; rfl
    · rw [decide_eq_false c, Bool.and_false]
theorem test_small {m v k : Nat} (h : m < 2 ^ k) (hv : k ≤ v) : m.testBit v = false :=
  Nat.testBit_lt_two_pow (Nat.lt_of_lt_of_le h (Nat.pow_le_pow_right (by decide) hv))
theorem sub_bit {m v : Nat} (h : m.testBit v = true) : ∀ u, (m - 2 ^ v).testBit u = (m.testBit u && !decide (u = v)) := by
  induction v generalizing m with
  | zero =>
    intro u
    have h1 : m % 2 = 1 := by rw [Nat.testBit_zero] at h; exact of_decide_eq_true h
    cases u with
    | zero =>
      rw [Nat.testBit_zero, Nat.testBit_zero]
      have : (m - 2 ^ 0) % 2 = 0 := by omega
      rw [this]; simp
    | succ u =>
      rw [Nat.testBit_succ, Nat.testBit_succ]
      have : (m - 2 ^ 0) / 2 = m / 2 := by omega
      rw [this]; simp
  | succ v ih =>
    intro u
    rw [Nat.testBit_succ] at h
    have le : 2 ^ v ≤ m / 2 := Nat.ge_two_pow_of_testBit h
    have e2 : 2 ^ (v + 1) = 2 * 2 ^ v := by rw [Nat.pow_succ, Nat.mul_comm]
    cases u with
    | zero =>
      rw [Nat.testBit_zero, Nat.testBit_zero]
      have : (m - 2 ^ (v + 1)) % 2 = m % 2 := by omega
      rw [this]; simp
    | succ u =>
      rw [Nat.testBit_succ, Nat.testBit_succ]
      have : (m - 2 ^ (v + 1)) / 2 = m / 2 - 2 ^ v := by omega
      rw [this, ih h u]
      simp
/-- bags as masks: which place is in which bag -/
structure BagsM (n : Nat) (ms : List Nat) (R : Nat → Nat → Bool) : Prop where
  len : ms.length = n
  n10 : n ≤ 10
  lt : ∀ m ∈ ms, m < 2 ^ 10
  bit : ∀ v < n, ∀ u, (ms.getD v 0).testBit u = R v u
  far : ∀ v u, R v u = true → v < n ∧ u < n
theorem BagsM.get {n : Nat} {ms : List Nat} {R : Nat → Nat → Bool} (b : BagsM n ms R) {v : Nat} (h : v < n) : ms[v]? = some (ms.getD v 0) := by
  have : v < ms.length := by rw [b.len]; exact h
  rw [List.getD_eq_getElem?_getD, List.getElem?_eq_getElem this]; rfl
theorem lt_of_bits {m k : Nat} (h : ∀ u, m.testBit u = true → u < k) : m < 2 ^ k := Nat.lt_pow_two_of_testBit m fun i hi => by
  cases e : m.testBit i with
  | false => rfl
  | true => have := h i e; omega
/-- a place is taken out -/
def takeR (v : Nat) (R : Nat → Nat → Bool) : Nat → Nat → Bool := fun x u => if x = v then false else if R x v = true then (R x u || R v u) && !decide (u = v) else R x u
def takeM (v : Nat) (ms : List Nat) : List Nat := (ms.map fun m => if m &&& 2 ^ v = 0 then m else (m ||| ms.getD v 0) - 2 ^ v).set v 0
theorem take_ok {n : Nat} {ms : List Nat} {R : Nat → Nat → Bool} {v : Nat} (b : BagsM n ms R) (hv : v < n) : BagsM n (takeM v ms) (takeR v R) := by
  have far : ∀ x u, takeR v R x u = true → x < n ∧ u < n := fun x u h => by
    unfold takeR at h
    split at h
    · cases h
    · split at h
      · rename_i c
        rw [Bool.and_eq_true, Bool.or_eq_true] at h
        rcases h.1 with z | z
        · exact b.far _ _ z
        · exact ⟨(b.far _ _ c).1, (b.far _ _ z).2⟩
      · exact b.far _ _ h
  have bit : ∀ x < n, ∀ u, ((takeM v ms).getD x 0).testBit u = takeR v R x u := fun x hx u => by
    unfold takeM takeR
    by_cases c : x = v
    · subst c
      rw [if_pos rfl, List.getD_eq_getElem?_getD, List.getElem?_set_self (by rw [List.length_map, b.len]; exact hx)]
      simp
    · rw [if_neg c, List.getD_eq_getElem?_getD, List.getElem?_set_ne (Ne.symm c), List.getElem?_map, b.get hx]
      simp only [Option.map_some, Option.getD_some]
      have ab := and_bit (ms.getD x 0) v
      rw [b.bit x hx] at ab
      by_cases d : R x v = true
      · rw [if_pos d, if_neg (fun z => by rw [ab.mp z] at d; cases d)]
        have ht : (ms.getD x 0 ||| ms.getD v 0).testBit v = true := by rw [Nat.testBit_or, b.bit x hx, d]; rfl
        rw [sub_bit ht, Nat.testBit_or, b.bit x hx, b.bit v hv]
      · rw [if_neg d, if_pos (ab.mpr (by simpa using d)), b.bit x hx]
  refine ⟨by unfold takeM; rw [List.length_set, List.length_map]; exact b.len, b.n10, fun m hm => ?_, bit, far⟩
  obtain ⟨j, hj, ej⟩ := List.getElem_of_mem hm
  have jn : j < n := by
    unfold takeM at hj
    rw [List.length_set, List.length_map, b.len] at hj
    exact hj
  have e : (takeM v ms).getD j 0 = m := by rw [List.getD_eq_getElem?_getD, List.getElem?_eq_getElem hj, ej]; rfl
  refine lt_of_bits fun u hu => ?_
  rw [← e, bit j jn] at hu
  have := far j u hu
  have := b.n10
  omega
theorem bags_places {n : Nat} {ms : List Nat} {R : Nat → Nat → Bool} {v : Nat} (b : BagsM n ms R) (hv : v < n) : placesF (ms.getD v 0) = (List.range n).filter (R v ·) := by
  unfold placesF
  have hn := b.n10
  obtain ⟨d, ed⟩ : ∃ d, 10 = n + d := ⟨10 - n, by omega⟩
  rw [ed, List.range_add, List.filter_append]
  have e1 : ((List.range d).map (fun x => n + x)).filter ((ms.getD v 0).testBit ·) = [] := by
    rw [List.filter_eq_nil_iff]
    intro x hx hb
    obtain ⟨y, _, rfl⟩ := List.mem_map.mp hx
    rw [b.bit v hv] at hb
    have := (b.far _ _ hb).2
    omega
  rw [e1, List.append_nil]
  exact List.filter_congr fun u _ => b.bit v hv u
/-- the ties at first -/
def tiedR (n : Nat) (ts : List (Int × Int)) : Nat → Nat → Bool := fun v u => decide (v < n ∧ u < n) && (decide (u = v) || decide (((v : Int), (u : Int)) ∈ ts) || decide (((u : Int), (v : Int)) ∈ ts))
end L2

namespace L2
open PySem PySem.Spec PyProof.Rows
end L2

namespace L2
open PySem PySem.Spec PyProof.Rows
section
variable {X : Cx}
/-- append to a longer list -/
def rAppW : V → List V → Hp → VK → Prop := fun x vs H Q => ∃ l xs y, x = .ref l ∧ vs = [y] ∧ H l = some (.lst xs) ∧ xs.length < 5000 ∧ ∀ H', Chg H l (.lst (xs ++ [y])) H' → Q .non H'
theorem mt_appendW : MtM X "list.append" rAppW := mt_append.weak fun x vs H Q ⟨l, xs, y, e1, e2, h, z, q⟩ => ⟨l, xs, y, e1, e2, h, Nat.lt_trans z (by decide), q _ Chg.mk0⟩
/-- two longer lists, one behind the other -/
def rCatW : R2 := fun x y H Q => ∃ l b xs zs, x = .ref l ∧ y = .ref b ∧ H l = some (.lst xs) ∧ H b = some (.lst zs) ∧ xs.length + zs.length ≤ 5000 ∧ ∀ p H', New H p (.lst (xs ++ zs)) H' → Q (.ref p) H'
theorem op_catW : OpR X (binaryOp .Add) rCatW := op_cat.weak fun x y H Q ⟨l, b, xs, zs, e1, e2, h1, h2, z, q⟩ => ⟨l, b, xs, zs, e1, e2, h1, h2, Nat.le_trans z (by decide), fun p hp => q p _ (New.mk0 hp)⟩
end
end L2

namespace L2
open PySem PySem.Spec PyProof.Rows
section
variable {X : Cx} {K : PySem.W.Frag}
end
end L2

namespace L2
open PySem PySem.Spec PyProof.Rows

/-! ### lists of pairs as tables -/
section
variable {κ : Type} [DecidableEq κ]
def valV (kvs : List (κ × V)) (k : κ) : Option V := (kvs.find? fun kv => decide (kv.1 = k)).map (·.2)
/-- in its place, or at the end -/
def putK (kvs : List (κ × V)) (k : κ) (v : V) : List (κ × V) :=
  if (kvs.any fun kv => decide (kv.1 = k)) = true then kvs.map (fun kv => if kv.1 = k then (kv.1, v) else kv) else kvs ++ [(k, v)]
def dropK (kvs : List (κ × V)) (k : κ) : List (κ × V) := kvs.filter fun kv => decide (kv.1 ≠ k)

theorem valV_pos {p : κ × V} {r : List (κ × V)} {k : κ} (e : p.1 = k) : valV (p :: r) k = some p.2 := by simp [valV, List.find?_cons, e]
theorem valV_neg {p : κ × V} {r : List (κ × V)} {k : κ} (e : ¬ p.1 = k) : valV (p :: r) k = valV r k := by simp [valV, List.find?_cons, e]
theorem valV_any (k : κ) : ∀ kvs : List (κ × V), (kvs.any fun kv => decide (kv.1 = k)) = (valV kvs k).isSome
  | [] => rfl
  | p :: r => by
    rw [List.any_cons]
    by_cases e : p.1 = k
    · simp only [valV_pos e, decide_eq_true e, Bool.true_or, Option.isSome_some]
    · rw [valV_neg e, decide_eq_false e, Bool.false_or]; exact valV_any k r
theorem length_putK (kvs : List (κ × V)) (k : κ) (v : V) : (putK kvs k v).length ≤ kvs.length + 1 := by
  unfold putK
  split
  · rw [List.length_map]; omega
  · rw [List.length_append, List.length_cons, List.length_nil]; omega
theorem putK_new {kvs : List (κ × V)} {k : κ} (v : V) (h : valV kvs k = none) : putK kvs k v = kvs ++ [(k, v)] := by
  unfold putK
  rw [valV_any, h]
  exact if_neg (by decide)

theorem RelO.isSome_eq {o : Option V} {u : Option Value} (r : RelO o u) : o.isSome = u.isSome := by
  cases o with
  | none => cases u with
    | none => rfl
    | some _ => exact (show False from r).elim
  | some _ => cases u with
    | none => exact (show False from r).elim
    | some _ => rfl
theorem RelO.getD {o : Option V} {u : Option Value} {d : V} {d' : Value} (r : RelO o u) (rd : RelV d d') : RelV (o.getD d) (u.getD d') := by
  cases o with
  | none => cases u with
    | none => exact rd
    | some _ => exact (show False from r).elim
  | some _ => cases u with
    | none => exact (show False from r).elim
    | some _ => exact r

/-- raw tables of the same keys -/
theorem KV.val {kvs : List (κ × V)} {vs : List (κ × Value)} (r : KV kvs vs) (k : κ) : RelO (valV kvs k) (valueAt vs k) := by
  unfold KV at r
  induction r with
  | nil => exact True.intro
  | @cons p q ps qs h t ih =>
    obtain ⟨h1, h2⟩ := h
    by_cases e : p.1 = k
    · have e' : q.1 = k := h1.symm.trans e
      have b : valueAt (q :: qs) k = some q.2 := by simp [valueAt, List.find?_cons, e']
      rw [valV_pos e, b]; exact h2
    · have e' : ¬ q.1 = k := fun z => e (h1.trans z)
      have b : valueAt (q :: qs) k = valueAt qs k := by simp [valueAt, List.find?_cons, e']
      rw [valV_neg e, b]; exact ih
theorem KV.any {kvs : List (κ × V)} {vs : List (κ × Value)} (r : KV kvs vs) (k : κ) : (kvs.any fun kv => decide (kv.1 = k)) = vs.any fun kv => decide (kv.1 = k) := by
  unfold KV at r
  induction r with
  | nil => rfl
  | cons h t ih => rw [List.any_cons, List.any_cons, ih, h.1]
theorem KV.repl {kvs : List (κ × V)} {vs : List (κ × Value)} (r : KV kvs vs) (k : κ) {y : V} {u : Value} (ry : RelV y u) :
    KV (kvs.map fun kv => if kv.1 = k then (kv.1, y) else kv) (vs.map fun kv => if kv.1 = k then (kv.1, u) else kv) := by
  unfold KV at r ⊢
  induction r with
  | nil => exact .nil
  | @cons p q ps qs h t ih =>
    rw [List.map_cons, List.map_cons]
    refine .cons ?_ ih
    obtain ⟨h1, h2⟩ := h
    by_cases e : p.1 = k
    · rw [if_pos e, if_pos (h1.symm.trans e)]; exact ⟨h1, ry⟩
    · rw [if_neg e, if_neg (fun z => e (h1.trans z))]; exact ⟨h1, h2⟩
theorem KV.put {kvs : List (κ × V)} {vs : List (κ × Value)} (r : KV kvs vs) (k : κ) {y : V} {u : Value} (ry : RelV y u) : KV (putK kvs k y) (stored vs k u) := by
  unfold putK stored
  rw [r.any k]
  by_cases e : (vs.any fun kv => decide (kv.1 = k)) = true
  · rw [if_pos e, if_pos e]; exact r.repl k ry
  · rw [if_neg e, if_neg e]; exact Paired.snoc r ⟨rfl, ry⟩
theorem KV.length {kvs : List (κ × V)} {vs : List (κ × Value)} (r : KV kvs vs) : kvs.length = vs.length := Paired.length r
theorem dropK_le (kvs : List (κ × V)) (k : κ) : (dropK kvs k).length ≤ kvs.length := List.length_filter_le _ _
end


/-! ### a tracked dict, its keys ints and texts or tuples of these -/
theorem kV_is {P : Program} {w : World} {k : Key} {u : Value} (r : RelV (kV k) u) : (mixKind P w).is k u = true := by
  cases k with
  | inl i => obtain ⟨t, e⟩ := (show ∃ t, u = Value.int i t from r); subst e; exact mixKind_int P w i t
  | inr x => obtain ⟨t, e⟩ := (show ∃ t, u = Value.str x t from r); subst e; exact mixKind_str P w x t
theorem items_are {P : Program} {w : World} : ∀ {ks : List Key} {us : List Value}, Vals (ks.map kV) us → ItemsAre (mixKind P w) ks us
  | [], _, r => by rw [List.map_nil] at r; cases r; exact .nil
  | k :: ks, _, r => by
    rw [List.map_cons] at r
    cases r with
    | cons h t => exact .cons (kV_is h) (items_are t)

/-- raw entries of a dict with tuple keys -/
abbrev KT (H : Hp) : List (List Key × V) → List (List Key × Addr × Value) → Prop := Paired fun p q => p.1 = q.1 ∧ H q.2.1 = some (.tup (p.1.map kV)) ∧ RelV p.2 q.2.2
theorem KT.val {H : Hp} {kvs : List (List Key × V)} {xs : List (List Key × Addr × Value)} (r : KT H kvs xs) (k : List Key) : RelO (valV kvs k) ((atKey xs k).map (·.2)) := by
  induction r with
  | nil => exact True.intro
  | @cons p q ps qs h t ih =>
    obtain ⟨h1, _, h2⟩ := h
    by_cases e : p.1 = k
    · have e' : q.1 = k := h1.symm.trans e
      have b : atKey (q :: qs) k = some q.2 := by simp [atKey, List.find?_cons, e']
      rw [valV_pos e, b]; exact h2
    · have e' : ¬ q.1 = k := fun z => e (h1.trans z)
      have b : atKey (q :: qs) k = atKey qs k := by simp [atKey, List.find?_cons, e']
      rw [valV_neg e, b]; exact ih
theorem KT.repl {H : Hp} {kvs : List (List Key × V)} {xs : List (List Key × Addr × Value)} (r : KT H kvs xs) (k : List Key) {y : V} {u : Value} (ry : RelV y u) :
    KT H (kvs.map fun kv => if kv.1 = k then (kv.1, y) else kv) (xs.map (putAt k u)) := by
  induction r with
  | nil => exact .nil
  | @cons p q ps qs h t ih =>
    rw [List.map_cons, List.map_cons]
    refine .cons ?_ ih
    obtain ⟨h1, h2, h3⟩ := h
    unfold putAt
    by_cases e : p.1 = k
    · rw [if_pos e, if_pos (h1.symm.trans e)]; exact ⟨h1, h2, ry⟩
    · rw [if_neg e, if_neg (fun z => e (h1.trans z))]; exact ⟨h1, h2, h3⟩
theorem KT.put {H : Hp} {kvs : List (List Key × V)} {xs : List (List Key × Addr × Value)} (r : KT H kvs xs) (k : List Key) {b : Addr} {y : V} {u : Value} (hb : H b = some (.tup (k.map kV))) (ry : RelV y u) :
    KT H (putK kvs k y) (storedH xs k b u) := by
  have e : (kvs.any fun kv => decide (kv.1 = k)) = (atKey xs k).isSome := by
    rw [valV_any, (r.val k).isSome_eq, Option.isSome_map]
  unfold putK storedH
  rw [e]
  by_cases q : (atKey xs k).isSome = true
  · rw [if_pos q, if_pos q]; exact r.repl k ry
  · rw [if_neg q, if_neg q]; exact Paired.snoc r ⟨rfl, hb, ry⟩
theorem KT.keeps {H H' : Hp} {kvs : List (List Key × V)} {xs : List (List Key × Addr × Value)} (r : KT H kvs xs) (ht : ∀ b ys, H b = some (.tup ys) → H' b = some (.tup ys)) : KT H' kvs xs :=
  Paired.mapP r fun _ _ z => ⟨z.1, ht _ _ z.2.1, z.2.2⟩

section
variable {P : Program} {w : World} {H : Hp} {h : Heap} {a : Addr}
theorem rd_of {u : HO} (ok : HOk P w H h) (e : Rd H a u) : ObjOk P w H h a u := e.ok ok
theorem dk_rd {kvs : List (Key × V)} (ok : HOk P w H h) (e : Rd H a (.dK kvs)) : kvs.length ≤ sizeLine ∧ (a == sysModules) = false ∧ ∃ vs, KV kvs vs ∧ h.DictOf (mixKind P w) a vs :=
  show ObjOk P w H h a (.dK kvs) from rd_of ok e
theorem dk_of {kvs : List (Key × V)} (ok : HOk P w H h) (e : H a = some (.dK kvs)) : kvs.length ≤ sizeLine ∧ (a == sysModules) = false ∧ ∃ vs, KV kvs vs ∧ h.DictOf (mixKind P w) a vs := dk_rd ok (.inl e)
/-- a tracked tuple of ints and texts is a key -/
theorem key_of {ks : List Key} (ok : HOk P w H h) (e : H a = some (.tup (ks.map kV))) : (tupleKind (mixKind P w)).is h ks a := by
  obtain ⟨_, its, r, o, h1, h2, n, h3⟩ := (show ObjOk P w H h a (.tup (ks.map kV)) from ok a _ e)
  exact ⟨o, its.toArray, n, h1, h2, h3, by simpa using items_are r⟩
theorem dt_rd {kvs : List (List Key × V)} (ok : HOk P w H h) (e : Rd H a (.dT kvs)) : kvs.length ≤ sizeLine ∧ (a == sysModules) = false ∧
    ∃ xs, KT H kvs xs ∧ h.DictOfH (tupleKind (mixKind P w)) a xs := by
  obtain ⟨z, y, xs, r, o, es, ep, h1, h2, h3, h4, h5⟩ := (show ObjOk P w H h a (.dT kvs) from rd_of ok e)
  refine ⟨z, y, xs, r, o, es, ep, h1, h2, h3, h4, fun x hx => ?_, h5⟩
  have all : ∀ {l : List (List Key × V)} {m : List (List Key × Addr × Value)}, KT H l m → ∀ x ∈ m, (tupleKind (mixKind P w)).is h x.1 x.2.1 := by
    intro l m q
    induction q with
    | nil => intro x hx; exact nomatch hx
    | @cons p q ps qs hq t ih =>
      intro x hx
      rcases List.mem_cons.mp hx with e | hx
      · subst e
        exact key_of ok (by rw [← hq.1]; exact hq.2.1)
      · exact ih x hx
  exact all r x hx
theorem dt_of {kvs : List (List Key × V)} (ok : HOk P w H h) (e : H a = some (.dT kvs)) : kvs.length ≤ sizeLine ∧ (a == sysModules) = false ∧
    ∃ xs, KT H kvs xs ∧ h.DictOfH (tupleKind (mixKind P w)) a xs := dt_rd ok (.inl e)
end

/-- what the dict at a holds at the key y -/
def DGet (H : Hp) (a : Addr) (y : V) (r : Option V) : Prop :=
  (∃ kvs k, Rd H a (.dK kvs) ∧ y = kV k ∧ r = valV kvs k) ∨ ∃ kvs k b, Rd H a (.dT kvs) ∧ y = .ref b ∧ H b = some (.tup (k.map kV)) ∧ r = valV kvs k
/-- the heap behind a[y] = v -/
def DPut (H : Hp) (a : Addr) (y v : V) (H' : Hp) : Prop :=
  (∃ kvs k, H a = some (.dK kvs) ∧ y = kV k ∧ kvs.length < sizeLine ∧ H' = upd H a (.dK (putK kvs k v))) ∨
  ∃ kvs k b, H a = some (.dT kvs) ∧ y = .ref b ∧ H b = some (.tup (k.map kV)) ∧ kvs.length < sizeLine ∧ H' = upd H a (.dT (putK kvs k v))
theorem DGet.t {H : Hp} {a b : Addr} {kvs : List (List Key × V)} {k : List Key} (e : H a = some (.dT kvs)) (eb : H b = some (.tup (k.map kV))) : DGet H a (.ref b) (valV kvs k) := .inr ⟨kvs, k, b, .inl e, rfl, eb, rfl⟩
theorem DPut.t {H : Hp} {a b : Addr} {kvs : List (List Key × V)} {k : List Key} {v : V} (e : H a = some (.dT kvs)) (eb : H b = some (.tup (k.map kV))) (hl : kvs.length < sizeLine) :
    DPut H a (.ref b) v (upd H a (.dT (putK kvs k v))) := .inr ⟨kvs, k, b, e, rfl, eb, hl, rfl⟩


section
variable {X : Cx} {pins : List (Addr × Obj)} {σ : St} {H : Hp} {s : Shared} {a : Addr} {y v : V} {u r : Value} {o : Option V} {A : Around} {E : Value → Shared → Prop}

theorem Inv.big (I : Inv X pins σ H s) : sysModules < s.heap.objs.size := by
  have h : mainGlobals < s.heap.objs.size := (I.mod.glob.keeps I.bk).lt
  exact Nat.lt_trans (by decide) h

/-- d[y], there -/
theorem d_getItem {Q : Value → Shared → Prop} (hu : A.units + 1 < cLine) (I : Inv X pins σ H s) (g : DGet H a y (some v)) (ry : RelV y u) (h : ∀ w' s', Inv X pins σ H s' → RelV v w' → Q w' s') :
    wpAny (model X.prog X.w) A (getItem (.ref a) u) Q E s := by
  rcases g with ⟨kvs, k, e, ey, l⟩ | ⟨kvs, k, b, e, ey, eb, l⟩
  · subst ey
    obtain ⟨z, hd, vs, rel, dd⟩ := dk_rd I.hok e
    obtain ⟨w', hw, rw'⟩ := RelO.some_of (v := v) (o := valueAt vs k) (by rw [l]; exact rel.val k)
    exact wpAny_getItem_of (kV_is ry) dd.mapOf hw (h w' _ (I.tok _) rw')
  · subst ey
    cases (show u = Value.ref b from ry)
    obtain ⟨z, hd, xs, rel, dd⟩ := dt_rd I.hok e
    obtain ⟨w', hw, rw'⟩ := RelO.some_of (v := v) (o := (atKey xs k).map (·.2)) (by rw [l]; exact rel.val k)
    obtain ⟨p, hp, hp2⟩ := Option.map_eq_some_iff.mp hw
    refine wpAny_getItem_heap (tupleKind_room_in1 hu) (key_of I.hok eb) dd hp ?_
    rw [hp2]
    exact h w' _ (I.tok _) rw'
/-- y in d -/
theorem d_in {Q : Value → Shared → Prop} (hu : A.units + 1 < cLine) (I : Inv X pins σ H s) (g : DGet H a y o) (ry : RelV y u) (h : ∀ s', Inv X pins σ H s' → Q (.bool o.isSome) s') :
    wpAny (model X.prog X.w) A (compareOp .In u (.ref a)) Q E s := by
  rcases g with ⟨kvs, k, e, ey, l⟩ | ⟨kvs, k, b, e, ey, eb, l⟩
  · subst ey
    obtain ⟨z, hd, vs, rel, dd⟩ := dk_rd I.hok e
    refine wpAny_in_of (kV_is ry) hd dd.mapOf ?_
    rw [← (rel.val k).isSome_eq, ← l]
    exact h _ (I.tok _)
  · subst ey
    cases (show u = Value.ref b from ry)
    obtain ⟨z, hd, xs, rel, dd⟩ := dt_rd I.hok e
    refine wpAny_in_heap (tupleKind_room_in1 hu) (key_of I.hok eb) hd dd ?_
    have q := (rel.val k).isSome_eq
    rw [Option.isSome_map] at q
    rw [← q, ← l]
    exact h _ (I.tok _)
theorem d_notIn {Q : Value → Shared → Prop} (hu : A.units + 1 < cLine) (I : Inv X pins σ H s) (g : DGet H a y o) (ry : RelV y u) (h : ∀ s', Inv X pins σ H s' → Q (.bool (!o.isSome)) s') :
    wpAny (model X.prog X.w) A (compareOp .NotIn u (.ref a)) Q E s := by
  rcases g with ⟨kvs, k, e, ey, l⟩ | ⟨kvs, k, b, e, ey, eb, l⟩
  · subst ey
    obtain ⟨z, hd, vs, rel, dd⟩ := dk_rd I.hok e
    refine wpAny_notIn_of (kV_is ry) hd dd.mapOf ?_
    rw [← (rel.val k).isSome_eq, ← l]
    exact h _ (I.tok _)
  · subst ey
    cases (show u = Value.ref b from ry)
    obtain ⟨z, hd, xs, rel, dd⟩ := dt_rd I.hok e
    refine wpAny_notIn_heap (tupleKind_room_in1 hu) (key_of I.hok eb) hd dd ?_
    have q := (rel.val k).isSome_eq
    rw [Option.isSome_map] at q
    rw [← q, ← l]
    exact h _ (I.tok _)
/-- a dict's object is replaced -/
theorem d_write {h' : Heap} {t' : Nat} {ob : HO} (I : Inv X pins σ H s) (mu : Mut (H a)) (hs : Heap.SameBut a s.heap h') (he : ∃ q, h'.get? a = some q) (new : ObjOk X.prog X.w (upd H a ob) h' a ob) :
    Inv X pins σ (upd H a ob) { s with heap := h', toks := t' } :=
  I.write (x := a) (e := a) mu (.inl rfl) (fun b q hb z => (hs.2 b hb).trans z) he new
theorem dk_new {P : Program} {w : World} {H' : Hp} {h' : Heap} {kvs : List (Key × V)} {vs : List (Key × Value)} (z : kvs.length ≤ sizeLine) (hd : (a == sysModules) = false) (rel : KV kvs vs) (dd : h'.DictOf (mixKind P w) a vs) :
    ObjOk P w H' h' a (.dK kvs) := ⟨z, hd, vs, rel, dd⟩
/-- d[y] = v -/
theorem d_setItem {H' : Hp} {Q : Unit → Shared → Prop} (hu : A.units + 1 < cLine) (I : Inv X pins σ H s) (g : DPut H a y v H') (ry : RelV y u) (rv : RelV v r) (h : ∀ s', Inv X pins σ H' s' → Q () s') :
    wpAny (model X.prog X.w) A (setItem (.ref a) u r) Q E s := by
  rcases g with ⟨kvs, k, e, ey, l, eH⟩ | ⟨kvs, k, b, e, ey, eb, l, eH⟩
  · subst ey eH
    obtain ⟨z, hd, vs, rel, dd⟩ := dk_of I.hok e
    have hz : vs.length ≤ sizeLine := by rw [← rel.length]; exact z
    have hl : (putK kvs k v).length ≤ sizeLine := by have := length_putK kvs k v; omega
    refine wpAny_setItem_pairs (hsz := hz) (kV_is ry) dd fun h' dd' hs => h _ ?_
    have he : ∃ q, h'.get? a = some q := let ⟨q, _, _, hq, _⟩ := dd'; ⟨q, hq⟩
    exact d_write I (by rw [e]; exact True.intro) hs he (dk_new hl hd (rel.put k rv) dd')
  · subst ey eH
    cases (show u = Value.ref b from ry)
    obtain ⟨z, hd, xs, rel, dd⟩ := dt_of I.hok e
    have hz : xs.length ≤ sizeLine := by rw [← Paired.length rel]; exact z
    have hl : (putK kvs k v).length ≤ sizeLine := by have := length_putK kvs k v; omega
    refine wpAny_setItem_heap (hsz := hz) (tupleKind_room_in1 hu) (key_of I.hok eb) dd fun h' dd' hs => h _ ?_
    obtain ⟨q, es, ep, hq, h2, h3, h4, _, h5⟩ := dd'
    refine d_write I (by rw [e]; exact True.intro) hs ⟨q, hq⟩ ⟨hl, hd, _, (rel.put k eb rv).keeps fun c ys ec => ?_, q, es, ep, hq, h2, h3, h4, h5⟩
    rw [upd_ne (ne_of ec e (fun z => nomatch z))]
    exact ec
end

section
variable {X : Cx} {pins : List (Addr × Obj)} {σ : St} {H : Hp} {s : Shared} {a : Addr} {kvs : List (Key × V)} {k : Key} {u : Value} {A : Around} {E : Value → Shared → Prop}
end


/-! ### readings and rules -/
/-- the element of a subscription, not a slice -/
def NoSl (i : Expr) : Prop := ∀ ov iv, subscripted i false ov iv = operate [ov, iv] (getItem ov iv)
theorem subD_of {prog : Program} {w : World} {A : Around} {E : Value → Shared → Prop} {s : Shared} {env : Env} {value slice : Expr} {pos : Pos} {T id : String} {Q : Value → Shared → Prop}
    (hl : typeLookup (.type T) "__getitem__" = pure (some (.builtin id))) (hs : NoSl slice)
    (h : wpAny (model prog w) A (eval value env) (fun o s₁ => wpAny (model prog w) A (eval slice env) (fun i s₂ => s₂.TypeIs o T ∧ wpAny (model prog w) A (getItem o i) Q E s₂) E s₁) E s) :
    wpAny (model prog w) A (eval (.Subscript value slice pos) env) Q E s := by
  refine Subscript_ (wpAny_mono h (fun o s₁ h₁ => wpAny_mono h₁ (fun i s₂ h₂ => ?_) fun _ _ x => x) fun _ _ x => x)
  obtain ⟨hT, h₂⟩ := h₂
  unfold subscriptTail
  refine wpAny_bind ?_
  rw [getitemInPython_of_ne hT.not_modules]
  refine wpAny_bind (wpAny_specialOf hT hl ?_)
  have fin : wpAny (model prog w) A (subscripted slice false o i) (fun r s₃ => wpAny (model prog w) A (letTemporaryGo value o r >>= fun _ => pure r) Q E s₃) E s₂ := by
    rw [hs o i]
    exact wpAny_operating (wpAny_mono h₂ (fun r s₃ h₃ => wpAny_bind (wpAny_letTemporaryGo (wpAny_pure h₃))) fun _ _ x => x)
  first
    | exact wpAny_pure (wpAny_bind fin)
    | exact wpAny_bind (wpAny_pure (wpAny_bind fin))
    | exact wpAny_bind fin

theorem dict_typeIs {X : Cx} {pins : List (Addr × Obj)} {σ : St} {H : Hp} {s : Shared} {a : Addr} {y : V} {o : Option V} (I : Inv X pins σ H s) (g : DGet H a y o) : s.TypeIs (.ref a) "dict" := by
  rcases g with ⟨kvs, k, e, _, _⟩ | ⟨kvs, k, b, e, _, _, _⟩
  · obtain ⟨_, _, vs, _, dd⟩ := dk_rd I.hok e
    exact dd.typeIs
  · obtain ⟨_, _, xs, _, dd⟩ := dt_rd I.hok e
    exact dd.typeIs

/-- d[y] -/
def tDGet (td ty : TE) : TE := fun σ H Q => td σ H fun x H1 => ty σ H1 fun y H2 => ∃ a v, x = .ref a ∧ DGet H2 a y (some v) ∧ Q v H2

section
variable {X : Cx} {o i e value : Expr} {pos pos' tpos : Pos} {td ty tv : TE}
theorem pe_dget (hu : X.A.units + 1 < cLine) (ho : PE X o td) (hi : PE X i ty) (hs : NoSl i) : PE X (.Subscript o i pos) (tDGet td ty) := by
  intro pins s σ H Q I h
  refine subD_of PySem.F.slot_dict_getitem.lookup hs (thn (ho pins s σ H _ I h) fun u s1 ⟨x, H1, I1, rx, q1⟩ => thn (hi pins s1 σ H1 _ I1 q1) fun iv s2 ⟨y, H2, I2, ry, a, v, ex, g, q2⟩ => ?_)
  subst ex
  obtain rfl : u = Value.ref a := rx
  exact ⟨dict_typeIs I2 g, d_getItem hu I2 g ry fun w' s3 I3 rw' => ⟨v, H2, I3, rw', q2⟩⟩
end


/-! ### displays -/
theorem dt_empty {P : Program} {w : World} {H : Hp} (h : Heap) (hb : sysModules < h.objs.size) : ObjOk P w H (h.push { cls := .type "dict", data := .dict #[] }) h.objs.size (.dT []) :=
  ⟨Nat.zero_le _, beq_eq_false_iff_ne.mpr (Ne.symm (Nat.ne_of_lt hb)), [], .nil, _, #[], 0, Heap.get?_push_size _ rfl, ⟨rfl, rfl, rfl⟩, rfl, rfl, List.nodup_nil⟩
def tDNewT : TE := fun _ H Q => ∀ p, H p = none → Q (.ref p) (upd H p (.dT []))
section
variable {X : Cx} {pos : Pos}
theorem pe_dnewT : PE X (.Dict [] [] pos) tDNewT := fun pins s σ H Q I h =>
  wpAny_Dict_empty ⟨.ref s.heap.objs.size, _, I.laid (a := s.heap.objs.size) (o := .dT []) (t' := s.toks) (fun _ _ q => Heap.get?_push_of_some _ q) (Nat.le_refl _) (dt_empty s.heap I.big), rfl, h _ (I.hok.fresh (Nat.le_refl _))⟩
end




end L2

namespace L2
open PySem PySem.Spec PyProof.Rows
section
variable {X : Cx}
end
end L2

namespace L2
open PySem PySem.Spec PyProof.Rows
theorem us1 {A : Type} {us : List A} {P : List A → Prop} (h : us.length = 1) (f : ∀ a, P [a]) : P us := by
  match us, h with
  | [a], _ => exact f a
theorem us2 {A : Type} {us : List A} {P : List A → Prop} (h : us.length = 2) (f : ∀ a b, P [a, b]) : P us := by
  match us, h with
  | [a, b], _ => exact f a b
theorem us3 {A : Type} {us : List A} {P : List A → Prop} (h : us.length = 3) (f : ∀ a b c, P [a, b, c]) : P us := by
  match us, h with
  | [a, b, c], _ => exact f a b c
theorem dn_mk1 {K : PySem.W.Frag} {h : Heap} {mg : Str → Option Value} {x : Str} {st : Stmt} {ps : List Str} {f : Addr} {oc : Value} {od an : Option Addr} {osl : Array (Option Value)} {kV doc pm cdv ct : Value} (X : K.In h) (G : h.Ns mainGlobals mg)
    (a : PySem.W.nsIn K mainGlobals x = some (some (.ref f))) (l : K.lookup f = some ⟨oc, od, .func (PySem.W.fnOf x x (defArgs st) (defBody st) (defScope st) .none kV doc pm an cdv ct), osl⟩) (c : PySem.W.codeIn K cdv x = true) (k : PySem.W.keepIn K (.ref f) = true)
    (hp : ps.length = 1)
    (hb : ∀ (kV doc pm : Value) (an : Option Addr) (cdv ct : Value) (u0 : Value), bindArgs (PySem.W.fnOf x x (defArgs st) (defBody st) (defScope st) .none kV doc pm an cdv ct) ⟨[u0], []⟩ = pure (ps.zip [u0])) :
    Nonempty (Dn K mg x st ps) :=
  dn_mk X G a l c k fun kV doc pm an cdv ct us hl => us1 (P := fun us => bindArgs (PySem.W.fnOf x x (defArgs st) (defBody st) (defScope st) .none kV doc pm an cdv ct) ⟨us, []⟩ = pure (ps.zip us)) (hl.trans hp) fun u0 => hb kV doc pm an cdv ct u0
theorem dn_mk2 {K : PySem.W.Frag} {h : Heap} {mg : Str → Option Value} {x : Str} {st : Stmt} {ps : List Str} {f : Addr} {oc : Value} {od an : Option Addr} {osl : Array (Option Value)} {kV doc pm cdv ct : Value} (X : K.In h) (G : h.Ns mainGlobals mg)
    (a : PySem.W.nsIn K mainGlobals x = some (some (.ref f))) (l : K.lookup f = some ⟨oc, od, .func (PySem.W.fnOf x x (defArgs st) (defBody st) (defScope st) .none kV doc pm an cdv ct), osl⟩) (c : PySem.W.codeIn K cdv x = true) (k : PySem.W.keepIn K (.ref f) = true)
    (hp : ps.length = 2)
    (hb : ∀ (kV doc pm : Value) (an : Option Addr) (cdv ct : Value) (u0 u1 : Value), bindArgs (PySem.W.fnOf x x (defArgs st) (defBody st) (defScope st) .none kV doc pm an cdv ct) ⟨[u0, u1], []⟩ = pure (ps.zip [u0, u1])) :
    Nonempty (Dn K mg x st ps) :=
  dn_mk X G a l c k fun kV doc pm an cdv ct us hl => us2 (P := fun us => bindArgs (PySem.W.fnOf x x (defArgs st) (defBody st) (defScope st) .none kV doc pm an cdv ct) ⟨us, []⟩ = pure (ps.zip us)) (hl.trans hp) fun u0 u1 => hb kV doc pm an cdv ct u0 u1
theorem dn_mk3 {K : PySem.W.Frag} {h : Heap} {mg : Str → Option Value} {x : Str} {st : Stmt} {ps : List Str} {f : Addr} {oc : Value} {od an : Option Addr} {osl : Array (Option Value)} {kV doc pm cdv ct : Value} (X : K.In h) (G : h.Ns mainGlobals mg)
    (a : PySem.W.nsIn K mainGlobals x = some (some (.ref f))) (l : K.lookup f = some ⟨oc, od, .func (PySem.W.fnOf x x (defArgs st) (defBody st) (defScope st) .none kV doc pm an cdv ct), osl⟩) (c : PySem.W.codeIn K cdv x = true) (k : PySem.W.keepIn K (.ref f) = true)
    (hp : ps.length = 3)
    (hb : ∀ (kV doc pm : Value) (an : Option Addr) (cdv ct : Value) (u0 u1 u2 : Value), bindArgs (PySem.W.fnOf x x (defArgs st) (defBody st) (defScope st) .none kV doc pm an cdv ct) ⟨[u0, u1, u2], []⟩ = pure (ps.zip [u0, u1, u2])) :
    Nonempty (Dn K mg x st ps) :=
  dn_mk X G a l c k fun kV doc pm an cdv ct us hl => us3 (P := fun us => bindArgs (PySem.W.fnOf x x (defArgs st) (defBody st) (defScope st) .none kV doc pm an cdv ct) ⟨us, []⟩ = pure (ps.zip us)) (hl.trans hp) fun u0 u1 u2 => hb kV doc pm an cdv ct u0 u1 u2
end L2

namespace L2
open PySem PySem.Spec PyProof.Rows
section
variable {X : Cx} {i : Expr} {pos np : Pos} {ty : TE}
end
end L2

namespace L2
open PySem PySem.Spec PyProof.Rows
/-- a method of the class at C, as it stands -/
structure Dm (K : PySem.W.Frag) (C : Addr) (m qual : Str) (st : Stmt) (ps : List Str) where
  f : Addr
  fd : FuncData
  F : Fun K m qual st f fd
  b : Binds K fd ps []
  mt : Meth K C m f
def dm_mk {K : PySem.W.Frag} {C : Addr} {m qual : Str} {st : Stmt} {ps : List Str} {f : Addr} {oc : Value} {od an : Option Addr} {osl : Array (Option Value)} {kV doc pm cdv ct : Value}
    (a : PySem.W.findIn K (.ref C) m = some (some (.ref f))) (i : PySem.W.isFn K (.ref f) = true)
    (l : K.lookup f = some ⟨oc, od, .func (PySem.W.fnOf m qual (defArgs st) (defBody st) (defScope st) .none kV doc pm an cdv ct), osl⟩) (c : PySem.W.codeIn K cdv qual = true) (k : PySem.W.keepIn K (.ref f) = true)
    (h : ∀ (kV doc pm : Value) (an : Option Addr) (cdv ct : Value) (us : List Value), us.length = ps.length → bindArgs (PySem.W.fnOf m qual (defArgs st) (defBody st) (defScope st) .none kV doc pm an cdv ct) ⟨us, []⟩ = pure (ps.zip us)) : Dm K C m qual st ps :=
  { f := f, fd := _, F := fun_mk (st := st) l c k, b := (fun_mk (st := st) l c k).binds h, mt := ⟨a, i, k⟩ }
end L2

namespace L2
open PySem PySem.Spec PyProof.Rows
/-- how many words a row has, by its first word -/
def wordF : List (Key × V) := [(.inr "place", .int 3), (.inr "tie", .int 4), (.inr "untie", .int 3), (.inr "drop", .int 2), (.inr "width", .int 1), (.inr "bags", .int 1), (.inr "family", .int 1), (.inr "wood", .int 1), (.inr "four", .int 1), (.inr "colours", .int 2), (.inr "apart", .int 1), (.inr "watch", .int 1), (.inr "round", .int 1)]
/-- the module's dict of words and its two tuples -/
structure Wds (w : World) (K : PySem.W.Frag) (mg : Str → Option Value) where
  d : Addr
  m : mg "WORDS" = some (.ref d)
  ns : (d == sysModules) = false
  es : Array DictEntry
  ep : Nat
  l : K.lookup d = some ⟨.type "dict", none, .dict es ep, #[]⟩
  ks : ∃ t0 t1 t2 t3 t4 t5 t6 t7 t8 t9 t10 t11 t12 t13 t14 t15 t16 t17 t18 t19 t20 t21 t22 t23 t24 t25 : Tok, es = #[⟨PyData.keyHash w.params "place", .str "place" t0, .int 3 t1⟩, ⟨PyData.keyHash w.params "tie", .str "tie" t2, .int 4 t3⟩, ⟨PyData.keyHash w.params "untie", .str "untie" t4, .int 3 t5⟩, ⟨PyData.keyHash w.params "drop", .str "drop" t6, .int 2 t7⟩, ⟨PyData.keyHash w.params "width", .str "width" t8, .int 1 t9⟩, ⟨PyData.keyHash w.params "bags", .str "bags" t10, .int 1 t11⟩, ⟨PyData.keyHash w.params "family", .str "family" t12, .int 1 t13⟩, ⟨PyData.keyHash w.params "wood", .str "wood" t14, .int 1 t15⟩, ⟨PyData.keyHash w.params "four", .str "four" t16, .int 1 t17⟩, ⟨PyData.keyHash w.params "colours", .str "colours" t18, .int 2 t19⟩, ⟨PyData.keyHash w.params "apart", .str "apart" t20, .int 1 t21⟩, ⟨PyData.keyHash w.params "watch", .str "watch" t22, .int 1 t23⟩, ⟨PyData.keyHash w.params "round", .str "round" t24, .int 1 t25⟩]
  a_CHANGES : Addr
  m_CHANGES : mg "CHANGES" = some (.ref a_CHANGES)
  s_CHANGES : ∃ (o : Obj) (its : Array Value) (n : Nat), K.lookup a_CHANGES = some o ∧ o.cls = .type "tuple" ∧ o.data = .seq its n ∧ its.size ≤ sizeLine ∧ Vals [.str "place", .str "tie", .str "untie", .str "drop"] its.toList
  a_QUESTIONS : Addr
  m_QUESTIONS : mg "QUESTIONS" = some (.ref a_QUESTIONS)
  s_QUESTIONS : ∃ (o : Obj) (its : Array Value) (n : Nat), K.lookup a_QUESTIONS = some o ∧ o.cls = .type "tuple" ∧ o.data = .seq its n ∧ its.size ≤ sizeLine ∧ Vals [.str "colours", .str "apart", .str "watch", .str "link", .str "round"] its.toList
theorem wds_mk {w : World} {K : PySem.W.Frag} {h : Heap} {mg : Str → Option Value} {d c q : Addr} {es : Array DictEntry} {ep un vn : Nat} {uo vo : Option Addr} {us vs : Array (Option Value)} {u0 : Tok} {u1 : Tok} {u2 : Tok} {u3 : Tok} {v0 : Tok} {v1 : Tok} {v2 : Tok} {v3 : Tok} {v4 : Tok} (X : K.In h) (G : h.Ns mainGlobals mg)
    (a : PySem.W.nsIn K mainGlobals "WORDS" = some (some (.ref d))) (l : K.lookup d = some ⟨.type "dict", none, .dict es ep, #[]⟩)
    (ks : ∃ t0 t1 t2 t3 t4 t5 t6 t7 t8 t9 t10 t11 t12 t13 t14 t15 t16 t17 t18 t19 t20 t21 t22 t23 t24 t25 : Tok, es = #[⟨PyData.keyHash w.params "place", .str "place" t0, .int 3 t1⟩, ⟨PyData.keyHash w.params "tie", .str "tie" t2, .int 4 t3⟩, ⟨PyData.keyHash w.params "untie", .str "untie" t4, .int 3 t5⟩, ⟨PyData.keyHash w.params "drop", .str "drop" t6, .int 2 t7⟩, ⟨PyData.keyHash w.params "width", .str "width" t8, .int 1 t9⟩, ⟨PyData.keyHash w.params "bags", .str "bags" t10, .int 1 t11⟩, ⟨PyData.keyHash w.params "family", .str "family" t12, .int 1 t13⟩, ⟨PyData.keyHash w.params "wood", .str "wood" t14, .int 1 t15⟩, ⟨PyData.keyHash w.params "four", .str "four" t16, .int 1 t17⟩, ⟨PyData.keyHash w.params "colours", .str "colours" t18, .int 2 t19⟩, ⟨PyData.keyHash w.params "apart", .str "apart" t20, .int 1 t21⟩, ⟨PyData.keyHash w.params "watch", .str "watch" t22, .int 1 t23⟩, ⟨PyData.keyHash w.params "round", .str "round" t24, .int 1 t25⟩]) (ns : (d == sysModules) = false)
    (ac : PySem.W.nsIn K mainGlobals "CHANGES" = some (some (.ref c))) (lc : K.lookup c = some ⟨.type "tuple", uo, .seq #[.str "place" u0, .str "tie" u1, .str "untie" u2, .str "drop" u3] un, us⟩)
    (aq : PySem.W.nsIn K mainGlobals "QUESTIONS" = some (some (.ref q))) (lq : K.lookup q = some ⟨.type "tuple", vo, .seq #[.str "colours" v0, .str "apart" v1, .str "watch" v2, .str "link" v3, .str "round" v4] vn, vs⟩) : Nonempty (Wds w K mg) :=
  ⟨{ d := d, m := PySem.W.mg_of X G a, ns := ns, es := es, ep := ep, l := l, ks := ks, a_CHANGES := c, m_CHANGES := PySem.W.mg_of X G ac,
     s_CHANGES := ⟨_, _, _, lc, rfl, rfl, by rw [sizeLine_eq]; show 4 ≤ _; decide, .cons ⟨_, rfl⟩ (.cons ⟨_, rfl⟩ (.cons ⟨_, rfl⟩ (.cons ⟨_, rfl⟩ .nil)))⟩,
     a_QUESTIONS := q, m_QUESTIONS := PySem.W.mg_of X G aq, s_QUESTIONS := ⟨_, _, _, lq, rfl, rfl, by rw [sizeLine_eq]; show 5 ≤ _; decide, .cons ⟨_, rfl⟩ (.cons ⟨_, rfl⟩ (.cons ⟨_, rfl⟩ (.cons ⟨_, rfl⟩ (.cons ⟨_, rfl⟩ .nil))))⟩ }⟩
theorem Wds.dict {P : Program} {w : World} {K : PySem.W.Frag} {mg : Str → Option Value} {h : Heap} (U : Wds w K mg) (X : K.In h) : ∃ vs, KV wordF vs ∧ h.DictOf (mixKind P w) U.d vs := by
  obtain ⟨t0, t1, t2, t3, t4, t5, t6, t7, t8, t9, t10, t11, t12, t13, t14, t15, t16, t17, t18, t19, t20, t21, t22, t23, t24, t25, e⟩ := U.ks
  refine ⟨[(.inr "place", .int 3 t1), (.inr "tie", .int 4 t3), (.inr "untie", .int 3 t5), (.inr "drop", .int 2 t7), (.inr "width", .int 1 t9), (.inr "bags", .int 1 t11), (.inr "family", .int 1 t13), (.inr "wood", .int 1 t15), (.inr "four", .int 1 t17), (.inr "colours", .int 2 t19), (.inr "apart", .int 1 t21), (.inr "watch", .int 1 t23), (.inr "round", .int 1 t25)], ?_, _, U.es, U.ep, X _ _ U.l, ⟨rfl, rfl, rfl⟩, rfl, ?_, ?_, ?_⟩
  · exact .cons ⟨rfl, t1, rfl⟩ (.cons ⟨rfl, t3, rfl⟩ (.cons ⟨rfl, t5, rfl⟩ (.cons ⟨rfl, t7, rfl⟩ (.cons ⟨rfl, t9, rfl⟩ (.cons ⟨rfl, t11, rfl⟩ (.cons ⟨rfl, t13, rfl⟩ (.cons ⟨rfl, t15, rfl⟩ (.cons ⟨rfl, t17, rfl⟩ (.cons ⟨rfl, t19, rfl⟩ (.cons ⟨rfl, t21, rfl⟩ (.cons ⟨rfl, t23, rfl⟩ (.cons ⟨rfl, t25, rfl⟩ .nil))))))))))))
  · rw [e]
    intro x hx
    simp only [Array.mem_def, List.mem_cons, List.not_mem_nil, or_false] at hx
    rcases hx with rfl | rfl | rfl | rfl | rfl | rfl | rfl | rfl | rfl | rfl | rfl | rfl | rfl
    · exact ⟨.inr "place", mixKind_str P w _ _, rfl⟩
    · exact ⟨.inr "tie", mixKind_str P w _ _, rfl⟩
    · exact ⟨.inr "untie", mixKind_str P w _ _, rfl⟩
    · exact ⟨.inr "drop", mixKind_str P w _ _, rfl⟩
    · exact ⟨.inr "width", mixKind_str P w _ _, rfl⟩
    · exact ⟨.inr "bags", mixKind_str P w _ _, rfl⟩
    · exact ⟨.inr "family", mixKind_str P w _ _, rfl⟩
    · exact ⟨.inr "wood", mixKind_str P w _ _, rfl⟩
    · exact ⟨.inr "four", mixKind_str P w _ _, rfl⟩
    · exact ⟨.inr "colours", mixKind_str P w _ _, rfl⟩
    · exact ⟨.inr "apart", mixKind_str P w _ _, rfl⟩
    · exact ⟨.inr "watch", mixKind_str P w _ _, rfl⟩
    · exact ⟨.inr "round", mixKind_str P w _ _, rfl⟩
  · rw [e]
    exact .cons (mixKind_str P w _ _) rfl (.cons (mixKind_str P w _ _) rfl (.cons (mixKind_str P w _ _) rfl (.cons (mixKind_str P w _ _) rfl (.cons (mixKind_str P w _ _) rfl (.cons (mixKind_str P w _ _) rfl (.cons (mixKind_str P w _ _) rfl (.cons (mixKind_str P w _ _) rfl (.cons (mixKind_str P w _ _) rfl (.cons (mixKind_str P w _ _) rfl (.cons (mixKind_str P w _ _) rfl (.cons (mixKind_str P w _ _) rfl (.cons (mixKind_str P w _ _) rfl .nil))))))))))))
  · show ([.inr "place", .inr "tie", .inr "untie", .inr "drop", .inr "width", .inr "bags", .inr "family", .inr "wood", .inr "four", .inr "colours", .inr "apart", .inr "watch", .inr "round"] : List Key).Nodup
    decide +kernel
/-- WORDS.get(e) -/
def tWget (ty : TE) : TE := fun σ H Q => ty σ H fun y H1 => ∃ k, y = kV k ∧ Q ((valV wordF k).getD .non) H1
section
variable {X : Cx} {e : Expr} {np apos cpos : Pos} {ty : TE}
theorem pe_wget (U : Wds X.w X.K X.mg) (hg : Gl X "WORDS") (he : PE X e ty)
    (hb : attributeBase (.Name "WORDS" np) "get" X.env (eval (.Name "WORDS" np) X.env) = eval (.Name "WORDS" np) X.env := by rfl)
    (hf : ((backTo cpos (starEach [e] X.env)).all (fun x => !x.1) && (backToKw cpos (keywordEach [] X.env)).all (fun x => x.1.isSome)
      && decide (([e] : List Expr).length + ([] : List Keyword).length + (if ([] : List Keyword).isEmpty then 0 else 1) < 30)) = true := by rfl)
    (hl : (apos.endLine == cpos.line) = true := by rfl) (ht : backTo cpos (starEach [e] X.env) = [(false, eval e X.env)] := by rfl) :
    PE X (.Call (.Attribute (.Name "WORDS" np) "get" apos) [e] [] cpos) (tWget ty) := by
  intro pins s σ H Q I h
  refine wpAny_Call_method hb hf hl PySem.F.plainAttrs_dict PySem.F.slot_dict_get PySem.F.type_dict_get (ld_glob I hg U.m ?_)
  have t2 : ∀ b, Value.ref U.d = .ref b → ∃ ob, s.heap.get? b = some ob ∧ ob.dict = none := fun b q => by
    cases q
    exact ⟨_, I.kIn _ _ U.l, rfl⟩
  refine ⟨(U.dict (P := X.prog) I.kIn).elim fun vs z => z.2.typeIs, t2, ?_⟩
  rw [ht]
  refine Calls.callWith_builtin rfl (Calls.evalArgs_plain (Calls.spliced_cons (thn (he pins s σ H _ I h) fun iv s2 ⟨y, H2, I2, ry, k, ey, q2⟩ => Calls.spliced_nil ?_)))
  subst ey
  obtain ⟨vs, rel, dd⟩ := U.dict (P := X.prog) I2.kIn
  refine call_meetsIn PySem.F.slot_dict_get dd.typeIs PySem.F.entry_dict_get (PySem.F.args_dict_get_2 _ _) (meets_dict_get (mixKind X.prog X.w) U.d (kV_is ry) U.ns) ⟨_, dd.mapOf, ?_⟩
  exact ⟨(valV wordF k).getD .non, H2, I2.tok _, (rel.val k).getD (show RelV .non .none from rfl), q2⟩
end
section
variable {X : Cx} {K : PySem.W.Frag} {e : Expr} {f : Str} {pos : Pos} {ta : TE}
theorem pe_fldK (e0 : X.K = K) (he : PE X e ta) (hb : attributeBase e f X.env (eval e X.env) = eval e X.env) : PE X (.Attribute e f pos) (tFld K ta f) := by subst e0; exact pe_fld he hb
end
end L2

namespace L2
open PySem PySem.Spec PyProof.Rows
/-- a pair of whole numbers as a dict's key -/
def pK (t : Int × Int) : List Key := [.inl t.1, .inl t.2]
theorem pK_inj {s t : Int × Int} (h : pK s = pK t) : s = t := by
  unfold pK at h
  injection h with h1 h2
  injection h2 with h2 _
  injection h1 with h1
  injection h2 with h2
  exact Prod.ext h1 h2
section
variable {X : Cx}
end
end L2

set_option maxHeartbeats 4000000
namespace Dy
open PySem PyProof.Rows
theorem entry_loop : entryFor table "dict.update.loop" = some Builtin.«dict.update.loop» := entryFor_of_tree (by kernel_rfl)
theorem plain_loop : plainId "dict.update.loop" = true := by decide +kernel
theorem keys_miss : typeLookup (.type "list") "keys" = pure none := am_miss_of_fast (by kernel_rfl)
section
variable {prog : Program} {w : World} {A : Around} {E : Value → Shared → Prop} {s : Shared}
/-- a list has no keys -/
theorem list_keys {a : Addr} {o : Obj} {xs : Array Value} {k : Nat} {Q : Option Value → Shared → Prop} (hx : s.heap.get? a = some o) (hc : o.cls = .type "list") (hdat : o.data = .seq xs k) (hd : o.dict = none) (hA : A.handled = none)
    (h : ∀ h' tk, (∀ b o, s.heap.get? b = some o → h'.get? b = some o) → Q none { s with heap := h', toks := tk }) : wpAny (model prog w) A (getAttr? (.ref a) "keys") Q E s := by
  obtain ⟨c, dct, dat, sl⟩ := o
  simp only at hc hdat hd
  subst hc hdat hd
  obtain ⟨hp, g, d, tk, os⟩ := s
  have hT : ∀ tk', (⟨hp, g, d, tk', os⟩ : Shared).TypeIs (.ref a) "list" := fun _ => ⟨_, hx, rfl⟩
  have f1 := sub_AttributeError
  have f3 := F.slot_list_getattribute.lookup
  have f4 := F.slot_list_getattribute.bind (.ref a)
  have f5 := am_list_getattr_none
  unfold getAttr? getAttrBy? getAttrBy
  repeat (any_goals (first | assumption | exact hT _ | ((with_reducible show wpAny _ _ (call (Value.builtin "list.__getattribute__") _ _) _ _ _); refine call_meets F.slot_list_getattribute (hT _) am_entry_list_getattribute (F.args_list_getattribute_2 _ _) (meets_getattribute_miss_list a xs k sl "keys" _ keys_miss (by decide +kernel)) ⟨hx, hA, fun h' tk' e hx' => ?_⟩) | wp_step))
  obtain ⟨t', u', he⟩ := hx'.there
  show wpAny _ _ (getattributeRaised _ _ _ _ _ _ _) _ _ _
  unfold getattributeRaised
  repeat (any_goals (first | assumption | wp_step))
  exact h _ _ hx'.of.keeps
end
section
variable {prog : Program} {w : World} {A : Around} {R : Result → Shared → Prop} {I : Addr} {fp wr : List Addr} {G : Array GenState → Array GenState → Prop} {n : Nat} {P : Nat → Value → Prop} {St : Nat → Shared → Prop} {κ : Type} [DecidableEq κ] {knd : HeapKind prog w κ}
theorem atKey_take {L : List (κ × Addr × Value)} (nd : (L.map (·.1)).Nodup) {i : Nat} {x : κ × Addr × Value} (hx : L[i]? = some x) : atKey (L.take i) x.1 = none := by
  unfold atKey
  have : (L.take i).find? (fun y => decide (y.1 = x.1)) = none := by
    rw [List.find?_eq_none]
    intro y hy
    simp only [decide_eq_true_eq]
    intro e
    obtain ⟨j, hj⟩ := List.mem_iff_getElem?.mp hy
    rw [List.getElem?_take] at hj
    by_cases q : j < i
    · rw [if_pos q] at hj
      have := idxH_unique (xs := L) nd (i := j) (j := i) (k := x.1) (p := y.2) (q := x.2) (by rw [hj, ← e]) (by rw [hx])
      omega
    · rw [if_neg q] at hj; exact nomatch hj
  rw [this]; rfl
theorem fill (W : WalksS prog w A.in1 I fp wr G n P St) (d : Addr) (nf : d ∉ fp) (L : List (κ × Addr × Value)) (hn : L.length = n) (nd : (L.map (·.1)).Nodup) (bs : Nat → Addr) (hv : ∀ i v, i < n → P i v → v = .ref (bs i))
    (Kp : Heap → Prop) (kpS : ∀ h h', Kp h → Heap.SameBut d h h' → Kp h') (kpM : ∀ s s' : Shared, Kp s.heap → Moved wr G s s' → Kp s'.heap)
    (hT : ∀ h i x, Kp h → L[i]? = some x → knd.is h x.1 x.2.1 ∧ IsTup h (bs i) #[.ref x.2.1, x.2.2]) (hu : knd.room A.in1) (hz : n ≤ sizeLine) :
    ∀ (k i : Nat) (s : Shared) (j : Int) (t : Tok), n - i = k → i ≤ n → St i s → s.heap.DictOfH knd d (L.take i) → Kp s.heap →
      (∀ s', Moved (d :: wr) G s s' → s'.heap.DictOfH knd d L → Kp s'.heap → R (.ok (.ret .none)) s') →
      codeAny (model prog w) A (.builtin "dict.update.loop" ⟨[.ref d, .ref I, .int j t, .none], []⟩) R s := by
  have nw : d ∉ wr := fun h => nf (W.sub _ h)
  have up : ∀ b ∈ wr, b ∈ d :: wr := fun b hb => List.mem_cons_of_mem _ hb
  have keepD : ∀ (s s' : Shared) (i : Nat), Moved wr G s s' → Kp s'.heap → s.heap.DictOfH knd d (L.take i) → s'.heap.DictOfH knd d (L.take i) := fun s s' i hm kp ⟨o, es, ep, ho, hc, hd, he, his, hnn⟩ =>
    ⟨o, es, ep, hm.heap d o nw ho, hc, hd, he, fun x hx => by
      obtain ⟨j, hj⟩ := List.mem_iff_getElem?.mp (List.mem_of_mem_take hx)
      exact (hT _ j x kp hj).1, hnn⟩
  intro k
  induction k with
  | zero =>
    intro i s j t hk hi st hD kp hR
    obtain rfl : i = n := by omega
    refine codeAny_builtin entry_loop ?_
    rw [Around.under_plainId plain_loop _]; show wpAny _ A.in1 (pyNext (.ref I) >>= _) _ _ s; refine wpAny_bind (W.done s _ _ st fun s' hm => ?_)
    have kp' := kpM _ _ kp hm
    have hD' := keepD _ _ _ hm kp' hD
    rw [← hn, List.take_length] at hD'
    show wpAny _ _ (Builtin.Dict.addKeywords d [] >>= _) _ _ _
    exact wpAny_bind (wpAny_pure (wpAny_pure (hR s' (hm.mono up) hD' kp')))
  | succ k ih =>
    intro i s j t hk hi st hD kp hR
    have li : i < n := by omega
    obtain ⟨x, hx⟩ : ∃ x, L[i]? = some x := ⟨L[i]'(by omega), List.getElem?_eq_getElem _⟩
    refine codeAny_builtin entry_loop ?_
    rw [Around.under_plainId plain_loop _]; show wpAny _ A.in1 (pyNext (.ref I) >>= _) _ _ s; refine wpAny_bind (W.item i s _ _ li st fun v s' hP st' hm => ?_)
    obtain rfl := hv i v li hP
    have kp' := kpM _ _ kp hm
    have hD' := keepD _ _ _ hm kp' hD
    obtain ⟨hk1, hk2⟩ := hT _ i x kp' hx
    obtain ⟨ob, hb, hcl, m, hdat⟩ := id hk2
    have hTy : s'.TypeIs (.ref (bs i)) "tuple" := ⟨_, hb, hcl⟩
    refine wpAny_bind (wpAny_holding (wpAny_bind (wpAny_tryCatch ?_)))
    unfold Builtin.Dict.pairItems
    refine wpAny_bind (wpAny_typeOf hTy ?_)
    have e1 : ((Value.type "tuple" == Value.type "list") || (Value.type "tuple" == Value.type "tuple")) = true := by decide +kernel
    rw [if_pos e1]
    refine wpAny_bind (wpAny_seqItems hb hdat (wpAny_pure ?_))
    show wpAny _ _ (holding [Value.ref x.2.1, x.2.2] (dictSet d (.ref x.2.1) x.2.2)) _ _ _
    refine wpAny_holding (wpAny_dictSet_heap (hsz := by rw [List.length_take]; omega) hu hk1 hD' fun h' hD2 sb => ?_)
    have hD3 : h'.DictOfH knd d (L.take (i + 1)) := by
      rw [storedH_new (atKey_take nd hx)] at hD2
      rw [List.take_add_one, hx]
      exact hD2
    refine wpAny_pure ⟨plainId_quiet plain_loop _, ih (i + 1) _ _ _ (by omega) li (W.frame _ s' _ _ st' (Nat.le_add_right _ _) fun c hc o e => ?_) hD3 (kpS _ _ kp' sb) fun s2 hm2 h2 h3 => hR s2 (Moved.trans W.gtrans ((hm.mono up).then_heap (Nat.le_add_right _ _) fun c o hc e => ?_) hm2) h2 h3⟩
    · rw [sb.2 c (fun q : c = d => nf (by rw [← q]; exact hc))]; exact e
    · rw [sb.2 c (fun q : c = d => hc (by rw [q]; exact List.mem_cons_self))]; exact e
end
section
variable {prog : Program} {w : World} {A : Around} {E : Value → Shared → Prop} {s : Shared} {κ : Type} [DecidableEq κ] {knd : HeapKind prog w κ}
theorem new_empty (h : Heap) : (h.push { cls := .type "dict", data := .dict #[] }).DictOfH knd h.objs.size [] :=
  ⟨_, #[], _, Heap.get?_push_size _ rfl, ⟨rfl, rfl, rfl⟩, rfl, rfl, fun x hx => absurd hx (by simp), List.nodup_nil⟩
/-- dict(a list of pairs), the keys new each -/
theorem of_list {l : Addr} {o : Obj} {items : Array Value} {m : Nat} {L : List (κ × Addr × Value)} {bs : Nat → Addr} {Q : Value → Shared → Prop} (hh : A.handled = none) (hu : knd.room A.in1.in1)
    (hx : s.heap.get? l = some o) (hc : o.cls = .type "list") (hdat : o.data = .seq items m) (hd : o.dict = none) (hn : L.length = items.size) (nd : (L.map (·.1)).Nodup) (hz : items.size ≤ sizeLine)
    (hv : ∀ (i : Nat) (v : Value), items[i]? = some v → v = .ref (bs i))
    (hT : ∀ (h : Heap) (i : Nat) (x : κ × Addr × Value), (∀ b ob, s.heap.get? b = some ob → h.get? b = some ob) → L[i]? = some x → knd.is h x.1 x.2.1 ∧ IsTup h (bs i) #[.ref x.2.1, x.2.2])
    (h : ∀ (h' : Heap) (tk : Nat), h'.DictOfH knd s.heap.objs.size L → (∀ b ob, s.heap.get? b = some ob → h'.get? b = some ob) → Q (.ref s.heap.objs.size) { s with heap := h', toks := tk }) :
    wpAny (model prog w) A (call (.type "dict") [.ref l]) Q E s := by
  refine callType_codes (Q₁ := fun obj s₁ => obj = .ref s.heap.objs.size ∧ s₁ = { s with heap := s.heap.push { cls := .type "dict", data := .dict #[] } }) PySem.F.kt_called_dict (PySem.F.kt_typeCall_dict_1 _) PySem.F.entry_dict_init (kt_code_dict_new _ ⟨rfl, rfl⟩) ?_
  rintro obj s₁ ⟨rfl, rfl⟩
  have hnew : (s.heap.push { cls := .type "dict", data := .dict #[] }).DictOfH knd s.heap.objs.size [] := new_empty s.heap
  have hTd : Shared.TypeIs { s with heap := s.heap.push { cls := .type "dict", data := .dict #[] } } (.ref s.heap.objs.size) "dict" := ⟨_, Heap.get?_push_size _ rfl, rfl⟩
  have hx1 : (s.heap.push { cls := .type "dict", data := .dict #[] }).get? l = some o := Heap.get?_push_of_some _ hx
  have hTl : Shared.TypeIs { s with heap := s.heap.push { cls := .type "dict", data := .dict #[] } } (.ref l) "list" := ⟨_, hx1, hc⟩
  refine ⟨hTd, PySem.F.args_dict_init_2 _ _, ?_⟩
  unfold Builtin.«dict.__init__»
  refine wpAny_bind ?_
  unfold Builtin.Dict.selfAndRest
  refine wpAny_bind (wpAny_notOrdered_dict hTd ?_)
  show wpAny _ _ (pure (s.heap.objs.size, [Value.ref l])) _ _ _
  refine wpAny_pure ?_
  show wpAny _ _ (Builtin.Dict.updateFrom "dict.__init__" s.heap.objs.size (.ref l) [] .none) _ _ _
  unfold Builtin.Dict.updateFrom
  refine wpAny_bind (wpAny_typeOf hTl ?_)
  rw [if_pos (by decide)]
  refine wpAny_bind (list_keys hx1 hc hdat hd (by simp [hh]) fun h1 tk1 k1 => ?_)
  simp only [Option.isNone_none, if_true]
  refine wpAny_bind (wpAny_rule ?_)
  have ll : l < s.heap.objs.size := Heap.lt_size hx
  have g1 : h1.get? s.heap.objs.size = some { cls := .type "dict", data := .dict #[] } := k1 _ _ (Heap.get?_push_size _ rfl)
  have g2 : h1.get? l = some o := k1 _ _ hx1
  have dl : s.heap.objs.size < h1.objs.size := Heap.lt_size g1
  have hl1 : h1.IsList l items := ⟨_, g2, hc, m, hdat⟩
  refine wpAny_bind (wpAny_pyIter_list (s := { s with heap := h1, toks := tk1 }) hl1 ?_)
  have hh3 : A.in1.in1.handled = none := by simp [hh]
  have ni : l ≠ h1.objs.size := Nat.ne_of_lt (Nat.lt_trans ll dl)
  have nf : s.heap.objs.size ∉ [h1.objs.size, l] := by
    simp only [List.mem_cons, List.not_mem_nil, or_false, not_or]
    exact ⟨Nat.ne_of_lt dl, Nat.ne_of_gt ll⟩
  refine wpAny_pure ⟨plainId_quiet plain_loop _, ?_⟩
  refine fill (knd := knd) (n := items.size) ((Walks.list hh3 _ l ni items).toS) s.heap.objs.size nf L hn nd bs (fun i v _ hp => hv i v hp)
    (fun h2 => ∀ b ob, s.heap.get? b = some ob → h2.get? b = some ob) (fun h2 h3 kp sb b ob e => ?_) (fun s2 s3 kp hm b ob e => ?_) (fun h2 i x kp e => hT h2 i x kp e) hu hz items.size 0 _ _ _ (by omega) (Nat.zero_le _)
    ⟨⟨_, Heap.get?_push_size _ rfl, rfl, rfl⟩, (hl1.push _)⟩ ?_ ?_ ?_
  · rw [sb.2 b (Nat.ne_of_lt (Heap.lt_size e))]; exact kp b ob e
  · refine hm.heap b ob ?_ (kp b ob e)
    simp only [List.mem_cons, List.not_mem_nil, or_false]
    exact fun q => absurd q (Nat.ne_of_lt (Nat.lt_trans (Heap.lt_size e) dl))
  · exact ⟨_, #[], _, Heap.get?_push_of_some _ g1, ⟨rfl, rfl, rfl⟩, rfl, by rw [List.take_zero]; rfl, fun x hx => absurd hx (by simp), by rw [List.take_zero]; exact List.nodup_nil⟩
  · exact fun b ob e => Heap.get?_push_of_some _ (k1 b ob (Heap.get?_push_of_some _ e))
  · intro s' hm hD kp
    obtain ⟨h', g', d', tk', os'⟩ := s'
    have eg : g' = s.gens := hm.gens
    have ed : d' = s.drawn := hm.drawn
    have eo : os' = s.os := hm.os
    subst eg; subst ed; subst eo
    exact ⟨rfl, h h' tk' hD kp⟩
end
end Dy

namespace L2
open PySem PySem.Spec PyProof.Rows
theorem it_T {c : Prop} [Decidable c] {a b : Prop} (hc : c) (h : a) : if c then a else b := by rw [if_pos hc]; exact h
theorem it_F {c : Prop} [Decidable c] {a b : Prop} (hc : ¬ c) (h : b) : if c then a else b := by rw [if_neg hc]; exact h
section
variable {X : Cx} {pos : Pos}
end
end L2

set_option maxHeartbeats 1000000
namespace Sm
open PySem














end Sm

set_option maxHeartbeats 1000000
namespace Sm
open PySem







end Sm

set_option maxHeartbeats 1000000
namespace Sm
open PySem

section
variable {prog : Program} {w : World} {A : Around} {E : Value → Shared → Prop} {s : Shared} {B : Bool} {a : Addr} {L : List Nat}
end
end Sm

set_option maxHeartbeats 2000000
namespace Sm
open PySem

section
variable {prog : Program} {w : World} {A : Around} {E : Value → Shared → Prop} {s : Shared} {a : Addr} {L : List Nat}
end
end Sm

set_option maxHeartbeats 2000000
namespace Sm
open PySem
section
variable {prog : Program} {w : World} {A : Around} {E : Value → Shared → Prop} {s : Shared} {sA oA : Addr} {L1 L2 : List Nat}
end
end Sm

set_option maxHeartbeats 2000000
namespace Sm
open PySem PySem.Builtin.Frozenset
section
variable {prog : Program} {w : World} {A : Around} {E : Value → Shared → Prop} {s : Shared} {a b : Addr} {L1 L2 : List Nat}
end
end Sm

set_option maxHeartbeats 4000000
namespace Sm
open PySem
end Sm

set_option maxHeartbeats 4000000
namespace Sm
open PySem
section
variable {prog : Program} {w : World} {A : Around} {E : Value → Shared → Prop} {s : Shared} {a : Addr} {L : List Nat}
end
end Sm

set_option maxHeartbeats 4000000
namespace Sm
open PySem PyProof.Rows
section
variable {prog : Program} {w : World} {A : Around} {E : Value → Shared → Prop} {s : Shared} {a : Addr} {L : List Nat}
theorem sh_old {h : Heap} {a b : Addr} {vs : List Value} {out : Array Value} {o : Obj} (lb : b < h.objs.size) (ne : b ≠ a) (e : h.get? b = some o) : (sortedHeap h a vs out).get? b = some o := by
  unfold sortedHeap
  rw [Heap.get?_update_ne _ _ _ _ ne]
  exact Heap.get?_push_of_some _ (Heap.get?_push_of_some _ (by rw [Heap.get?_update_ne _ _ _ _ ne]; exact e))
theorem sh_at {h : Heap} {a : Addr} {vs : List Value} {xs out : Array Value} {n : Nat} (e : h.get? a = some (seqObj "list" xs n)) : ∃ n', (sortedHeap h a vs out).get? a = some (seqObj "list" out n') := by
  unfold sortedHeap
  exact ⟨_, get?_update_seq (Heap.get?_push_of_some _ (Heap.get?_push_of_some _ (get?_update_seq e fun _ => #[]))) fun _ => out⟩
end
end Sm

namespace Dq
open PySem PySem.Spec PyProof.Rows
variable {prog : Program} {w : World} {A : Around} {E : Value → Shared → Prop} {s : Shared}
abbrev kO (d : Addr) (i n ep : Nat) : Obj := { cls := .type "dict_keyiterator", data := .fields #[.ref d, .int (i : Nat) 0, .int (n : Nat) 0, .int (ep : Nat) 0] }
theorem args_next (a : Value) : argsOk "dict_keyiterator.__next__" ⟨[a], []⟩ := by unfold argsOk; kernel_rfl
theorem mro_key : ∃ l, mroOf (.type "dict_keyiterator") = pure l ∧ (["dict_reversekeyiterator", "dict_reversevalueiterator", "dict_reverseitemiterator"].any fun t => l.contains (Value.type t)) = false ∧ (["dict_keyiterator", "dict_reversekeyiterator"].any fun t => l.contains (Value.type t)) = true := ⟨_, rfl, by decide +kernel, by decide +kernel⟩
theorem isOne_no {Q : Bool → Shared → Prop} {I : Addr} (hT : s.TypeIs (.ref I) "dict_keyiterator") (h : Q false s) : wpAny (model prog w) A (Builtin.Dict_items.isOneOf (.ref I) ["dict_reversekeyiterator", "dict_reversevalueiterator", "dict_reverseitemiterator"]) Q E s := by
  obtain ⟨l, e, n, _⟩ := mro_key
  unfold Builtin.Dict_items.isOneOf
  refine wpAny_bind (wpAny_typeOf hT ?_)
  rw [e]
  refine wpAny_bind (wpAny_pure (wpAny_pure ?_))
  rw [n]
  exact h
theorem isOne_yes {Q : Bool → Shared → Prop} {I : Addr} (hT : s.TypeIs (.ref I) "dict_keyiterator") (h : Q true s) : wpAny (model prog w) A (Builtin.Dict_items.isOneOf (.ref I) ["dict_keyiterator", "dict_reversekeyiterator"]) Q E s := by
  obtain ⟨l, e, _, n⟩ := mro_key
  unfold Builtin.Dict_items.isOneOf
  refine wpAny_bind (wpAny_typeOf hT ?_)
  rw [e]
  refine wpAny_bind (wpAny_pure (wpAny_pure ?_))
  rw [n]
  exact h
theorem item_at {I d : Addr} {o : Obj} {es : Array DictEntry} {ep i : Nat} {e : DictEntry} {Q : Option Value → Shared → Prop} (ne : d ≠ I) (ho : s.heap.get? d = some o) (hd : o.data = .dict es ep) (hI : s.heap.get? I = some (kO d i es.size ep)) (hx : es[i]? = some e)
    (h : ∀ h', h'.get? I = some (kO d (i + 1) es.size ep) → Heap.SameBut I s.heap h' → Q (some e.key) { s with heap := h' }) : wpAny (model prog w) A (pyNext (.ref I)) Q E s := by
  have hT : s.TypeIs (.ref I) "dict_keyiterator" := ⟨_, hI, rfl⟩
  unfold pyNext
  refine wpAny_bind (wpAny_attempt (wpAny_callSpecial?_slot (name := Str.ofString "__next__") hT F.slot_dict_keyiterator_next (wpAny_call_entry F.slot_dict_keyiterator_next hT F.entry_dict_keyiterator_next ?_ (args_next _))))
  unfold Builtin.«dict_keyiterator.__next__»
  refine wpAny_bind (m := Builtin.Dict_items.slot0 "__next__" _) (wpAny_pure ?_)
  dsimp only
  refine wpAny_bind ?_
  refine wpAny_bind ?_
  refine wpAny_bind (m := typeNameOfWhole _) (wpAny_typeNameOfWhole_keyiter hT ?_)
  rw [show (if Builtin.Dict_items.ownsTuple "dict_keyiterator" = true then 2 else 0) = 0 from rfl]
  refine wpAny_pure ?_
  refine wpAny_bind (wpAny_fieldsOf hI rfl ?_)
  show wpAny _ _ (if (Value.ref d == Value.none) = true then _ else _) _ _ _
  refine wpAny_ite (L2.it_F (by simp) ?_)
  refine wpAny_bind (m := Builtin.Dict_items.addrOf _) (wpAny_pure ?_)
  refine wpAny_bind (wpAny_dictEntries ho hd ?_)
  refine wpAny_ite (L2.it_F (by simp) ?_)
  refine wpAny_bind (m := Builtin.Dict_items.addrOf _) (wpAny_pure ?_)
  refine wpAny_bind (wpAny_dictEpoch ho hd ?_)
  refine wpAny_ite (L2.it_F (by simp) ?_)
  refine wpAny_pure ?_
  dsimp only
  have e1 : (if (i : Int) < 0 then none else es[(i : Int).toNat]?) = some e := by
    rw [if_neg (by omega), Int.toNat_natCast]; exact hx
  rw [e1]
  dsimp only
  refine wpAny_bind ?_
  refine wpAny_bind (m := typeNameOfWhole _) (wpAny_typeNameOfWhole_keyiter hT ?_)
  rw [show (if Builtin.Dict_items.ownsTuple "dict_keyiterator" = true then 2 else 0) = 0 from rfl]
  refine wpAny_pure ?_
  refine wpAny_bind (isOne_no hT ?_)
  refine wpAny_bind (wpAny_setField_rec hI (by simp) fun h1 hI1 sb1 => ?_)
  have hT1 : Shared.TypeIs { s with heap := h1 } (.ref I) "dict_keyiterator" := ⟨_, hI1, rfl⟩
  refine wpAny_bind (wpAny_holding ?_)
  refine wpAny_bind (isOne_yes hT1 ?_)
  refine wpAny_ite (L2.it_T rfl ?_)
  refine wpAny_pure (wpAny_pure ⟨_, rfl, wpAny_pure (h h1 ?_ sb1)⟩)
  rw [hI1]
  simp [rawInt]
theorem end_at {I d : Addr} {o : Obj} {es : Array DictEntry} {ep : Nat} {Q : Option Value → Shared → Prop} (hh : A.handled = none) (ne : d ≠ I) (ho : s.heap.get? d = some o) (hd : o.data = .dict es ep) (hI : s.heap.get? I = some (kO d es.size es.size ep))
    (h : ∀ h', Heap.ExtBut I s.heap h' → Q none { s with heap := h' }) : wpAny (model prog w) A (pyNext (.ref I)) Q E s := by
  have hT : s.TypeIs (.ref I) "dict_keyiterator" := ⟨_, hI, rfl⟩
  unfold pyNext
  refine wpAny_bind (wpAny_attempt (wpAny_callSpecial?_slot (name := Str.ofString "__next__") hT F.slot_dict_keyiterator_next (wpAny_call_entry F.slot_dict_keyiterator_next hT F.entry_dict_keyiterator_next ?_ (args_next _))))
  unfold Builtin.«dict_keyiterator.__next__»
  refine wpAny_bind (m := Builtin.Dict_items.slot0 "__next__" _) (wpAny_pure ?_)
  dsimp only
  refine wpAny_bind ?_
  refine wpAny_bind ?_
  refine wpAny_bind (m := typeNameOfWhole _) (wpAny_typeNameOfWhole_keyiter hT ?_)
  rw [show (if Builtin.Dict_items.ownsTuple "dict_keyiterator" = true then 2 else 0) = 0 from rfl]
  refine wpAny_pure ?_
  refine wpAny_bind (wpAny_fieldsOf hI rfl ?_)
  show wpAny _ _ (if (Value.ref d == Value.none) = true then _ else _) _ _ _
  refine wpAny_ite (L2.it_F (by simp) ?_)
  refine wpAny_bind (m := Builtin.Dict_items.addrOf _) (wpAny_pure ?_)
  refine wpAny_bind (wpAny_dictEntries ho hd ?_)
  refine wpAny_ite (L2.it_F (by simp) ?_)
  refine wpAny_bind (m := Builtin.Dict_items.addrOf _) (wpAny_pure ?_)
  refine wpAny_bind (wpAny_dictEpoch ho hd ?_)
  refine wpAny_ite (L2.it_F (by simp) ?_)
  refine wpAny_pure ?_
  dsimp only
  have e1 : (if (es.size : Int) < 0 then none else es[(es.size : Int).toNat]?) = none := by
    rw [if_neg (by omega), Int.toNat_natCast]; simp
  rw [e1]
  dsimp only
  refine wpAny_bind ?_
  refine wpAny_bind (m := typeNameOfWhole _) (wpAny_typeNameOfWhole_keyiter hT ?_)
  rw [show (if Builtin.Dict_items.ownsTuple "dict_keyiterator" = true then 2 else 0) = 0 from rfl]
  refine wpAny_pure ?_
  refine wpAny_bind (wpAny_setField_rec hI (by simp) fun h1 hI1 sb1 => ?_)
  refine wpAny_bind ?_
  simp only [newExc, newTuple]
  refine wpAny_bind (wpAny_newObj_type ?_ (by size_fits))
  refine wpAny_bind (m := firstArgMember _ _) (wpAny_of_eq (a := Value.none) (by first | rfl | (simp only [firstArgMember]; rfl)) ?_); refine wpAny_newObj_type ?_ (by size_fits)
  simp only [raiseNew]
  refine wpAny_bind (wpAny_handled ?_)
  rw [show A.in1.handled = none from hh]; refine wpAny_bind (wpAny_pure (wpAny_throw ?_))
  refine wpAny_bind (wpAny_isInstance (U := "StopIteration") (T := "StopIteration") (b := true) ⟨_, Heap.get?_push_size _ rfl, rfl⟩ isSubtype_stop ?_)
  exact wpAny_pure (h _ ((sb1.extBut.push _).push _))
theorem dWalks {I d : Addr} {o : Obj} {es : Array DictEntry} {ep : Nat} (hh : A.handled = none) (ne : d ≠ I) (hd : o.data = .dict es ep) :
    Walks prog w A I [I, d] [I] es.size (fun i v => (es[i]?).map (·.key) = some v) (fun i h => h.get? I = some (kO d i es.size ep) ∧ h.get? d = some o) where
  sub := fun b hb => by simp at hb; simp [hb]
  frame := fun _ _ _ st hk => ⟨hk I (by simp) _ st.1, hk d (by simp) _ st.2⟩
  item := fun i s Q E hi st hQ => by
    have he : es[i]? = some es[i] := Array.getElem?_eq_getElem hi
    refine item_at ne st.2 hd st.1 he fun h' hI sb => ?_
    exact hQ _ h' s.toks (by rw [he]; rfl) ⟨hI, by rw [sb.2 d ne]; exact st.2⟩ fun b o hb q => by rw [sb.2 b (fun c => hb (by simp [c]))]; exact q
  done := fun s Q E st hQ => end_at hh ne st.2 hd st.1 fun h' xb => hQ h' s.toks fun b o hb q => xb b o (fun c => hb (by simp [c])) q
  self := fun i s Q E st hQ => wpAny_pyIter_keyiter ⟨_, st.1, rfl, rfl⟩ hQ
theorem iter_at {d : Addr} {o : Obj} {es : Array DictEntry} {ep : Nat} {Q : Value → Shared → Prop} (hs : (d == sysModules) = false) (ho : s.heap.get? d = some o) (hx : o.ExactDict) (hd : o.data = .dict es ep)
    (h : Q (.ref s.heap.objs.size) { s with heap := s.heap.push (kO d 0 es.size ep) }) : wpAny (model prog w) A (pyIter (.ref d)) Q E s := by
  have hT : s.TypeIs (.ref d) "dict" := ⟨_, ho, hx.1⟩
  refine wpAny_pyIter_slot hT F.slot_dict_iter (wpAny_call_entry F.slot_dict_iter hT F.entry_dict_iter ?_ (F.args_dict_iter_1 _))
  unfold Builtin.«dict.__iter__»
  refine wpAny_bind ?_
  unfold Builtin.Dict.dictSlotNone
  refine wpAny_bind (wpAny_notOrdered_dict hT ?_)
  refine wpAny_bind (m := slotArgs "__iter__" 0 _) (wpAny_pure (wpAny_pure ?_))
  refine wpAny_bind (m := Builtin.Dict.addrOf _) (wpAny_pure ?_)
  refine wpAny_bind ?_
  unfold Builtin.Dict.showsAll
  refine wpAny_ite (L2.it_F (by rw [hs]; decide) (wpAny_pure ?_))
  refine wpAny_bind (wpAny_dictEntries ho hd ?_)
  refine wpAny_bind (wpAny_dictEpoch ho hd ?_)
  refine wpAny_bind ?_
  unfold newFields
  refine wpAny_newObj_type ?_
  exact wpAny_pure ⟨_, rfl, "dict_keyiterator", _, ⟨_, Heap.get?_push_size _ rfl, rfl⟩, F.slot_dict_keyiterator_next.lookup, h⟩
theorem src {d : Addr} {o : Obj} {es : Array DictEntry} {ep : Nat} (hs : (d == sysModules) = false) (hx : o.ExactDict) (hd : o.data = .dict es ep) : W.KdlSrc prog w "dict" d d es.size (fun i v => (es[i]?).map (·.key) = some v) (fun h => h.get? d = some o) where
  type := fun s ok => ⟨_, ok, hx.1⟩
  there := fun h ok => ⟨Heap.lt_size ok, Heap.lt_size ok⟩
  keep := fun h h' ok k => k d (.inl rfl) _ ok
  notList := by decide
  notTuple := by decide
  hint := fun A E s Q ok q => W.kdl_hint_dict ⟨_, ok, hx.1⟩ q
  iter := fun A s hh ok => ⟨kO d 0 es.size ep, _, fun E Q q => iter_at hs ok hx hd q, dWalks hh (Nat.ne_of_lt (Heap.lt_size ok)) hd, Heap.get?_push_size _ rfl, Heap.get?_push_of_some _ ok⟩
theorem collect_dict {d : Addr} {o : Obj} {es : Array DictEntry} {ep : Nat} {Q : List Value → Shared → Prop} (hh : A.handled = none) (hs : (d == sysModules) = false) (ho : s.heap.get? d = some o) (hx : o.ExactDict) (hd : o.data = .dict es ep) (hz : es.size ≤ sizeLine)
    (h : ∀ (h' : Heap) (tk : Nat), (∀ b o, s.heap.get? b = some o → h'.get? b = some o) → s.heap.objs.size < h'.objs.size → Q (es.toList.map (·.key)) { s with heap := h', toks := tk }) : wpAny (model prog w) A (collect (.ref d)) Q E s := by
  have lt : d < s.heap.objs.size := Heap.lt_size ho
  unfold collect
  refine wpAny_bind (wpAny_runValue (codeAny_builtin F.entry_proto_collect ?_))
  rw [Around.under_plainId F.plain_proto_collect _]
  show wpAny _ A.in1 (newList [] >>= fun l => again (.builtin "list.__iadd__" ⟨[l, .ref d], []⟩)) _ _ s
  refine wpAny_bind (wpAny_newObj_type (wpAny_pure ⟨plainId_quiet F.plain_list_iadd _, codeAny_builtin F.entry_list_iadd ?_⟩))
  rw [Around.under_plainId F.plain_list_iadd _]
  have S0 : (s.heap.push { cls := .type "list", data := .seq ([] : List Value).toArray }).get? s.heap.objs.size = some { cls := .type "list", data := .seq ([] : List Value).toArray } := Heap.get?_push_size _ rfl
  have ho1 : (s.heap.push { cls := .type "list", data := .seq ([] : List Value).toArray }).get? d = some o := Heap.get?_push_of_some _ ho
  show wpAny _ A.in1 (Builtin.List.listExtendWith (.ref s.heap.objs.size) (.ref d) (.ref s.heap.objs.size)) _ _ { s with heap := s.heap.push { cls := .type "list", data := .seq ([] : List Value).toArray } }
  have key := W.kdl_extend (prog := prog) (w := w) (A := A) (s := { s with heap := s.heap.push { cls := .type "list", data := .seq ([] : List Value).toArray } }) (R := fun r s' => r = .ok (.ret (.ref s.heap.objs.size)) ∧ wpAny (model prog w) A (load s.heap.objs.size >>= fun o => match o.data with | .seq xs _ => pure xs.toList | _ => unsupported "internal:collect") Q E s') (src (prog := prog) (w := w) hs hx hd) hh ho1 s.heap.objs.size (Nat.ne_of_gt lt) (Nat.ne_of_gt lt) (.ref s.heap.objs.size) 0 S0 (fun h' tk acc' c' k hS hacc => ⟨rfl, wpAny_bind (wpAny_load hS ?_)⟩) hz
  · refine wpAny_mono key (fun fin s' hf => ?_) (fun e s' hf => by cases hf.1)
    cases fin with
    | done f =>
      obtain ⟨e, q⟩ := hf
      injection e with e
      subst e
      exact q
    | again c' =>
      obtain ⟨q, cq⟩ := hf
      refine ⟨q, codeAny_mono cq fun r s' hr => ?_⟩
      obtain ⟨rfl, q⟩ := hr
      exact q
  · dsimp only
    have el : acc'.toList = es.toList.map (·.key) := by
      apply List.ext_getElem?
      intro i
      rw [Array.getElem?_toList, List.getElem?_map, Array.getElem?_toList]
      rcases Nat.lt_or_ge i acc'.size with q | q
      · have he := hacc.2 i acc'[i] (Array.getElem?_eq_getElem q)
        rw [Array.getElem?_eq_getElem q, he]
      · rw [Array.getElem?_eq_none q, Array.getElem?_eq_none (by rw [← hacc.1]; exact q)]
        rfl
    rw [el]
    refine wpAny_pure (h h' tk (fun b o e => ?_) (Heap.lt_size hS))
    have lb : b < s.heap.objs.size := Heap.lt_size e
    exact k b o (Nat.ne_of_lt lb) (Heap.get?_push_of_some _ e)
end Dq
namespace L2
open PySem PySem.Spec PyProof.Rows Bg Srt
section
variable {X : Cx}
theorem vals_refsQ : ∀ xs : List (List Key × Addr × Value), Vals (xs.map fun x => V.ref x.2.1) (xs.map fun x => Value.ref x.2.1)
  | [] => .nil
  | x :: r => .cons rfl (vals_refsQ r)
theorem tie_getD {H : Hp} {vs : List V} {ts : List (Int × Int)} (h : Paired (TieL H) vs ts) : ∀ l : List Nat, (∀ i ∈ l, i < ts.length) → Paired (TieL H) (l.map fun i => vs.getD i .non) (l.map fun i => ts.getD i (0, 0))
  | [], _ => .nil
  | i :: l, hl => by
    obtain ⟨x, hx, q⟩ := paired_getr h (List.getElem?_eq_getElem (hl i List.mem_cons_self))
    refine .cons ?_ (tie_getD h l fun j hj => hl j (List.mem_cons_of_mem _ hj))
    dsimp only
    rw [List.getD_eq_getElem?_getD, hx, List.getD_eq_getElem?_getD, List.getElem?_eq_getElem (hl i List.mem_cons_self)]
    exact q
theorem perm_getD {ts : List (Int × Int)} {l : List Nat} (h : l.Perm (List.range ts.length)) : (l.map fun i => ts.getD i (0, 0)).Perm ts := by
  have e : (List.range ts.length).map (fun i => ts.getD i (0, 0)) = ts := by
    apply List.ext_getElem?
    intro i
    rw [List.getElem?_map]
    by_cases c : i < ts.length
    · rw [List.getElem?_range c, List.getElem?_eq_getElem c]
      show some (ts.getD i (0, 0)) = _
      rw [List.getD_eq_getElem?_getD, List.getElem?_eq_getElem c]; rfl
    · rw [List.getElem?_eq_none (by rw [List.length_range]; omega), List.getElem?_eq_none (by omega)]; rfl
  have := h.map (fun i => ts.getD i (0, 0))
  rw [e] at this
  exact this
end
end L2

namespace L2
open PySem PySem.Spec PyProof.Rows
section
variable {X : Cx} {pins : List (Addr × Obj)} {σ : St} {H : Hp} {s : Shared} {d : Addr} {kvs : List (Key × V)}
/-- another word about a tracked thing, of the same object -/
theorem Inv.reword {o o' : HO} (I : Inv X pins σ H s) (e : H d = some o) (nt : ∀ xs, o ≠ .tup xs) (no : ∀ y, o ≠ .own y) (nb : ∀ ps, o ≠ .tbl ps) (nf : ∀ b u, X.H₀ d ≠ some (.frz b u)) (q : ObjOk X.prog X.w H s.heap d o') : Inv X pins σ (upd H d o') s := by
  have ne : ∀ b, H b = none → b ≠ d := fun b n z => by rw [z, e] at n; cases n
  have nn : ∀ b, H b = none → upd H d o' b = none := fun b n => by rw [upd_ne (ne b n)]; exact n
  have ho : ∀ b c, H b = some (.own c) → upd H d o' b = some (.own c) := fun b c r => by
    rw [upd_ne]
    · exact r
    · intro z; rw [z, e] at r; exact no c (Option.some.inj r)
  have ht : ∀ b xs, H b = some (.tup xs) → upd H d o' b = some (.tup xs) := fun b xs r => by
    rw [upd_ne]
    · exact r
    · intro z; rw [z, e] at r; exact nt xs (Option.some.inj r)
  refine ⟨I.ok, I.os, I.bare, ⟨I.base.keep, I.base.slot, fun b ob q1 q2 q3 => nn b (I.base.free b ob q1 q2 q3), I.base.there, fun b xs r => ht b xs (I.base.tups b xs r), fun b ob u r => ?_, fun b ps r => ?_⟩, I.loc, I.cell, nn _ I.free, fun x c r => nn c (I.freeC x c r), fun p hp => ?_, fun b u r => ?_, I.len⟩
  · rw [upd_ne]
    · exact I.base.frzs b ob u r
    · intro z; rw [z] at r; exact nf ob u r
  · obtain ⟨m, r1⟩ := I.base.tbls b ps r
    refine ⟨m, ?_⟩
    rw [upd_ne]
    · exact r1
    · intro z; rw [z, e] at r1; exact nb _ (Option.some.inj r1)
  · obtain ⟨p1, p2, p3⟩ := I.pin p hp
    exact ⟨p1, nn _ p2, p3⟩
  · by_cases c : b = d
    · subst c
      rw [upd_same] at r
      cases r
      exact q.stay (fun _ _ _ z => z) (fun c r => ho c b r) ht
    · rw [upd_ne c] at r
      exact (I.hok b u r).stay (fun _ _ _ z => z) (fun c r => ho c b r) ht
theorem Inv.nofrz {o : HO} (I : Inv X pins σ H s) (e : H d = some o) (nf : ∀ b u, o ≠ .frz b u) : ∀ b u, X.H₀ d ≠ some (.frz b u) := fun b u z => by
  have := I.base.frzs d b u z
  rw [e] at this
  exact nf b u (Option.some.inj this)
theorem Inv.thaw {o : Obj} {u : HO} (I : Inv X pins σ H s) (nf : ∀ b u, X.H₀ d ≠ some (.frz b u)) (e : H d = some (.frz o u)) : Inv X pins σ (upd H d u) s := by
  obtain ⟨_, q⟩ := I.hok d _ e
  exact I.reword e (fun _ z => by cases z) (fun _ z => by cases z) (fun _ z => by cases z) nf q
end
section
variable {X : Cx} {tg : Expr}
end
end L2

namespace L2
open PySem PySem.Spec PyProof.Rows
end L2

namespace L2
open PySem PySem.Spec PyProof.Rows Bg
section
variable {X : Cx} {pins : List (Addr × Obj)} {σ : St} {H : Hp} {s : Shared} {d : Addr} {ts : List (Int × Int)}
end
/-- the keys of the frozen dict at d, in its order -/
def Itp (o : Obj) (d : Addr) (u : HO) (as : List Addr) : It :=
  ⟨fun i H => H d = some (.frz o u) ∧ i < as.length, fun i H x H' => H' = H ∧ (as.map V.ref)[i]? = some x, fun i H => H d = some (.frz o u) ∧ i = as.length⟩
theorem turn_pdict {P : Program} {w : World} {K : PySem.W.Frag} {tg : Expr} {o : Obj} {u : HO} (d it : Addr) {as : List Addr} {es : Array DictEntry} {ep : Nat} (hd : o.data = .dict es ep) (ek : es.toList.map (·.key) = as.map Value.ref) :
    Turn P w K tg (Itp o d u as) [it] it (fun i h => h.get? it = some (Dq.kO d i es.size ep)) where
  mem := by simp
  obj := fun i h st b hb => by
    have e : b = it := by simpa using hb
    subst e
    exact ⟨_, st, fun v z => by cases z⟩
  keep := fun i h h' st k => k it (by simp) _ st
  item := by
    intro X hP hw hK hc i pins s σ H E I hf st hg
    subst hP hw hK
    obtain ⟨hq, hi⟩ := hg
    obtain ⟨hd1, _⟩ := I.hok d _ hq
    obtain ⟨f0, f1, f2, f3, f4, f5⟩ := hf it (by simp)
    have ne : d ≠ it := fun z => by rw [z] at hq; rw [f0] at hq; cases hq
    have lz : es.size = as.length := by have := congrArg List.length ek; rwa [List.length_map, List.length_map, Array.length_toList] at this
    have he : es[i]? = some (es[i]'(by omega)) := Array.getElem?_eq_getElem (by omega)
    have ekey : (es[i]'(by omega)).key = Value.ref as[i] := by
      have := congrArg (fun l => l[i]?) ek
      try dsimp only at this
      rw [List.getElem?_map, List.getElem?_map, Array.getElem?_toList, he, List.getElem?_eq_getElem hi] at this
      exact Option.some.inj this
    refine Dq.item_at ne hd1 hd st he fun h' hI sb => ?_
    have I1 : Inv X pins σ H { s with heap := h' } := I.turned (t' := s.toks) (fun b o hb e => (sb.2 b hb).trans e) f0 f1 f3 f4 f5
    exact ⟨_, rfl, go_of (s := { s with heap := h' }) hI rfl rfl (by decide) ⟨.ref as[i], H, I1, ekey, ⟨rfl, by rw [List.getElem?_map, List.getElem?_eq_getElem hi]; rfl⟩, hI, fun b hb => (hf b hb).1⟩⟩
  done := by
    intro X hP hw hK hc i pins s σ H E I hf st hg
    subst hP hw hK
    obtain ⟨hq, hx⟩ := hg
    obtain ⟨hd1, _⟩ := I.hok d _ hq
    obtain ⟨f0, f1, f2, f3, f4, f5⟩ := hf it (by simp)
    have ne : d ≠ it := fun z => by rw [z] at hq; rw [f0] at hq; cases hq
    have lz : es.size = as.length := by have := congrArg List.length ek; rwa [List.length_map, List.length_map, Array.length_toList] at this
    rw [hx, ← lz] at st
    exact Dq.end_at (I.ok.hd hc) ne hd1 hd st fun h' eb => ⟨rfl, I.turned (t' := s.toks) (fun b o hb e => eb b o hb e) f0 f1 f3 f4 f5⟩
  self := fun _ _ _ _ _ st h => wpAny_pyIter_keyiter ⟨_, st, rfl, rfl⟩ h
section
variable {X : Cx} {tg : Expr}
end
theorem lc_dictP {o : Obj} {d : Addr} {u : HO} {as : List Addr} {ix : List (Option Nat)} {g : TG} {tt : TT} {te : TE} {σ : St} {H1 : Hp} {Q : VK} (Pv : Nat → List V → Hp → Prop) (h0 : Pv 0 [] H1) (hl : ∀ i ys H, i ≤ as.length → Pv i ys H → H d = some (.frz o u) ∧ ys.length ≤ 1000)
    (hs : ∀ i ys H a, as[i]? = some a → Pv i ys H → g (.ref a) (capt ix σ) H fun σ2 H2 => tt σ2 H2 fun b H3 => if b = true then te σ2 H3 fun v H4 => Pv (i + 1) (ys ++ [v]) H4 else Pv (i + 1) ys H3)
    (hd : ∀ ys H p, Pv as.length ys H → H p = none → Q (.ref p) (upd H p (.lst ys))) : LcGoal ix g tt te σ H1 Q (Itp o d u as) := by
  refine ⟨fun i m ys H => m = as.length - i ∧ i ≤ as.length ∧ Pv i ys H, ⟨as.length, by simp, Nat.zero_le _, h0⟩, ?_⟩
  rintro i m ys H ⟨rfl, hi, pp⟩
  obtain ⟨hx, z⟩ := hl i ys H hi pp
  have z' : ys.length ≤ sizeLine := Nat.le_of_lt (small1000 z)
  by_cases hlt : i < as.length
  · refine .inr ⟨⟨hx, hlt⟩, z', fun ys' H' => Pv (i + 1) ys' H', fun ys' H' p' => ⟨as.length - (i + 1), by omega, rfl, hlt, p'⟩, fun x H' y => ?_⟩
    obtain ⟨e', y⟩ := y
    subst e'
    rw [List.getElem?_map, List.getElem?_eq_getElem hlt] at y
    cases y
    exact hs i ys _ _ (List.getElem?_eq_getElem hlt) pp
  · have ei : i = as.length := by omega
    subst ei
    exact .inl ⟨⟨hx, rfl⟩, z', fun p hp => hd ys H p pp hp⟩
theorem tie_frz {H : Hp} {d : Addr} {o o' : HO} {v : V} {t : Int × Int} (hd : H d = some o) (nt : ∀ xs, o ≠ .tup xs) (h : TieL H v t) : TieL (upd H d o') v t := by
  obtain ⟨p, e, hp⟩ := h
  refine ⟨p, e, ?_⟩
  rw [upd_ne]
  · exact hp
  · intro z
    rw [z, hd] at hp
    exact nt _ (Option.some.inj hp)
end L2

set_option maxHeartbeats 4000000
namespace Dy
open PySem PyProof.Rows
section
variable {prog : Program} {w : World} {A : Around} {E : Value → Shared → Prop} {s : Shared} {κ : Type} [DecidableEq κ] {knd : HeapKind prog w κ}
/-- what is left without the key -/
def lessH (xs : List (κ × Addr × Value)) (k : κ) : List (κ × Addr × Value) := xs.filter fun x => decide (x.1 ≠ k)
theorem less_erase {k : κ} : ∀ {xs : List (κ × Addr × Value)} {j : Nat} {p : Addr × Value}, (xs.map (·.1)).Nodup → xs[j]? = some (k, p) → xs.eraseIdx j = lessH xs k
  | [], j, p, _, hj => by simp at hj
  | x :: r, 0, p, nd, hj => by
    simp only [List.getElem?_cons_zero, Option.some.injEq] at hj
    subst hj
    rw [List.map_cons, List.nodup_cons] at nd
    show r = lessH ((k, p) :: r) k
    unfold lessH
    rw [List.filter_cons_of_neg (by simp)]
    refine (List.filter_eq_self.mpr fun y hy => ?_).symm
    simp only [ne_eq, decide_eq_true_eq]
    exact fun e => nd.1 (e ▸ List.mem_map.mpr ⟨y, hy, rfl⟩)
  | x :: r, j + 1, p, nd, hj => by
    simp only [List.getElem?_cons_succ] at hj
    rw [List.map_cons, List.nodup_cons] at nd
    have hm : k ∈ r.map (·.1) := List.mem_map.mpr ⟨(k, p), List.mem_of_getElem? hj, rfl⟩
    have hne : ¬ x.1 = k := fun e => nd.1 (e ▸ hm)
    show x :: r.eraseIdx j = lessH (x :: r) k
    rw [less_erase nd.2 hj]
    unfold lessH
    rw [List.filter_cons_of_pos (by simp [hne])]
theorem map_erase {α β : Type} (f : α → β) : ∀ (l : List α) (j : Nat), (l.eraseIdx j).map f = (l.map f).eraseIdx j
  | [], _ => rfl
  | _ :: _, 0 => rfl
  | x :: r, j + 1 => by
    show f x :: (r.eraseIdx j).map f = f x :: (r.map f).eraseIdx j
    rw [map_erase f r j]
theorem take_out {d a : Addr} {xs : List (κ × Addr × Value)} {k : κ} {p : Addr × Value} {Q : Option DictEntry → Shared → Prop} (hu : knd.room A) (hkey : knd.is s.heap k a) (hm : s.heap.DictOfH knd d xs) (there : atKey xs k = some p)
    (hz : xs.length ≤ sizeLine) (hQ : ∀ h' e tk, e.val = p.2 → h'.DictOfH knd d (lessH xs k) → Heap.SameBut d s.heap h' → Q (some e) { s with heap := h', toks := tk }) :
    wpAny (model prog w) A (Builtin.Dict.takeOut d (.ref a)) Q E s := by
  obtain ⟨o, es, ep, ho, hc, hd, he, his, hn⟩ := hm
  have hes : es.size ≤ sizeLine := by have e := size_of_entries he; omega
  unfold Builtin.Dict.takeOut
  try with_reducible refine wpAny_holding ?_
  refine wpAny_bind (knd.pyHash hu hkey ?_)
  refine wpAny_bind (wpAny_dictFind_heap (s := { s with toks := s.toks + knd.draws k }) hu hkey ho hd he his hn ?_ ?_)
  · intro hno
    rw [atKey_none_of_get hno] at there
    exact nomatch there
  · intro j q hj
    have hq : q = p := by
      have := atKey_of_get hn hj
      rw [there] at this
      exact (Option.some.inj this).symm
    subst hq
    have hej : es[j]? = some (entryOfKey knd (k, q)) := by rw [entry_at he j, hj]; rfl
    refine wpAny_bind (wpAny_dictEntries (s := { s with toks := s.toks + knd.draws k }) ho hd ?_)
    rw [hej]
    refine wpAny_bind (wpAny_updateDictKeys (hz := hes) (s := { s with toks := s.toks + knd.draws k }) ho hd (wpAny_pure (hQ _ _ _ rfl ⟨_, _, ep + 1, Heap.get?_update_self _ ho (Obj.isFreed_of_dict (Obj.data_mapDictKeys hd _)),
      hc.mapDictKeys _, Obj.data_mapDictKeys hd _, ?_, ?_, ?_⟩ (Heap.SameBut.update ..))))
    · rw [← less_erase hn hj, map_erase, ← he]
      obtain ⟨l⟩ := es
      simp
    · intro x hx
      exact knd.keeps (his x (List.mem_filter.mp hx).1) ho hd (Heap.SameBut.update ..)
    · exact hn.sublist (List.Sublist.map _ List.filter_sublist)
theorem meets_pop {d a : Addr} {k : κ} : MeetsIn prog w (Builtin.«dict.pop» ⟨[.ref d, .ref a], []⟩) (fun A R s => knd.room A.in1 ∧ ∃ xs p, knd.is s.heap k a ∧ s.heap.DictOfH knd d xs ∧ xs.length ≤ sizeLine ∧ atKey xs k = some p ∧
      ∀ h' tk, h'.DictOfH knd d (lessH xs k) → Heap.SameBut d s.heap h' → R (.ok (.ret p.2)) { s with heap := h', toks := tk }) :=
  .of_wp fun A R s ⟨hu, xs, p, hkey, hm, hz, there, h⟩ => by
    obtain ⟨o, es, ep, ho, hc, hd, he, his, hn⟩ := id hm
    have hT : s.TypeIs (.ref d) "dict" := ⟨_, ho, hc.1⟩
    unfold Builtin.«dict.pop»
    refine wpAny_bind ?_
    unfold Builtin.Dict.keyAndDefault
    refine wpAny_bind (wpAny_notOrdered_dict hT ?_)
    show wpAny _ _ (pure (d, Value.ref a, none)) _ _ s
    refine wpAny_pure ?_
    have e0 : (keyPart (Value.ref a)).isSome = false := rfl
    simp only [e0, Bool.false_eq_true, if_false]
    refine wpAny_bind (wpAny_dictEntries ho hd (wpAny_bind (wpAny_pure ?_)))
    have ne : es.isEmpty = false := by
      cases hx : xs with
      | nil => rw [hx] at there; exact nomatch there
      | cons x r =>
        have e := size_of_entries he
        rw [hx, List.length_cons] at e
        rw [Array.isEmpty_eq_false_iff]
        intro z
        rw [z] at e
        simp at e
    rw [ne]
    simp only [Bool.false_eq_true, if_false]
    refine wpAny_bind (take_out hu hkey hm there hz fun h' e tk ev hD sb => ?_)
    simp only [Option.isNone_some, Bool.false_eq_true, if_false]
    exact wpAny_bind (wpAny_letGo (wpAny_pure ⟨_, rfl, by rw [ev]; exact h h' tk hD sb⟩))
end
end Dy
namespace L2
open PySem PySem.Spec PyProof.Rows Bg Srt
/-- the keys of a dict by pairs -/
def KeyP (kvs : List (List Key × V)) (ts : List (Int × Int)) : Prop := kvs.map (·.1) = ts.map pK
theorem KeyP.len {kvs : List (List Key × V)} {ts : List (Int × Int)} (h : KeyP kvs ts) : kvs.length = ts.length := by
  have := congrArg List.length h
  rwa [List.length_map, List.length_map] at this
theorem keyP_any {t : Int × Int} : ∀ {kvs : List (List Key × V)} {ts : List (Int × Int)}, KeyP kvs ts → (kvs.any fun kv => decide (kv.1 = pK t)) = decide (t ∈ ts)
  | [], [], _ => rfl
  | [], _ :: _, h => nomatch h
  | _ :: _, [], h => nomatch h
  | kv :: kvs, s :: ts, h => by
    have h1 : kv.1 = pK s := (List.cons.inj h).1
    have h2 : KeyP kvs ts := (List.cons.inj h).2
    rw [List.any_cons, keyP_any h2, h1]
    by_cases e : s = t
    · subst e; simp
    · have : ¬ pK s = pK t := fun z => e (pK_inj z)
      have e' : ¬ t = s := fun z => e z.symm
      simp [this, e']
theorem KeyP.has {kvs : List (List Key × V)} {ts : List (Int × Int)} (h : KeyP kvs ts) (t : Int × Int) : (valV kvs (pK t)).isSome = decide (t ∈ ts) := by
  rw [← valV_any, keyP_any h]
theorem KeyP.put {kvs : List (List Key × V)} {ts : List (Int × Int)} (h : KeyP kvs ts) {t : Int × Int} (n : t ∉ ts) (v : V) : KeyP (putK kvs (pK t) v) (ts ++ [t]) := by
  have e : valV kvs (pK t) = none := by
    have := h.has t
    rw [decide_eq_false n] at this
    cases q : valV kvs (pK t) with
    | none => rfl
    | some x => rw [q] at this; exact nomatch this
  unfold KeyP
  rw [putK_new v e, List.map_append, List.map_append, show kvs.map (·.1) = ts.map pK from h]
  rfl
theorem keyP_drop {t : Int × Int} : ∀ {kvs : List (List Key × V)} {ts : List (Int × Int)}, KeyP kvs ts → KeyP (dropK kvs (pK t)) (ts.filter fun u => decide (u ≠ t))
  | [], [], _ => rfl
  | [], _ :: _, h => nomatch h
  | _ :: _, [], h => nomatch h
  | kv :: kvs, s :: ts, h => by
    have h1 : kv.1 = pK s := (List.cons.inj h).1
    have h2 : KeyP kvs ts := (List.cons.inj h).2
    have ih := keyP_drop (t := t) h2
    unfold dropK at ih ⊢
    by_cases e : s = t
    · subst e
      rw [List.filter_cons_of_neg (by simp [h1]), List.filter_cons_of_neg (by simp)]
      exact ih
    · have : ¬ pK s = pK t := fun z => e (pK_inj z)
      rw [List.filter_cons_of_pos (by simp [h1, this]), List.filter_cons_of_pos (by simp [e])]
      unfold KeyP at ih ⊢
      rw [List.map_cons, List.map_cons, ih, h1]
section
variable {X : Cx}
def rInT : R2 := fun x y H Q => ∃ (b a : Addr) (k : List Key) (kvs : List (List Key × V)), x = .ref b ∧ y = .ref a ∧ H b = some (.tup (k.map kV)) ∧ H a = some (.dT kvs) ∧ Q (.bl (valV kvs k).isSome) H
def rNotInT : R2 := fun x y H Q => ∃ (b a : Addr) (k : List Key) (kvs : List (List Key × V)), x = .ref b ∧ y = .ref a ∧ H b = some (.tup (k.map kV)) ∧ H a = some (.dT kvs) ∧ Q (.bl (!(valV kvs k).isSome)) H
theorem op_inT (hu : X.A.units + 1 < cLine) : OpR X (compareOp .In) rInT := by
  intro pins s σ H x y v u Q I rx ry h
  obtain ⟨b, a, t, ts, rfl, rfl, hb, e, q⟩ := h
  obtain rfl : u = Value.ref a := ry
  exact d_in hu I (DGet.t e hb) rx fun s3 I3 => ⟨.bl _, H, I3, rfl, q⟩
theorem op_notInT (hu : X.A.units + 1 < cLine) : OpR X (compareOp .NotIn) rNotInT := by
  intro pins s σ H x y v u Q I rx ry h
  obtain ⟨b, a, t, ts, rfl, rfl, hb, e, q⟩ := h
  obtain rfl : u = Value.ref a := ry
  exact d_notIn hu I (DGet.t e hb) rx fun s3 I3 => ⟨.bl _, H, I3, rfl, q⟩
def rPutT : TSet := fun o i v H Q => ∃ (a b : Addr) (k : List Key) (kvs : List (List Key × V)), o = .ref a ∧ i = .ref b ∧ H b = some (.tup (k.map kV)) ∧ H a = some (.dT kvs) ∧ kvs.length ≤ 5000 ∧ ∀ H', Chg H a (.dT (putK kvs k v)) H' → Q H'
theorem set_dictT (hu : X.A.units + 1 < cLine) : PSet X rPutT := by
  intro pins s σ H o i v ov iv u Q I ro ri rv h
  obtain ⟨a, b, t, ts, rfl, rfl, hb, e, z, q⟩ := h
  obtain rfl : ov = Value.ref a := ro
  exact d_setItem hu I (DPut.t e hb (Nat.lt_of_le_of_lt z (by decide))) ri rv fun s' I' => ⟨_, I', q _ Chg.mk0⟩
/-- d.pop(k), the key there -/
def rPopT : V → List V → Hp → VK → Prop := fun x vs H Q => ∃ (a b : Addr) (k : List Key) (kvs : List (List Key × V)) (v : V), x = .ref a ∧ vs = [.ref b] ∧ H b = some (.tup (k.map kV)) ∧ H a = some (.dT kvs) ∧ valV kvs k = some v ∧ ∀ H', Chg H a (.dT (dropK kvs k)) H' → Q v H'
theorem KT.less {H : Hp} {kvs : List (List Key × V)} {xs : List (List Key × Addr × Value)} (r : KT H kvs xs) (k : List Key) : KT H (dropK kvs k) (Dy.lessH xs k) := by
  induction r with
  | nil => exact .nil
  | @cons p q ps qs h t ih =>
    unfold dropK Dy.lessH at ih ⊢
    by_cases e : p.1 = k
    · rw [List.filter_cons_of_neg (by simp [e]), List.filter_cons_of_neg (by simp [← h.1, e])]
      exact ih
    · rw [List.filter_cons_of_pos (by simp [e]), List.filter_cons_of_pos (by simp [← h.1, e])]
      exact .cons h ih
theorem dt_new {P : Program} {w : World} {H' : Hp} {h' : Heap} {a : Addr} {kvs : List (List Key × V)} {xs : List (List Key × Addr × Value)} (z : kvs.length ≤ sizeLine) (hd : (a == sysModules) = false) (rel : KT H' kvs xs) (dd : h'.DictOfH (tupleKind (mixKind P w)) a xs) :
    ObjOk P w H' h' a (.dT kvs) := by
  obtain ⟨o, es, ep, h1, h2, h3, h4, _, h5⟩ := dd
  exact ⟨z, hd, xs, rel, o, es, ep, h1, h2, h3, h4, h5⟩
theorem mt_popT (hu : X.A.units + 1 < cLine) : MtM X "dict.pop" rPopT := by
  intro pins s σ H x xs v us Q I rx rs h
  obtain ⟨a, b, k, kvs, y, rfl, rfl, hb, e, l, q⟩ := h
  obtain rfl : v = Value.ref a := rx
  obtain ⟨u, rfl, ru⟩ := Vals.one rs
  obtain rfl : u = Value.ref b := ru
  obtain ⟨z, hd, xs, rel, dd⟩ := dt_of I.hok e
  have rv := rel.val k
  rw [l] at rv
  obtain ⟨w', hw, rw'⟩ := RelO.some_of rv
  obtain ⟨p, hp, rfl⟩ : ∃ p, atKey xs k = some p ∧ p.2 = w' := by
    cases c : atKey xs k with
    | none => rw [c] at hw; exact nomatch hw
    | some p => rw [c] at hw; exact ⟨p, rfl, Option.some.inj hw⟩
  have lx : xs.length = kvs.length := (Paired.length rel).symm
  have hr : (tupleKind (mixKind X.prog X.w)).room X.A.in1 := tupleKind_room_in1 hu
  refine call_meetsIn PySem.F.slot_dict_pop dd.typeIs PySem.F.entry_dict_pop (PySem.F.args_dict_pop_2 _ _) (Dy.meets_pop (knd := tupleKind (mixKind X.prog X.w)) (k := k)) ⟨hr, xs, p, key_of I.hok hb, dd, by omega, hp, fun h' tk dd' hs => ?_⟩
  have he : ∃ q, h'.get? a = some q := let ⟨q, _, _, hq, _⟩ := dd'; ⟨q, hq⟩
  refine ⟨y, _, d_write I (by rw [e]; exact True.intro) hs he (dt_new (Nat.le_trans (dropK_le kvs k) z) hd ((rel.less k).keeps fun c ys ec => ?_) dd'), rw', q _ Chg.mk0⟩
  rw [upd_ne (ne_of ec e (by intro z; cases z))]
  exact ec
/-- sorted(d), d by pairs -/
def rSortQ : List V → Hp → VK → Prop := fun xs H Q => ∃ (d : Addr) (kvs : List (List Key × V)) (ts : List (Int × Int)), xs = [.ref d] ∧ H d = some (.dT kvs) ∧ KeyP kvs ts ∧ ts.length < 64 ∧
  ∀ (us : List (Int × Int)) (vs : List V) p H', us.Perm ts → Paired (TieL H) vs us → New H p (.lst vs) H' → Q (.ref p) H'
theorem kt_tiesQ {H : Hp} : ∀ {ts : List (Int × Int)} {kvs : List (List Key × V)} {xs : List (List Key × Addr × Value)}, KeyP kvs ts → KT H kvs xs → Paired (TieL H) (xs.map fun x => V.ref x.2.1) ts
  | [], [], _, _, h => by cases h; exact .nil
  | [], _ :: _, _, e, _ => nomatch e
  | _ :: _, [], _, e, _ => nomatch e
  | t :: ts, kv :: kvs, _, e, h => by
    have h1 : kv.1 = pK t := (List.cons.inj e).1
    cases h with
    | cons a b => exact .cons ⟨_, rfl, by have := a.2.1; rw [h1] at this; exact this⟩ (kt_tiesQ (List.cons.inj e).2 b)
theorem call_sortedQ (cm : X.calm = true) : CallR X (.builtin "sorted") rSortQ := by
  intro pins s σ H xs0 us0 Q I r h
  obtain ⟨d, kvs, ts, rfl, hd, kp, h64, q⟩ := h
  obtain ⟨u, rfl, rx⟩ := vals1 r
  cases rx
  obtain ⟨_, hs, xs, rel, o, es, ep, ho, hx, hdt, hes, _, _⟩ := dt_of I.hok hd
  have pt := kt_tiesQ kp rel
  have lx : xs.length = ts.length := by have := Paired.length pt; rwa [List.length_map] at this
  have ek : es.toList.map (·.key) = xs.map fun x => Value.ref x.2.1 := by rw [hes, List.map_map]; rfl
  have r' := vals_refsQ xs
  have hP : Paired (TupV X.K H) (xs.map fun x => V.ref x.2.1) (ts.map fun t => [t.1, t.2]) := by
    have : ∀ {vs : List V} {ts : List (Int × Int)}, Paired (TieL H) vs ts → Paired (TupV X.K H) vs (ts.map fun t => [t.1, t.2]) := fun {vs ts} h => by
      induction h with
      | nil => exact .nil
      | cons a _ ih =>
        obtain ⟨p, e, hp⟩ := a
        exact .cons ⟨p, e, SqT.of hp⟩ ih
    exact this pt
  have ht := tups_of I r' hP fun ns hn => by
    obtain ⟨t, _, rfl⟩ := List.mem_map.mp hn
    exact fun z => by cases z
  have hz : es.size = xs.length := by have := congrArg List.length hes; rwa [Array.length_toList, List.length_map] at this
  apply Calls.call_function_entry kind_sorted plain_sorted entry_sorted (args_sorted1 _)
  unfold Builtin.«sorted»
  refine wpAny_bind (m := checkCount "sorted" 1 1 _) (wpAny_pure ?_)
  refine wpAny_bind (Dq.collect_dict (by simpa using I.ok.hd cm) hs ho hx hdt (by rw [hz, sizeLine_eq]; omega) fun h1 tk k lz => ?_)
  rw [ek]
  generalize hzs : (xs.map fun x => Value.ref x.2.1) = zs at r' ht
  have lzs : zs.length = ts.length := by rw [← hzs, List.length_map, lx]
  refine wpAny_bind (wpAny_newList ?_ (by rw [sizeLine_eq]; omega))
  have o1 : (h1.push (seqObj "list" zs.toArray 0)).get? h1.objs.size = some (seqObj "list" zs.toArray 0) := Heap.get?_push_size _ rfl
  refine wpAny_bind (wpAny_holding (wpAny_call_entry slot_list_sort ⟨_, o1, rfl⟩ entry_list_sort (list_sort_by (κ := tuples' true) (key := rank (ts.map fun t => [t.1, t.2])) o1 (by omega) (fun g2 h' kp => ?_) fun p pm sr => ⟨_, rfl, ?_⟩) (args_list_sort _)))
  · refine asks_tups (ht.keep fun b o e => kp b o ?_ (Heap.get?_push_of_some _ (k b o e))) g2
    exact Nat.ne_of_lt (Nat.lt_trans (Heap.lt_size e) lz)
  · obtain ⟨n', o2⟩ := Sm.sh_at (vs := zs) (out := outOf zs p) o1
    have hsz := pm.size
    have hpr : p.toList.Perm (List.range ts.length) := by
      have := Array.perm_iff_toList_perm.mp pm.perm
      rw [lzs] at this
      simpa using this
    have mem : ∀ i ∈ p.toList, i < ts.length := fun i hi => List.mem_range.mp (hpr.mem_iff.mp hi)
    have lvs : (xs.map fun x => V.ref x.2.1).length = ts.length := by rw [List.length_map, lx]
    have z : (p.toList.map fun i => (xs.map fun x => V.ref x.2.1).getD i V.non).length = ts.length := by rw [List.length_map, Array.length_toList, hsz, lzs]
    have hp0 : s.heap.objs.size ≤ h1.objs.size := Nat.le_of_lt lz
    refine wpAny_pure ⟨_, rfl, .ref h1.objs.size, _, I.laid (t' := tk) (o := .lst (p.toList.map fun i => (xs.map fun x => V.ref x.2.1).getD i V.non)) (fun b o eo => ?_) hp0 ?_, rfl, ?_⟩
    · have lb : b < h1.objs.size := Nat.lt_trans (Heap.lt_size eo) lz
      exact Sm.sh_old (by rw [size_push']; exact Nat.lt_succ_of_lt lb) (Nat.ne_of_lt lb) (Heap.get?_push_of_some _ (k b o eo))
    · refine ⟨by rw [z, sizeLine_eq]; omega, _, n', vals_map r' p.toList (fun i hi => by rw [lvs]; exact mem i hi), ?_⟩
      exact o2
    · exact q _ _ _ _ (perm_getD hpr) (tie_getD pt p.toList mem) (New.mk0 (I.hok.fresh hp0))
end
section
variable {X : Cx} {pins : List (Addr × Obj)} {σ : St} {H : Hp} {s : Shared} {d : Addr} {ts : List (Int × Int)} {kvs : List (List Key × V)}
theorem Inv.freezeQ (I : Inv X pins σ H s) (e : H d = some (.dT kvs)) (kp : KeyP kvs ts) : ∃ (o : Obj) (as : List Addr) (es : Array DictEntry) (ep : Nat), s.heap.get? d = some o ∧ o.ExactDict ∧ o.data = .dict es ep ∧ es.toList.map (·.key) = as.map Value.ref ∧ Paired (TieL H) (as.map V.ref) ts ∧ (d == sysModules) = false ∧ Inv X pins σ (upd H d (.frz o (.dT kvs))) s := by
  obtain ⟨_, hs, xs, rel, o, es, ep, ho, hx, hdt, hes, _, _⟩ := dt_of I.hok e
  have pt := kt_tiesQ kp rel
  refine ⟨o, xs.map fun x => x.2.1, es, ep, ho, hx, hdt, ?_, ?_, hs, I.reword e (fun _ z => by cases z) (fun _ z => by cases z) (fun _ z => by cases z) (I.nofrz e fun _ _ z => by cases z) ⟨ho, I.hok d _ e⟩⟩
  · rw [hes, List.map_map, List.map_map]; rfl
  · rw [List.map_map]; exact pt
end
section
variable {X : Cx} {tg : Expr}
def iDictQ (td : TE) : TI := fun σ H R => td σ H fun x H1 => ∃ d kvs ts, x = .ref d ∧ H1 d = some (.dT kvs) ∧ KeyP kvs ts ∧ ∀ o as, Paired (TieL H1) (List.map V.ref as) ts → R (Itp o d (.dT kvs) as) (upd H1 d (.frz o (.dT kvs)))
theorem pi_dictQ {l : Expr} {td : TE} (hl : PE X l td) : PI X tg l (iDictQ td) := by
  intro pins s σ H R I h
  refine thn (hl pins s σ H _ I h) fun v s1 ⟨x, H1, I1, r1, q1⟩ => ?_
  obtain ⟨d, kvs, ts, e, hd, kp, q⟩ := q1
  subst e
  cases r1
  obtain ⟨o, as, es, ep, ho, hx, hdt, ek, pt, ns, I2⟩ := I1.freezeQ hd kp
  refine Dq.iter_at ns ho hx hdt ?_
  refine ⟨s1.heap.objs.size, [s1.heap.objs.size], _, _, _, rfl, I2.kept (t' := s1.toks) fun b o e => Heap.get?_push_of_some _ e, turn_pdict d _ hdt ek, Heap.get?_push_size _ rfl, fun b hb => ?_, q o as pt⟩
  have e : b = s1.heap.objs.size := by simpa using hb
  subst e
  exact I2.fpOk (Nat.le_refl _) (I2.hok.fresh (Nat.le_refl _))
def tThawSQ (t : TS) : TS := fun D σ H => t { D with nx := fun σ1 H1 => ∃ d o kvs kvs', H d = some (.dT kvs') ∧ H1 d = some (.frz o (.dT kvs)) ∧ D.nx σ1 (upd H1 d (.dT kvs)) } σ H
theorem ps_thawQ {st : Stmt} {t : TS} (h : PS X st t) : PS X st (tThawSQ t) := by
  intro pins s σ H D I q
  refine thn (h pins s σ H _ I q) fun f s1 z => ?_
  cases f with
  | next =>
    obtain ⟨σ1, H1, I1, d, o, kvs, kvs', e0, e1, q1⟩ := z
    exact ⟨σ1, _, I1.thaw (I.nofrz e0 fun _ _ z => by cases z) e1, q1⟩
  | ret u => exact z
  | brk => exact z
  | cont => exact z
/-- a pair of a key and what stands there -/
def PrL (H : Hp) (v : V) (kv : List Key × V) : Prop := ∃ p kp, v = .ref p ∧ H p = some (.tup [.ref kp, kv.2]) ∧ H kp = some (.tup (kv.1.map kV))
def rDictL (K : PySem.W.Frag) : List V → Hp → VK → Prop := fun xs H Q => ∃ (l : Addr) (vs : List V) (kvs : List (List Key × V)), xs = [.ref l] ∧ H l = some (.lst vs) ∧ Paired (PrL H) vs kvs ∧ (kvs.map (·.1)).Nodup ∧ ∀ p H', New H p (.dT kvs) H' → Q (.ref p) H'
theorem prs_of {P : Program} {w : World} {H : Hp} {h : Heap} (hok : HOk P w H h) : ∀ {vs : List V} {kvs : List (List Key × V)} {its : List Value}, Paired (PrL H) vs kvs → Vals vs its →
    ∃ (L : List (List Key × Addr × Value)) (bs : List Addr), its = bs.map Value.ref ∧ KT H kvs L ∧ Paired (fun (b : Addr) (x : List Key × Addr × Value) => IsTup h b #[.ref x.2.1, x.2.2]) bs L := by
  intro vs kvs its hp
  induction hp generalizing its with
  | nil => intro hv; cases hv; exact ⟨[], [], rfl, .nil, .nil⟩
  | @cons v kv vs kvs a t ih =>
    intro hv
    cases hv with
    | @cons _ u _ us ru rus =>
      obtain ⟨L, bs, e, kt, pt⟩ := ih rus
      obtain ⟨p, kp, rfl, hp, hk⟩ := a
      obtain rfl : u = Value.ref p := ru
      obtain ⟨_, its2, r2, tp⟩ := (show ObjOk P w H h p (.tup [.ref kp, kv.2]) from hok p _ hp)
      cases r2 with
      | @cons _ u1 _ us1 q1 q2 =>
        obtain rfl : u1 = Value.ref kp := q1
        cases q2 with
        | @cons _ u2 _ us2 q3 q4 =>
          cases q4
          exact ⟨(kv.1, kp, u2) :: L, p :: bs, by rw [e]; rfl, .cons ⟨rfl, hk, q3⟩ kt, .cons tp pt⟩
theorem call_dictL {K : PySem.W.Frag} (ek : X.K = K) (cm : X.calm = true) (hu : X.A.units + 2 < cLine) : CallR X (.type "dict") (rDictL K) := by
  subst ek
  intro pins s σ H xs us Q I r h
  obtain ⟨l, vs, kvs, rfl, hL, pr, nd, q⟩ := h
  obtain ⟨u, rfl, rx⟩ := vals1 r
  cases rx
  obtain ⟨z, its, n, rv, ol⟩ := (show ObjOk X.prog X.w H s.heap l (.lst vs) from I.hok l _ hL)
  obtain ⟨L, bs, rfl, kt, pt⟩ := prs_of I.hok pr rv
  have ln : L.length = bs.length := (Paired.length pt).symm
  have lv : vs.length = bs.length := by have := rv.length; rwa [List.length_map] at this
  have lk : kvs.length = vs.length := (Paired.length pr).symm
  have ek : kvs.map (·.1) = L.map (·.1) := by
    clear nd pr pt ln lk q
    induction kt with
    | nil => rfl
    | cons a b ih => rw [List.map_cons, List.map_cons, ih, a.1]
  have hr : (tupleKind (mixKind X.prog X.w)).room X.A.in1.in1 := by
    show X.A.in1.in1.units < cLine
    show X.A.units + 1 + 1 < cLine
    exact hu
  refine Dy.of_list (knd := tupleKind (mixKind X.prog X.w)) (L := L) (bs := fun i => bs.getD i 0) (I.ok.hd cm) hr ol rfl rfl rfl (by rw [List.size_toArray, List.length_map]; exact ln) (by rw [← ek]; exact nd) (by rw [List.size_toArray, List.length_map]; omega) (fun i v hv => ?_) (fun h i x kp hx => ?_) fun h' tk dd kp => ?_
  · rw [List.getElem?_toArray, List.getElem?_map] at hv
    cases c : bs[i]? with
    | none => rw [c] at hv; exact nomatch hv
    | some b =>
      rw [c] at hv
      rw [List.getD_eq_getElem?_getD, c]
      exact (Option.some.inj hv).symm
  · constructor
    · obtain ⟨kv, hkv, a1, a2, a3⟩ := paired_getr kt hx
      obtain ⟨o, its, n, h1, h2, h3, h4⟩ := key_of I.hok a2
      rw [← a1]
      exact ⟨o, its, n, kp _ _ h1, h2, h3, h4⟩
    · obtain ⟨b, hb, o, h1, h2⟩ := paired_getr pt hx
      rw [List.getD_eq_getElem?_getD, hb]
      exact ⟨o, kp _ _ h1, h2⟩
  · have hf : H s.heap.objs.size = none := I.hok.fresh (Nat.le_refl _)
    have hs : (s.heap.objs.size == sysModules) = false := beq_eq_false_iff_ne.mpr (Ne.symm (Nat.ne_of_lt I.big))
    refine ⟨.ref s.heap.objs.size, _, I.laid (t' := tk) (o := .dT kvs) (fun b o e => kp b o e) (Nat.le_refl _) (dt_new (by omega) hs (kt.keeps fun c ys ec => ?_) dd), rfl, q _ _ (New.mk0 hf)⟩
    rw [upd_ne (ne_of_none ec hf)]
    exact ec
end
end L2

set_option maxHeartbeats 4100000
namespace L2
open PySem PySem.Spec PyProof.Rows
/-- the signs of a text, one by one -/
def Its (z : Str) : It := ⟨fun i _ => i < z.cps.size, fun i H x H' => H' = H ∧ ∃ c, z.cps[i]? = some c ∧ x = .str ⟨#[c]⟩, fun i _ => z.cps.size ≤ i⟩
theorem turn_str {P : Program} {w : World} {K : PySem.W.Frag} {tg : Expr} {z : Str} {t : Tok} {ty : String} (it : Addr) (hty : ["enumerate", "zip", "dict_itemiterator", "dict_reverseitemiterator", "odict_iterator", "itertools.zip_longest", "itertools.pairwise"].contains ty = false)
    (W : ∀ A' : Around, A'.handled = none → Walks P w A' it [it] [it] z.cps.size (SignAt z) (fun i h => h.IsStrIter it ty z t i)) (sf : ∀ (A : Around) (i : Nat) (s : Shared) (Q : Value → Shared → Prop) (E : Value → Shared → Prop), s.heap.IsStrIter it ty z t i → Q (.ref it) s → wpAny (model P w) A (pyIter (.ref it)) Q E s) : Turn P w K tg (Its z) [it] it (fun i h => h.IsStrIter it ty z t i ∧ i ≤ z.cps.size) where
  mem := by simp
  obj := fun i h st b hb => by
    have e : b = it := by simpa using hb
    subst e
    obtain ⟨⟨o, e, c, d⟩, _⟩ := st
    exact ⟨o, e, fun v z => by rw [d] at z; cases z⟩
  keep := fun i h h' st k => by
    obtain ⟨⟨o, e, r⟩, l⟩ := st
    exact ⟨⟨o, k it (by simp) o e, r⟩, l⟩
  item := by
    intro X hP hw hK hc i pins s σ H E I hf st hg
    subst hP hw hK
    obtain ⟨f0, f1, f2, f3, f4, f5⟩ := hf it (by simp)
    refine (W X.A (I.ok.hd hc)).item i s _ _ hg st.1 fun v h' tk hv st' kk => ?_
    obtain ⟨c, u, e, rfl⟩ := hv
    have I1 : Inv X pins σ H { s with heap := h', toks := tk } := I.turned (fun b o hb e => kk b o (by simpa using hb) e) f0 f1 f3 f4 f5
    obtain ⟨o, eo, c', d⟩ := id st'
    exact ⟨_, rfl, go_of (s := { s with heap := h', toks := tk }) eo c' d hty ⟨.str ⟨#[c]⟩, H, I1, ⟨u, rfl⟩, ⟨rfl, c, e, rfl⟩, ⟨st', hg⟩, fun b hb => (hf b hb).1⟩⟩
  done := by
    intro X hP hw hK hc i pins s σ H E I hf st hg
    subst hP hw hK
    obtain ⟨f0, f1, f2, f3, f4, f5⟩ := hf it (by simp)
    have hi : i = z.cps.size := Nat.le_antisymm st.2 hg
    subst hi
    exact (W X.A (I.ok.hd hc)).done s _ _ st.1 fun h' tk kk => ⟨rfl, I.turned (fun b o hb e => kk b o (by simpa using hb) e) f0 f1 f3 f4 f5⟩
  self := fun A i s Q E st h => sf A i s Q E st.1 h
section
variable {X : Cx} {tg : Expr}
def iStr (tl : TE) : TI := fun σ H R => tl σ H fun x H1 => ∃ z, x = .str z ∧ R (Its z) H1
theorem pi_str {l : Expr} {tl : TE} (hl : PE X l tl) : PI X tg l (iStr tl) := by
  intro pins s σ H R I h
  refine thn (hl pins s σ H _ I h) fun v s1 ⟨x, H1, I1, r1, q1⟩ => ?_
  obtain ⟨z, e, q⟩ := q1
  subst e
  obtain ⟨t, rfl⟩ := r1
  have fin : ∀ b ∈ [s1.heap.objs.size], FpOk X pins H1 b := fun b hb => by
    have e : b = s1.heap.objs.size := by simpa using hb
    subst e
    exact I1.fpOk (Nat.le_refl _) (I1.hok.fresh (Nat.le_refl _))
  cases ha : z.cps.all (· < 128)
  · refine wpAny_pyIter_wide ha ?_
    exact ⟨s1.heap.objs.size, [s1.heap.objs.size], _, _, H1, rfl, I1.kept (t' := s1.toks) fun b o e => Heap.get?_push_of_some _ e, turn_str (t := t) (ty := "str_iterator") _ (by decide) (fun A' hA => Walks.strWide hA _ z t) (fun A i s Q E st h => wpAny_pyIter_striter_wide st h), ⟨⟨_, Heap.get?_push_size _ rfl, rfl, rfl⟩, Nat.zero_le _⟩, fin, q⟩
  · refine wpAny_pyIter_ascii ha ?_
    exact ⟨s1.heap.objs.size, [s1.heap.objs.size], _, _, H1, rfl, I1.kept (t' := s1.toks) fun b o e => Heap.get?_push_of_some _ e, turn_str (t := t) (ty := "str_ascii_iterator") _ (by decide) (fun A' hA => Walks.strAscii hA _ z t) (fun A i s Q E st h => wpAny_pyIter_striter_ascii st h), ⟨⟨_, Heap.get?_push_size _ rfl, rfl, rfl⟩, Nat.zero_le _⟩, fin, q⟩
end
section
variable {ix : List (Option Nat)} {g : TG} {tt : TT} {te : TE} {σ : St} {H1 : Hp} {Q : VK}
theorem lc_str {z : Str} (Pv : Nat → List V → Hp → Prop) (h0 : Pv 0 [] H1) (hl : ∀ i ys H, i ≤ z.cps.size → Pv i ys H → ys.length ≤ sizeLine)
    (hs : ∀ i c ys H, z.cps[i]? = some c → Pv i ys H → g (.str ⟨#[c]⟩) (capt ix σ) H fun σ2 H2 => tt σ2 H2 fun b H3 => if b = true then te σ2 H3 fun v H4 => Pv (i + 1) (ys ++ [v]) H4 else Pv (i + 1) ys H3)
    (hd : ∀ ys H, Pv z.cps.size ys H → ∀ p, H p = none → Q (.ref p) (upd H p (.lst ys))) : LcGoal ix g tt te σ H1 Q (Its z) := by
  refine ⟨fun i m ys H => m = z.cps.size - i ∧ i ≤ z.cps.size ∧ Pv i ys H, ⟨z.cps.size, by simp, Nat.zero_le _, h0⟩, ?_⟩
  rintro i m ys H ⟨rfl, hi, p⟩
  have zz := hl i ys H hi p
  by_cases hlt : i < z.cps.size
  · refine .inr ⟨hlt, zz, Pv (i + 1), fun ys' H' p' => ⟨z.cps.size - (i + 1), by omega, rfl, hlt, p'⟩, fun x H' y => ?_⟩
    obtain ⟨e, c, hc, y⟩ := y
    subst e y
    exact hs i c ys _ hc p
  · have e : i = z.cps.size := by omega
    subst e
    exact .inl ⟨Nat.le_refl _, zz, hd ys H p⟩
end
end L2

set_option maxHeartbeats 4100000
namespace L2
open PySem PySem.Spec PyProof.Rows
def rIntT : List V → Hp → VK → Prop := fun xs H Q => ∃ z n, xs = [.str z] ∧ z.length ≤ 640 ∧ PySem.intText? z = some n ∧ Q (.int n) H
section
variable {X : Cx}
theorem call_intT : CallR X (.type "int") rIntT := by
  intro pins s σ H xs us Q I r h
  obtain ⟨z, n, rfl, hl, hn, q⟩ := h
  obtain ⟨u, rfl, t, rfl⟩ := vals1 r
  exact PySem.W.KIN.call_text hn hl ⟨.int n, H, I.tok _, ⟨_, rfl⟩, q⟩
end
end L2

set_option maxHeartbeats 4100000
namespace L2
open PySem PySem.Spec PyProof.Rows PySem.Builtin PySem.Builtin.Str
theorem vals_strs : ∀ {l : List (Str × Tok)}, Vals ((l.map (·.1)).map V.str) (strValues l)
  | [] => .nil
  | p :: l => .cons ⟨p.2, rfl⟩ (vals_strs (l := l))
/-- z.split(y) -/
def rSplitS : V → List V → Hp → VK → Prop := fun x vs H Q => ∃ z y, x = .str z ∧ vs = [.str y] ∧ (y.length == 0) = false ∧ z.length ≤ 5000 ∧ ∀ p H', New H p (.lst ((Txt.split z y).map V.str)) H' → Q (.ref p) H'
section
variable {X : Cx} {K : PySem.W.Frag}
theorem mt_splitS : MtM X "str.split" rSplitS := by
  intro pins s σ H x vs v us Q I rx rv h
  obtain ⟨z, y, rfl, rfl, hy, hz, q⟩ := h
  obtain ⟨t, rfl⟩ := rx
  obtain ⟨u, rfl, tu, rfl⟩ := vals1 rv
  have fin : ∀ (l : List (Str × Tok)) (k : Nat), Txt.split z y = l.map (·.1) → l.length ≤ 5002 → EP X pins σ Q (.ref s.heap.objs.size) { s with heap := s.heap.push { cls := .type "list", data := .seq (strValues l).toArray }, toks := k } := fun l k e hl => by
    rw [e] at q
    refine ⟨.ref s.heap.objs.size, _, I.laid (t' := k) (fun b o hb => Heap.get?_push_of_some _ hb) (Nat.le_refl _) (show ObjOk X.prog X.w _ _ _ (.lst ((l.map (·.1)).map V.str)) from ⟨?_, strValues l, 0, vals_strs, Heap.get?_push_size _ rfl⟩), rfl, q _ _ (New.mk0 (I.hok.fresh (Nat.le_refl _)))⟩
    rw [List.length_map, List.length_map, sizeLine_eq]; omega
  have many : (partsBetween z (occurrences z y 0 z.length (z.length + 1)) y.length).length ≤ z.length + 2 := by
    have := StrLaws.occ_length_le z y 0 z.length (z.length + 1)
    rw [length_partsBetween]
    omega
  have big : (5002 : Nat) ≤ sizeLine := by rw [sizeLine_eq]; decide
  cases c1 : (decide (z.length < y.length) || decide (strKind z < strKind y)) with
  | true => exact call_meets F.slot_str_split (typeIs_str _ _ _) F.entry_str_split (F.args_str_split_2 _ _) (meets_str_split_cannot_occur z y t tu c1) (fin [(z, t)] s.toks (by unfold Txt.split; rw [if_pos c1]; rfl) (by show 1 ≤ 5002; decide))
  | false =>
    cases c2 : (occurrences z y 0 z.length (z.length + 1)).isEmpty with
    | true => exact call_meets F.slot_str_split (typeIs_str _ _ _) F.entry_str_split (F.args_str_split_2 _ _) (meets_str_split_not_found z y t tu c1 hy c2) (fin [(z, t)] s.toks (by unfold Txt.split; rw [if_neg (by rw [c1]; decide), if_pos c2]; rfl) (by show 1 ≤ 5002; decide))
    | false =>
      refine call_meets F.slot_str_split (typeIs_str _ _ _) F.entry_str_split (F.args_str_split_2 _ _) (meets_str_split_sep z y t tu c1 hy c2 (by omega) (by omega)) ?_
      rw [strsFrom_eq]
      refine fin (numbered s.toks _) _ ?_ ?_
      · rw [numbered_texts]
        unfold Txt.split
        rw [if_neg (by rw [c1]; decide), if_neg (by rw [c2]; decide)]
      · have e := congrArg List.length (numbered_texts s.toks (partsBetween z (occurrences z y 0 z.length (z.length + 1)) y.length))
        rw [List.length_map] at e
        omega
end
end L2

namespace Tx
open PySem PySem.Builtin PySem.Builtin.Str PySem.StrLaws
theorem cut_at {c : Nat} : ∀ {a b r s : List Nat}, c ∉ a → c ∉ b → a ++ c :: r = b ++ c :: s → a = b ∧ r = s
  | [], [], r, s, _, _, h => ⟨rfl, (List.cons.inj h).2⟩
  | [], y :: b, r, s, _, hb, h => by
    have := (List.cons.inj h).1
    exact absurd (by rw [this]; exact List.mem_cons_self) hb
  | x :: a, [], r, s, ha, _, h => by
    have := (List.cons.inj h).1
    exact absurd (by rw [← this]; exact List.mem_cons_self) ha
  | x :: a, y :: b, r, s, ha, hb, h => by
    obtain ⟨e1, e2⟩ := List.cons.inj h
    obtain ⟨e3, e4⟩ := cut_at (fun z => ha (List.mem_cons_of_mem _ z)) (fun z => hb (List.mem_cons_of_mem _ z)) e2
    exact ⟨by rw [e1, e3], e4⟩
def cL (z : Str) : List Nat := z.cps.toList
theorem cL_inj {x y : Str} (h : cL x = cL y) : x = y := by
  obtain ⟨⟨x⟩⟩ := x
  obtain ⟨⟨y⟩⟩ := y
  have : x = y := h
  rw [this]
theorem cL_app (x y : Str) : cL (x ++ y) = cL x ++ cL y := by unfold cL; show (x.cps ++ y.cps).toList = _; rw [Array.toList_append]
theorem join_two (sep a b : Str) (r : List Str) : cL (Str.join sep (a :: b :: r)) = cL a ++ (cL sep ++ cL (Str.join sep (b :: r))) := by
  show cL (a ++ sep ++ Str.join sep (b :: r)) = _
  rw [cL_app, cL_app, List.append_assoc]
theorem join_uniq {c : Nat} {rest : List Nat} {sep : Str} (hs : cL sep = c :: rest) : ∀ {A B : List Str}, A ≠ [] → B ≠ [] → (∀ p ∈ A, c ∉ cL p) → (∀ p ∈ B, c ∉ cL p) → cL (Str.join sep A) = cL (Str.join sep B) → A = B
  | [], _, h, _, _, _, _ => absurd rfl h
  | _, [], _, h, _, _, _ => absurd rfl h
  | [a], [b], _, _, _, _, e => by rw [cL_inj (show cL a = cL b from e)]
  | [a], b :: b2 :: t, _, _, ha, _, e => by
    rw [join_two, hs] at e
    have e' : cL a = cL b ++ (c :: rest ++ cL (Str.join sep (b2 :: t))) := e
    exact absurd (by rw [e']; exact List.mem_append_right _ List.mem_cons_self) (ha a List.mem_cons_self)
  | a :: a2 :: r, [b], _, _, _, hb, e => by
    rw [join_two, hs] at e
    have e' : cL b = cL a ++ (c :: rest ++ cL (Str.join sep (a2 :: r))) := e.symm
    exact absurd (by rw [e']; exact List.mem_append_right _ List.mem_cons_self) (hb b List.mem_cons_self)
  | a :: a2 :: r, b :: b2 :: t, _, _, ha, hb, e => by
    rw [join_two, join_two, hs] at e
    obtain ⟨e1, e2⟩ := cut_at (ha a List.mem_cons_self) (hb b List.mem_cons_self) e
    have := join_uniq hs (A := a2 :: r) (B := b2 :: t) (by intro z; cases z) (by intro z; cases z) (fun p hp => ha p (List.mem_cons_of_mem _ hp)) (fun p hp => hb p (List.mem_cons_of_mem _ hp)) (List.append_cancel_left e2)
    rw [cL_inj e1, this]
theorem split_ne (x y : Str) : Txt.split x y ≠ [] := fun h => by
  have := PyProof.Rows.split_pos x y
  rw [h] at this
  exact absurd this (by decide)
/-- split by one sign -/
theorem split_one {c : Nat} {A : List Str} (ne : A ≠ []) (fr : ∀ p ∈ A, c ∉ cL p) : Txt.split (Str.join ⟨#[c]⟩ A) ⟨#[c]⟩ = A :=
  join_uniq (c := c) (rest := []) (sep := ⟨#[c]⟩) rfl (split_ne _ _) ne (split_free _ c) fr (by rw [join_split])
end Tx

namespace Tx
open PySem PySem.Builtin PySem.Builtin.Str PySem.StrLaws
end Tx

set_option maxHeartbeats 4100000
namespace Srt
open PySem PySem.W PySem.Calls PySem.Spec PyProof.Rows PySem.MeetsSeq
abbrev lsO (z : Array Value) (n : Nat) : Obj := { cls := .type "list", dict := none, data := .seq z n, slots := #[] }
/-- what is asked of the things at a heap -/
def Same2 (z : Array Value) (x : Value) (eq : Nat → Bool) (A : Around) (h : Heap) : Prop := ∀ s' : Shared, s'.heap = h → ∀ m (hm : m < z.size), SeqAt.EqAt A s' z[m] x (eq m)
end Srt

namespace L2
open PySem PySem.Spec PyProof.Rows Srt
section
variable {X : Cx} {K : PySem.W.Frag}
theorem reads_at {pins : List (Addr × Obj)} {σ : St} {H : Hp} {s : Shared} (I : Inv X pins σ H s) : ∀ {xs : List V} {us : List Value} {ds : List PyData}, Vals xs us → IsDs X.K H xs ds → ds.length = us.length ∧ ∀ i, i < us.length → ∃ as, Reads s.heap (us.getD i .none) (ds.getD i .none) as
  | _, _, _, .nil, .nil => ⟨rfl, fun i h => absurd h (Nat.not_lt_zero _)⟩
  | _, _, _, .cons r t, .cons a b => by
    obtain ⟨e, q⟩ := reads_at I t b
    refine ⟨by rw [List.length_cons, List.length_cons, e], fun i h => ?_⟩
    cases i with
    | zero => exact a.reads I r
    | succ i =>
      have := q i (by simpa using h)
      simpa using this
end
end L2

set_option maxHeartbeats 4100000
namespace Srt
open PySem PySem.W PySem.Calls PySem.Spec PyProof.Rows PySem.MeetsSeq
theorem find_go {l : Addr} {z : Array Value} {n : Nat} {x : Value} {eq : Nat → Bool} {j : Nat} {tp : Int} (hj : j < z.size) (hit : eq j = true) (ju : (j : Int) < tp) (k : Nat) :
    ∀ i : Nat, j - i = k → i ≤ j → (∀ m (hm : m < z.size), i ≤ m → m < j → eq m = false) → Meets (Builtin.«list.index.loop» ⟨[.ref l, x, rawInt i, rawInt tp], []⟩)
      (fun A R s => s.heap.get? l = some (lsO z n) ∧ Same2 z x eq A.in1 s.heap ∧ R (.ok (.ret (.int j s.toks))) { s with toks := s.toks + 1 }) := by
  induction k with
  | zero =>
    intro i hk ij hn prog w A R s h
    obtain ⟨hp, g, d, tq, os⟩ := s
    obtain ⟨ol, he, h⟩ := h
    obtain rfl : i = j := by omega
    wp_walk using wpAny_loadPart' ol
    rw [show (if (i : Int) < tp then z[((i : Nat) : Int).toNat]? else none) = some z[i] by simp [ju, hj]]
    refine wpAny_bind (he _ rfl i hj prog w _ _ ?_)
    rw [hit]
    wp_walk
    exact h
  | succ k ih =>
    intro i hk ij hn prog w A R s h
    obtain ⟨hp, g, d, tq, os⟩ := s
    obtain ⟨ol, he, h⟩ := h
    have lb : i < z.size := by omega
    have lt : (i : Int) < tp := by omega
    wp_walk using wpAny_loadPart' ol
    rw [show (if (i : Int) < tp then z[((i : Nat) : Int).toNat]? else none) = some z[i] by simp [lt, lb]]
    refine wpAny_bind (he _ rfl i lb prog w _ _ ?_)
    rw [hn i lb (Nat.le_refl _) (by omega)]
    wp_walk
    rw [show ((i : Int) + 1) = ((i + 1 : Nat) : Int) by push_cast; rfl]
    refine ⟨plainId_quiet plain_index_loop _, codeAny_builtin entry_index_loop ?_⟩
    rw [Around.under_plainId plain_index_loop _]; exact ih (i + 1) (by omega) (by omega) (fun m hm h1 h2 => hn m hm (by omega) h2) prog w A R _ ⟨ol, he, h⟩
theorem find_at {l : Addr} {z : Array Value} {n : Nat} {x : Value} {eq : Nat → Bool} {j : Nat} (hj : j < z.size) (hit : eq j = true) (small : (j : Int) < 2 ^ 63 - 1) (hn : ∀ m (hm : m < z.size), m < j → eq m = false) :
    Meets (Builtin.«list.index» ⟨[.ref l, x], []⟩) (fun A R s => s.heap.get? l = some (lsO z n) ∧ Same2 z x eq A.in1 s.heap ∧ R (.ok (.ret (.int j s.toks))) { s with toks := s.toks + 1 }) := by
  intro prog w A R s h
  obtain ⟨hp, g, d, tq, os⟩ := s
  obtain ⟨ol, he, h⟩ := h
  wp_walk using wpAny_loadPart' ol
  rw [show ((fun i : Int => if i < 0 then max 0 (i + (z.size : Int)) else i) ((none : Option Int).getD 0)) = ((0 : Nat) : Int) by simp, show ((fun i : Int => if i < 0 then max 0 (i + (z.size : Int)) else i) ((none : Option Int).getD (2 ^ 63 - 1))) = 2 ^ 63 - 1 by simp]
  refine ⟨plainId_quiet plain_index_loop _, codeAny_builtin entry_index_loop ?_⟩
  rw [Around.under_plainId plain_index_loop _]; exact find_go (tp := 2 ^ 63 - 1) hj hit small _ 0 rfl (Nat.zero_le _) (fun m hm _ h2 => hn m hm h2) prog w A R _ ⟨ol, he, h⟩
end Srt
namespace L2
open PySem PySem.Spec PyProof.Rows Srt
section
variable {X : Cx} {K : PySem.W.Frag}
/-- xs.index(v): the first that equals v, as data -/
def rIdxD (K : PySem.W.Frag) : V → List V → Hp → VK → Prop := fun x vs H Q => ∃ l xs y d ds j, x = .ref l ∧ vs = [y] ∧ H l = some (.lst xs) ∧ IsD K H y d ∧ IsDs K H xs ds ∧ SeqAt.shaped d = true ∧ (∀ e ∈ ds, SeqAt.shaped e = true) ∧ xs.length ≤ 1000 ∧
  j < xs.length ∧ PyData.eqv (ds.getD j .none) d = true ∧ (∀ m < j, PyData.eqv (ds.getD m .none) d = false) ∧ Q (.int (j : Int)) H
theorem mt_idxD (e : X.K = K) (hv : X.A.units + 65 < cLine) : MtM X "list.index" (rIdxD K) := by
  subst e
  intro pins s σ H x vs v us Q I rx rv h
  obtain ⟨l, xs, y, d, ds, j, rfl, rfl, hH, hd, hds, sd, sds, h1000, hj, hit, hn, q⟩ := h
  cases rx
  obtain ⟨u, rfl, ru⟩ := vals1 rv
  obtain ⟨z, its, n, r, ol, e⟩ := I.lstM hH
  have hlen := r.length
  obtain ⟨as, ra⟩ := hd.reads I ru
  obtain ⟨el, rs⟩ := reads_at I r hds
  have hjz : j < its.toArray.size := by rw [List.size_toArray]; omega
  refine call_meets F.slot_list_index ⟨_, e, rfl⟩ F.entry_list_index (F.args_list_index_2 _ _) (find_at (z := its.toArray) (eq := fun m => PyData.eqv (ds.getD m .none) d) hjz hit (by omega) (fun m _ hm => hn m hm)) ⟨e, fun s' es m hm => ?_, ?_⟩
  · have hm' : m < its.length := by simpa using hm
    obtain ⟨bs, rb⟩ := rs m hm'
    have eg : its.getD m .none = its.toArray[m] := by simp [hm']
    rw [eg] at rb
    have sm : SeqAt.shaped (ds.getD m .none) = true := sds _ (by rw [List.getD_eq_getElem?_getD, List.getElem?_eq_getElem (by omega)]; exact List.getElem_mem _)
    rw [← es] at rb ra
    refine SeqAt.eqAt_reads _ _ _ _ _ _ _ _ rb ra (SeqAt.canLay_of_shaped sm) (SeqAt.canLay_of_shaped sd) (SeqAt.room_of_shaped sm ?_)
    exact hv
  · exact ⟨.int j, H, I.tok _, ⟨_, rfl⟩, q⟩
end
end L2

set_option maxHeartbeats 4000000
namespace Sm
open PySem PyProof.Rows
section
variable {prog : Program} {w : World} {A : Around} {R : Result → Shared → Prop} {I : Addr} {fp wr : List Addr} {G : Array GenState → Array GenState → Prop} {n : Nat} {P : Nat → Value → Prop} {St : Nat → Shared → Prop}
end
section
variable {prog : Program} {w : World} {A : Around} {E : Value → Shared → Prop} {s : Shared}
end
end Sm

set_option maxHeartbeats 4100000
namespace L2
open PySem PySem.Spec PyProof.Rows Sm
section
variable {X : Cx} {K : PySem.W.Frag} {w : World}
end
end L2

namespace L2
open PySem PySem.Spec PySem.Calls PyProof.Rows PySem.Builtin

/-! ### an exception whose context is none -/
def Ctx0 (h : Heap) (e : Addr) : Prop := ∃ o vs, h.get? e = some o ∧ o.data = .fields vs ∧ vs[2]? = some .none
theorem Ctx0.keep {h g : Heap} {e : Addr} (c : Ctx0 h e) (k : ∀ o, h.get? e = some o → g.get? e = some o) : Ctx0 g e := by
  obtain ⟨o, vs, a, b, d⟩ := c
  exact ⟨o, vs, k o a, b, d⟩
theorem Ctx0.at {h : Heap} {e : Addr} (c : Ctx0 h e) {o : Obj} {vs : Array Value} (a : h.get? e = some o) (b : o.data = .fields vs) : vs[2]? = some .none := by
  obtain ⟨o', vs', a', b', d⟩ := c
  rw [a] at a'
  cases a'
  rw [b] at b'
  cases b'
  exact d
section
variable {M : Model} {A : Around} {E : Value → Shared → Prop} {s : Shared} {base : Heap} {env : Env} {outer : List Env} {L e : Addr} {cls a0 : Value}
/-- the row of the traceback is written -/
theorem entryX {ob : Obj} {fs : Array Value} {first : Value} {nx : Bool} {Q : Unit → Shared → Prop} (fr : A.frames = some (env :: outer)) (ff : s.heap.FunFrames base (env :: outer)) (ef : env.frame = some L)
    (ge : s.heap.get? e = some ob) (st : base.StaysIn s.heap) (nb : base.get? e = none) (dv : ob.data = .fields fs) (big : 1 < fs.size) (arg : fs[0]? = some a0) (cx : fs[2]? = some .none)
    (k : ∀ g, Heap.NotedW base (env :: outer) e ob.cls a0 (rawInt L) s.heap g → Ctx0 g e → Q () { s with heap := g }) :
    wpAny M A (do let fo ← frameOf env; let pl ← entryPlaceOf L nx; let tb ← EntryCells.newEntry first fo .none (rawInt L) .none pl; setField (.ref e) 1 tb) Q E s := by
  have far : e ∉ (env :: outer).filterMap (·.frame) := fun z => by
    obtain ⟨_, o, ho, nf⟩ := ff.mem z
    rw [ge] at ho
    cases ho
    exact nf fs dv
  refine wpAny_bind (wpAny_frameOf_fun fr ff ef fun g1 so => ?_)
  refine wpAny_bind (wpAny_entryPlaceOf fun pl hp => ?_)
  unfold EntryCells.newEntry newFields
  refine wpAny_bind (wpAny_newObj_type ?_ (hp.sizeOk5 _ _ _ _ _))
  generalize hN : ({ cls := .type "traceback", dict := none, data := .fields ([first, .ref L, .none, rawInt L, .none] ++ (if pl.isEmpty then List.replicate 6 Value.none else pl)).toArray } : Obj) = nw
  have ge1 : g1.get? e = some ob := (so.2.1 e far).trans ge
  have st1 : base.StaysIn g1 := fun b o q => (so.2.1 b fun z => by rw [(ff.mem z).1] at q; cases q).trans (st b o q)
  have ge2 : (g1.push nw).get? e = some ob := Heap.get?_push_of_some nw ge1
  refine wpAny_setField ge2 dv big ?_
  have ne : g1.objs.size ≠ e := Nat.ne_of_gt (Heap.lt_size ge1)
  have d3 := Obj.data_mapFields dv (·.setIfInBounds 1 (Value.ref g1.objs.size))
  have g3 := Heap.get?_update_self (Obj.mapFields (·.setIfInBounds 1 (Value.ref g1.objs.size))) ge2 (Obj.isFreed_of_fields d3)
  have fresh : nw.isFreed = false := by rw [← hN]; rfl
  have t3 : ((g1.push nw).update e (Obj.mapFields (·.setIfInBounds 1 (Value.ref g1.objs.size)))).get? g1.objs.size = some nw := (Heap.get?_update_other _ _ (Ne.symm ne)).trans (Heap.get?_push_size g1 fresh)
  have stay : ∀ b o, b ≠ e → g1.get? b = some o → ((g1.push nw).update e (Obj.mapFields (·.setIfInBounds 1 (Value.ref g1.objs.size)))).get? b = some o := fun b o z q => by
    rw [Heap.get?_update_other _ _ (Ne.symm z)]
    exact Heap.get?_push_of_some nw q
  have other : ∀ b o, s.heap.get? b = some o → (∀ vs, o.data ≠ .fields vs) → b ≠ e := fun b o q nf z => by
    rw [z, ge] at q
    cases q
    exact nf fs dv
  refine k _ ⟨fun b o q => stay b o (fun z => by rw [z, nb] at q; cases q) (st1 b o q), ff.of_keeps fun b o q nf => ?_, ?_, fun b o q nf => ?_⟩ ⟨_, _, g3, d3, ?_⟩
  · obtain ⟨sl, q1⟩ := so.2.2 b o q
    exact ⟨_, stay b _ (other b o q nf) q1, rfl⟩
  · refine ⟨_, _, g1.objs.size, nw, ([first, .ref L, .none, rawInt L, .none] ++ (if pl.isEmpty then List.replicate 6 Value.none else pl)).toArray, g3, ⟨Obj.cls_mapFields _ _, ?_⟩, d3, ?_, st1.fresh, ne, t3, ?_, ?_⟩
    · rw [Array.getElem?_setIfInBounds_ne (by decide)]
      exact arg
    · simp [big]
    · rw [← hN]
    · first | (simp; done) | (rcases hp with rfl | ⟨_, _, _, _, _, _, _, rfl⟩ <;> simp)
  · obtain ⟨sl, q1⟩ := so.2.2 b o q
    exact ⟨sl, stay b _ (other b o q nf) q1⟩
  · rw [Array.getElem?_setIfInBounds_ne (by decide)]
    exact cx
/-- the mark is taken off -/
theorem flightX {l : List Env} {fl : Value} {Q : Unit → Shared → Prop} (st : base.StaysIn s.heap) (ff : s.heap.FunFrames base l) (tr : s.heap.TracedAtW base e cls a0 fl) (c : Ctx0 s.heap e)
    (k : ∀ g, base.StaysIn g → g.FunFrames base l → g.TracedW base e cls a0 → s.heap.UpToSlots g → Ctx0 g e → Q () { s with heap := g }) : wpAny M A (setFlight (.ref e) none) Q E s := by
  obtain ⟨ob, fs, T, oT, ts, x1, x2, x3, x4, x5, x6, x7, x8, x9⟩ := tr
  have big : 3 < ts.size := (Array.getElem?_eq_some_iff.mp x9).1
  have far : ∀ b o, s.heap.get? b = some o → (∀ vs, o.data ≠ .fields vs) → b ≠ T := fun b o q nf z => by
    rw [z, x7] at q
    cases q
    exact nf ts x8
  unfold setFlight
  refine wpAny_bind (wpAny_field x1 x3 x4 ?_)
  rw [if_pos (by simp)]
  refine wpAny_setField x7 x8 big (k _ (fun b o q => ?_) (ff.of_keeps fun b o q nf => ⟨o, ?_, rfl⟩) ?_ (fun b o q nf => ⟨o.slots, ?_⟩) (c.keep fun o q => ?_))
  · exact (Heap.get?_update_other _ _ fun z => by rw [← z, x5] at q; cases q).trans (st b o q)
  · exact (Heap.get?_update_other _ _ (Ne.symm (far b o q nf))).trans q
  · exact ⟨ob, fs, T, _, _, (Heap.get?_update_other _ _ x6).trans x1, x2, x3, x4, x5, x6, Heap.get?_update_self _ x7 (Obj.isFreed_of_fields (Obj.data_mapFields x8 _)), Obj.data_mapFields x8 _, by simp [big]⟩
  · exact (Heap.get?_update_other _ _ (Ne.symm (far b o q nf))).trans q
  · exact (Heap.get?_update_other _ _ x6).trans q
/-- the frame is noted where the exception flies -/
theorem noteX {Q : Unit → Shared → Prop} (fr : A.frames = some (env :: outer)) (ef : env.frame = some L) (fly : Heap.FlyingW base (env :: outer) e cls a0 s.heap) (c : Ctx0 s.heap e)
    (k : ∀ g, Heap.HeldW base (env :: outer) e cls a0 L g → s.heap.UpToSlots g → Ctx0 g e → Q () { s with heap := g }) : wpAny M A (noteFrame (.ref e) env) Q E s := by
  obtain ⟨st, nb, ff, ob, fs, T, oT, ts, x1, ⟨x2, x2'⟩, x3, x4, x5, x6, x7, x8, x9⟩ := fly
  subst x2
  have far : ∀ b o, s.heap.get? b = some o → (∀ vs, o.data ≠ .fields vs) → b ≠ T := fun b o q nf z => by
    rw [z, x7] at q
    cases q
    exact nf ts x8
  unfold noteFrame
  simp only [ef]
  refine wpAny_bind (wpAny_field x1 x3 x4 ?_)
  rw [if_pos (by simp)]
  refine wpAny_bind (wpAny_field x7 x8 x9 ?_)
  rw [if_neg (by simp [rawInt])]
  refine wpAny_bind (wpAny_setField x7 x8 (Array.getElem?_eq_some_iff.mp x9).1 ?_)
  refine entryX fr (ff.of_keeps fun b o q nf => ⟨o, (Heap.get?_update_other _ _ (Ne.symm (far b o q nf))).trans q, rfl⟩) ef ((Heap.get?_update_other _ _ x6).trans x1) (fun b o q => (Heap.get?_update_other _ _ fun z => by rw [← z, x5] at q; cases q).trans (st b o q)) nb x3 (Array.getElem?_eq_some_iff.mp x4).1 x2' (c.at x1 x3) fun g ⟨y1, y2, y3, y4⟩ cg => ?_
  exact k g ⟨y1, nb, y2, y3⟩ (fun b o q nf => y4 b o ((Heap.get?_update_other _ _ (Ne.symm (far b o q nf))).trans q) nf) cg
theorem landX {l : List Env} {Q : Unit → Shared → Prop} (h : Heap.HeldW base l e cls a0 L s.heap) (c : Ctx0 s.heap e) (k : ∀ g, Heap.FlyingW base l e cls a0 g → s.heap.UpToSlots g → Ctx0 g e → Q () { s with heap := g }) : wpAny M A (setFlight (.ref e) none) Q E s := by
  obtain ⟨x1, x2, x3, x4⟩ := h
  exact flightX x1 x3 x4 c fun g y1 y2 y3 y4 y5 => k g ⟨y1, x2, y2, y3⟩ y4 y5
end
end L2

namespace L2
open PySem PySem.Spec PySem.Calls PyProof.Rows PySem.Builtin PySem.Builtin.ObjectAttr


/-- an object of that class -/
def AtC (x C : Addr) (h : Heap) : Prop := ∃ o, h.get? x = some o ∧ o.cls = .ref C
section
variable {prog : Program} {w : World} {A : Around} {E : Value → Shared → Prop} {s : Shared} {K : PySem.W.Frag} {x C : Addr}
end
/-- a caught exception of the class at C -/
def ExcO (p C : Addr) : HO := .ext (fun h => AtC p C h ∧ Ctx0 h p)
section
variable {X : Cx}
end
end L2

namespace L2
open PySem PySem.Spec PySem.Calls PyProof.Rows

/-- what is kept of h in B, the heap at the raise without the frames at fs -/
structure UnB (fs : List Addr) (H H' : Hp) (h B : Heap) : Prop where
  keep : ∀ b o, h.get? b = some o → H b = none → b ∉ fs → B.get? b = some o
  free : ∀ b o, h.get? b = some o → H b = none → H' b = none
  there : ∀ b o, h.get? b = some o → b ∉ fs → ∃ o', B.get? b = some o'
  tups : ∀ b xs, H b = some (.tup xs) → H' b = some (.tup xs)
  frzs : ∀ b o u, H b = some (.frz o u) → H' b = some (.frz o u)
  tbls : ∀ b ps, H b = some (.tbl ps) → ∃ more, H' b = some (.tbl (ps ++ more))
/-- it flies, and has no context -/
def FlyX (B : Heap) (l : List Env) (e : Addr) (cls a0 : Value) (h : Heap) : Prop := Heap.FlyingW B l e cls a0 h ∧ Ctx0 h e
/-- how an exception lies behind a call that it left -/
def CXE (P : Program) (w : World) : CXT := fun outer H s E e s' => ∃ (p C : Addr) (a0 : Value) (B : Heap) (H' : Hp),
  e = .ref p ∧ s'.os = s.os ∧ AllBare s'.gens ∧ FlyX B outer p (.ref C) a0 s'.heap ∧ HOk P w H' B ∧ UnB (frs outer) H H' s.heap B ∧
  (∀ b ∈ frs outer, ∀ o, s.heap.get? b = some o → ∃ sl, s'.heap.get? b = some { o with slots := sl }) ∧ H' p = none ∧ E (.ref p) (some C) H'
section
variable {X : Cx} {pins : List (Addr × Obj)} {σ : St} {H H' : Hp} {s : Shared}
/-- all of a def's frames: its own, the callers' -/
structure Own (X : Cx) : Prop where
  stk : X.stack = X.env :: X.outer
  fr : X.env.frame = some X.env.locals
  ex : X.ex = []
end
end L2

namespace L2
open PySem PySem.Spec PySem.Calls PyProof.Rows


section
variable {P : Program} {w : World} {K : PySem.W.Frag} {mg : Str → Option Value} {base : Heap} {N : List Str} {qual : Str} {scope : Scope} {f : Addr} {cd : Value} {A : Around} {outer : List Env} {s₀ : Shared} {H₀ : Hp} {E : XK}
end
end L2

namespace L2
open PySem PySem.Spec PySem.Calls PyProof.Rows

section
variable {X : Cx} {pins : List (Addr × Obj)} {σ : St} {H : Hp} {s : Shared} {p : Addr}
/-- where an exception has come to: the state ahead of the call that it left, and what stands since -/
def Ld (X : Cx) (pins : List (Addr × Obj)) (σ : St) (H' : Hp) (p C : Addr) (s : Shared) : Prop := ∃ (H1 : Hp) (s1 : Shared) (a0 : Value) (B : Heap), Inv X pins σ H1 s1 ∧ s.os = s1.os ∧ AllBare s.gens ∧ FlyX B X.stack p (.ref C) a0 s.heap ∧
  HOk X.prog X.w H' B ∧ UnB (frs X.stack) H1 H' s1.heap B ∧ (∀ b ∈ frs X.stack, ∀ o, s1.heap.get? b = some o → ∃ sl, s.heap.get? b = some { o with slots := sl }) ∧ H' p = none
variable {C : Addr} {H' : Hp}
theorem slots_up {l : List Env} {base g h h' : Heap} (F : g.FunFrames base l) (a : ∀ b ∈ frs l, ∀ o, g.get? b = some o → ∃ sl, h.get? b = some { o with slots := sl }) (u : h.UpToSlots h') : ∀ b ∈ frs l, ∀ o, g.get? b = some o → ∃ sl, h'.get? b = some { o with slots := sl } := fun b hb o e => by
  obtain ⟨sl, q⟩ := a b hb o e
  obtain ⟨_, of, hof, hnf⟩ := F.mem hb
  rw [e] at hof; cases hof
  obtain ⟨sl2, q2⟩ := u b _ q hnf
  exact ⟨sl2, q2⟩
/-- the handlers are asked -/
theorem ld_enter {E : XK} {H1 : Hp} {s1 s2 : Shared} {e : Value} {M : Model} {A : Around} {XE : Value → Shared → Prop} {Q : Shared → Prop} (hA : A.frames = some X.stack) (O : Own X) (I : Inv X pins σ H1 s1) (h : CXE X.prog X.w X.stack H1 s1 E e s2)
    (hQ : ∀ p C H' s', e = .ref p → Ld X pins σ H' p C s' → E (.ref p) (some C) H' → Q s') :
    wpAny M A (noteFrame e X.env) (fun _ s₂ => wpAny M A (setFlight e none) (fun _ s₃ => Q s₃) XE s₂) XE s2 := by
  obtain ⟨p, C, a0, B, H', rfl, os, bare, fl, hok, u, fr, hp, hE⟩ := h
  rw [O.stk] at fl
  refine noteX (by rw [hA, O.stk]) O.fr fl.1 fl.2 fun h3 held up3 c3 => ?_
  refine landX held c3 fun h4 fl4 up4 c4 => ?_
  refine hQ p C H' _ rfl ⟨H1, s1, a0, B, I, os, bare, ?_, hok, u, ?_, hp⟩ hE
  · rw [O.stk]; exact ⟨fl4, c4⟩
  · exact slots_up I.stack fr (up3.trans up4)
end
end L2

namespace L2
open PySem PySem.Spec PySem.Calls PyProof.Rows

/-! ### code from which an exception may come -/
abbrev TXS := Ends → (St → XK) → St → Hp → Prop
def XEnd (X : Cx) (pins : List (Addr × Obj)) (E : St → XK) (ev : Value) (s' : Shared) : Prop := ∃ σ1 H1 s1, Inv X pins σ1 H1 s1 ∧ CXE X.prog X.w X.stack H1 s1 (E σ1) ev s'
def PXS (X : Cx) (st : Stmt) (t : TXS) : Prop :=
  ∀ (pins : List (Addr × Obj)) (s : Shared) (σ : St) (H : Hp) (D : Ends) (E : St → XK), Inv X pins σ H s → t D E σ H → wpAny (model X.prog X.w) X.A (exec st X.env) (SP X pins D) (XEnd X pins E) s
def PXSs (X : Cx) (sts : List Stmt) (t : TXS) : Prop :=
  ∀ (pins : List (Addr × Obj)) (s : Shared) (σ : St) (H : Hp) (D : Ends) (E : St → XK), Inv X pins σ H s → t D E σ H → wpAny (model X.prog X.w) X.A (execs sts X.env) (SP X pins D) (XEnd X pins E) s
/-- no exception leaves X otherwise -/
def NoX (X : Cx) : Prop := ∀ e s, X.xe e s → False
section
variable {X : Cx} {st : Stmt} {rest : List Stmt} {e : Expr} {es : List Expr} {pos : Pos} {t u : TXS} {te : TXE}
theorem xthn {α : Type} {m : Sem α} {Q Q' : α → Shared → Prop} {M : Model} {A : Around} {E E' : Value → Shared → Prop} {s : Shared} (h : wpAny M A m Q E s) (hx : ∀ e s, E e s → False) (hQ : ∀ a s, Q a s → Q' a s) : wpAny M A m Q' E' s := wpAny_mono h hQ fun e s z => (hx e s z).elim
theorem pxs_plain {t : TS} (hx : NoX X) (h : PS X st t) : PXS X st (fun D _ => t D) := fun pins s σ H D E I q => xthn (h pins s σ H D I q) hx fun _ _ z => z
theorem pxss_nil : PXSs X [] (fun D _ σ H => D.nx σ H) := fun _ _ σ H _ _ I h => wpAny_execs_nil ⟨σ, H, I, h⟩
theorem pxss_cons (h1 : PXS X st t) (h2 : PXSs X rest u) : PXSs X (st :: rest) (fun D E => t { D with nx := u D E } E) := by
  intro pins s σ H D E I h
  refine wpAny_execs_cons (thn (h1 pins s σ H { D with nx := u D E } E I h) fun f s1 q => ?_)
  cases f with
  | next =>
    obtain ⟨σ', H', I', q⟩ := q
    exact h2 pins s1 σ' H' D E I' q
  | ret v => exact q
  | brk => exact q
  | cont => exact q
end

/-! ### try .. except -/
/-- what a handler list makes of an exception of class C at p -/
def PH (X : Cx) (p C : Addr) (hs : List ExceptHandler) (t : TS) : Prop :=
  ∀ (pins : List (Addr × Obj)) (s : Shared) (σ : St) (H' : Hp) (D : Ends), Ld X pins σ H' p C s → t D σ (upd H' p (ExcO p C)) → wpAny (model X.prog X.w) X.A (handleBy (.ref p) X.env hs) (SP X pins D) X.xe s
section
variable {X : Cx} {pos np : Pos} {t : TS} {tx : TXS} {p C : Addr}
/-- the whole: th is the handlers' reading for each class -/
theorem ps_try {body : List Stmt} {h₀ : ExceptHandler} {hs : List ExceptHandler} {th : Addr → Addr → TS} {ok : Addr → Prop} (O : Own X) (hb : PXSs X body tx) (hp : ∀ p C, ok C → PH X p C (h₀ :: hs) (th p C)) :
    PS X (.Try body (h₀ :: hs) [] [] pos) (fun D σ H => tx D (fun σ1 v c H' => ∀ p C, v = .ref p → c = some C → ok C ∧ th p C D σ1 (upd H' p (ExcO p C))) σ H) := by
  intro pins s σ H D I h
  refine wpAny_Try_except (wpAny_mono (hb pins s σ H D _ I h) (fun fl s1 q => ?_) fun ev s1 q => ?_)
  · cases fl with
    | next => exact wpAny_execs_nil q
    | brk => exact q
    | cont => exact q
    | ret u => exact q
  · obtain ⟨σ1, H1, s0, I1, hc⟩ := q
    refine ld_enter (XE := X.xe) I1.ok.frames O I1 hc fun p C H' s' e L hE => ?_
    subst e
    obtain ⟨o, z⟩ := hE p C rfl rfl
    exact hp p C o pins s' σ1 H' D L z
end
end L2

namespace L2
open PySem PySem.Spec PySem.Calls PyProof.Rows
end L2

namespace L2
open PySem PySem.Spec PySem.Calls PyProof.Rows

/-! ### defs that are called within an except suite -/
section
variable {X : Cx} {k : Nat} {f : Addr} {fd : FuncData} {ps : List Str} {sp : Sp} {dvs : List V} {ds : List Value} {x : Str} {p pos : Pos} {e : Expr} {es : List Expr} {t : TA}
end
end L2


namespace K
open PySem L2 Lw Bg
def top (i : Nat) : Stmt := PySem.Challenge.pw_bagwood_k98_whole_less_is_no_wider.main.body.getD i (.Pass ⟨0, 0, 0, 0⟩)
structure Cts (mg : Str → Option Value) where
  u_FIGURES : Value
  m_FIGURES : mg "FIGURES" = some u_FIGURES
  r_FIGURES : RelV (.str "0123456789") u_FIGURES
  u_LETTERS : Value
  m_LETTERS : mg "LETTERS" = some u_LETTERS
  r_LETTERS : RelV (.str "abcdefghijklmnopqrstuvwxyz") u_LETTERS
  u_MOST_FIGURES : Value
  m_MOST_FIGURES : mg "MOST_FIGURES" = some u_MOST_FIGURES
  r_MOST_FIGURES : RelV (.int 30) u_MOST_FIGURES
  u_MOST_LETTERS : Value
  m_MOST_LETTERS : mg "MOST_LETTERS" = some u_MOST_LETTERS
  r_MOST_LETTERS : RelV (.int 6) u_MOST_LETTERS
  u_MOST_PLACES : Value
  m_MOST_PLACES : mg "MOST_PLACES" = some u_MOST_PLACES
  r_MOST_PLACES : RelV (.int 10) u_MOST_PLACES
theorem cts_mk {K : PySem.W.Frag} {h : Heap} {mg : Str → Option Value} {t_FIGURES : Tok} {t_LETTERS : Tok} {t_MOST_FIGURES : Tok} {t_MOST_LETTERS : Tok} {t_MOST_PLACES : Tok} (X : K.In h) (G : h.Ns mainGlobals mg) (a_FIGURES : PySem.W.nsIn K mainGlobals "FIGURES" = some (some (Value.str "0123456789" t_FIGURES))) (a_LETTERS : PySem.W.nsIn K mainGlobals "LETTERS" = some (some (Value.str "abcdefghijklmnopqrstuvwxyz" t_LETTERS))) (a_MOST_FIGURES : PySem.W.nsIn K mainGlobals "MOST_FIGURES" = some (some (Value.int 30 t_MOST_FIGURES))) (a_MOST_LETTERS : PySem.W.nsIn K mainGlobals "MOST_LETTERS" = some (some (Value.int 6 t_MOST_LETTERS))) (a_MOST_PLACES : PySem.W.nsIn K mainGlobals "MOST_PLACES" = some (some (Value.int 10 t_MOST_PLACES))) : Nonempty (Cts mg) :=
  ⟨{ u_FIGURES := _, m_FIGURES := PySem.W.mg_of X G a_FIGURES, r_FIGURES := ⟨_, rfl⟩, u_LETTERS := _, m_LETTERS := PySem.W.mg_of X G a_LETTERS, r_LETTERS := ⟨_, rfl⟩, u_MOST_FIGURES := _, m_MOST_FIGURES := PySem.W.mg_of X G a_MOST_FIGURES, r_MOST_FIGURES := ⟨_, rfl⟩, u_MOST_LETTERS := _, m_MOST_LETTERS := PySem.W.mg_of X G a_MOST_LETTERS, r_MOST_LETTERS := ⟨_, rfl⟩, u_MOST_PLACES := _, m_MOST_PLACES := PySem.W.mg_of X G a_MOST_PLACES, r_MOST_PLACES := ⟨_, rfl⟩ }⟩
abbrev s_Desk___init__ : Stmt := inClass (top 144) 0
theorem sc_Desk___init__ : FnScope ["self"] ["self"] (defScope s_Desk___init__) := ⟨rfl, rfl, rfl, by decide +kernel, rfl, by decide +kernel, by decide +kernel⟩
abbrev s_Desk_say : Stmt := inClass (top 144) 1
theorem sc_Desk_say : FnScope ["self", "row", "words"] ["self", "row"] (defScope s_Desk_say) := ⟨rfl, rfl, rfl, by decide +kernel, rfl, by decide +kernel, by decide +kernel⟩
abbrev s_Desk_change : Stmt := inClass (top 144) 2
theorem sc_Desk_change : FnScope ["self", "words"] ["self", "words"] (defScope s_Desk_change) := ⟨rfl, rfl, rfl, by decide +kernel, rfl, by decide +kernel, by decide +kernel⟩
abbrev s_Desk_place : Stmt := inClass (top 144) 3
theorem sc_Desk_place : FnScope ["self", "name", "weight", "number"] ["self", "name", "weight"] (defScope s_Desk_place) := ⟨rfl, rfl, rfl, by decide +kernel, rfl, by decide +kernel, by decide +kernel⟩
abbrev s_Desk_tie : Stmt := inClass (top 144) 4
theorem sc_Desk_tie : FnScope ["self", "one", "other", "cost", "a", "b", "number", "pair"] ["self", "one", "other", "cost"] (defScope s_Desk_tie) := ⟨rfl, rfl, rfl, by decide +kernel, rfl, by decide +kernel, by decide +kernel⟩
abbrev s_Desk_untie : Stmt := inClass (top 144) 5
theorem sc_Desk_untie : FnScope ["self", "one", "other", "pair"] ["self", "one", "other"] (defScope s_Desk_untie) := ⟨rfl, rfl, rfl, by decide +kernel, rfl, by decide +kernel, by decide +kernel⟩
abbrev s_Desk_drop : Stmt := inClass (top 144) 6
theorem sc_Desk_drop : FnScope ["self", "name", "v", "left"] ["self", "name"] (defScope s_Desk_drop) := ⟨rfl, rfl, rfl, by decide +kernel, rfl, by decide +kernel, by decide +kernel⟩
abbrev s_Desk_spot : Stmt := inClass (top 144) 8
theorem sc_Desk_spot : FnScope ["self", "name"] ["self", "name"] (defScope s_Desk_spot) := ⟨rfl, rfl, rfl, by decide +kernel, rfl, by decide +kernel, by decide +kernel⟩
abbrev s_Desk_whole_graph : Stmt := inClass (top 144) 10
theorem sc_Desk_whole_graph : FnScope ["self"] ["self"] (defScope s_Desk_whole_graph) := ⟨rfl, rfl, rfl, by decide +kernel, rfl, by decide +kernel, by decide +kernel⟩
abbrev s_Desk_looked : Stmt := inClass (top 144) 12
theorem sc_Desk_looked : FnScope ["self", "kind", "told", "places", "sets"] ["self", "kind"] (defScope s_Desk_looked) := ⟨rfl, rfl, rfl, by decide +kernel, rfl, by decide +kernel, by decide +kernel⟩
structure ObDesk (K : PySem.W.Frag) (mg : Str → Option Value) where
  C : Addr
  cl : Cls K C
  m : mg "Desk" = some (.ref C)
  n_names : NoAttr K C "names"
  n_weights : NoAttr K C "weights"
  n_costs : NoAttr K C "costs"
  n_kept : NoAttr K C "kept"
  d___init__ : Dm K C "__init__" "Desk.__init__" s_Desk___init__ ["self"]
  d_say : Dm K C "say" "Desk.say" s_Desk_say ["self", "row"]
  d_change : Dm K C "change" "Desk.change" s_Desk_change ["self", "words"]
  d_place : Dm K C "place" "Desk.place" s_Desk_place ["self", "name", "weight"]
  d_tie : Dm K C "tie" "Desk.tie" s_Desk_tie ["self", "one", "other", "cost"]
  d_untie : Dm K C "untie" "Desk.untie" s_Desk_untie ["self", "one", "other"]
  d_drop : Dm K C "drop" "Desk.drop" s_Desk_drop ["self", "name"]
  d_spot : Dm K C "spot" "Desk.spot" s_Desk_spot ["self", "name"]
  d_whole_graph : Dm K C "whole_graph" "Desk.whole_graph" s_Desk_whole_graph ["self"]
  d_looked : Dm K C "looked" "Desk.looked" s_Desk_looked ["self", "kind"]
  mkd : Mk K C d___init__.f
theorem obDesk_mk {K : PySem.W.Frag} {h : Heap} {mg : Str → Option Value} {C : Addr} {f___init__ : Addr} {od___init__ an___init__ : Option Addr} {sl___init__ : Array (Option Value)} {oc___init__ kV___init__ dc___init__ pm___init__ cd___init__ ct___init__ : Value} {f_say : Addr} {od_say an_say : Option Addr} {sl_say : Array (Option Value)} {oc_say kV_say dc_say pm_say cd_say ct_say : Value} {f_change : Addr} {od_change an_change : Option Addr} {sl_change : Array (Option Value)} {oc_change kV_change dc_change pm_change cd_change ct_change : Value} {f_place : Addr} {od_place an_place : Option Addr} {sl_place : Array (Option Value)} {oc_place kV_place dc_place pm_place cd_place ct_place : Value} {f_tie : Addr} {od_tie an_tie : Option Addr} {sl_tie : Array (Option Value)} {oc_tie kV_tie dc_tie pm_tie cd_tie ct_tie : Value} {f_untie : Addr} {od_untie an_untie : Option Addr} {sl_untie : Array (Option Value)} {oc_untie kV_untie dc_untie pm_untie cd_untie ct_untie : Value} {f_drop : Addr} {od_drop an_drop : Option Addr} {sl_drop : Array (Option Value)} {oc_drop kV_drop dc_drop pm_drop cd_drop ct_drop : Value} {f_spot : Addr} {od_spot an_spot : Option Addr} {sl_spot : Array (Option Value)} {oc_spot kV_spot dc_spot pm_spot cd_spot ct_spot : Value} {f_whole_graph : Addr} {od_whole_graph an_whole_graph : Option Addr} {sl_whole_graph : Array (Option Value)} {oc_whole_graph kV_whole_graph dc_whole_graph pm_whole_graph cd_whole_graph ct_whole_graph : Value} {f_looked : Addr} {od_looked an_looked : Option Addr} {sl_looked : Array (Option Value)} {oc_looked kV_looked dc_looked pm_looked cd_looked ct_looked : Value} (X : K.In h) (G : h.Ns mainGlobals mg)
    (a : PySem.W.nsIn K mainGlobals "Desk" = some (some (.ref C)))
    (pg : PySem.W.plainGet K C Str.empty = true) (hd : PySem.W.hasDictIn K C = true) (po : PySem.W.plainOver K C = true) (sa : PySem.W.findIn K (.ref C) "__setattr__" = some (some (.builtin "object.__setattr__"))) (mk : PySem.W.makesIn K C = true) (kc : PySem.W.keepIn K (.ref C) = true)
    (n_names : PySem.W.findIn K (.ref C) "names" = some none)
    (n_weights : PySem.W.findIn K (.ref C) "weights" = some none)
    (n_costs : PySem.W.findIn K (.ref C) "costs" = some none)
    (n_kept : PySem.W.findIn K (.ref C) "kept" = some none)
    (a___init__ : PySem.W.findIn K (.ref C) "__init__" = some (some (.ref f___init__))) (i___init__ : PySem.W.isFn K (.ref f___init__) = true) (l___init__ : K.lookup f___init__ = some ⟨oc___init__, od___init__, .func (PySem.W.fnOf "__init__" "Desk.__init__" (defArgs s_Desk___init__) (defBody s_Desk___init__) (defScope s_Desk___init__) .none kV___init__ dc___init__ pm___init__ an___init__ cd___init__ ct___init__), sl___init__⟩) (c___init__ : PySem.W.codeIn K cd___init__ "Desk.__init__" = true) (k___init__ : PySem.W.keepIn K (.ref f___init__) = true)
    (a_say : PySem.W.findIn K (.ref C) "say" = some (some (.ref f_say))) (i_say : PySem.W.isFn K (.ref f_say) = true) (l_say : K.lookup f_say = some ⟨oc_say, od_say, .func (PySem.W.fnOf "say" "Desk.say" (defArgs s_Desk_say) (defBody s_Desk_say) (defScope s_Desk_say) .none kV_say dc_say pm_say an_say cd_say ct_say), sl_say⟩) (c_say : PySem.W.codeIn K cd_say "Desk.say" = true) (k_say : PySem.W.keepIn K (.ref f_say) = true)
    (a_change : PySem.W.findIn K (.ref C) "change" = some (some (.ref f_change))) (i_change : PySem.W.isFn K (.ref f_change) = true) (l_change : K.lookup f_change = some ⟨oc_change, od_change, .func (PySem.W.fnOf "change" "Desk.change" (defArgs s_Desk_change) (defBody s_Desk_change) (defScope s_Desk_change) .none kV_change dc_change pm_change an_change cd_change ct_change), sl_change⟩) (c_change : PySem.W.codeIn K cd_change "Desk.change" = true) (k_change : PySem.W.keepIn K (.ref f_change) = true)
    (a_place : PySem.W.findIn K (.ref C) "place" = some (some (.ref f_place))) (i_place : PySem.W.isFn K (.ref f_place) = true) (l_place : K.lookup f_place = some ⟨oc_place, od_place, .func (PySem.W.fnOf "place" "Desk.place" (defArgs s_Desk_place) (defBody s_Desk_place) (defScope s_Desk_place) .none kV_place dc_place pm_place an_place cd_place ct_place), sl_place⟩) (c_place : PySem.W.codeIn K cd_place "Desk.place" = true) (k_place : PySem.W.keepIn K (.ref f_place) = true)
    (a_tie : PySem.W.findIn K (.ref C) "tie" = some (some (.ref f_tie))) (i_tie : PySem.W.isFn K (.ref f_tie) = true) (l_tie : K.lookup f_tie = some ⟨oc_tie, od_tie, .func (PySem.W.fnOf "tie" "Desk.tie" (defArgs s_Desk_tie) (defBody s_Desk_tie) (defScope s_Desk_tie) .none kV_tie dc_tie pm_tie an_tie cd_tie ct_tie), sl_tie⟩) (c_tie : PySem.W.codeIn K cd_tie "Desk.tie" = true) (k_tie : PySem.W.keepIn K (.ref f_tie) = true)
    (a_untie : PySem.W.findIn K (.ref C) "untie" = some (some (.ref f_untie))) (i_untie : PySem.W.isFn K (.ref f_untie) = true) (l_untie : K.lookup f_untie = some ⟨oc_untie, od_untie, .func (PySem.W.fnOf "untie" "Desk.untie" (defArgs s_Desk_untie) (defBody s_Desk_untie) (defScope s_Desk_untie) .none kV_untie dc_untie pm_untie an_untie cd_untie ct_untie), sl_untie⟩) (c_untie : PySem.W.codeIn K cd_untie "Desk.untie" = true) (k_untie : PySem.W.keepIn K (.ref f_untie) = true)
    (a_drop : PySem.W.findIn K (.ref C) "drop" = some (some (.ref f_drop))) (i_drop : PySem.W.isFn K (.ref f_drop) = true) (l_drop : K.lookup f_drop = some ⟨oc_drop, od_drop, .func (PySem.W.fnOf "drop" "Desk.drop" (defArgs s_Desk_drop) (defBody s_Desk_drop) (defScope s_Desk_drop) .none kV_drop dc_drop pm_drop an_drop cd_drop ct_drop), sl_drop⟩) (c_drop : PySem.W.codeIn K cd_drop "Desk.drop" = true) (k_drop : PySem.W.keepIn K (.ref f_drop) = true)
    (a_spot : PySem.W.findIn K (.ref C) "spot" = some (some (.ref f_spot))) (i_spot : PySem.W.isFn K (.ref f_spot) = true) (l_spot : K.lookup f_spot = some ⟨oc_spot, od_spot, .func (PySem.W.fnOf "spot" "Desk.spot" (defArgs s_Desk_spot) (defBody s_Desk_spot) (defScope s_Desk_spot) .none kV_spot dc_spot pm_spot an_spot cd_spot ct_spot), sl_spot⟩) (c_spot : PySem.W.codeIn K cd_spot "Desk.spot" = true) (k_spot : PySem.W.keepIn K (.ref f_spot) = true)
    (a_whole_graph : PySem.W.findIn K (.ref C) "whole_graph" = some (some (.ref f_whole_graph))) (i_whole_graph : PySem.W.isFn K (.ref f_whole_graph) = true) (l_whole_graph : K.lookup f_whole_graph = some ⟨oc_whole_graph, od_whole_graph, .func (PySem.W.fnOf "whole_graph" "Desk.whole_graph" (defArgs s_Desk_whole_graph) (defBody s_Desk_whole_graph) (defScope s_Desk_whole_graph) .none kV_whole_graph dc_whole_graph pm_whole_graph an_whole_graph cd_whole_graph ct_whole_graph), sl_whole_graph⟩) (c_whole_graph : PySem.W.codeIn K cd_whole_graph "Desk.whole_graph" = true) (k_whole_graph : PySem.W.keepIn K (.ref f_whole_graph) = true)
    (a_looked : PySem.W.findIn K (.ref C) "looked" = some (some (.ref f_looked))) (i_looked : PySem.W.isFn K (.ref f_looked) = true) (l_looked : K.lookup f_looked = some ⟨oc_looked, od_looked, .func (PySem.W.fnOf "looked" "Desk.looked" (defArgs s_Desk_looked) (defBody s_Desk_looked) (defScope s_Desk_looked) .none kV_looked dc_looked pm_looked an_looked cd_looked ct_looked), sl_looked⟩) (c_looked : PySem.W.codeIn K cd_looked "Desk.looked" = true) (k_looked : PySem.W.keepIn K (.ref f_looked) = true) : Nonempty (ObDesk K mg) :=
  ⟨{ C := C,
     cl := ⟨pg, hd, po, sa⟩,
     m := PySem.W.mg_of X G a,
     n_names := n_names,
     n_weights := n_weights,
     n_costs := n_costs,
     n_kept := n_kept,
     d___init__ := dm_mk (st := s_Desk___init__) (ps := ["self"]) a___init__ i___init__ l___init__ c___init__ k___init__ (fun _ _ _ _ _ _ us hl => match us, hl with | [_], _ => rfl),
     d_say := dm_mk (st := s_Desk_say) (ps := ["self", "row"]) a_say i_say l_say c_say k_say (fun _ _ _ _ _ _ us hl => match us, hl with | [_, _], _ => rfl),
     d_change := dm_mk (st := s_Desk_change) (ps := ["self", "words"]) a_change i_change l_change c_change k_change (fun _ _ _ _ _ _ us hl => match us, hl with | [_, _], _ => rfl),
     d_place := dm_mk (st := s_Desk_place) (ps := ["self", "name", "weight"]) a_place i_place l_place c_place k_place (fun _ _ _ _ _ _ us hl => match us, hl with | [_, _, _], _ => rfl),
     d_tie := dm_mk (st := s_Desk_tie) (ps := ["self", "one", "other", "cost"]) a_tie i_tie l_tie c_tie k_tie (fun _ _ _ _ _ _ us hl => match us, hl with | [_, _, _, _], _ => rfl),
     d_untie := dm_mk (st := s_Desk_untie) (ps := ["self", "one", "other"]) a_untie i_untie l_untie c_untie k_untie (fun _ _ _ _ _ _ us hl => match us, hl with | [_, _, _], _ => rfl),
     d_drop := dm_mk (st := s_Desk_drop) (ps := ["self", "name"]) a_drop i_drop l_drop c_drop k_drop (fun _ _ _ _ _ _ us hl => match us, hl with | [_, _], _ => rfl),
     d_spot := dm_mk (st := s_Desk_spot) (ps := ["self", "name"]) a_spot i_spot l_spot c_spot k_spot (fun _ _ _ _ _ _ us hl => match us, hl with | [_, _], _ => rfl),
     d_whole_graph := dm_mk (st := s_Desk_whole_graph) (ps := ["self"]) a_whole_graph i_whole_graph l_whole_graph c_whole_graph k_whole_graph (fun _ _ _ _ _ _ us hl => match us, hl with | [_], _ => rfl),
     d_looked := dm_mk (st := s_Desk_looked) (ps := ["self", "kind"]) a_looked i_looked l_looked c_looked k_looked (fun _ _ _ _ _ _ us hl => match us, hl with | [_, _], _ => rfl),
     mkd := ⟨mk, a___init__, i___init__, kc⟩ }⟩

abbrev natV (l : List Nat) : List V := l.map fun (x : Nat) => V.int (x : Int)
theorem nodup_le : ∀ {m : Nat} {l : List Nat}, l.Nodup → (∀ x ∈ l, x < m) → l.length ≤ m
  | 0, l, _, lt => by
    cases l with
    | nil => exact Nat.le_refl _
    | cons x r => exact absurd (lt x List.mem_cons_self) (Nat.not_lt_zero _)
  | m + 1, l, nd, lt => by
    have ih := nodup_le (m := m) (nd.erase m) fun x hx => by
      obtain ⟨h1, h2⟩ := nd.mem_erase_iff.mp hx
      have := lt x h2
      omega
    rw [List.length_erase] at ih
    split at ih <;> omega
theorem natV_at {l : List Nat} {j : Nat} (h : j < l.length) : atI (natV l) (j : Int) = some (.int ((l.getD j 0 : Nat) : Int)) := atI_nat (by
  unfold natV
  rw [List.getElem?_map, List.getElem?_eq_getElem h, List.getD_eq_getElem?_getD, List.getElem?_eq_getElem h]; rfl)

abbrev s_first_bags : Stmt := top 58
theorem sc_first_bags : FnScope ["graph", "bags", "a", "b"] ["graph"] (defScope s_first_bags) := ⟨rfl, rfl, rfl, by decide +kernel, rfl, by decide +kernel, by decide +kernel⟩
abbrev s_taken_out : Stmt := top 59
theorem sc_taken_out : FnScope ["bags", "v", "bit", "left"] ["bags", "v"] (defScope s_taken_out) := ⟨rfl, rfl, rfl, by decide +kernel, rfl, by decide +kernel, by decide +kernel⟩
theorem natV_len (l : List Nat) : (natV l).length = l.length := List.length_map _
def spFirst (K : PySem.W.Frag) : Sp := fun vs H Q _ => ∃ (g : V) (n : Nat) (ts : List (Int × Int)), vs = [g] ∧ GraphV K H g n ts ∧ (∀ t ∈ ts, 0 ≤ t.1 ∧ t.1 < t.2 ∧ t.2 < (n : Int)) ∧ n ≤ 10 ∧
  ∀ p ms H', Same H H' → H p = none → H' p = some (.lst (natV ms)) → BagsM n ms (tiedR n ts) → Q (.ref p) H'
def spTakenM (K : PySem.W.Frag) : Sp := fun vs H Q _ => ∃ (a : Addr) (n : Nat) (ms : List Nat) (R : Nat → Nat → Bool) (v : Nat), vs = [.ref a, .int (v : Int)] ∧ SqL K H a (natV ms) ∧ BagsM n ms R ∧ v < n ∧
  ∀ p H', Same H H' → H p = none → H' p = some (.lst (natV (takeM v ms))) → Q (.ref p) H'
theorem shl1 (v : Nat) : ((1 : Int) * 2 ^ ((v : Nat) : Int).toNat) = ((2 ^ v : Nat) : Int) := by
  rw [Int.toNat_natCast, Int.one_mul]
  exact (Int.natCast_pow 2 v).symm
theorem first_one (n : Nat) (hn : n ≤ 10) : BagsM n ((List.range n).map fun v => 2 ^ v) (tiedR n []) := by
  refine ⟨by simp, hn, fun m hm => ?_, fun v hv u => ?_, fun v u h => ?_⟩
  · obtain ⟨v, hv, rfl⟩ := List.mem_map.mp hm
    have := List.mem_range.mp hv
    exact Nat.pow_lt_pow_right (by decide) (by omega)
  · rw [List.getD_eq_getElem?_getD, List.getElem?_map, List.getElem?_range hv]
    simp only [Option.map_some, Option.getD_some]
    rw [Nat.testBit_two_pow]
    unfold tiedR
    by_cases c : v = u
    · subst c; simp [hv]
    · rw [decide_eq_false c]
      have : ¬ u = v := fun z => c z.symm
      simp [this]
  · unfold tiedR at h
    rw [Bool.and_eq_true] at h
    exact of_decide_eq_true h.1
/-- a tie more -/
theorem first_tie {n : Nat} {ms : List Nat} {ts : List (Int × Int)} {a b : Nat} (B : BagsM n ms (tiedR n ts)) (ha : a < n) (hb : b < n) (ab : a ≠ b) :
    BagsM n ((ms.set a (ms.getD a 0 ||| 2 ^ b)).set b ((ms.set a (ms.getD a 0 ||| 2 ^ b)).getD b 0 ||| 2 ^ a)) (tiedR n (ts ++ [((a : Int), (b : Int))])) := by
  have la : a < ms.length := by rw [B.len]; exact ha
  have lb : b < ms.length := by rw [B.len]; exact hb
  have gb : (ms.set a (ms.getD a 0 ||| 2 ^ b)).getD b 0 = ms.getD b 0 := by
    rw [List.getD_eq_getElem?_getD, List.getElem?_set_ne ab, ← List.getD_eq_getElem?_getD]
  rw [gb]
  have far : ∀ v u, tiedR n (ts ++ [((a : Int), (b : Int))]) v u = true → v < n ∧ u < n := fun v u h => by
    unfold tiedR at h
    rw [Bool.and_eq_true] at h
    exact of_decide_eq_true h.1
  have bit : ∀ v < n, ∀ u, (((ms.set a (ms.getD a 0 ||| 2 ^ b)).set b (ms.getD b 0 ||| 2 ^ a)).getD v 0).testBit u = tiedR n (ts ++ [((a : Int), (b : Int))]) v u := fun v hv u => by
    have old := B.bit v hv u
    unfold tiedR at old ⊢
    by_cases cb : v = b
    · subst cb
      rw [List.getD_eq_getElem?_getD, List.getElem?_set_self (by rw [List.length_set]; exact lb)]
      simp only [Option.getD_some]
      rw [Nat.testBit_or, old, Nat.testBit_two_pow]
      by_cases cu : u < n
      · by_cases c : a = u
        · subst c; simp [hv, cu]
        · have c1 : ¬ u = a := fun z => c z.symm
          have c2 : ¬ ((u : Int) = (a : Int)) := by omega
          have c3 : ¬ ((v : Int) = (a : Int) ∧ (u : Int) = (v : Int)) := by omega
          have c4 : ¬ ((v : Int) = (a : Int)) := by omega
          simp [hv, cu, c, c2, c4]
      · have : ¬ a = u := by omega
        simp [cu, this]
    · rw [List.getD_eq_getElem?_getD, List.getElem?_set_ne (Ne.symm cb)]
      by_cases ca : v = a
      · subst ca
        rw [List.getElem?_set_self la]
        simp only [Option.getD_some]
        rw [Nat.testBit_or, old, Nat.testBit_two_pow]
        by_cases cu : u < n
        · by_cases c : b = u
          · subst c; simp [hv, cu]
          · have c2 : ¬ ((u : Int) = (b : Int)) := by omega
            have c4 : ¬ ((v : Int) = (b : Int)) := by omega
            simp [hv, cu, c, c2, c4]
        · have : ¬ b = u := by omega
          simp [cu, this]
      · rw [List.getElem?_set_ne (Ne.symm ca), ← List.getD_eq_getElem?_getD, old]
        have c1 : ¬ ((v : Int) = (a : Int)) := by omega
        have c2 : ¬ ((v : Int) = (b : Int)) := by omega
        simp [c1, c2]
  refine ⟨by rw [List.length_set, List.length_set]; exact B.len, B.n10, fun m hm => ?_, bit, far⟩
  obtain ⟨j, hj, ej⟩ := List.getElem_of_mem hm
  have jn : j < n := by
    rw [List.length_set, List.length_set, B.len] at hj
    exact hj
  have e : ((ms.set a (ms.getD a 0 ||| 2 ^ b)).set b (ms.getD b 0 ||| 2 ^ a)).getD j 0 = m := by rw [List.getD_eq_getElem?_getD, List.getElem?_eq_getElem hj, ej]; rfl
  refine lt_of_bits fun u hu => ?_
  rw [← e, bit j jn] at hu
  have := far j u hu
  have := B.n10
  omega
theorem natV_set (l : List Nat) (i x : Nat) : (natV l).set i (.int (x : Int)) = natV (l.set i x) := by
  unfold natV
  rw [List.map_set]
section
variable {P : Program} {w : World} {K : PySem.W.Frag} {mg : Str → Option Value} {base : Heap}
set_option maxHeartbeats 4000000 in
theorem ok_first_bags (B : Bl mg) (d_first_bags : Dn K mg "first_bags" s_first_bags ["graph"]) : FnOk P w K mg base CX0 1 d_first_bags.f d_first_bags.fd ["graph"] (spFirst K) := by
  refine d_first_bags.F.ok sc_first_bags (fun vs H Q E h => ?_) (fun cdv A outer s H vs Q E hr h => ?_)
  · obtain ⟨g, n, ts, rfl, _⟩ := h
    rfl
  obtain ⟨g, n, ts, rfl, hG, okt, n10, q⟩ := h
  obtain ⟨pg, ta, rfl, hP, hT⟩ := hG
  obtain ⟨ys, hy, hq, hzt⟩ := id hT
  have hlt : ys.length = ts.length := Paired.length hq
  refine ⟨_, (pss_cons (ps_setLC (i := 1) ["v"] [none] sc_first_bags.nd rfl rfl (by kernel_rfl) rfl (pi_range1 rfl B.range (pa_cons (pe_ix (ix_tupK (K := K) rfl) (pv 0) pe_int (fun _ _ => rfl)) pa_nil)) (fun _ _ _ _ _ => (pg_name (i := 0) (show (["v"] : List Str).Nodup by decide +kernel) rfl (Or.inl rfl))) (fun _ _ _ _ _ => pts_nil) (fun _ _ _ _ _ => (pe_op op_shl pe_int (pv 0))) (by rfl))
      (pss_cons (ps_for PassesOwn.never rfl (pi_listK (K := K) rfl (pe_ix (ix_tupK (K := K) rfl) (pv 0) pe_int (fun _ _ => rfl))) (pg_tupK (K := K) (n := 2) rfl rfl (pgs_cons (pg_name (i := 2) sc_first_bags.nd rfl (Or.inl rfl)) (pgs_cons (pg_name (i := 3) sc_first_bags.nd rfl (Or.inl rfl)) pgs_nil)))
      (pss_cons (ps_asg (pe_op op_or (pe_ix (ix_listK (K := K) rfl) (pv 1) (pv 2) (fun _ _ => rfl)) (pe_op op_shl pe_int (pv 3))) (pg_sub (pv 1) (pv 2) set_listN))
      (pss_one (ps_asg (pe_op op_or (pe_ix (ix_listK (K := K) rfl) (pv 1) (pv 3) (fun _ _ => rfl)) (pe_op op_shl pe_int (pv 2))) (pg_sub (pv 1) (pv 3) set_listN)))))
      (pss_one (ps_ret (pv 1))))), ?_⟩
  refine ⟨_, rfl, pg, _, _, _, rfl, rfl, hP, rfl, _, rfl, by omega, by omega, ?_⟩
  rw [Int.toNat_natCast]
  refine lc_fmRN (lo := 0) (n := n) (fun j => some (.int ((2 ^ j : Nat) : Int))) (by omega) (fun j H7 N hj s7 hN => ?_) (fun H7 pb H8 s7 n8 => ?_)
  · have ej : (0 + (j : Int)) = ((j : Nat) : Int) := by omega
    rw [ej]
    refine ⟨_, rfl, _, _, rfl, rfl, ⟨by omega, by omega, by decide⟩, ?_⟩
    dsimp only
    rw [shl1]
    exact hN H7 s7
  have e8 : (List.range n).filterMap (fun (j : Nat) => some (V.int ((2 ^ j : Nat) : Int))) = natV ((List.range n).map fun v => 2 ^ v) := by
    unfold natV
    rw [List.map_map]
    exact fm_some fun _ _ => rfl
  rw [e8] at n8
  have s8 : Same H H8 := s7.trans n8.same
  refine ⟨_, rfl, pg, _, _, _, rfl, rfl, s8.tupq hP, rfl, ta, rfl, ⟨_, s8.seq hy⟩, ?_⟩
  have fb : H pb = none := s7.free n8.fresh
  refine for_list (xs := ys) (fun i σ H' => ∃ (aa bb : Option V) (ms : List Nat), σ = [some (.ref pg), some (.ref pb), aa, bb] ∧ Same H H' ∧ H' pb = some (.lst (natV ms)) ∧ BagsM n ms (tiedR n (ts.take i))) ⟨none, none, _, rfl, s8, n8.here, by rw [List.take_zero]; exact first_one n n10⟩ (fun i σ H' _ ⟨_, _, _, _, s, _⟩ => s.seq hy) ?_ ?_
  · rintro i x σ H4 hx ⟨aa, bb, ms, rfl, s4, hb4, BM⟩
    obtain ⟨t, ht, ⟨pt, rfl, hTt⟩⟩ := paired_get hq hx
    have tok := okt t (List.mem_of_getElem? ht)
    obtain ⟨a, ea⟩ : ∃ a : Nat, t.1 = (a : Int) := ⟨t.1.toNat, by omega⟩
    obtain ⟨b, eb⟩ : ∃ b : Nat, t.2 = (b : Int) := ⟨t.2.toNat, by omega⟩
    rw [ea, eb] at hTt
    have an : a < n := by omega
    have bn : b < n := by omega
    have la : a < ms.length := by rw [BM.len]; exact an
    have lb : b < ms.length := by rw [BM.len]; exact bn
    refine ⟨pt, _, rfl, s4.tupq hTt, rfl, _, _, rfl, _, _, rfl, rfl, ?_⟩
    refine ⟨_, rfl, _, rfl, pb, _, _, _, rfl, rfl, SqL.of hb4, natV_at la, _, rfl, _, _, rfl, rfl, ⟨by omega, by omega, by decide⟩, _, _, rfl, rfl, ?_⟩
    dsimp only
    rw [shl1, or_nat]
    refine ⟨_, rfl, _, rfl, pb, _, _, a, rfl, rfl, hb4, ixN_nat (by rw [List.length_map]; exact la), fun H5 c5 => ?_⟩
    rw [natV_set] at c5
    have s5 : Same H H5 := s4.chg fb c5
    have lb' : b < (ms.set a (ms.getD a 0 ||| 2 ^ b)).length := by rw [List.length_set]; exact lb
    refine ⟨_, rfl, _, rfl, pb, _, _, _, rfl, rfl, SqL.of c5.here, natV_at lb', _, rfl, _, _, rfl, rfl, ⟨by omega, by omega, by decide⟩, _, _, rfl, rfl, ?_⟩
    dsimp only
    rw [shl1, or_nat]
    refine ⟨_, rfl, _, rfl, pb, _, _, b, rfl, rfl, c5.here, ixN_nat (by rw [List.length_map]; exact lb'), fun H6 c6 => ?_⟩
    rw [natV_set] at c6
    refine ⟨_, _, _, rfl, s5.chg fb c6, c6.here, ?_⟩
    have et : ts.take (i + 1) = ts.take i ++ [((a : Int), (b : Int))] := by
      rw [List.take_succ, ht]
      simp [← ea, ← eb]
    rw [et]
    exact first_tie BM an bn (by omega)
  · rintro σ H4 ⟨aa, bb, ms, rfl, s4, hb4, BM⟩
    rw [hlt, List.take_length] at BM
    exact ⟨_, rfl, q pb ms H4 s4 fb hb4 BM⟩
set_option maxHeartbeats 4000000 in
theorem ok_taken_out (B : Bl mg) (d_taken_out : Dn K mg "taken_out" s_taken_out ["bags", "v"]) : FnOk P w K mg base CX0 1 d_taken_out.f d_taken_out.fd ["bags", "v"] (spTakenM K) := by
  refine d_taken_out.F.ok sc_taken_out (fun vs H Q E h => ?_) (fun cdv A outer s H vs Q E hr h => ?_)
  · obtain ⟨a, n, ms, R, v, rfl, _⟩ := h
    rfl
  obtain ⟨a, n, ms, R, v, rfl, hA, BM, hv, q⟩ := h
  have lv : v < ms.length := by rw [BM.len]; exact hv
  have n10 := BM.n10
  refine ⟨_, (pss_cons (ps_set (i := 2) sc_taken_out.nd rfl (Or.inr rfl) (pe_op op_shl pe_int (pv 1)))
      (pss_cons (ps_setLC (i := 3) ["bag", "bit", "bags", "v"] [none, some 2, some 0, some 1] sc_taken_out.nd rfl rfl (by kernel_rfl) rfl (pi_listK (K := K) rfl (pv 0)) (fun _ _ _ _ _ => (pg_name (i := 0) (show (["bag", "bit", "bags", "v"] : List Str).Nodup by decide +kernel) rfl (Or.inl rfl))) (fun _ _ _ _ _ => pts_nil) (fun _ _ _ _ _ => (pe_ifExp (pt_truthK (K := K) rfl (pe_op op_and (pv 0) (pv 1)) (fun _ => rfl)) (pe_op op_sub (pe_op op_or (pv 0) (pe_ix (ix_listK (K := K) rfl) (pv 2) (pv 3) (fun _ _ => rfl))) (pv 1)) (pv 0))) (by rfl))
      (pss_cons (ps_asg pe_int (pg_sub (pv 3) (pv 1) set_listN))
      (pss_one (ps_ret (pv 3)))))), ?_⟩
  refine ⟨_, rfl, _, _, rfl, rfl, ⟨by omega, by omega, by decide⟩, ?_⟩
  dsimp only
  rw [shl1]
  refine ⟨_, rfl, a, rfl, ⟨_, hA⟩, ?_⟩
  refine lc_fmN (fun x => match x with | .int z => some (.int ((if z.toNat &&& 2 ^ v = 0 then z.toNat else (z.toNat ||| ms.getD v 0) - 2 ^ v : Nat) : Int)) | _ => none) hA (by rw [List.length_map, BM.len]; omega) (fun x H1 N hx s1 hN => ?_) (fun H1 p H2 s1 n2 => ?_)
  · obtain ⟨m, hm, rfl⟩ := List.mem_map.mp hx
    have hN' := hN H1 s1
    dsimp only at hN'
    rw [Int.toNat_natCast] at hN'
    refine ⟨_, rfl, _, rfl, _, _, rfl, rfl, _, rfl, ?_⟩
    rw [and_nat]
    by_cases c : m &&& 2 ^ v = 0
    · rw [if_pos c] at hN'
      rw [c]
      exact iteF ⟨_, rfl, hN'⟩
    · rw [if_neg c] at hN'
      rw [show (((m &&& 2 ^ v : Nat) : Int) != 0) = true by simpa using c]
      refine iteT ⟨_, rfl, _, rfl, _, rfl, a, _, _, _, rfl, rfl, s1.seq hA, natV_at lv, _, _, rfl, rfl, _, rfl, _, _, rfl, rfl, ?_⟩
      rw [or_nat]
      have tb : (m ||| ms.getD v 0).testBit v = true := by
        rw [Nat.testBit_or]
        have : m.testBit v = true := by
          cases e : m.testBit v with
          | true => rfl
          | false => exact absurd ((and_bit m v).mpr e) c
        rw [this]; rfl
      have ge := Nat.ge_two_pow_of_testBit tb
      have e : (((m ||| ms.getD v 0 : Nat) : Int) - ((2 ^ v : Nat) : Int)) = (((m ||| ms.getD v 0) - 2 ^ v : Nat) : Int) := by omega
      dsimp only
      rw [e]
      exact hN'
  have ez : (natV ms).filterMap (fun x => match x with | .int z => some (V.int ((if z.toNat &&& 2 ^ v = 0 then z.toNat else (z.toNat ||| ms.getD v 0) - 2 ^ v : Nat) : Int)) | _ => none) = natV (ms.map fun m => if m &&& 2 ^ v = 0 then m else (m ||| ms.getD v 0) - 2 ^ v) := by
    unfold natV
    rw [List.filterMap_map, List.map_map]
    refine fm_some fun m _ => ?_
    simp only [Function.comp_apply, Int.toNat_natCast]
  rw [ez] at n2
  have lz : v < (ms.map fun m => if m &&& 2 ^ v = 0 then m else (m ||| ms.getD v 0) - 2 ^ v).length := by rw [List.length_map]; exact lv
  refine ⟨_, rfl, _, rfl, p, _, _, v, rfl, rfl, n2.here, ixN_nat (by rw [List.length_map]; exact lz), fun H3 c3 => ?_⟩
  have c3' := c3.here
  rw [show (V.int 0) = V.int ((0 : Nat) : Int) from rfl, natV_set] at c3'
  exact ⟨_, rfl, q p H3 ((s1.trans n2.same).chg (s1.free n2.fresh) c3) (s1.free n2.fresh) c3'⟩
end

abbrev s_mask_sizes : Stmt := top 57
theorem sc_mask_sizes : FnScope ["n", "sizes", "mask"] ["n"] (defScope s_mask_sizes) := ⟨rfl, rfl, rfl, by decide +kernel, rfl, by decide +kernel, by decide +kernel⟩
def popF (m : Nat) : Nat := (placesF m).length
theorem popF_zero : popF 0 = 0 := by decide
theorem popF_half {m : Nat} (h : m < 2 ^ 10) : popF m = popF (m / 2) + m % 2 := by
  have c : ∀ k : Nat, popF k = (List.range 10).countP k.testBit := fun k => by
    unfold popF placesF
    rw [List.countP_eq_length_filter]
  rw [c m, c (m / 2)]
  have e1 : (List.range 10).countP m.testBit = (if m.testBit 0 = true then 1 else 0) + (List.range 9).countP (m / 2).testBit := by
    rw [show List.range 10 = 0 :: (List.range 9).map Nat.succ from by decide, List.countP_cons, List.countP_map]
    rw [Nat.add_comm]
    congr 1
  have e2 : (List.range 10).countP (m / 2).testBit = (List.range 9).countP (m / 2).testBit := by
    rw [show List.range 10 = List.range 9 ++ [9] from by decide, List.countP_append]
    have z : (m / 2).testBit 9 = false := Nat.testBit_lt_two_pow (by omega)
    simp [z]
  rw [e1, e2, Nat.testBit_zero]
  by_cases d : m % 2 = 1
  · rw [decide_eq_true d, if_pos rfl, d]; omega
  · rw [decide_eq_false d, if_neg Bool.false_ne_true]; omega
def sizesV (k : Nat) : List V := (List.range k).map fun m => V.int ((popF m : Nat) : Int)
theorem sizesV_at {k m : Nat} (h : m < k) : atI (sizesV k) (m : Int) = some (.int ((popF m : Nat) : Int)) := atI_nat (by
  unfold sizesV
  rw [List.getElem?_map, List.getElem?_range h]; rfl)
theorem sizesV_len (k : Nat) : (sizesV k).length = k := by unfold sizesV; simp
def spSizes : Sp := fun vs H Q _ => ∃ (n : Nat), vs = [.int n] ∧ n ≤ 10 ∧ ∀ p H', New H p (.lst (sizesV (2 ^ n))) H' → Q (.ref p) H'
section
variable {P : Program} {w : World} {K : PySem.W.Frag} {mg : Str → Option Value} {base : Heap}
set_option maxHeartbeats 4000000 in
theorem ok_mask_sizes (B : Bl mg) (d_mask_sizes : Dn K mg "mask_sizes" s_mask_sizes ["n"]) : FnOk P w K mg base CX0 1 d_mask_sizes.f d_mask_sizes.fd ["n"] spSizes := by
  refine d_mask_sizes.F.ok sc_mask_sizes (fun vs H Q E h => ?_) (fun cdv A outer s H vs Q E hr h => ?_)
  · obtain ⟨n, rfl, _⟩ := h
    rfl
  obtain ⟨n, rfl, n10, q⟩ := h
  have p10 : 2 ^ n ≤ 2 ^ 10 := Nat.pow_le_pow_right (by decide) n10
  have p0 : 0 < 2 ^ n := Nat.pow_pos (by decide)
  refine ⟨_, (pss_cons (ps_set (i := 1) sc_mask_sizes.nd rfl (Or.inl rfl) (pe_lstN (pa_cons pe_int pa_nil)))
      (pss_cons (ps_for PassesOwn.never rfl (pi_range2 rfl B.range (pa_cons pe_int (pa_cons (pe_op op_shl pe_int (pv 0)) pa_nil))) (pg_name (i := 2) sc_mask_sizes.nd rfl (Or.inl rfl))
      (pss_one (ps_expr (pe_bmK (K := K) rfl PySem.F.plainAttrs_list PySem.F.slot_list_append PySem.F.type_list_append mt_appendW (pv 1) (pa_cons (pe_op op_add (pe_ix (ix_listK (K := K) rfl) (pv 1) (pe_op op_shr (pv 2) pe_int) (fun _ _ => rfl)) (pe_op op_mod (pv 2) pe_int)) pa_nil)))))
      (pss_one (ps_ret (pv 1))))), ?_⟩
  refine ⟨(by show 1 ≤ 1000; decide), fun p H1 n1 => ?_⟩
  have e1 : [V.int 0] = sizesV 1 := by
    unfold sizesV
    show _ = [V.int ((popF 0 : Nat) : Int)]
    rw [popF_zero]; rfl
  rw [e1] at n1
  have sh := shl1 n
  obtain ⟨N, hN⟩ : ∃ N, N = 2 ^ n - 1 := ⟨_, rfl⟩
  refine ⟨_, rfl, _, _, rfl, rfl, ⟨by omega, by omega, by decide⟩, _, _, rfl, ⟨by decide, by decide, by rw [sh]; omega, by rw [sh]; omega⟩, ?_⟩
  rw [show ((1 : Int) * 2 ^ ((n : Nat) : Int).toNat - 1).toNat = N by rw [sh]; omega]
  refine for_range (lo := 1) (n := N) (fun i σ H' => ∃ m : Option V, σ = [some (.int n), some (.ref p), m] ∧ New H p (.lst (sizesV (i + 1))) H') ⟨none, rfl, n1⟩ ?_ ?_
  · rintro i σ H2 hi ⟨m, rfl, n2⟩
    have ei : (1 : Int) + (i : Int) = ((i + 1 : Nat) : Int) := by omega
    rw [ei]
    have eh : ((i + 1 : Nat) : Int) / 2 ^ (1 : Int).toNat = (((i + 1) / 2 : Nat) : Int) := by
      rw [show (1 : Int).toNat = 1 from rfl]
      omega
    have em : ((popF ((i + 1) / 2) : Nat) : Int) + ((i + 1 : Nat) : Int) % 2 = ((popF (i + 1) : Nat) : Int) := by
      rw [popF_half (m := i + 1) (by omega)]
      omega
    refine ⟨_, rfl, .inl ⟨rfl, _, SqL.of n2.here⟩, _, rfl, _, rfl, _, _, rfl, rfl, (show (0 : Int) ≤ 1 by decide), p, _, _, V.int ((popF ((i + 1) / 2) : Nat) : Int), rfl, rfl, SqL.of n2.here, (by rw [eh]; exact sizesV_at (by omega)), _, rfl, _, _, rfl, rfl, (show (0 : Int) < _ by decide), _, _, rfl, rfl, ?_⟩
    dsimp only
    rw [em]
    refine ⟨p, _, _, rfl, rfl, n2.here, by rw [sizesV_len]; omega, fun H3 c3 => ?_⟩
    refine ⟨_, rfl, n2.fresh, ?_, fun b hb => (c3.rest b hb).trans (n2.rest b hb)⟩
    rw [c3.here]
    unfold sizesV
    rw [List.range_succ (n := i + 1), List.map_append]
    rfl
  · rintro σ H2 ⟨m, rfl, n2⟩
    rw [show N + 1 = 2 ^ n by omega] at n2
    exact ⟨_, rfl, q p H2 n2⟩
end

end K


namespace K
open PySem L2 Lw Bg Tx
abbrev s_is_written : Stmt := top 129
theorem sc_is_written : FnScope ["text", "signs", "most"] ["text", "signs", "most"] (defScope s_is_written) := ⟨rfl, rfl, rfl, by decide +kernel, rfl, by decide +kernel, by decide +kernel⟩
abbrev s_is_number : Stmt := top 130
theorem sc_is_number : FnScope ["text"] ["text"] (defScope s_is_number) := ⟨rfl, rfl, rfl, by decide +kernel, rfl, by decide +kernel, by decide +kernel⟩
abbrev s_is_name : Stmt := top 131
theorem sc_is_name : FnScope ["text"] ["text"] (defScope s_is_name) := ⟨rfl, rfl, rfl, by decide +kernel, rfl, by decide +kernel, by decide +kernel⟩
def figT : Str := "0123456789"
def isFig (c : Nat) : Bool := decide (48 ≤ c ∧ c ≤ 57)
/-- whether all signs are figures -/
def allFig (z : Str) : Bool := z.cps.all isFig
/-- one to thirty figures, the first no 0 but in 0 itself -/
def numOk (z : Str) : Bool := decide (1 ≤ z.length) && decide (z.length ≤ 30) && allFig z && (decide (z.length = 1) || decide (z.cps[0]? ≠ some 48))
theorem fig_in (c : Nat) : (!(Builtin.Str.occurrences figT ⟨#[c]⟩ 0 figT.length 1).isEmpty) = isFig c := by
  rw [PySem.StrLaws.found_one]
  have e : figT.cps.toList = [48, 49, 50, 51, 52, 53, 54, 55, 56, 57] := by decide +kernel
  rw [e]
  unfold isFig
  rw [decide_eq_decide]
  simp only [List.mem_cons, List.not_mem_nil, or_false]
  omega
theorem zero_text : (Str.ofString "0") = ⟨#[48]⟩ := by decide +kernel
theorem str_0 {z : Str} {c : Nat} (h : z.cps.toList[0]? = some c) : z = ⟨#[48]⟩ ↔ z.length = 1 ∧ c = 48 := by
  have l : z.cps.toList.length = z.length := Array.length_toList
  constructor
  · rintro rfl
    refine ⟨rfl, ?_⟩
    have h' : some 48 = some c := h
    injection h' with h'
    exact h'.symm
  · rintro ⟨h1, rfl⟩
    rw [h1] at l
    have e : z.cps.toList = [48] := by
      match z.cps.toList, l, h with
      | [x], _, h =>
        have h' : some x = some 48 := h
        injection h' with h'
        rw [h']
    have : z.cps = #[48] := by
      rw [← Array.toList_inj, e]
    cases z
    rw [Str.mk.injEq]
    exact this
def spWritten : Sp := fun vs H Q _ => ∃ (z sg : Str) (f : Nat → Bool) (n : Int), vs = [.str z, .str sg, .int n] ∧ (∀ c, (!(Builtin.Str.occurrences sg ⟨#[c]⟩ 0 sg.length 1).isEmpty) = f c) ∧ z.length ≤ 200 ∧ ∀ H', Same H H' → Q (.bl (decide (1 ≤ (z.length : Int)) && decide ((z.length : Int) ≤ n) && z.cps.all f)) H'
def letT : Str := "abcdefghijklmnopqrstuvwxyz"
def isLet (c : Nat) : Bool := decide (97 ≤ c ∧ c ≤ 122)
def nameOk (z : Str) : Bool := decide (1 ≤ (z.length : Int)) && decide ((z.length : Int) ≤ 6) && z.cps.all isLet
theorem let_l : letT.cps.toList = (List.range 26).map (97 + ·) := by decide +kernel
theorem let_in (c : Nat) : (!(Builtin.Str.occurrences letT ⟨#[c]⟩ 0 letT.length 1).isEmpty) = isLet c := by
  rw [PySem.StrLaws.found_one, let_l]
  unfold isLet
  rw [decide_eq_decide, List.mem_map]
  constructor
  · rintro ⟨i, hi, rfl⟩
    have := List.mem_range.mp hi
    omega
  · intro h
    exact ⟨c - 97, List.mem_range.mpr (by omega), by omega⟩
def spName81 : Sp := fun vs H Q _ => ∃ (z : Str), vs = [.str z] ∧ z.length ≤ 200 ∧ ∀ H', Same H H' → Q (.bl (nameOk z)) H'
def spNumber80 : Sp := fun vs H Q _ => ∃ (z : Str), vs = [.str z] ∧ z.length ≤ 200 ∧ ∀ H', Same H H' → Q (.bl (numOk z)) H'
section
variable {P : Program} {w : World} {K : PySem.W.Frag} {mg : Str → Option Value} {base : Heap}
set_option maxHeartbeats 4000000 in
theorem ok_is_written (B : Bl mg) (d_is_written : Dn K mg "is_written" s_is_written ["text", "signs", "most"]) : FnOk P w K mg base CX0 1 d_is_written.f d_is_written.fd ["text", "signs", "most"] spWritten := by
  refine d_is_written.F.ok sc_is_written (fun vs H Q E h => ?_) (fun cdv A outer s H vs Q E hr h => ?_)
  · obtain ⟨z, sg, f, n, rfl, _⟩ := h
    rfl
  obtain ⟨z, sg, f, n, rfl, hin, hz, q⟩ := h
  refine ⟨_, (pss_one (ps_ret (pe_and (pe_chain op_le op_le pe_int (pe_callB call_len_str rfl B.len (by decide +kernel) (pa_cons (pv 0) pa_nil)) (pv 2)) (pe_one (pe_callB (call_allK (K := K) rfl rfl) rfl B.all (by decide +kernel) (pa_cons (pe_lc ["sign", "signs"] [none, some 1]  (by kernel_rfl) rfl (pi_str (pv 0)) (fun _ _ _ _ _ => (pg_name (i := 0) (show (["sign", "signs"] : List Str).Nodup by decide +kernel) rfl (Or.inl rfl))) (fun _ _ _ _ _ => pts_nil) (fun _ _ _ _ _ => (pe_cmpR op_in_str (pv 0) (pv 1) (by with_unfolding_all rfl)))) pa_nil)))))), ?_⟩
  have all : ∀ (N : VK), (∀ H', Same H H' → N (.bl (z.cps.all f)) H') → tCB (rAll K) (tCons (tLC [none, some 1] (iStr (tVar 0)) (gName 0) tTrue (tOp (fun x y H Q => ∃ i j, x = V.str i ∧ y = V.str j ∧ Q (V.bl !(Builtin.Str.occurrences j i 0 j.length 1).isEmpty) H) (tVar 0) (tVar 1))) tNil) (L2.start ["text", "signs", "most"] [V.str z, V.str sg, V.int n]) H N := fun N hN => by
    refine ⟨_, rfl, z, rfl, ?_⟩
    refine lc_str (fun i ys H' => H' = H ∧ ys = ((z.cps.toList.take i).map f).map V.bl) ⟨rfl, rfl⟩ (fun i ys H' hi h => ?_) (fun i c ys H' hc h => ?_) (fun ys H' h p hp => ?_)
    · rw [h.2, List.length_map, List.length_map, List.length_take, sizeLine_eq]
      have : z.cps.toList.length = z.length := Array.length_toList
      omega
    · obtain ⟨rfl, rfl⟩ := h
      refine ⟨_, rfl, _, rfl, _, _, rfl, rfl, rfl, ?_⟩
      have hc' : z.cps.toList[i]? = some c := by rw [Array.getElem?_toList]; exact hc
      obtain ⟨il, ie⟩ := List.getElem?_eq_some_iff.mp hc'
      rw [hin, List.take_succ_eq_append_getElem il, ie, List.map_append, List.map_append]
      rfl
    obtain ⟨rfl, rfl⟩ := h
    have np : New H' p (.lst (((z.cps.toList.take z.cps.size).map f).map V.bl)) (upd H' p (.lst (((z.cps.toList.take z.cps.size).map f).map V.bl))) := New.mk0 hp
    generalize upd H' p (.lst (((z.cps.toList.take z.cps.size).map f).map V.bl)) = H1 at np
    refine ⟨p, _, _, rfl, SqL.of np.here, Truths.bls _, ?_⟩
    have e : (((z.cps.toList.take z.cps.size).map f).all id) = z.cps.all f := by
      have a1 : z.cps.toList.take z.cps.size = z.cps.toList := by rw [← Array.length_toList, List.take_length]
      rw [a1, List.all_map, ← Array.all_toList]
      rfl
    rw [e]
    exact hN H1 np.same
  refine ⟨_, rfl, z, rfl, by rw [sizeLine_eq]; omega, _, _, rfl, rfl, _, rfl, ?_⟩
  cases c1 : decide (1 ≤ (z.length : Int)) with
  | false =>
    rw [c1] at q
    exact iteF ⟨_, rfl, iteF (q H (Same.refl _))⟩
  | true =>
    refine iteT ⟨_, rfl, _, _, rfl, rfl, _, rfl, ?_⟩
    rw [c1] at q
    cases c2 : decide ((z.length : Int) ≤ n) with
    | false =>
      rw [c2] at q
      exact iteF (q H (Same.refl _))
    | true =>
      rw [c2] at q
      refine iteT (all _ fun H' s => ?_)
      have := q H' s
      rw [Bool.true_and, Bool.true_and] at this
      exact this
set_option maxHeartbeats 4000000 in
theorem ok_is_number (B : Bl mg) (Ct : Cts mg) (d_is_written : Dn K mg "is_written" s_is_written ["text", "signs", "most"]) (d_is_number : Dn K mg "is_number" s_is_number ["text"]) : FnOk P w K mg base CX0 2 d_is_number.f d_is_number.fd ["text"] spNumber80 := by
  have G_is_written : FnOk P w K mg base CX0 1 _ _ _ _ := ok_is_written B d_is_written
  refine d_is_number.F.ok sc_is_number (fun vs H Q E h => ?_) (fun cdv A outer s H vs Q E hr h => ?_)
  · obtain ⟨z, rfl, _⟩ := h
    rfl
  obtain ⟨z, rfl, hz, q⟩ := h
  refine ⟨_, (pss_one (ps_ret (pe_and (pe_call G_is_written hr rfl d_is_written.m d_is_written.F.kp d_is_written.b .nil pass0 (pa_cons (pv 0) (pa_cons (pe_glob (v := .str "0123456789") rfl Ct.m_FIGURES Ct.r_FIGURES) (pa_cons (pe_glob (v := .int 30) rfl Ct.m_MOST_FIGURES Ct.r_MOST_FIGURES) pa_nil)))) (pe_one (pe_or (pe_cmpR op_eq (pv 0) pe_str (nomark _)) (pe_one (pe_cmpR op_ne (pe_ix ix_str (pv 0) pe_int (fun _ _ => rfl)) pe_str (nomark _)))))))), ?_⟩
  refine ⟨_, rfl, z, figT, isFig, 30, rfl, fig_in, hz, fun H1 s1 => ⟨_, rfl, ?_⟩⟩
  rw [show z.cps.all isFig = allFig z from rfl]
  cases c1 : (decide (1 ≤ (z.length : Int)) && decide ((z.length : Int) ≤ 30) && allFig z) with
  | false =>
    refine iteF ?_
    have e : numOk z = false := by
      unfold numOk
      have : (decide (1 ≤ z.length) && decide (z.length ≤ 30) && allFig z) = false := by
        rw [← c1]
        congr 2
        · exact decide_eq_decide.mpr (by omega)
        · exact decide_eq_decide.mpr (by omega)
      rw [this, Bool.false_and]
    have := q H1 s1
    rw [e] at this
    exact this
  | true =>
    refine iteT ?_
    have c1' := c1
    rw [Bool.and_eq_true, Bool.and_eq_true, decide_eq_true_iff, decide_eq_true_iff] at c1'
    obtain ⟨⟨l1, l30⟩, al⟩ := c1'
    have l : z.cps.toList.length = z.length := Array.length_toList
    obtain ⟨c, hc⟩ : ∃ c, z.cps.toList[0]? = some c := ⟨z.cps.toList[0]'(by omega), List.getElem?_eq_getElem (by omega)⟩
    have hc2 : z.cps[0]? = some c := by rw [← Array.getElem?_toList]; exact hc
    have e : numOk z = (decide (V.str z = V.str "0") || !decide (V.str ⟨#[c]⟩ = V.str "0")) := by
      unfold numOk
      rw [decide_eq_true (show 1 ≤ z.length by omega), decide_eq_true (show z.length ≤ 30 by omega), al, hc2, Bool.eq_iff_iff]
      simp only [Bool.true_and, Bool.or_eq_true, decide_eq_true_iff, Bool.not_eq_true', decide_eq_false_iff_not, V.str.injEq]
      have s0 := str_0 hc
      have z0 : (("0" : String) : Str) = ⟨#[48]⟩ := zero_text
      rw [z0, s0]
      have s1 : (⟨#[c]⟩ : Str) = ⟨#[48]⟩ ↔ c = 48 := by
        constructor
        · intro h
          injection h with h
          have := congrArg Array.toList h
          simpa using this
        · rintro rfl; rfl
      rw [s1]
      constructor
      · rintro (h | h)
        · by_cases d : c = 48
          · exact .inl ⟨h, d⟩
          · exact .inr d
        · exact .inr fun z => h (by rw [z])
      · rintro (h | h)
        · exact .inl h.1
        · exact .inr fun z => h (by injection z)
    have qq := q H1 s1
    rw [e] at qq
    refine ⟨_, rfl, rfl, _, rfl, ?_⟩
    cases d : decide (V.str z = V.str "0") with
    | true =>
      rw [d] at qq
      exact iteT qq
    | false =>
      rw [d, Bool.false_or] at qq
      exact iteF ⟨_, rfl, z, 0, c, rfl, rfl, by rw [sizeLine_eq]; omega, atI_nat (j := 0) hc, rfl, qq⟩
set_option maxHeartbeats 4000000 in
theorem ok_is_name (B : Bl mg) (Ct : Cts mg) (d_is_written : Dn K mg "is_written" s_is_written ["text", "signs", "most"]) (d_is_name : Dn K mg "is_name" s_is_name ["text"]) : FnOk P w K mg base CX0 2 d_is_name.f d_is_name.fd ["text"] spName81 := by
  have G_is_written : FnOk P w K mg base CX0 1 _ _ _ _ := ok_is_written B d_is_written
  refine d_is_name.F.ok sc_is_name (fun vs H Q E h => ?_) (fun cdv A outer s H vs Q E hr h => ?_)
  · obtain ⟨z, rfl, _⟩ := h
    rfl
  obtain ⟨z, rfl, hz, q⟩ := h
  refine ⟨_, (pss_one (ps_ret (pe_call G_is_written hr rfl d_is_written.m d_is_written.F.kp d_is_written.b .nil pass0 (pa_cons (pv 0) (pa_cons (pe_glob (v := .str "abcdefghijklmnopqrstuvwxyz") rfl Ct.m_LETTERS Ct.r_LETTERS) (pa_cons (pe_glob (v := .int 6) rfl Ct.m_MOST_LETTERS Ct.r_MOST_LETTERS) pa_nil)))))), ?_⟩
  exact ⟨_, rfl, z, letT, isLet, 6, rfl, let_in, hz, fun H1 s1 => q H1 s1⟩
end

abbrev s_read_number : Stmt := top 132
theorem sc_read_number : FnScope ["text"] ["text"] (defScope s_read_number) := ⟨rfl, rfl, rfl, by decide +kernel, rfl, by decide +kernel, by decide +kernel⟩
def valF (z : Str) : Int := ((PySem.NumText.digitsVal z.cps.toList : Nat) : Int)
theorem num_reads80 {z : Str} (h : numOk z = true) : PySem.intText? z = some (valF z) := by
  unfold numOk at h
  rw [Bool.and_eq_true, Bool.and_eq_true, Bool.and_eq_true, decide_eq_true_iff, decide_eq_true_iff] at h
  obtain ⟨⟨⟨h1, h2⟩, h3⟩, _⟩ := h
  have l : z.cps.toList.length = z.length := Array.length_toList
  refine PySem.intText_digits (fun c hc => ?_) (fun e => ?_) (by show z.length ≤ 4300; omega)
  · unfold allFig at h3
    rw [← Array.all_toList, List.all_eq_true] at h3
    have := h3 c hc
    unfold isFig at this
    exact of_decide_eq_true this
  · rw [e] at l
    have l' : 0 = z.length := l
    omega
def spReadN : Sp := fun vs H Q _ => ∃ (z : Str), vs = [.str z] ∧ z.length ≤ 200 ∧ numOk z = true ∧ ∀ H', Same H H' → Q (.int (valF z)) H'
section
variable {P : Program} {w : World} {K : PySem.W.Frag} {mg : Str → Option Value} {base : Heap}
set_option maxHeartbeats 4000000 in
theorem ok_read_number (B : Bl mg) (Ct : Cts mg) (d_is_written : Dn K mg "is_written" s_is_written ["text", "signs", "most"]) (d_is_number : Dn K mg "is_number" s_is_number ["text"]) (d_read_number : Dn K mg "read_number" s_read_number ["text"]) : FnOk P w K mg base CX0 3 d_read_number.f d_read_number.fd ["text"] spReadN := by
  have G_is_number : FnOk P w K mg base CX0 2 _ _ _ _ := ok_is_number B Ct d_is_written d_is_number
  refine d_read_number.F.ok sc_read_number (fun vs H Q E h => ?_) (fun cdv A outer s H vs Q E hr h => ?_)
  · obtain ⟨z, rfl, _⟩ := h
    rfl
  obtain ⟨z, rfl, hz, ok, q⟩ := h
  refine ⟨_, (pss_cons (ps_if (pt_not (pt_truthK (K := K) rfl (pe_call G_is_number hr rfl d_is_number.m d_is_number.F.kp d_is_number.b .nil pass0 (pa_cons (pv 0) pa_nil)) (fun _ => rfl)))
      (pss_one ps_never)
      pss_nil)
      (pss_one (ps_ret (pe_callTy call_intT rfl B.int (by decide +kernel) (pa_cons (pv 0) pa_nil))))), ?_⟩
  refine ⟨_, rfl, z, rfl, hz, fun H1 s1 => ⟨_, rfl, ?_⟩⟩
  rw [ok]
  exact iteF ⟨_, rfl, z, valF z, rfl, by omega, num_reads80 ok, q H1 s1⟩
end

abbrev s_is_whole : Stmt := top 17
theorem sc_is_whole : FnScope ["thing"] ["thing"] (defScope s_is_whole) := ⟨rfl, rfl, rfl, by decide +kernel, rfl, by decide +kernel, by decide +kernel⟩
abbrev s_is_below : Stmt := top 18
theorem sc_is_below : FnScope ["n", "thing"] ["n", "thing"] (defScope s_is_below) := ⟨rfl, rfl, rfl, by decide +kernel, rfl, by decide +kernel, by decide +kernel⟩
def spWhole (K : PySem.W.Frag) : Sp := fun vs H Q _ => ∃ (x : V) (t : Value) (bi bb : Bool), vs = [x] ∧ TyOf K H x t ∧ PySem.W.kitOne K t (.type "int") = some bi ∧ PySem.W.kitOne K t (.type "bool") = some bb ∧ Q (.bl (bi && !bb)) H
def spBelow : Sp := fun vs H Q _ => ∃ (n : Int) (o : Option Int), vs = [.int n, upV o] ∧ Q (.bl (belowF n o)) H
section
variable {P : Program} {w : World} {K : PySem.W.Frag} {mg : Str → Option Value} {base : Heap}
set_option maxHeartbeats 4000000 in
theorem ok_is_whole (B : Bl mg) (d_is_whole : Dn K mg "is_whole" s_is_whole ["thing"]) : FnOk P w K mg base CX0 1 d_is_whole.f d_is_whole.fd ["thing"] (spWhole K) := by
  refine d_is_whole.F.ok sc_is_whole (fun vs H Q E h => ?_) (fun cdv A outer s H vs Q E hr h => ?_)
  · obtain ⟨x, t, bi, bb, rfl, _⟩ := h
    rfl
  obtain ⟨x, t, bi, bb, rfl, ty, h1, h2, q⟩ := h
  refine ⟨_, (pss_one (ps_ret (pe_and (pe_callB (call_isinstK (K := K) rfl) rfl B.isinstance (by decide +kernel) (pa_cons (pv 0) (pa_cons (pe_bltn (v := .ty "int") (u := .type "int") rfl B.int (by decide +kernel) rfl) pa_nil))) (pe_one (pe_not (pe_callB (call_isinstK (K := K) rfl) rfl B.isinstance (by decide +kernel) (pa_cons (pv 0) (pa_cons (pe_bltn (v := .ty "bool") (u := .type "bool") rfl B.bool (by decide +kernel) rfl) pa_nil)))))))), ?_⟩
  refine ⟨_, rfl, _, _, _, _, _, rfl, rfl, ty, h1, _, rfl, ?_⟩
  cases bi with
  | true =>
    refine iteT ?_
    exact ⟨_, rfl, _, _, _, _, _, rfl, rfl, ty, h2, _, rfl, q⟩
  | false => exact iteF q
set_option maxHeartbeats 4000000 in
theorem ok_is_below (B : Bl mg) (d_is_whole : Dn K mg "is_whole" s_is_whole ["thing"]) (d_is_below : Dn K mg "is_below" s_is_below ["n", "thing"]) : FnOk P w K mg base CX0 2 d_is_below.f d_is_below.fd ["n", "thing"] spBelow := by
  have G_is_whole : FnOk P w K mg base CX0 1 _ _ _ _ := ok_is_whole B d_is_whole
  refine d_is_below.F.ok sc_is_below (fun vs H Q E h => ?_) (fun cdv A outer s H vs Q E hr h => ?_)
  · obtain ⟨n, i, rfl, _⟩ := h
    rfl
  obtain ⟨n, o, rfl, q⟩ := h
  refine ⟨_, (pss_one (ps_ret (pe_and (pe_call G_is_whole hr rfl d_is_whole.m d_is_whole.F.kp d_is_whole.b .nil pass0 (pa_cons (pv 1) pa_nil)) (pe_one (pe_chain op_le op_lt pe_int (pv 1) (pv 0)))))), ?_⟩
  cases o with
  | none => exact ⟨_, rfl, _, _, _, _, rfl, TyOf.non, kit_non_int, kit_non_bool, _, rfl, iteF q⟩
  | some i =>
    refine ⟨_, rfl, _, _, _, _, rfl, TyOf.int i, kit_int_int, kit_int_bool, _, rfl, ?_⟩
    refine iteT ?_
    refine ⟨_, rfl, _, _, rfl, rfl, _, rfl, ?_⟩
    refine ite2 (fun c => ?_) (fun c => ?_)
    · have c' : 0 ≤ i := of_decide_eq_true c
      refine ⟨_, rfl, _, _, rfl, rfl, ?_⟩
      have e : belowF n (some i) = decide (i < n) := by unfold belowF; simp [c']
      rw [e] at q; exact q
    · have c' : ¬ 0 ≤ i := of_decide_eq_false (Bool.eq_false_iff.mpr c)
      have e : belowF n (some i) = false := by unfold belowF; simp [c']
      rw [e] at q; exact q
end

abbrev s_tie_of : Stmt := top 47
theorem sc_tie_of : FnScope ["n", "a", "b"] ["n", "a", "b"] (defScope s_tie_of) := ⟨rfl, rfl, rfl, by decide +kernel, rfl, by decide +kernel, by decide +kernel⟩
def tieP (v u : Nat) : Int × Int := (((min v u : Nat) : Int), ((max v u : Nat) : Int))
def spTieOf : Sp := fun vs H Q _ => ∃ (n a b : Nat), vs = [.int n, .int a, .int b] ∧ a < n ∧ b < n ∧ a ≠ b ∧ ∀ p H', New H p (.tup [.int (tieP a b).1, .int (tieP a b).2]) H' → Q (.ref p) H'
section
variable {P : Program} {w : World} {K : PySem.W.Frag} {mg : Str → Option Value} {base : Heap}
set_option maxHeartbeats 4000000 in
theorem ok_tie_of (B : Bl mg) (d_is_whole : Dn K mg "is_whole" s_is_whole ["thing"]) (d_is_below : Dn K mg "is_below" s_is_below ["n", "thing"]) (d_tie_of : Dn K mg "tie_of" s_tie_of ["n", "a", "b"]) : FnOk P w K mg base CX0 3 d_tie_of.f d_tie_of.fd ["n", "a", "b"] spTieOf := by
  have G_is_below : FnOk P w K mg base CX0 2 _ _ _ _ := ok_is_below B d_is_whole d_is_below
  refine d_tie_of.F.ok sc_tie_of (fun vs H Q E h => ?_) (fun cdv A outer s H vs Q E hr h => ?_)
  · obtain ⟨n, a, b, rfl, _⟩ := h
    rfl
  obtain ⟨n, a, b, rfl, an, bn, ne, q⟩ := h
  refine ⟨_, (pss_cons (ps_if (PW.pt (pw_or (pt_not (pt_truthK (K := K) rfl (pe_call G_is_below hr rfl d_is_below.m d_is_below.F.kp d_is_below.b .nil pass0 (pa_cons (pv 0) (pa_cons (pv 1) pa_nil))) (fun _ => rfl))) (pw_or1 (pt_not (pt_truthK (K := K) rfl (pe_call G_is_below hr rfl d_is_below.m d_is_below.F.kp d_is_below.b .nil pass0 (pa_cons (pv 0) (pa_cons (pv 2) pa_nil))) (fun _ => rfl))))))
      (pss_one ps_never)
      pss_nil)
      (pss_cons (ps_if (pt_cmpR op_eq (pv 1) (pv 2) (nomark _))
      (pss_one ps_never)
      pss_nil)
      (pss_one (ps_ret (pe_tupN (pa_cons (pe_callB (call_min2 rfl) rfl B.min (by decide +kernel) (pa_cons (pv 1) (pa_cons (pv 2) pa_nil))) (pa_cons (pe_callB (call_max2 rfl) rfl B.max (by decide +kernel) (pa_cons (pv 1) (pa_cons (pv 2) pa_nil))) pa_nil))))))), ?_⟩
  have ba : belowF (n : Int) (some (a : Int)) = true := by unfold belowF; simp; omega
  have bb : belowF (n : Int) (some (b : Int)) = true := by unfold belowF; simp; omega
  refine ⟨_, rfl, _, rfl, (n : Int), some (a : Int), rfl, _, rfl, ?_⟩
  rw [ba]
  refine iteF ?_
  refine ⟨_, rfl, _, rfl, (n : Int), some (b : Int), rfl, _, rfl, ?_⟩
  rw [bb]
  refine iteF ?_
  refine ⟨_, rfl, _, rfl, rfl, _, rfl, ?_⟩
  rw [show decide (V.int (a : Int) = V.int (b : Int)) = false from decide_eq_false fun z => ne (by have := V.int.inj z; omega)]
  refine iteF ?_
  refine ⟨_, rfl, _, rfl, _, _, rfl, _, rfl, _, rfl, _, _, rfl, (by show 2 ≤ 1000; decide), fun p H1 n1 => q p H1 ?_⟩
  have e1 : (if (b : Int) < (a : Int) then (b : Int) else (a : Int)) = (tieP a b).1 := by unfold tieP; dsimp only; split <;> omega
  have e2 : (if (b : Int) > (a : Int) then (b : Int) else (a : Int)) = (tieP a b).2 := by unfold tieP; dsimp only; split <;> omega
  rw [e1, e2] at n1
  exact n1
end

def sT (l : List Nat) : Str := ⟨l.toArray⟩
theorem cL_sT (l : List Nat) : cL (sT l) = l := rfl
theorem sT_len (l : List Nat) : (sT l).length = l.length := by show l.toArray.size = _; simp
theorem sT_inj {a b : List Nat} (h : sT a = sT b) : a = b := congrArg cL h
structure Nms (nm : List (List Nat)) : Prop where
  few : nm.length ≤ 10
  nd : nm.Nodup
  ok : ∀ l ∈ nm, (1 ≤ l.length ∧ l.length ≤ 6) ∧ ∀ c ∈ l, 97 ≤ c ∧ c ≤ 122
theorem blank_t : (Str.ofString " ") = sT [32] := by decide +kernel
theorem len_app (a b : Str) : (a ++ b).length = a.length + b.length := by
  show (a.cps ++ b.cps).size = _
  rw [Array.size_append]
  rfl
def NmL (H : Hp) (a : Addr) (nm : List (List Nat)) : Prop := H a = some (.lst (nm.map fun l => V.str (sT l)))
theorem isDs_strs {K : PySem.W.Frag} {H : Hp} : ∀ nm : List (List Nat), IsDs K H (nm.map fun l => V.str (sT l)) (nm.map fun l => PyData.str (sT l))
  | [] => .nil
  | l :: r => .cons (.str _) (isDs_strs r)
theorem any_str (nm : List (List Nat)) (l : List Nat) : (nm.map fun l => PyData.str (sT l)).any (fun e => PyData.eqv e (.str (sT l))) = decide (l ∈ nm) := by
  induction nm with
  | nil => rfl
  | cons a r ih =>
    rw [List.map_cons, List.any_cons, ih, PyData.eqv]
    by_cases h : a = l
    · subst h; simp
    · have h' : ¬ l = a := fun z => h z.symm
      have h2 : ¬ sT a = sT l := fun z => h (sT_inj z)
      simp [h', h2]
theorem depth_strs (nm : List (List Nat)) : PyData.depthAll (nm.map fun l => PyData.str (sT l)) = 0 := by
  induction nm with
  | nil => rfl
  | cons a r ih => rw [List.map_cons, PyData.depthAll, ih]; rfl
theorem can_str {l : List Nat} (h : ∀ c ∈ l, c < 200) : (PyData.str (sT l)).canLay0 = true := by
  rw [PyData.canLay0]
  show l.toArray.all (fun c => decide (c < 0x110000)) = true
  rw [List.all_toArray]
  exact List.all_eq_true.mpr fun c hc => decide_eq_true (by have := h c hc; omega)
theorem can_strs : ∀ {nm : List (List Nat)}, (∀ l ∈ nm, ∀ c ∈ l, c < 200) → PyData.canLayAll0 (nm.map fun l => PyData.str (sT l)) = true
  | [], _ => rfl
  | a :: r, h => by rw [List.map_cons, PyData.canLayAll0, can_strs fun l hl => h l (List.mem_cons_of_mem _ hl), can_str (h a List.mem_cons_self)]; rfl
theorem shaped_str {l : List Nat} (h : ∀ c ∈ l, c < 200) : SeqAt.shaped (.str (sT l)) = true := by
  unfold SeqAt.shaped
  rw [can_str h]
  rfl
theorem shaped_strs {nm : List (List Nat)} (h : ∀ l ∈ nm, ∀ c ∈ l, c < 200) : SeqAt.shaped (.list (nm.map fun l => PyData.str (sT l))) = true := by
  unfold SeqAt.shaped
  rw [PyData.canLay0, can_strs h, PyData.depth, depth_strs]
  decide
theorem Nms.short {nm : List (List Nat)} (hN : Nms nm) : ∀ l ∈ nm, ∀ c ∈ l, c < 200 := fun l hl c hc => by have := (hN.ok l hl).2 c hc; omega

abbrev s_words_of : Stmt := top 142
theorem sc_words_of : FnScope ["row", "words", "is_row"] ["row"] (defScope s_words_of) := ⟨rfl, rfl, rfl, by decide +kernel, rfl, by decide +kernel, by decide +kernel⟩
abbrev s_moved_up : Stmt := top 143
theorem sc_moved_up : FnScope ["place", "gone"] ["place", "gone"] (defScope s_moved_up) := ⟨rfl, rfl, rfl, by decide +kernel, rfl, by decide +kernel, by decide +kernel⟩
def spWords : Sp := fun vs H Q _ => ∃ (z w0 : Str) (ws : List Str), vs = [.str z] ∧ z.length ≤ 5000 ∧ Txt.split z (sT [32]) = w0 :: ws ∧ inV (.str w0) [.str "keep", .str "link"] = false ∧ valV wordF (.inr w0) = some (.int (ws.length + 1 : Nat)) ∧
  ∀ p H', Same H H' → H p = none → H' p = some (.lst ((w0 :: ws).map V.str)) → Q (.ref p) H'
def upN (v g : Int) : Int := if v > g then v - 1 else v
def spMoved : Sp := fun vs H Q _ => ∃ (v g : Int), vs = [.int v, .int g] ∧ Q (.int (upN v g)) H
section
variable {P : Program} {w : World} {K : PySem.W.Frag} {mg : Str → Option Value} {base : Heap}
set_option maxHeartbeats 4000000 in
theorem ok_moved_up (B : Bl mg) (d_moved_up : Dn K mg "moved_up" s_moved_up ["place", "gone"]) : FnOk P w K mg base CX0 1 d_moved_up.f d_moved_up.fd ["place", "gone"] spMoved := by
  refine d_moved_up.F.ok sc_moved_up (fun vs H Q E h => ?_) (fun cdv A outer s H vs Q E hr h => ?_)
  · obtain ⟨v, g, rfl, _⟩ := h
    rfl
  obtain ⟨v, g, rfl, q⟩ := h
  refine ⟨_, (pss_one (ps_ret (pe_ifExp (pt_cmpR op_gt (pv 0) (pv 1) (nomark _)) (pe_op op_sub (pv 0) pe_int) (pv 0)))), ?_⟩
  refine ⟨_, rfl, _, rfl, _, _, rfl, rfl, _, rfl, ite2 (fun c => ?_) (fun c => ?_)⟩
  · have c' := of_decide_eq_true c
    unfold upN at q
    rw [if_pos c'] at q
    exact ⟨_, rfl, _, _, rfl, rfl, q⟩
  · have c' : ¬ v > g := fun z => c (decide_eq_true z)
    unfold upN at q
    rw [if_neg c'] at q
    exact ⟨_, rfl, q⟩
set_option maxHeartbeats 4000000 in
theorem ok_words_of (B : Bl mg) (Wd : Wds w K mg) (d_words_of : Dn K mg "words_of" s_words_of ["row"]) : FnOk P w K mg base CX0 1 d_words_of.f d_words_of.fd ["row"] spWords := by
  refine d_words_of.F.ok sc_words_of (fun vs H Q E h => ?_) (fun cdv A outer s H vs Q E hr h => ?_)
  · obtain ⟨z, w0, ws, rfl, _⟩ := h
    rfl
  obtain ⟨z, w0, ws, rfl, l5, sp, nk, hv0, q⟩ := h
  refine ⟨_, (pss_cons (ps_if (pt_not (pt_truthK (K := K) rfl (pe_callB (call_isinstK (K := K) rfl) rfl B.isinstance (by decide +kernel) (pa_cons (pv 0) (pa_cons (pe_bltn (v := .ty "str") (u := .type "str") rfl B.str (by decide +kernel) rfl) pa_nil))) (fun _ => rfl)))
      (pss_one ps_never)
      pss_nil)
      (pss_cons (ps_set (i := 1) sc_words_of.nd rfl (Or.inl rfl) (pe_bmK (K := K) rfl PySem.F.plainAttrs_str PySem.F.slot_str_split PySem.F.type_str_split mt_splitS (pv 0) (pa_cons pe_str pa_nil)))
      (pss_cut (ps_if (pt_cmpR (op_inSK (K := K) rfl) (pe_ix (ix_listK (K := K) rfl) (pv 1) pe_int (fun _ _ => rfl)) (pe_tupN (pa_cons pe_str (pa_cons pe_str pa_nil))) (by with_unfolding_all rfl))
      (pss_one (ps_set (i := 2) sc_words_of.nd rfl (Or.inl rfl) (pe_cmpR op_gt (pe_callB (call_lenK (K := K) rfl) rfl B.len (by decide +kernel) (pa_cons (pv 1) pa_nil)) pe_int (nomark _))))
      (pss_one (ps_set (i := 2) sc_words_of.nd rfl (Or.inl rfl) (pe_cmpR op_eq (pe_wget Wd rfl (pe_ix (ix_listK (K := K) rfl) (pv 1) pe_int (fun _ _ => rfl))) (pe_callB (call_lenK (K := K) rfl) rfl B.len (by decide +kernel) (pa_cons (pv 1) pa_nil)) (nomark _)))))
      (pss_cons (ps_if (pt_not (pt_truthK (K := K) rfl (pv 2) (fun _ => rfl)))
      (pss_one ps_never)
      pss_nil)
      (pss_one (ps_ret (pv 1))))))), ?_⟩
  refine ⟨_, rfl, _, _, _, _, _, rfl, rfl, .str _, rfl, _, rfl, iteF ?_⟩
  refine ⟨_, rfl, rfl, _, _, rfl, rfl, by rw [blank_t]; rfl, l5, fun p1 H1 n1 => ?_⟩
  rw [blank_t, sp] at n1
  refine ⟨fun σ' H' => σ' = [some (.str z), some (.ref p1), some (.bl true)] ∧ Same H1 H', ?_, ?_⟩
  · refine ⟨_, rfl, p1, _, _, V.str w0, rfl, rfl, SqL.of n1.here, atI_nat (j := 0) rfl, (by show 2 ≤ 1000; decide), fun p2 H2 n2 => ⟨p2, _, rfl, .inr (SqT.of n2.here), rfl, rfl, _, rfl, ?_⟩⟩
    rw [if_neg (by decide), nk]
    have h1 := n2.same _ _ n1.here
    refine iteF ⟨_, rfl, p1, _, _, V.str w0, rfl, rfl, SqL.of h1, atI_nat (j := 0) rfl, .inr w0, rfl, _, rfl, p1, _, rfl, .inl (SqL.of h1), ?_⟩
    rw [hv0]
    refine ⟨rfl, ?_, n2.same⟩
    have e1 : ((List.map V.str (w0 :: ws)).length : Int) = ((ws.length + 1 : Nat) : Int) := by rw [List.length_map, List.length_cons]
    rw [e1]
    have e2 : decide ((some (V.int ((ws.length + 1 : Nat) : Int))).getD V.non = V.int ((ws.length + 1 : Nat) : Int)) = true := decide_eq_true rfl
    rw [e2]
    rfl
  · rintro σ' H' ⟨rfl, s2⟩
    refine ⟨_, rfl, _, rfl, iteF ⟨_, rfl, q p1 H' (n1.same.trans s2) n1.fresh (s2 _ _ n1.here)⟩⟩
end

end K


namespace K
open PySem L2 Lw Bg Tx
/-- the fields of a desk -/
def fsD (pn pw pc : Addr) (k : V) : List (Str × V) := [("names", .ref pn), ("weights", .ref pw), ("costs", .ref pc), ("kept", k)]
theorem lk_names (pn pw pc : Addr) (k : V) : (fsD pn pw pc k).lookup ("names" : Str) = some (.ref pn) := rfl
theorem lk_weights (pn pw pc : Addr) (k : V) : (fsD pn pw pc k).lookup ("weights" : Str) = some (.ref pw) := rfl
theorem lk_costs (pn pw pc : Addr) (k : V) : (fsD pn pw pc k).lookup ("costs" : Str) = some (.ref pc) := rfl
theorem pf_kept (pn pw pc : Addr) (k y : V) : putF "kept" y (fsD pn pw pc k) = fsD pn pw pc y := rfl
theorem pf_costs (pn pw pc : Addr) (k : V) (q : Addr) : putF "costs" (.ref q) (fsD pn pw pc k) = fsD pn pw q k := rfl
theorem pf_all (pn pw pc : Addr) (k : V) : putF "kept" k (putF "costs" (.ref pc) (putF "weights" (.ref pw) (putF "names" (.ref pn) []))) = fsD pn pw pc k := rfl
theorem lk_meth {m : Str} (h : (["names", "weights", "costs", "kept"] : List Str).contains m = false) (pn pw pc : Addr) (k : V) : (fsD pn pw pc k).lookup m = none := by
  unfold fsD
  simp only [List.contains_cons, List.contains_nil, Bool.or_false, Bool.or_eq_false_iff] at h
  obtain ⟨h1, h2, h3, h4⟩ := h
  simp only [List.lookup, h1, h2, h3, h4]
theorem fsD_len (pn pw pc : Addr) (k : V) : (fsD pn pw pc k).length < 1000 := by show 4 < 1000; decide
/-- a desk as it stands, beyond the things of H0 -/
structure DkA (C : Addr) (H0 H : Hp) (d dx pn pw pc : Addr) (k : V) (nm : List (List Nat)) (ws : List Int) (kvs : List (List Key × V)) : Prop where
  sm : Same H0 H
  d0 : H0 d = none
  n0 : H0 pn = none
  w0 : H0 pw = none
  c0 : H0 pc = none
  hd : H d = some (.ins C dx (fsD pn pw pc k))
  hn : H pn = some (.lst (nm.map fun l => V.str (sT l)))
  hw : H pw = some (.lst (ws.map V.int))
  hc : H pc = some (.dT kvs)
  ne : pn ≠ pw
  len : ws.length = nm.length
section
variable {C : Addr} {H0 H H' : Hp} {d dx pn pw pc : Addr} {k : V} {nm nm' : List (List Nat)} {ws ws' : List Int} {kvs kvs' : List (List Key × V)}
theorem DkA.mono (h : DkA C H0 H d dx pn pw pc k nm ws kvs) (s : Same H H') : DkA C H0 H' d dx pn pw pc k nm ws kvs :=
  ⟨h.sm.trans s, h.d0, h.n0, h.w0, h.c0, s _ _ h.hd, s _ _ h.hn, s _ _ h.hw, s _ _ h.hc, h.ne, h.len⟩
theorem DkA.d_n (h : DkA C H0 H d dx pn pw pc k nm ws kvs) : d ≠ pn := fun e => by have := h.hd; rw [e, h.hn] at this; cases this
theorem DkA.d_w (h : DkA C H0 H d dx pn pw pc k nm ws kvs) : d ≠ pw := fun e => by have := h.hd; rw [e, h.hw] at this; cases this
theorem DkA.d_c (h : DkA C H0 H d dx pn pw pc k nm ws kvs) : d ≠ pc := fun e => by have := h.hd; rw [e, h.hc] at this; cases this
theorem DkA.n_c (h : DkA C H0 H d dx pn pw pc k nm ws kvs) : pn ≠ pc := fun e => by have := h.hn; rw [e, h.hc] at this; cases this
theorem DkA.w_c (h : DkA C H0 H d dx pn pw pc k nm ws kvs) : pw ≠ pc := fun e => by have := h.hw; rw [e, h.hc] at this; cases this
/-- names and weights are changed -/
theorem DkA.two {H1 : Hp} (h : DkA C H0 H d dx pn pw pc k nm ws kvs) (c1 : Chg H pn (.lst (nm'.map fun l => V.str (sT l))) H1) (c2 : Chg H1 pw (.lst (ws'.map V.int)) H') (l : ws'.length = nm'.length) : DkA C H0 H' d dx pn pw pc k nm' ws' kvs :=
  ⟨(h.sm.chg h.n0 c1).chg h.w0 c2, h.d0, h.n0, h.w0, h.c0, by rw [c2.rest _ h.d_w, c1.rest _ h.d_n]; exact h.hd, by rw [c2.rest _ h.ne]; exact c1.here, c2.here, by rw [c2.rest _ h.w_c.symm, c1.rest _ h.n_c.symm]; exact h.hc, h.ne, l⟩
theorem DkA.costs (h : DkA C H0 H d dx pn pw pc k nm ws kvs) (c1 : Chg H pc (.dT kvs') H') : DkA C H0 H' d dx pn pw pc k nm ws kvs' :=
  ⟨h.sm.chg h.c0 c1, h.d0, h.n0, h.w0, h.c0, by rw [c1.rest _ h.d_c]; exact h.hd, by rw [c1.rest _ h.n_c]; exact h.hn, by rw [c1.rest _ h.w_c]; exact h.hw, c1.here, h.ne, h.len⟩
/-- a new dict of costs -/
theorem DkA.newc {q : Addr} (h : DkA C H0 H d dx pn pw pc k nm ws kvs) (hq : H q = some (.dT kvs')) (q0 : H0 q = none) (c1 : Chg H d (.ins C dx (fsD pn pw q k)) H') : DkA C H0 H' d dx pn pw q k nm ws kvs' :=
  ⟨h.sm.chg h.d0 c1, h.d0, h.n0, h.w0, q0, c1.here, by rw [c1.rest _ h.d_n.symm]; exact h.hn, by rw [c1.rest _ h.d_w.symm]; exact h.hw, by rw [c1.rest _ (fun e => by have := h.hd; rw [← e, hq] at this; cases this)]; exact hq, h.ne, h.len⟩
theorem DkA.kept (h : DkA C H0 H d dx pn pw pc k nm ws kvs) {y : V} (c1 : Chg H d (.ins C dx (fsD pn pw pc y)) H') : DkA C H0 H' d dx pn pw pc y nm ws kvs :=
  ⟨h.sm.chg h.d0 c1, h.d0, h.n0, h.w0, h.c0, c1.here, by rw [c1.rest _ h.d_n.symm]; exact h.hn, by rw [c1.rest _ h.d_w.symm]; exact h.hw, by rw [c1.rest _ h.d_c.symm]; exact h.hc, h.ne, h.len⟩
end
/-- names and ties of a desk -/
structure DS (nm : List (List Nat)) (ts : List (Int × Int)) : Prop where
  nms : Nms nm
  okt : ∀ t ∈ ts, 0 ≤ t.1 ∧ t.1 < t.2 ∧ t.2 < (nm.length : Int)
  nd : ts.Nodup
def spSpot (C : Addr) : Sp := fun vs H Q _ => ∃ (H0 : Hp) (d dx pn pw pc : Addr) (k : V) (nm : List (List Nat)) (ws : List Int) (kvs : List (List Key × V)) (l : List Nat) (v : Nat), vs = [.ref d, .str (sT l)] ∧ DkA C H0 H d dx pn pw pc k nm ws kvs ∧ Nms nm ∧ nm[v]? = some l ∧ Q (.int (v : Nat)) H
def spWG (K : PySem.W.Frag) (C : Addr) : Sp := fun vs H Q _ => ∃ (H0 : Hp) (d dx pn pw pc : Addr) (k : V) (nm : List (List Nat)) (ws : List Int) (kvs : List (List Key × V)) (ts : List (Int × Int)), vs = [.ref d] ∧ DkA C H0 H d dx pn pw pc k nm ws kvs ∧ KeyP kvs ts ∧ DS nm ts ∧
  ∀ p us H', Same H H' → us.Perm ts → GraphV K H' (.ref p) (nm.length : Nat) us → Q (.ref p) H'
def spPlace (C : Addr) : Sp := fun vs H Q _ => ∃ (H0 : Hp) (d dx pn pw pc : Addr) (k : V) (nm : List (List Nat)) (ws : List Int) (kvs : List (List Key × V)) (l : List Nat) (z : Str), vs = [.ref d, .str (sT l), .str z] ∧ DkA C H0 H d dx pn pw pc k nm ws kvs ∧
  Nms (nm ++ [l]) ∧ numOk z = true ∧ ∀ H', DkA C H0 H' d dx pn pw pc k (nm ++ [l]) (ws ++ [valF z]) kvs → Q .non H'
def spTie (C : Addr) : Sp := fun vs H Q _ => ∃ (H0 : Hp) (d dx pn pw pc : Addr) (k : V) (nm : List (List Nat)) (ws : List Int) (kvs : List (List Key × V)) (ts : List (Int × Int)) (x y : List Nat) (a b : Nat) (z : Str), vs = [.ref d, .str (sT x), .str (sT y), .str z] ∧ DkA C H0 H d dx pn pw pc k nm ws kvs ∧
  Nms nm ∧ KeyP kvs ts ∧ ts.length ≤ 45 ∧ nm[a]? = some x ∧ nm[b]? = some y ∧ a ≠ b ∧ tieP a b ∉ ts ∧ numOk z = true ∧ ∀ kvs' H', KeyP kvs' (ts ++ [tieP a b]) → DkA C H0 H' d dx pn pw pc k nm ws kvs' → Q .non H'
def spUntie (C : Addr) : Sp := fun vs H Q _ => ∃ (H0 : Hp) (d dx pn pw pc : Addr) (k : V) (nm : List (List Nat)) (ws : List Int) (kvs : List (List Key × V)) (ts : List (Int × Int)) (x y : List Nat) (a b : Nat), vs = [.ref d, .str (sT x), .str (sT y)] ∧ DkA C H0 H d dx pn pw pc k nm ws kvs ∧
  Nms nm ∧ KeyP kvs ts ∧ nm[a]? = some x ∧ nm[b]? = some y ∧ a ≠ b ∧ tieP a b ∈ ts ∧ ∀ kvs' H', KeyP kvs' (ts.filter fun u => decide (u ≠ tieP a b)) → DkA C H0 H' d dx pn pw pc k nm ws kvs' → Q .non H'
/-- the ties that are left when a place goes, by their new numbers -/
def upT (v : Nat) (t : Int × Int) : Int × Int := (upN t.1 v, upN t.2 v)
def offT (v : Nat) (ts : List (Int × Int)) : List (Int × Int) := (ts.filter fun t => decide (t.1 ≠ (v : Int)) && decide (t.2 ≠ (v : Int))).map (upT v)
def spDrop (C : Addr) : Sp := fun vs H Q _ => ∃ (H0 : Hp) (d dx pn pw pc : Addr) (k : V) (nm : List (List Nat)) (ws : List Int) (kvs : List (List Key × V)) (ts : List (Int × Int)) (x : List Nat) (v : Nat), vs = [.ref d, .str (sT x)] ∧ DkA C H0 H d dx pn pw pc k nm ws kvs ∧
  KeyP kvs ts ∧ DS nm ts ∧ nm[v]? = some x ∧ ∀ q kvs' H', KeyP kvs' (offT v ts) → DkA C H0 H' d dx pn pw q k (nm.eraseIdx v) (ws.eraseIdx v) kvs' → Q .non H'
section
variable {P : Program} {w : World} {K : PySem.W.Frag} {mg : Str → Option Value} {base : Heap}
set_option maxHeartbeats 4000000 in
theorem ok_spot (B : Bl mg) (D_Desk : ObDesk K mg) : FnOk P w K mg base CX0 1 D_Desk.d_spot.f D_Desk.d_spot.fd ["self", "name"] (spSpot D_Desk.C) := by
  refine D_Desk.d_spot.F.ok sc_Desk_spot (fun vs H Q E h => ?_) (fun cdv A outer s H vs Q E hr h => ?_)
  · obtain ⟨H0, d, dx, pn, pw, pc, k, nm, ws, kvs, l, v, rfl, _⟩ := h
    rfl
  obtain ⟨H0, d, dx, pn, pw, pc, k, nm, ws, kvs, l, v, rfl, hD, hN, hl, q⟩ := h
  have hv : (A.deeper (PyProof.Rows.envOfC "Desk.spot" (defScope s_Desk_spot) s.heap.objs.size D_Desk.d_spot.f cdv)).units + 65 < cLine := by have := hr.un; omega
  refine ⟨_, (pss_cons (ps_if (pt_cmpR (op_notInDK (K := K) rfl hv) (pv 1) (pe_fldK (K := K) rfl (pv 0) rfl) (by with_unfolding_all rfl))
      (pss_one ps_never)
      pss_nil)
      (pss_one (ps_ret (pe_bmK (K := K) rfl PySem.F.plainAttrs_list PySem.F.slot_list_index PySem.F.type_list_index (mt_idxD (K := K) rfl hv) (pe_fldK (K := K) rfl (pv 0) rfl) (pa_cons (pv 1) pa_nil))))), ?_⟩
  obtain ⟨vl, ev⟩ := List.getElem?_eq_some_iff.mp hl
  have lm : l ∈ nm := List.mem_of_getElem? hl
  have d1 : SeqAt.shaped (.str (sT l)) = true := shaped_str (hN.short _ lm)
  have d2 : ∀ e ∈ nm.map fun l => PyData.str (sT l), SeqAt.shaped e = true := fun e he => by
    obtain ⟨l, hl, rfl⟩ := List.mem_map.mp he
    exact shaped_str (hN.short _ hl)
  have d3 : (nm.map fun l => V.str (sT l)).length ≤ 1000 := by rw [List.length_map]; have := hN.few; omega
  have d4 : v < (nm.map fun l => V.str (sT l)).length := by rw [List.length_map]; exact vl
  have d5 : PyData.eqv ((nm.map fun l => PyData.str (sT l)).getD v .none) (.str (sT l)) = true := by
    rw [List.getD_eq_getElem?_getD, List.getElem?_map, List.getElem?_eq_getElem vl, ev]
    show PyData.eqv (.str (sT l)) (.str (sT l)) = true
    rw [PyData.eqv]; simp
  have d6 : ∀ m' < v, PyData.eqv ((nm.map fun l => PyData.str (sT l)).getD m' .none) (.str (sT l)) = false := fun m' hm => by
    have ml : m' < nm.length := by omega
    rw [List.getD_eq_getElem?_getD, List.getElem?_map, List.getElem?_eq_getElem ml]
    show PyData.eqv (.str (sT nm[m'])) (.str (sT l)) = false
    rw [PyData.eqv]
    have ne : sT nm[m'] ≠ sT l := fun z => by
      have e2 : nm[m'] = nm[v] := by rw [ev]; exact sT_inj z
      have := (List.getElem_inj hN.nd).mp e2
      omega
    simp [ne]
  refine ⟨_, rfl, _, rfl, d, _, _, _, _, rfl, hD.hd, D_Desk.cl, D_Desk.n_names, lk_names _ _ _ _, .str (sT l), nm.map fun l => PyData.str (sT l), .str _, .lst (SqL.of hD.hn) (isDs_strs nm), d1, shaped_strs hN.short, _, rfl, ?_⟩
  rw [if_pos rfl, any_str, decide_eq_true lm]
  refine iteF ?_
  exact ⟨_, rfl, d, _, _, _, _, rfl, hD.hd, D_Desk.cl, D_Desk.n_names, lk_names _ _ _ _, .inl ⟨rfl, _, SqL.of hD.hn⟩, _, rfl, pn, _, _, .str (sT l), nm.map fun l => PyData.str (sT l), v, rfl, rfl, hD.hn, .str _, isDs_strs nm, d1, d2, d3, d4, d5, d6, q⟩
end

end K


namespace K
open PySem L2 Lw Bg Tx
theorem pigJ {α : Type} [DecidableEq α] : ∀ {l U : List α}, l.Nodup → (∀ x ∈ l, x ∈ U) → l.length ≤ U.length
  | [], _, _, _ => Nat.zero_le _
  | x :: r, U, h, s => by
    have h' := List.nodup_cons.mp h
    have hx := s x List.mem_cons_self
    have := List.length_erase_of_mem hx
    have p := List.length_pos_of_mem hx
    have ih := pigJ (l := r) (U := U.erase x) h'.2 fun y hy => (List.mem_erase_of_ne (fun (e : y = x) => h'.1 (e ▸ hy))).mpr (s y (List.mem_cons_of_mem _ hy))
    rw [List.length_cons]; omega

theorem ties45 {n : Nat} {ts : List (Int × Int)} (n10 : n ≤ 10) (ok : ∀ t ∈ ts, 0 ≤ t.1 ∧ t.1 < t.2 ∧ t.2 < (n : Int)) (nd : ts.Nodup) : ts.length ≤ 45 := by
  have h := pigJ (l := ts) (U := ((List.range 10).flatMap fun a => (List.range 10).map fun b => (((a : Nat) : Int), ((b : Nat) : Int))).filter fun t => decide (t.1 < t.2)) nd fun t ht => by
    obtain ⟨h1, h2, h3⟩ := ok t ht
    refine List.mem_filter.mpr ⟨List.mem_flatMap.mpr ⟨t.1.toNat, List.mem_range.mpr (by omega), List.mem_map.mpr ⟨t.2.toNat, List.mem_range.mpr (by omega), ?_⟩⟩, decide_eq_true h2⟩
    refine Prod.ext ?_ ?_
    · show ((t.1.toNat : Nat) : Int) = t.1
      omega
    · show ((t.2.toNat : Nat) : Int) = t.2
      omega
  exact h

theorem name_ok {l : List Nat} (h : (1 ≤ l.length ∧ l.length ≤ 6) ∧ ∀ c ∈ l, 97 ≤ c ∧ c ≤ 122) : nameOk (sT l) = true := by
  unfold nameOk
  rw [sT_len, decide_eq_true (show (1 : Int) ≤ (l.length : Int) by omega), decide_eq_true (show (l.length : Int) ≤ 6 by omega), Bool.true_and, Bool.true_and, ← Array.all_toList, List.all_eq_true]
  exact fun c hc => decide_eq_true (h.2 c hc)
theorem num_few {z : Str} (h : numOk z = true) : z.length ≤ 30 := by
  unfold numOk at h
  rw [Bool.and_eq_true, Bool.and_eq_true, Bool.and_eq_true, decide_eq_true_iff, decide_eq_true_iff] at h
  exact h.1.1.2
theorem Nms.init {nm : List (List Nat)} {l : List Nat} (h : Nms (nm ++ [l])) : Nms nm ∧ l ∉ nm ∧ nm.length < 10 := by
  have h1 := h.few
  rw [List.length_append, List.length_singleton] at h1
  have h2 := List.nodup_append.mp h.nd
  exact ⟨⟨by omega, h2.1, fun x hx => h.ok x (List.mem_append_left _ hx)⟩, fun m => h2.2.2 _ m _ List.mem_cons_self rfl, by omega⟩
section
variable {P : Program} {w : World} {K : PySem.W.Frag} {mg : Str → Option Value} {base : Heap}
set_option maxHeartbeats 4000000 in
theorem ok_whole_graph (B : Bl mg) (D_Desk : ObDesk K mg) : FnOk P w K mg base CX0 1 D_Desk.d_whole_graph.f D_Desk.d_whole_graph.fd ["self"] (spWG K D_Desk.C) := by
  refine D_Desk.d_whole_graph.F.ok sc_Desk_whole_graph (fun vs H Q E h => ?_) (fun cdv A outer s H vs Q E hr h => ?_)
  · obtain ⟨H0, d, dx, pn, pw, pc, k, nm, ws, kvs, ts, rfl, _⟩ := h
    rfl
  obtain ⟨H0, d, dx, pn, pw, pc, k, nm, ws, kvs, ts, rfl, hD, kp, hS, q⟩ := h
  have l45 := ties45 hS.nms.few hS.okt hS.nd
  refine ⟨_, (pss_one (ps_ret (pe_tupN (pa_cons (pe_callB (call_lenK (K := K) rfl) rfl B.len (by decide +kernel) (pa_cons (pe_fldK (K := K) rfl (pv 0) rfl) pa_nil)) (pa_cons (pe_callB (call_sortedQ rfl) rfl B.sorted (by decide +kernel) (pa_cons (pe_fldK (K := K) rfl (pv 0) rfl) pa_nil)) pa_nil))))), ?_⟩
  refine ⟨_, rfl, d, _, _, _, _, rfl, hD.hd, D_Desk.cl, D_Desk.n_names, lk_names _ _ _ _, pn, _, rfl, .inl (SqL.of hD.hn), _, rfl, d, _, _, _, _, rfl, hD.hd, D_Desk.cl, D_Desk.n_costs, lk_costs _ _ _ _, pc, kvs, ts, rfl, hD.hc, kp, by omega, fun us xs p H1 pm pr n1 => ⟨(by show 2 ≤ 1000; decide), fun p2 H2 n2 => ?_⟩⟩
  rw [List.length_map] at n2
  have lu := pm.length_eq
  refine q p2 us H2 (n1.same.trans n2.same) pm ⟨p2, p, rfl, SqT.of n2.here, xs, SqL.of (n2.same _ _ n1.here), Paired.mapP pr fun v t ⟨b, e, h⟩ => ⟨b, e, SqT.of (n2.same _ _ (n1.same _ _ h))⟩, by omega⟩
set_option maxHeartbeats 4000000 in
theorem ok_place (B : Bl mg) (Ct : Cts mg) (D_Desk : ObDesk K mg) (d_is_written : Dn K mg "is_written" s_is_written ["text", "signs", "most"]) (d_is_number : Dn K mg "is_number" s_is_number ["text"]) (d_is_name : Dn K mg "is_name" s_is_name ["text"]) (d_read_number : Dn K mg "read_number" s_read_number ["text"]) : FnOk P w K mg base CX0 4 D_Desk.d_place.f D_Desk.d_place.fd ["self", "name", "weight"] (spPlace D_Desk.C) := by
  have G_is_name : FnOk P w K mg base CX0 3 _ _ _ _ := (ok_is_name B Ct d_is_written d_is_name).mono (by decide)
  have G_read_number : FnOk P w K mg base CX0 3 _ _ _ _ := ok_read_number B Ct d_is_written d_is_number d_read_number
  refine D_Desk.d_place.F.ok sc_Desk_place (fun vs H Q E h => ?_) (fun cdv A outer s H vs Q E hr h => ?_)
  · obtain ⟨H0, d, dx, pn, pw, pc, k, nm, ws, kvs, l, z, rfl, _⟩ := h
    rfl
  obtain ⟨H0, d, dx, pn, pw, pc, k, nm, ws, kvs, l, z, rfl, hD, hN, hz, q⟩ := h
  obtain ⟨hN0, lm, l10⟩ := hN.init
  have hl := hN.ok l (List.mem_append_right _ List.mem_cons_self)
  have hv : (A.deeper (PyProof.Rows.envOfC "Desk.place" (defScope s_Desk_place) s.heap.objs.size D_Desk.d_place.f cdv)).units + 65 < cLine := by have := hr.un; omega
  refine ⟨_, (pss_cons (ps_if (PW.pt (pw_or (pt_not (pt_truthK (K := K) rfl (pe_call G_is_name hr rfl d_is_name.m d_is_name.F.kp d_is_name.b .nil pass0 (pa_cons (pv 1) pa_nil)) (fun _ => rfl))) (pw_or1 (pt_cmpR (op_inDK (K := K) rfl hv) (pv 1) (pe_fldK (K := K) rfl (pv 0) rfl) (by with_unfolding_all rfl)))))
      (pss_one ps_never)
      pss_nil)
      (pss_cons (ps_set (i := 3) sc_Desk_place.nd rfl (Or.inl rfl) (pe_call G_read_number hr rfl d_read_number.m d_read_number.F.kp d_read_number.b .nil pass0 (pa_cons (pv 2) pa_nil)))
      (pss_cons (ps_if (pt_cmpR op_eq (pe_callB (call_lenK (K := K) rfl) rfl B.len (by decide +kernel) (pa_cons (pe_fldK (K := K) rfl (pv 0) rfl) pa_nil)) (pe_glob (v := .int 10) rfl Ct.m_MOST_PLACES Ct.r_MOST_PLACES) (nomark _))
      (pss_one ps_never)
      pss_nil)
      (pss_cons (ps_expr (pe_bmK (K := K) rfl PySem.F.plainAttrs_list PySem.F.slot_list_append PySem.F.type_list_append mt_appendN (pe_fldK (K := K) rfl (pv 0) rfl) (pa_cons (pv 1) pa_nil)))
      (pss_one (ps_expr (pe_bmK (K := K) rfl PySem.F.plainAttrs_list PySem.F.slot_list_append PySem.F.type_list_append mt_appendN (pe_fldK (K := K) rfl (pv 0) rfl) (pa_cons (pv 3) pa_nil)))))))), ?_⟩
  have z30 := num_few hz
  refine ⟨_, rfl, sT l, rfl, by rw [sT_len]; omega, fun H1 s1 => ?_⟩
  rw [name_ok hl]
  have hD1 := hD.mono s1
  have d1 : SeqAt.shaped (.str (sT l)) = true := shaped_str (fun c hc => by have := hl.2 c hc; omega)
  refine ⟨_, rfl, iteF ⟨_, rfl, _, rfl, d, _, _, _, _, rfl, hD1.hd, D_Desk.cl, D_Desk.n_names, lk_names _ _ _ _, .str (sT l), nm.map fun l => PyData.str (sT l), .str _, .lst (SqL.of hD1.hn) (isDs_strs nm), d1, shaped_strs hN0.short, _, rfl, ?_⟩⟩
  rw [if_neg (by decide), any_str, decide_eq_false lm]
  refine iteF ⟨_, rfl, z, rfl, by omega, hz, fun H2 s2 => ?_⟩
  have hD2 := hD1.mono s2
  refine ⟨_, rfl, d, _, _, _, _, rfl, hD2.hd, D_Desk.cl, D_Desk.n_names, lk_names _ _ _ _, pn, _, rfl, .inl (SqL.of hD2.hn), rfl, _, rfl, ?_⟩
  rw [List.length_map, decide_eq_false (fun e => by have := V.int.inj e; omega)]
  refine iteF ?_
  refine ⟨_, rfl, d, _, _, _, _, rfl, hD2.hd, D_Desk.cl, D_Desk.n_names, lk_names _ _ _ _, .inl ⟨rfl, _, SqL.of hD2.hn⟩, _, rfl, pn, _, _, rfl, rfl, hD2.hn, by rw [List.length_map]; omega, fun H3 c3 => ?_⟩
  have h3 : H3 d = some (.ins D_Desk.C dx (fsD pn pw pc k)) := by rw [c3.rest _ hD2.d_n]; exact hD2.hd
  have h4 : H3 pw = some (.lst (ws.map V.int)) := by rw [c3.rest _ hD2.ne.symm]; exact hD2.hw
  refine ⟨_, rfl, d, _, _, _, _, rfl, h3, D_Desk.cl, D_Desk.n_weights, lk_weights _ _ _ _, .inl ⟨rfl, _, SqL.of h4⟩, _, rfl, pw, _, _, rfl, rfl, h4, by rw [List.length_map, hD.len]; omega, fun H4 c4 => q H4 (hD2.two (nm' := nm ++ [l]) (ws' := ws ++ [valF z]) (H1 := H3) ?_ ?_ ?_)⟩
  · rw [List.map_append]; exact c3
  · rw [List.map_append]; exact c4
  · rw [List.length_append, List.length_append, hD.len]; rfl
set_option maxHeartbeats 4000000 in
theorem ok_tie (B : Bl mg) (Ct : Cts mg) (D_Desk : ObDesk K mg) (d_is_written : Dn K mg "is_written" s_is_written ["text", "signs", "most"]) (d_is_number : Dn K mg "is_number" s_is_number ["text"]) (d_read_number : Dn K mg "read_number" s_read_number ["text"]) (d_is_whole : Dn K mg "is_whole" s_is_whole ["thing"]) (d_is_below : Dn K mg "is_below" s_is_below ["n", "thing"]) (d_tie_of : Dn K mg "tie_of" s_tie_of ["n", "a", "b"]) : FnOk P w K mg base CX0 4 D_Desk.d_tie.f D_Desk.d_tie.fd ["self", "one", "other", "cost"] (spTie D_Desk.C) := by
  have G_Desk_spot : FnOk P w K mg base CX0 3 _ _ _ _ := (ok_spot B D_Desk).mono (by decide)
  have G_tie_of : FnOk P w K mg base CX0 3 _ _ _ _ := ok_tie_of B d_is_whole d_is_below d_tie_of
  have G_read_number : FnOk P w K mg base CX0 3 _ _ _ _ := ok_read_number B Ct d_is_written d_is_number d_read_number
  refine D_Desk.d_tie.F.ok sc_Desk_tie (fun vs H Q E h => ?_) (fun cdv A outer s H vs Q E hr h => ?_)
  · obtain ⟨H0, d, dx, pn, pw, pc, k, nm, ws, kvs, ts, x, y, a, b, z, rfl, _⟩ := h
    rfl
  obtain ⟨H0, d, dx, pn, pw, pc, k, nm, ws, kvs, ts, x, y, a, b, z, rfl, hD, hN, kp, l45, ha, hb, ab, nt, hz, q⟩ := h
  have hw1 : (A.deeper (PyProof.Rows.envOfC "Desk.tie" (defScope s_Desk_tie) s.heap.objs.size D_Desk.d_tie.f cdv)).units + 1 < cLine := by have := hr.un; omega
  refine ⟨_, (pss_cons (ps_set (i := 4) sc_Desk_tie.nd rfl (Or.inl rfl) (pe_meth (pv 0) D_Desk.cl D_Desk.d_spot.mt G_Desk_spot hr D_Desk.d_spot.b .nil pass0 (pa_cons (pv 1) pa_nil)))
      (pss_cons (ps_set (i := 5) sc_Desk_tie.nd rfl (Or.inl rfl) (pe_meth (pv 0) D_Desk.cl D_Desk.d_spot.mt G_Desk_spot hr D_Desk.d_spot.b .nil pass0 (pa_cons (pv 2) pa_nil)))
      (pss_cons (ps_set (i := 6) sc_Desk_tie.nd rfl (Or.inl rfl) (pe_call G_read_number hr rfl d_read_number.m d_read_number.F.kp d_read_number.b .nil pass0 (pa_cons (pv 3) pa_nil)))
      (pss_cons (ps_set (i := 7) sc_Desk_tie.nd rfl (Or.inl rfl) (pe_call G_tie_of hr rfl d_tie_of.m d_tie_of.F.kp d_tie_of.b .nil pass0 (pa_cons (pe_callB (call_lenK (K := K) rfl) rfl B.len (by decide +kernel) (pa_cons (pe_fldK (K := K) rfl (pv 0) rfl) pa_nil)) (pa_cons (pv 4) (pa_cons (pv 5) pa_nil)))))
      (pss_cons (ps_if (pt_cmpR (op_inT hw1) (pv 7) (pe_fldK (K := K) rfl (pv 0) rfl) (by with_unfolding_all rfl))
      (pss_one ps_never)
      pss_nil)
      (pss_one (ps_asg (pv 6) (pg_sub (pe_fldK (K := K) rfl (pv 0) rfl) (pv 7) (set_dictT hw1))))))))), ?_⟩
  have z30 := num_few hz
  have an := (List.getElem?_eq_some_iff.mp ha).1
  have bn := (List.getElem?_eq_some_iff.mp hb).1
  refine ⟨_, rfl, d, _, _, rfl, hD.hd, lk_meth (by decide +kernel) _ _ _ _, _, rfl, H0, d, dx, pn, pw, pc, k, nm, ws, kvs, x, a, rfl, hD, hN, ha, ?_⟩
  refine ⟨_, rfl, d, _, _, rfl, hD.hd, lk_meth (by decide +kernel) _ _ _ _, _, rfl, H0, d, dx, pn, pw, pc, k, nm, ws, kvs, y, b, rfl, hD, hN, hb, ?_⟩
  refine ⟨_, rfl, z, rfl, by omega, hz, fun H1 s1 => ?_⟩
  have hD1 := hD.mono s1
  refine ⟨_, rfl, d, _, _, _, _, rfl, hD1.hd, D_Desk.cl, D_Desk.n_names, lk_names _ _ _ _, pn, _, rfl, .inl (SqL.of hD1.hn), _, rfl, _, rfl, nm.length, a, b, by rw [List.length_map]; rfl, an, bn, ab, fun p H2 n2 => ?_⟩
  have hD2 := hD1.mono n2.same
  refine ⟨_, rfl, _, rfl, d, _, _, _, _, rfl, hD2.hd, D_Desk.cl, D_Desk.n_costs, lk_costs _ _ _ _, p, pc, pK (tieP a b), kvs, rfl, rfl, n2.here, hD2.hc, _, rfl, ?_⟩
  rw [kp.has, decide_eq_false nt]
  refine iteF ⟨_, rfl, _, rfl, d, _, _, _, _, rfl, hD2.hd, D_Desk.cl, D_Desk.n_costs, lk_costs _ _ _ _, _, rfl, pc, p, pK (tieP a b), kvs, rfl, rfl, n2.here, hD2.hc, by rw [kp.len]; omega, fun H3 c3 => q _ H3 (kp.put nt _) (hD2.costs c3)⟩
set_option maxHeartbeats 4000000 in
theorem ok_untie (B : Bl mg) (D_Desk : ObDesk K mg) (d_is_whole : Dn K mg "is_whole" s_is_whole ["thing"]) (d_is_below : Dn K mg "is_below" s_is_below ["n", "thing"]) (d_tie_of : Dn K mg "tie_of" s_tie_of ["n", "a", "b"]) : FnOk P w K mg base CX0 4 D_Desk.d_untie.f D_Desk.d_untie.fd ["self", "one", "other"] (spUntie D_Desk.C) := by
  have G_Desk_spot : FnOk P w K mg base CX0 3 _ _ _ _ := (ok_spot B D_Desk).mono (by decide)
  have G_tie_of : FnOk P w K mg base CX0 3 _ _ _ _ := ok_tie_of B d_is_whole d_is_below d_tie_of
  refine D_Desk.d_untie.F.ok sc_Desk_untie (fun vs H Q E h => ?_) (fun cdv A outer s H vs Q E hr h => ?_)
  · obtain ⟨H0, d, dx, pn, pw, pc, k, nm, ws, kvs, ts, x, y, a, b, rfl, _⟩ := h
    rfl
  obtain ⟨H0, d, dx, pn, pw, pc, k, nm, ws, kvs, ts, x, y, a, b, rfl, hD, hN, kp, ha, hb, ab, nt, q⟩ := h
  have hw1 : (A.deeper (PyProof.Rows.envOfC "Desk.untie" (defScope s_Desk_untie) s.heap.objs.size D_Desk.d_untie.f cdv)).units + 1 < cLine := by have := hr.un; omega
  refine ⟨_, (pss_cons (ps_set (i := 3) sc_Desk_untie.nd rfl (Or.inl rfl) (pe_call G_tie_of hr rfl d_tie_of.m d_tie_of.F.kp d_tie_of.b .nil pass0 (pa_cons (pe_callB (call_lenK (K := K) rfl) rfl B.len (by decide +kernel) (pa_cons (pe_fldK (K := K) rfl (pv 0) rfl) pa_nil)) (pa_cons (pe_meth (pv 0) D_Desk.cl D_Desk.d_spot.mt G_Desk_spot hr D_Desk.d_spot.b .nil pass0 (pa_cons (pv 1) pa_nil)) (pa_cons (pe_meth (pv 0) D_Desk.cl D_Desk.d_spot.mt G_Desk_spot hr D_Desk.d_spot.b .nil pass0 (pa_cons (pv 2) pa_nil)) pa_nil)))))
      (pss_cons (ps_if (pt_cmpR (op_notInT hw1) (pv 3) (pe_fldK (K := K) rfl (pv 0) rfl) (by with_unfolding_all rfl))
      (pss_one ps_never)
      pss_nil)
      (pss_one (ps_expr (pe_bmK (K := K) rfl PySem.F.plainAttrs_dict PySem.F.slot_dict_pop PySem.F.type_dict_pop (mt_popT hw1) (pe_fldK (K := K) rfl (pv 0) rfl) (pa_cons (pv 3) pa_nil)))))), ?_⟩
  have an := (List.getElem?_eq_some_iff.mp ha).1
  have bn := (List.getElem?_eq_some_iff.mp hb).1
  refine ⟨_, rfl, d, _, _, _, _, rfl, hD.hd, D_Desk.cl, D_Desk.n_names, lk_names _ _ _ _, pn, _, rfl, .inl (SqL.of hD.hn), ?_⟩
  refine ⟨_, rfl, d, _, _, rfl, hD.hd, lk_meth (by decide +kernel) _ _ _ _, _, rfl, H0, d, dx, pn, pw, pc, k, nm, ws, kvs, x, a, rfl, hD, hN, ha, ?_⟩
  refine ⟨_, rfl, d, _, _, rfl, hD.hd, lk_meth (by decide +kernel) _ _ _ _, _, rfl, H0, d, dx, pn, pw, pc, k, nm, ws, kvs, y, b, rfl, hD, hN, hb, ?_⟩
  refine ⟨nm.length, a, b, by rw [List.length_map]; rfl, an, bn, ab, fun p H2 n2 => ?_⟩
  have hD2 := hD.mono n2.same
  refine ⟨_, rfl, _, rfl, d, _, _, _, _, rfl, hD2.hd, D_Desk.cl, D_Desk.n_costs, lk_costs _ _ _ _, p, pc, pK (tieP a b), kvs, rfl, rfl, n2.here, hD2.hc, _, rfl, ?_⟩
  have hs := kp.has (tieP a b)
  rw [decide_eq_true nt] at hs
  rw [hs]
  obtain ⟨vv, hvv⟩ := Option.isSome_iff_exists.mp hs
  refine iteF ⟨_, rfl, d, _, _, _, _, rfl, hD2.hd, D_Desk.cl, D_Desk.n_costs, lk_costs _ _ _ _, ?_⟩
  refine ⟨.inr (.inr (.inl ⟨rfl, .inr ⟨_, hD2.hc⟩⟩)), _, rfl, pc, p, pK (tieP a b), kvs, vv, rfl, rfl, n2.here, hD2.hc, hvv, fun H3 c3 => q _ H3 (keyP_drop kp) (hD2.costs c3)⟩
end

end K

set_option maxHeartbeats 4100000
namespace Ls
open PySem PyProof.Rows PySem.Calls PySem.W PySem.SeqAt
open AutoSeq1 (wpAny_loadPart')
open MeetsSeq MeetsSeq2 MeetsSeq3
section
variable {prog : Program} {w : World} {A : Around} {E : Value → Shared → Prop} {s : Shared}
end
end Ls

set_option maxHeartbeats 4100000
namespace Ls
open PySem PyProof.Rows PySem.Calls PySem.W PySem.SeqAt
open AutoSeq1 (wpAny_loadPart')
open MeetsSeq MeetsSeq2 MeetsSeq3
end Ls
namespace L2
open PySem PySem.Spec PyProof.Rows Bg Srt
section
variable {X : Cx} {K : PySem.W.Frag}
/-- list.pop(i) -/
def rPopAtN : V → List V → Hp → VK → Prop := fun x vs H Q => ∃ (l : Addr) (xs : List V) (k : Nat) (y : V), x = .ref l ∧ vs = [.int (k : Int)] ∧ H l = some (.lst xs) ∧ k < 1000 ∧ xs[k]? = some y ∧ ∀ H', Chg H l (.lst (xs.eraseIdx k)) H' → Q y H'
theorem mt_popAtN : MtM X "list.pop" rPopAtN := mt_popAt.weak fun x vs H Q ⟨l, xs, k, y, e1, e2, h, z, hy, q⟩ => ⟨l, xs, k, k, y, e1, e2, h, by omega, by omega, (ixN_seq (ixN_nat (List.getElem?_eq_some_iff.mp hy).1)).1, hy, q _ Chg.mk0⟩
end
end L2


namespace K
open PySem L2 Lw Bg Tx
theorem upN_lt {a b v : Int} (h : a < b) (ha : a ≠ v) (hb : b ≠ v) : upN a v < upN b v := by
  unfold upN
  split <;> split <;> omega
theorem upN_inj {a b v : Int} (ha : a ≠ v) (hb : b ≠ v) (h : upN a v = upN b v) : a = b := by
  unfold upN at h
  split at h <;> split at h <;> omega
theorem offT_mem {v : Nat} {ts : List (Int × Int)} {t : Int × Int} : t ∈ offT v ts ↔ ∃ s ∈ ts, s.1 ≠ (v : Int) ∧ s.2 ≠ (v : Int) ∧ upT v s = t := by
  unfold offT
  rw [List.mem_map]
  constructor
  · rintro ⟨s, hs, e⟩
    rw [List.mem_filter, Bool.and_eq_true, decide_eq_true_iff, decide_eq_true_iff] at hs
    exact ⟨s, hs.1, hs.2.1, hs.2.2, e⟩
  · rintro ⟨s, hs, h1, h2, e⟩
    exact ⟨s, List.mem_filter.mpr ⟨hs, by rw [decide_eq_true h1, decide_eq_true h2]; rfl⟩, e⟩
theorem offT_nd {v : Nat} {ts : List (Int × Int)} (nd : ts.Nodup) : (offT v ts).Nodup := by
  unfold offT
  have h1 := nd.sublist (List.filter_sublist (p := fun t => decide (t.1 ≠ (v : Int)) && decide (t.2 ≠ (v : Int))) (l := ts))
  unfold List.Nodup
  rw [List.pairwise_map]
  refine List.pairwise_iff_forall_sublist.mpr fun {x y} hs z => ?_
  have hx := hs.subset (show x ∈ [x, y] by simp)
  have hy := hs.subset (show y ∈ [x, y] by simp)
  rw [List.mem_filter, Bool.and_eq_true, decide_eq_true_iff, decide_eq_true_iff] at hx hy
  have ne : x ≠ y := List.pairwise_iff_forall_sublist.mp h1 hs
  unfold upT at z
  injection z with z1 z2
  exact ne (Prod.ext (upN_inj hx.2.1 hy.2.1 z1) (upN_inj hx.2.2 hy.2.2 z2))
theorem PrL.same {H H' : Hp} (s : Same H H') {v : V} {kv : List Key × V} (h : PrL H v kv) : PrL H' v kv := by
  obtain ⟨p, kp, e, h1, h2⟩ := h
  exact ⟨p, kp, e, s _ _ h1, s _ _ h2⟩
theorem pK_map (f : (Int × Int) → Int × Int) (g : (Int × Int) → V) (l : List (Int × Int)) : KeyP (l.map fun t => (pK (f t), g t)) (l.map f) := by
  unfold KeyP
  rw [List.map_map, List.map_map]
  rfl
section
variable {P : Program} {w : World} {K : PySem.W.Frag} {mg : Str → Option Value} {base : Heap}
set_option maxHeartbeats 4000000 in
theorem ok_drop (B : Bl mg) (D_Desk : ObDesk K mg) (d_moved_up : Dn K mg "moved_up" s_moved_up ["place", "gone"]) : FnOk P w K mg base CX0 2 D_Desk.d_drop.f D_Desk.d_drop.fd ["self", "name"] (spDrop D_Desk.C) := by
  have G_Desk_spot : FnOk P w K mg base CX0 1 _ _ _ _ := ok_spot B D_Desk
  have G_moved_up : FnOk P w K mg base CX0 1 _ _ _ _ := ok_moved_up B d_moved_up
  refine D_Desk.d_drop.F.ok sc_Desk_drop (fun vs H Q E h => ?_) (fun cdv A outer s H vs Q E hr h => ?_)
  · obtain ⟨H0, d, dx, pn, pw, pc, k, nm, ws, kvs, ts, x, v, rfl, _⟩ := h
    rfl
  obtain ⟨H0, d, dx, pn, pw, pc, k, nm, ws, kvs, ts, x, v, rfl, hD, kp, hS, hx, q⟩ := h
  have hw1 : (A.deeper (PyProof.Rows.envOfC "Desk.drop" (defScope s_Desk_drop) s.heap.objs.size D_Desk.d_drop.f cdv)).units + 1 < cLine := by have := hr.un; omega
  have hw2 : (A.deeper (PyProof.Rows.envOfC "Desk.drop" (defScope s_Desk_drop) s.heap.objs.size D_Desk.d_drop.f cdv)).units + 2 < cLine := by have := hr.un; omega
  refine ⟨_, (pss_cons (ps_set (i := 2) sc_Desk_drop.nd rfl (Or.inr rfl) (pe_meth (pv 0) D_Desk.cl D_Desk.d_spot.mt G_Desk_spot hr D_Desk.d_spot.b .nil pass0 (pa_cons (pv 1) pa_nil)))
      (pss_cons (ps_expr (pe_bmK (K := K) rfl PySem.F.plainAttrs_list PySem.F.slot_list_pop PySem.F.type_list_pop mt_popAtN (pe_fldK (K := K) rfl (pv 0) rfl) (pa_cons (pv 2) pa_nil)))
      (pss_cons (ps_expr (pe_bmK (K := K) rfl PySem.F.plainAttrs_list PySem.F.slot_list_pop PySem.F.type_list_pop mt_popAtN (pe_fldK (K := K) rfl (pv 0) rfl) (pa_cons (pv 2) pa_nil)))
      (pss_cons (ps_thawQ (ps_setLC (i := 3) ["a", "b", "v"] [none, none, some 2] sc_Desk_drop.nd rfl rfl (by kernel_rfl) rfl (pi_dictQ (pe_fldK (K := K) rfl (pv 0) rfl)) (fun _ _ _ _ _ => (pg_tupK (K := K) (n := 2) rfl rfl (pgs_cons (pg_name (i := 0) (show (["a", "b", "v"] : List Str).Nodup by decide +kernel) rfl (Or.inl rfl)) (pgs_cons (pg_name (i := 1) (show (["a", "b", "v"] : List Str).Nodup by decide +kernel) rfl (Or.inl rfl)) pgs_nil)))) (fun _ _ _ _ _ => (pts_one (pt_cmpR (op_notInSK (K := K) rfl) (pv 2) (pe_tupN (pa_cons (pv 0) (pa_cons (pv 1) pa_nil))) (by with_unfolding_all rfl)))) (fun _ _ _ _ _ => (pe_tupN (pa_cons (pv 0) (pa_cons (pv 1) pa_nil)))) (by rfl)))
      (pss_one (ps_fld (pv 0) (pe_callTy (call_dictL (K := K) rfl rfl hw2) rfl B.dict (by decide +kernel) (pa_cons (pe_lc ["a", "b", "v", "self"] [none, none, some 2, some 0]  (by kernel_rfl) rfl (pi_listK (K := K) rfl (pv 3)) (fun _ _ _ _ _ => (pg_tupK (K := K) (n := 2) rfl rfl (pgs_cons (pg_name (i := 0) (show (["a", "b", "v", "self"] : List Str).Nodup by decide +kernel) rfl (Or.inl rfl)) (pgs_cons (pg_name (i := 1) (show (["a", "b", "v", "self"] : List Str).Nodup by decide +kernel) rfl (Or.inl rfl)) pgs_nil)))) (fun _ _ _ _ _ => pts_nil) (fun _ _ _ _ _ => (pe_tupN (pa_cons (pe_tupN (pa_cons (pe_call G_moved_up hr rfl d_moved_up.m d_moved_up.F.kp d_moved_up.b .nil pass0 (pa_cons (pv 0) (pa_cons (pv 2) pa_nil))) (pa_cons (pe_call G_moved_up hr rfl d_moved_up.m d_moved_up.F.kp d_moved_up.b .nil pass0 (pa_cons (pv 1) (pa_cons (pv 2) pa_nil))) pa_nil))) (pa_cons (pe_dget hw1 (pe_fldK (K := K) rfl (pv 3) rfl) (pe_tupN (pa_cons (pv 0) (pa_cons (pv 1) pa_nil))) (fun _ _ => rfl)) pa_nil))))) pa_nil)) rfl)))))), ?_⟩
  have l45 := ties45 hS.nms.few hS.okt hS.nd
  have few := hS.nms.few
  obtain ⟨vn, ex⟩ := List.getElem?_eq_some_iff.mp hx
  refine ⟨_, rfl, d, _, _, rfl, hD.hd, lk_meth (by decide +kernel) _ _ _ _, _, rfl, H0, d, dx, pn, pw, pc, k, nm, ws, kvs, x, v, rfl, hD, hS.nms, hx, ?_⟩
  refine ⟨_, rfl, d, _, _, _, _, rfl, hD.hd, D_Desk.cl, D_Desk.n_names, lk_names _ _ _ _, .inl ⟨rfl, _, SqL.of hD.hn⟩, _, rfl, pn, _, v, .str (sT x), rfl, rfl, hD.hn, by omega, by rw [List.getElem?_map, hx]; rfl, fun H1 c1 => ?_⟩
  have h3 : H1 d = some (.ins D_Desk.C dx (fsD pn pw pc k)) := by rw [c1.rest _ hD.d_n]; exact hD.hd
  have h4 : H1 pw = some (.lst (ws.map V.int)) := by rw [c1.rest _ hD.ne.symm]; exact hD.hw
  obtain ⟨wv, hwv⟩ : ∃ wv, ws[v]? = some wv := ⟨ws[v]'(by rw [hD.len]; exact vn), List.getElem?_eq_getElem _⟩
  refine ⟨_, rfl, d, _, _, _, _, rfl, h3, D_Desk.cl, D_Desk.n_weights, lk_weights _ _ _ _, .inl ⟨rfl, _, SqL.of h4⟩, _, rfl, pw, _, v, .int wv, rfl, rfl, h4, by omega, by rw [List.getElem?_map, hwv]; rfl, fun H2 c2 => ?_⟩
  have hD2 : DkA D_Desk.C H0 H2 d dx pn pw pc k (nm.eraseIdx v) (ws.eraseIdx v) kvs := hD.two (H1 := H1) (by rw [Dy.map_erase]; exact c1) (by rw [Dy.map_erase]; exact c2) (by rw [List.length_eraseIdx_of_lt (by rw [hD.len]; exact vn), List.length_eraseIdx_of_lt vn, hD.len])
  refine ⟨_, rfl, d, _, _, _, _, rfl, hD2.hd, D_Desk.cl, D_Desk.n_costs, lk_costs _ _ _ _, pc, kvs, ts, rfl, hD2.hc, kp, fun o as pr => ?_⟩
  have la : as.length = ts.length := by have := Paired.length pr; rwa [List.length_map] at this
  have sf : ∀ {H'}, Same (upd H2 pc (.frz o (.dT kvs))) H' → Same H2 (upd H' pc (.dT kvs)) := fun {H'} sm b u e => by
    by_cases c : b = pc
    · subst c; rw [upd_same]; rw [hD2.hc] at e; exact e
    · rw [upd_ne c]; exact sm b u (by rw [upd_ne c]; exact e)
  refine lc_dictP (fun i ys H' => ys.length ≤ i ∧ Same (upd H2 pc (.frz o (.dT kvs))) H' ∧ Paired (TieL H') ys ((ts.take i).filter fun t => decide (t.1 ≠ (v : Int)) && decide (t.2 ≠ (v : Int)))) ⟨Nat.le_refl _, Same.refl _, .nil⟩ (fun i ys H' hi ⟨e1, e2, _⟩ => ⟨e2 _ _ upd_same, by omega⟩) (fun i ys H6 b hb ⟨l6, s6, p6⟩ => ?_) (fun ys H6 p ⟨l6, s6, p6⟩ hp => ?_)
  · have il : i < as.length := (List.getElem?_eq_some_iff.mp hb).1
    obtain ⟨t, ht, tb⟩ := paired_get pr (show (as.map V.ref)[i]? = some (.ref b) by rw [List.getElem?_map, hb]; rfl)
    obtain ⟨b', eb, hb'⟩ := tie_frz (o' := .frz o (.dT kvs)) hD2.hc (fun _ z => by cases z) tb
    cases eb
    have hb6 := s6 _ _ hb'
    obtain ⟨it, et⟩ := List.getElem?_eq_some_iff.mp ht
    have tk : ts.take (i + 1) = ts.take i ++ [t] := by rw [List.take_succ_eq_append_getElem it, et]
    refine ⟨b, _, rfl, SqT.of hb6, rfl, _, _, rfl, _, _, rfl, rfl, ?_⟩
    refine ⟨_, rfl, _, rfl, _, rfl, (by show 2 ≤ 1000; decide), fun p7 H7 n7 => ⟨p7, _, rfl, .inr (SqT.of n7.here), rfl, rfl, ?_⟩⟩
    have ev : (!inV (.int (v : Int)) [.int t.1, .int t.2]) = (decide (t.1 ≠ (v : Int)) && decide (t.2 ≠ (v : Int))) := by
      unfold inV
      simp only [List.any_cons, List.any_nil, Bool.or_false, eqV]
      rw [Bool.eq_iff_iff]
      simp
    rw [if_pos rfl, ev]
    refine ⟨_, rfl, ?_⟩
    cases cc : (decide (t.1 ≠ (v : Int)) && decide (t.2 ≠ (v : Int))) with
    | false =>
      refine iteF ⟨by omega, s6.trans n7.same, ?_⟩
      rw [tk, List.filter_append, show [t].filter (fun t => decide (t.1 ≠ (v : Int)) && decide (t.2 ≠ (v : Int))) = [] by rw [List.filter_cons_of_neg (by rw [cc]; decide)]; rfl, List.append_nil]
      exact Paired.mapP p6 fun v t q => q.same n7.same
    | true =>
      refine iteT ⟨_, rfl, _, rfl, (by show 2 ≤ 1000; decide), fun p8 H8 n8 => ⟨by rw [List.length_append]; show _ + 1 ≤ _; omega, s6.trans (n7.same.trans n8.same), ?_⟩⟩
      rw [tk, List.filter_append, show [t].filter (fun t => decide (t.1 ≠ (v : Int)) && decide (t.2 ≠ (v : Int))) = [t] by rw [List.filter_cons_of_pos (by rw [cc])]; rfl]
      exact paired_snoc (Paired.mapP p6 fun v t q => q.same (n7.same.trans n8.same)) ⟨p8, rfl, n8.here⟩
  · rw [la, List.take_length] at p6
    have hd6 := s6 _ _ (upd_same (H := H2) (a := pc) (o := .frz o (.dT kvs)))
    have ppd : p ≠ pc := fun e => by rw [e, hd6] at hp; cases hp
    refine ⟨pc, o, kvs, kvs, hD2.hc, by rw [upd_ne (Ne.symm ppd)]; exact hd6, ?_⟩
    have s8 : Same H2 (upd (upd H6 p (.lst ys)) pc (.dT kvs)) := sf (s6.trans (New.mk0 hp).same)
    have h8 : (upd (upd H6 p (.lst ys)) pc (.dT kvs)) p = some (.lst ys) := by rw [upd_ne ppd, upd_same]
    have p8 : Paired (TieL (upd (upd H6 p (.lst ys)) pc (.dT kvs))) ys (ts.filter fun t => decide (t.1 ≠ (v : Int)) && decide (t.2 ≠ (v : Int))) := Paired.mapP p6 fun v t ⟨b, eb, hb⟩ => ⟨b, eb, by
      have nb : b ≠ pc := fun e => by rw [e, hd6] at hb; cases hb
      rw [upd_ne nb, upd_ne (ne_of_none hb hp)]; exact hb⟩
    generalize upd (upd H6 p (.lst ys)) pc (.dT kvs) = H8 at s8 h8 p8
    clear p6 s6 hd6
    have hD8 := hD2.mono s8
    generalize hlf : (ts.filter fun t => decide (t.1 ≠ (v : Int)) && decide (t.2 ≠ (v : Int))) = lf at p8
    have ll : lf.length ≤ 45 := by rw [← hlf]; exact Nat.le_trans (List.length_filter_le _ _) l45
    have ly : ys.length = lf.length := Paired.length p8
    have lts : ∀ t ∈ lf, t ∈ ts := fun t ht => by rw [← hlf] at ht; exact (List.mem_filter.mp ht).1
    refine ⟨_, rfl, p, rfl, ⟨_, SqL.of h8⟩, ?_⟩
    refine lc_list (fun i zs H' => zs.length = i ∧ Same H8 H' ∧ Paired (PrL H') zs ((lf.take i).map fun t => (pK (upT v t), (valV kvs (pK t)).getD .non))) ⟨rfl, Same.refl _, .nil⟩ (fun i zs H' hi ⟨e1, e2, _⟩ => ⟨SqL.of (e2 _ _ h8), by rw [sizeLine_eq]; omega⟩) (fun i x zs H' hx ⟨l9, s9, p9⟩ => ?_) (fun zs H' ⟨l9, s9, p9⟩ r hr => ?_)
    · obtain ⟨t, ht, tb⟩ := paired_get p8 hx
      obtain ⟨b, rfl, hb⟩ := TieL.same s9 tb
      obtain ⟨it, et⟩ := List.getElem?_eq_some_iff.mp ht
      have tk : lf.take (i + 1) = lf.take i ++ [t] := by rw [List.take_succ_eq_append_getElem it, et]
      have hs := kp.has t
      rw [decide_eq_true (lts t (List.mem_of_getElem? ht))] at hs
      obtain ⟨vv, hvv⟩ := Option.isSome_iff_exists.mp hs
      refine ⟨b, _, rfl, SqT.of hb, rfl, _, _, rfl, _, _, rfl, rfl, ?_⟩
      unfold tTrue
      dsimp only
      rw [if_pos rfl]
      refine ⟨_, rfl, _, rfl, t.1, (v : Int), rfl, ?_⟩
      refine ⟨_, rfl, _, rfl, t.2, (v : Int), rfl, (by show 2 ≤ 1000; decide), fun pk Hk nk => ?_⟩
      have hDk := hD8.mono (s9.trans nk.same)
      refine ⟨_, rfl, d, _, _, _, _, rfl, hDk.hd, D_Desk.cl, D_Desk.n_costs, lk_costs _ _ _ _, _, rfl, _, rfl, (by show 2 ≤ 1000; decide), fun pq Hq nq => ?_⟩
      have hDq := hDk.mono nq.same
      refine ⟨pc, vv, rfl, hvv ▸ DGet.t (k := pK t) hDq.hc nq.here, (by show 2 ≤ 1000; decide), fun pz Hz nz => ?_⟩
      refine ⟨by rw [List.length_append, l9]; rfl, s9.trans (nk.same.trans (nq.same.trans nz.same)), ?_⟩
      rw [tk, List.map_append]
      refine paired_snoc (Paired.mapP p9 fun v t q => PrL.same (nk.same.trans (nq.same.trans nz.same)) q) ⟨pz, pk, rfl, ?_, nz.same _ _ (nq.same _ _ nk.here)⟩
      rw [nz.here]
      dsimp only
      rw [hvv]
      rfl
    · rw [ly, List.take_length] at p9
      have nr := New.mk0 (o := .lst zs) hr
      generalize upd H' r (.lst zs) = H9 at nr
      have kq := pK_map (upT v) (fun t => (valV kvs (pK t)).getD .non) lf
      refine ⟨r, zs, _, rfl, nr.here, Paired.mapP p9 fun v t q => PrL.same nr.same q, ?_, fun q' H10 n10 => ?_⟩
      · rw [show (lf.map fun t => (pK (upT v t), (valV kvs (pK t)).getD .non)).map (·.1) = (lf.map (upT v)).map pK from kq]
        have nd := offT_nd (v := v) hS.nd
        unfold offT at nd
        rw [hlf] at nd
        unfold List.Nodup
        rw [List.pairwise_map]
        exact nd.imp fun h z => h (pK_inj z)
      · have hD10 := hD8.mono (s9.trans (nr.same.trans n10.same))
        refine ⟨_, rfl, d, _, _, _, rfl, hD10.hd, D_Desk.cl, D_Desk.n_costs, fsD_len _ _ _ _, ?_⟩
        rw [pf_costs]
        refine q q' _ _ ?_ (hD10.newc n10.here (hD8.sm.free ((s9.trans nr.same).free n10.fresh)) Chg.mk0)
        unfold offT
        rw [hlf]
        exact kq
end

end K


namespace K
open PySem L2 Lw Bg
def runR (n : Nat) (ts : List (Int × Int)) (os : List Nat) : Nat → Nat → Bool := os.foldl (fun R v => takeR v R) (tiedR n ts)
theorem runR_snoc (n : Nat) (ts : List (Int × Int)) (os : List Nat) (v : Nat) : runR n ts (os ++ [v]) = takeR v (runR n ts os) := by
  unfold runR
  rw [List.foldl_append]
  rfl
def laterF (n : Nat) (R : Nat → Nat → Bool) (v : Nat) : List Nat := (List.range n).filter fun u => R v u && !decide (u = v)
theorem later_len (n : Nat) (R : Nat → Nat → Bool) (v : Nat) : (laterF n R v).length ≤ n := by
  unfold laterF
  refine Nat.le_trans (List.length_filter_le _ _) ?_
  simp

def tieT (ts : List (Int × Int)) (x y : Nat) : Bool := decide (((x : Int), (y : Int)) ∈ ts) || decide (((y : Int), (x : Int)) ∈ ts)
/-- a way from x to u through places of S alone -/
inductive PathT (ts : List (Int × Int)) (S : List Nat) (x : Nat) : Nat → Prop
  | one {u : Nat} (h : tieT ts x u = true) : PathT ts S x u
  | step {a u : Nat} (p : PathT ts S x a) (m : a ∈ S) (h : tieT ts a u = true) : PathT ts S x u
theorem PathT.mono {ts : List (Int × Int)} {S S' : List Nat} {x u : Nat} (h : PathT ts S x u) (s : ∀ a ∈ S, a ∈ S') : PathT ts S' x u := by
  induction h with
  | one h => exact .one h
  | step p m h ih => exact .step ih (s _ m) h
theorem PathT.glue {ts : List (Int × Int)} {S : List Nat} {x w u : Nat} (hw : w ∈ S) (a : PathT ts S x w) (b : PathT ts S w u) : PathT ts S x u := by
  induction b with
  | one h => exact .step a hw h
  | step p m h ih => exact .step ih m h
theorem PathT.split {ts : List (Int × Int)} {S : List Nat} {x w u : Nat} (h : PathT ts (S ++ [w]) x u) : PathT ts S x u ∨ (PathT ts S x w ∧ PathT ts S w u) := by
  induction h with
  | one h => exact .inl (.one h)
  | @step a u p m h ih =>
    rcases List.mem_append.mp m with m | m
    · rcases ih with ih | ⟨i1, i2⟩
      · exact .inl (.step ih m h)
      · exact .inr ⟨i1, .step i2 m h⟩
    · have e := List.mem_singleton.mp m
      subst e
      rcases ih with ih | ⟨i1, _⟩
      · exact .inr ⟨ih, .one h⟩
      · exact .inr ⟨i1, .one h⟩
/-- what is left is tied just where a way leads through what is gone -/
structure RunP (n : Nat) (ts : List (Int × Int)) (S : List Nat) : Prop where
  path : ∀ x u, x < n → u < n → x ∉ S → u ∉ S → (runR n ts S x u = true ↔ x = u ∨ PathT ts S x u)
  gone : ∀ x u, x < n → x ∉ S → u ∈ S → runR n ts S x u = false
theorem run_path {n : Nat} {ts : List (Int × Int)} : ∀ (k : Nat) (S : List Nat), S.length = k → S.Nodup → (∀ a ∈ S, a < n) → RunP n ts S
  | 0, S, hl, _, _ => by
    have e : S = [] := List.eq_nil_of_length_eq_zero hl
    subst e
    refine ⟨fun x u hx hu _ _ => ?_, fun x u _ _ h => absurd h List.not_mem_nil⟩
    show tiedR n ts x u = true ↔ _
    unfold tiedR
    rw [decide_eq_true (show x < n ∧ u < n from ⟨hx, hu⟩), Bool.true_and, Bool.or_assoc, Bool.or_eq_true, decide_eq_true_iff]
    constructor
    · rintro (h | h)
      · exact .inl h.symm
      · exact .inr (.one h)
    · rintro (h | h)
      · exact .inl h.symm
      · cases h with
        | one h => exact .inr h
        | step p m h => exact absurd m List.not_mem_nil
  | k + 1, S, hl, nd, hn => by
    have hne : S ≠ [] := fun z => by rw [z] at hl; cases hl
    obtain ⟨S', w, rfl⟩ : ∃ S' w, S = S' ++ [w] := ⟨S.dropLast, S.getLast hne, (List.dropLast_concat_getLast hne).symm⟩
    obtain ⟨nd', _, dis⟩ := List.nodup_append.mp nd
    have wS : w ∉ S' := fun h => dis w h w (List.mem_singleton.mpr rfl) rfl
    have wn : w < n := hn w (List.mem_append_right _ (List.mem_singleton.mpr rfl))
    have ih := run_path (ts := ts) k S' (by rw [List.length_append] at hl; exact Nat.succ.inj hl) nd' fun a ha => hn a (List.mem_append_left _ ha)
    have out : ∀ {x}, x ∉ S' ++ [w] → x ∉ S' ∧ x ≠ w := fun {x} h => ⟨fun z => h (List.mem_append_left _ z), fun z => h (List.mem_append_right _ (List.mem_singleton.mpr z))⟩
    refine ⟨fun x u hx hu h1 h2 => ?_, fun x u hx h1 h2 => ?_⟩
    · obtain ⟨g1, n1⟩ := out h1
      obtain ⟨g2, n2⟩ := out h2
      rw [runR_snoc]
      have q1 := ih.path x u hx hu g1 g2
      have q2 := ih.path x w hx wn g1 wS
      have q3 := ih.path w u wn hu wS g2
      have big : ∀ a ∈ S', a ∈ S' ++ [w] := fun a ha => List.mem_append_left _ ha
      have wm : w ∈ S' ++ [w] := List.mem_append_right _ (List.mem_singleton.mpr rfl)
      unfold takeR
      rw [if_neg n1]
      constructor
      · intro h
        split at h
        · rename_i c
          rw [Bool.and_eq_true, Bool.or_eq_true] at h
          rcases h.1 with z | z
          · exact (q1.mp z).imp_right fun p => p.mono big
          · have p1 := (q2.mp c).resolve_left n1
            have p2 := (q3.mp z).resolve_left fun y => n2 y.symm
            exact .inr (PathT.glue wm (p1.mono big) (p2.mono big))
        · exact (q1.mp h).imp_right fun p => p.mono big
      · intro h
        have main : runR n ts S' x u = true ∨ (runR n ts S' x w = true ∧ runR n ts S' w u = true) := by
          rcases h with h | h
          · exact .inl (q1.mpr (.inl h))
          · rcases h.split with p | ⟨p1, p2⟩
            · exact .inl (q1.mpr (.inr p))
            · exact .inr ⟨q2.mpr (.inr p1), q3.mpr (.inr p2)⟩
        rcases main with m | ⟨m1, m2⟩
        · rw [m]
          split
          · rw [decide_eq_false n2]; rfl
          · rfl
        · rw [if_pos m1, m2, decide_eq_false n2]; simp
    · obtain ⟨g1, n1⟩ := out h1
      rw [runR_snoc]
      unfold takeR
      rw [if_neg n1]
      rcases List.mem_append.mp h2 with h2 | h2
      · rw [ih.gone x u hx g1 h2, ih.gone w u wn wS h2]
        split <;> rfl
      · have e := List.mem_singleton.mp h2
        subst e
        split
        · simp
        · rename_i c; simpa using c
theorem run_ok {n : Nat} {ts : List (Int × Int)} {S : List Nat} (nd : S.Nodup) (hn : ∀ a ∈ S, a < n) : RunP n ts S := run_path S.length S rfl nd hn
/-- only which places are gone matters -/
theorem later_perm {n : Nat} {ts : List (Int × Int)} {S S' : List Nat} {v : Nat} (nd : S.Nodup) (hn : ∀ a ∈ S, a < n) (pm : S'.Perm S) (hv : v < n) (hg : v ∉ S) : laterF n (runR n ts S') v = laterF n (runR n ts S) v := by
  have R1 := run_ok (ts := ts) nd hn
  have R2 := run_ok (ts := ts) (S := S') (pm.nodup_iff.mpr nd) fun a ha => hn a (pm.mem_iff.mp ha)
  have hg' : v ∉ S' := fun h => hg (pm.mem_iff.mp h)
  unfold laterF
  refine List.filter_congr fun u hu => ?_
  have hun := List.mem_range.mp hu
  congr 1
  by_cases c : u ∈ S
  · rw [R1.gone v u hv hg c, R2.gone v u hv hg' (pm.mem_iff.mpr c)]
  · have c' : u ∉ S' := fun h => c (pm.mem_iff.mp h)
    rw [Bool.eq_iff_iff, R1.path v u hv hun hg c, R2.path v u hv hun hg' c']
    constructor
    · exact Or.imp_right fun p => p.mono fun a ha => pm.mem_iff.mp ha
    · exact Or.imp_right fun p => p.mono fun a ha => pm.mem_iff.mpr ha

abbrev s_all_bags : Stmt := top 60
theorem sc_all_bags : FnScope ["graph", "told", "gone", "last"] ["graph"] (defScope s_all_bags) := ⟨rfl, rfl, rfl, by decide +kernel, rfl, by decide +kernel, by decide +kernel⟩
abbrev s_costs : Stmt := top 69
theorem sc_costs : FnScope ["graph"] ["graph"] (defScope s_costs) := ⟨rfl, rfl, rfl, by decide +kernel, rfl, by decide +kernel, by decide +kernel⟩
abbrev s_costs_along : Stmt := top 70
theorem sc_costs_along : FnScope ["bags", "n", "sizes", "told", "gone", "left", "v", "bag", "more"] ["bags"] (defScope s_costs_along) := ⟨rfl, rfl, rfl, by decide +kernel, rfl, by decide +kernel, by decide +kernel⟩
/-! costs of sets of places, as masks -/
theorem pow_testBit {m v : Nat} (h : m.testBit v = true) : 2 ^ v ≤ m := Nat.ge_two_pow_of_testBit h
theorem add_bit {g v : Nat} (h : g.testBit v = false) : (g ||| 2 ^ v).testBit v = true ∧ (g ||| 2 ^ v) - 2 ^ v = g ∧ g + 2 ^ v = g ||| 2 ^ v := by
  have t : (g ||| 2 ^ v).testBit v = true := by rw [Nat.testBit_or, Nat.testBit_two_pow_self]; simp
  have e : (g ||| 2 ^ v) - 2 ^ v = g := Nat.eq_of_testBit_eq fun u => by
    rw [sub_bit t, Nat.testBit_or, Nat.testBit_two_pow]
    by_cases c : u = v
    · subst c; rw [h]; simp
    · rw [decide_eq_false c, decide_eq_false (Ne.symm c)]; simp
  have := pow_testBit t
  exact ⟨t, e, by omega⟩
theorem top_bit {m : Nat} (h : 0 < m) : m.testBit (Builtin.Int.intBits (m : Int) - 1) = true ∧ 0 < Builtin.Int.intBits (m : Int) := by
  have all : ∀ u, m.testBit u = true → u < Builtin.Int.intBits (m : Int) := fun u hu => bits_test hu
  have pos : 0 < Builtin.Int.intBits (m : Int) := by
    apply Classical.byContradiction
    intro c
    have := lt_of_bits (k := 0) fun u hu => by have := all u hu; omega
    omega
  refine ⟨?_, pos⟩
  apply Classical.byContradiction
  intro c
  have := bits_le (lt_of_bits (m := m) (k := Builtin.Int.intBits (m : Int) - 1) fun u hu => by
    have := all u hu
    have : u ≠ Builtin.Int.intBits (m : Int) - 1 := fun z => c (by rw [← z]; exact hu)
    omega)
  omega
def BagQ (n : Nat) (ts : List (Int × Int)) (H : Hp) (q : Addr) (g : Nat) : Prop := ∃ ms S, H q = some (.lst (natV ms)) ∧ S.Nodup ∧ (∀ u : Nat, u ∈ S ↔ g.testBit u = true) ∧ BagsM n ms (runR n ts S)
def spAllBags (K : PySem.W.Frag) : Sp := fun vs H Q _ => ∃ (g : V) (n : Nat) (ts : List (Int × Int)), vs = [g] ∧ GraphV K H g n ts ∧ (∀ t ∈ ts, 0 ≤ t.1 ∧ t.1 < t.2 ∧ t.2 < (n : Int)) ∧ n ≤ 10 ∧
  ∀ (p : Addr) (qs : List Addr) H', Same H H' → H p = none → H' p = some (.lst (qs.map V.ref)) → qs.length = 2 ^ n → (∀ (g : Nat) q, qs[g]? = some q → BagQ n ts H' q g) → Q (.ref p) H'
/-- how many places are met from v when those of g are gone -/
def degF (n : Nat) (ts : List (Int × Int)) (g v : Nat) : Nat := (laterF n (runR n ts (placesF g)) v).length
theorem mem_places {g u : Nat} (h : g < 2 ^ 10) : u ∈ placesF g ↔ g.testBit u = true := by
  unfold placesF
  rw [List.mem_filter, List.mem_range]
  constructor
  · exact fun z => z.2
  · intro z
    refine ⟨?_, z⟩
    apply Classical.byContradiction
    intro c
    rw [test_small h (by omega)] at z
    cases z
theorem run_rowK {n : Nat} {ts : List (Int × Int)} : ∀ (k : Nat) (S : List Nat), S.length = k → ∀ {v : Nat}, v ∈ S → ∀ u, runR n ts S v u = false
  | 0, S, hl, v, h, u => by
    rw [List.eq_nil_of_length_eq_zero hl] at h
    exact absurd h List.not_mem_nil
  | k + 1, S, hl, v, h, u => by
    rcases List.eq_nil_or_concat S with e | ⟨T, w, e⟩
    · rw [e] at h; exact absurd h List.not_mem_nil
    · rw [List.concat_eq_append] at e
      subst e
      rw [List.length_append] at hl
      have hT : T.length = k := by
        have : T.length + 1 = k + 1 := hl
        omega
      rw [runR_snoc]
      unfold takeR
      by_cases c : v = w
      · rw [if_pos c]
      · rw [if_neg c]
        have hv : v ∈ T := (List.mem_append.mp h).resolve_right fun z => c (List.mem_singleton.mp z)
        rw [run_rowK k T hT hv w, if_neg Bool.false_ne_true]
        exact run_rowK k T hT hv u
theorem run_row {n : Nat} {ts : List (Int × Int)} (S : List Nat) {v : Nat} (h : v ∈ S) (u : Nat) : runR n ts S v u = false := run_rowK S.length S rfl h u
theorem bag_gone {n : Nat} {ts : List (Int × Int)} {ms S : List Nat} {v : Nat} (B : BagsM n ms (runR n ts S)) (hv : v < n) (h : v ∈ S) : ms.getD v 0 = 0 :=
  Nat.eq_of_testBit_eq fun u => by rw [B.bit v hv, run_row S h, Nat.zero_testBit]
theorem bag_left {n : Nat} {ts : List (Int × Int)} {ms S : List Nat} {v g : Nat} (B : BagsM n ms (runR n ts S)) (nd : S.Nodup) (gl : g < 2 ^ n) (hS : ∀ u : Nat, u ∈ S ↔ g.testBit u = true) (hv : v < n) (h : v ∉ S) : ms.getD v 0 ≠ 0 ∧ popF (ms.getD v 0) = degF n ts g v + 1 := by
  have hn : ∀ a ∈ S, a < n := fun a ha => by
    apply Classical.byContradiction
    intro c
    have := (hS a).mp ha
    rw [test_small gl (by omega)] at this
    cases this
  have R := run_ok (ts := ts) nd hn
  have vv : runR n ts S v v = true := (R.path v v hv hv h h).mpr (.inl rfl)
  have g10 : g < 2 ^ 10 := Nat.lt_of_lt_of_le gl (Nat.pow_le_pow_right (by decide) B.n10)
  have pm : S.Perm (placesF g) := (List.perm_ext_iff_of_nodup nd (List.nodup_range.sublist List.filter_sublist)).mpr fun u => (hS u).trans (mem_places g10).symm
  have e := later_perm (ts := ts) (pm.nodup_iff.mp nd) (fun a ha => hn a (pm.mem_iff.mpr ha)) pm hv (fun z => h (pm.mem_iff.mpr z))
  refine ⟨fun z => ?_, ?_⟩
  · have b := B.bit v hv v
    rw [z, Nat.zero_testBit, vv] at b
    cases b
  · unfold popF degF
    rw [bags_places B hv, ← e]
    unfold laterF
    have cnt : ∀ l : List Nat, l.Nodup → v ∈ l → (l.filter (runR n ts S v ·)).length = (l.filter fun u => runR n ts S v u && !decide (u = v)).length + 1 := by
      intro l
      induction l with
      | nil => intro _ h; exact absurd h List.not_mem_nil
      | cons a r ih =>
        intro ndl hm
        obtain ⟨na, nr⟩ := List.nodup_cons.mp ndl
        by_cases c : a = v
        · subst c
          rw [List.filter_cons, vv, if_pos rfl, List.filter_cons, vv, decide_eq_true rfl]
          simp only [Bool.not_true, Bool.and_false, Bool.false_eq_true, if_false, List.length_cons]
          congr 2
          refine List.filter_congr fun u hu => ?_
          rw [decide_eq_false (fun z => na (by rw [← z]; exact hu))]
          simp
        · have hr : v ∈ r := (List.mem_cons.mp hm).resolve_left fun z => c z.symm
          rw [List.filter_cons, List.filter_cons, decide_eq_false c]
          simp only [Bool.not_false, Bool.and_true]
          split
          · rw [List.length_cons, List.length_cons, ih nr hr]
          · exact ih nr hr
    exact cnt _ List.nodup_range (List.mem_range.mpr hv)
/-- what is laid down once the sets below g, and of g the places below k, are gone through -/
def doneC (g k S v : Nat) : Prop := S.testBit v = true ∧ (S - 2 ^ v < g ∨ (S - 2 ^ v = g ∧ v < k))
structure CostI (n : Nat) (ts : List (Int × Int)) (g k : Nat) (cs : List Int) : Prop where
  len : cs.length = 2 ^ n
  nil : cs.getD 0 0 = -1
  top : ∀ S, cs.getD S 0 ≤ (n : Int)
  le : ∀ S, 0 < S → S < 2 ^ n → ∀ v, doneC g k S v → cs.getD S 0 ≤ max (cs.getD (S - 2 ^ v) 0) (degF n ts (S - 2 ^ v) v : Int)
  ex : ∀ S, 0 < S → S < 2 ^ n → (cs.getD S 0 = (n : Int) ∧ ∀ v, ¬ doneC g k S v) ∨ ∃ v, doneC g k S v ∧ cs.getD S 0 = max (cs.getD (S - 2 ^ v) 0) (degF n ts (S - 2 ^ v) v : Int)
structure CostOk (n : Nat) (ts : List (Int × Int)) (cs : List Int) : Prop where
  len : cs.length = 2 ^ n
  nil : cs.getD 0 0 = -1
  le : ∀ S, 0 < S → S < 2 ^ n → ∀ v, S.testBit v = true → cs.getD S 0 ≤ max (cs.getD (S - 2 ^ v) 0) (degF n ts (S - 2 ^ v) v : Int)
  ex : ∀ S, 0 < S → S < 2 ^ n → ∃ v, S.testBit v = true ∧ cs.getD S 0 = max (cs.getD (S - 2 ^ v) 0) (degF n ts (S - 2 ^ v) v : Int)
theorem cost_first (n : Nat) (ts : List (Int × Int)) : CostI n ts 0 0 (-1 :: List.replicate (2 ^ n - 1) (n : Int)) := by
  have p : 0 < 2 ^ n := Nat.pow_pos (by decide)
  have at_ : ∀ S, 0 < S → S < 2 ^ n → (-1 :: List.replicate (2 ^ n - 1) (n : Int)).getD S 0 = (n : Int) := fun S h0 h1 => by
    obtain ⟨k, rfl⟩ : ∃ k, S = k + 1 := ⟨S - 1, by omega⟩
    rw [List.getD_cons_succ, List.getD_eq_getElem?_getD, List.getElem?_replicate, if_pos (by omega)]; rfl
  have no : ∀ S v, ¬ doneC 0 0 S v := fun S v ⟨_, h⟩ => by omega
  refine ⟨by rw [List.length_cons, List.length_replicate]; omega, rfl, fun S => ?_, fun S _ _ v h => absurd h (no S v), fun S h0 h1 => .inl ⟨at_ S h0 h1, no S⟩⟩
  by_cases c : S = 0
  · subst c; show (-1 : Int) ≤ _; omega
  · by_cases d : S < 2 ^ n
    · rw [at_ S (by omega) d]; omega
    · rw [List.getD_eq_getElem?_getD, List.getElem?_eq_none (by rw [List.length_cons, List.length_replicate]; omega)]
      show (0 : Int) ≤ _
      omega
theorem cost_skip {n : Nat} {ts : List (Int × Int)} {g k : Nat} {cs : List Int} (I : CostI n ts g k cs) (h : g.testBit k = true) : CostI n ts g (k + 1) cs := by
  have iff : ∀ S v, doneC g (k + 1) S v ↔ doneC g k S v := fun S v => by
    unfold doneC
    constructor
    · rintro ⟨t, h1 | ⟨h1, h2⟩⟩
      · exact ⟨t, .inl h1⟩
      · refine ⟨t, .inr ⟨h1, ?_⟩⟩
        apply Classical.byContradiction
        intro c
        have : v = k := by omega
        subst this
        have := sub_bit t v
        rw [h1, h, decide_eq_true rfl] at this
        simp at this
    · rintro ⟨t, h1 | ⟨h1, h2⟩⟩
      · exact ⟨t, .inl h1⟩
      · exact ⟨t, .inr ⟨h1, by omega⟩⟩
  refine ⟨I.len, I.nil, I.top, fun S h0 h1 v d => I.le S h0 h1 v ((iff S v).mp d), fun S h0 h1 => ?_⟩
  rcases I.ex S h0 h1 with ⟨a, b⟩ | ⟨v, d, e⟩
  · exact .inl ⟨a, fun v z => b v ((iff S v).mp z)⟩
  · exact .inr ⟨v, (iff S v).mpr d, e⟩
theorem getD_setI {cs : List Int} {i j : Nat} {x : Int} (h : i < cs.length) : (cs.set i x).getD j 0 = if j = i then x else cs.getD j 0 := by
  rw [List.getD_eq_getElem?_getD, List.getD_eq_getElem?_getD, List.getElem?_set]
  by_cases c : i = j
  · subst c; rw [if_pos rfl, if_pos h, if_pos rfl]; rfl
  · rw [if_neg c, if_neg (Ne.symm c)]
theorem deg_le (n : Nat) (ts : List (Int × Int)) (g v : Nat) : degF n ts g v ≤ n := later_len n _ v
theorem cost_step {n : Nat} {ts : List (Int × Int)} {g k : Nat} {cs : List Int} (I : CostI n ts g k cs) (hk : k < n) (hg : g < 2 ^ n) (h : g.testBit k = false) :
    CostI n ts g (k + 1) (cs.set (g ||| 2 ^ k) (min (cs.getD (g ||| 2 ^ k) 0) (max (cs.getD g 0) (degF n ts g k : Int)))) := by
  obtain ⟨t, e, s⟩ := add_bit h
  have ml : (g ||| 2 ^ k) < 2 ^ n := Nat.or_lt_two_pow hg (Nat.pow_lt_pow_right (by decide) hk)
  have p : 0 < 2 ^ k := Nat.pow_pos (by decide)
  generalize g ||| 2 ^ k = M at *
  have x1 : max (cs.getD g 0) (degF n ts g k : Int) ≤ (n : Int) := by
    have := I.top g
    have := deg_le n ts g k
    omega
  generalize ex : max (cs.getD g 0) (degF n ts g k : Int) = x at *
  have G : ∀ j, (cs.set M (min (cs.getD M 0) x)).getD j 0 = if j = M then min (cs.getD M 0) x else cs.getD j 0 := fun j => getD_setI (by rw [I.len]; exact ml)
  have low : ∀ S v, doneC g (k + 1) S v → (cs.set M (min (cs.getD M 0) x)).getD (S - 2 ^ v) 0 = cs.getD (S - 2 ^ v) 0 := fun S v ⟨_, d⟩ => by
    rw [G, if_neg (by omega)]
  have iff : ∀ S v, doneC g (k + 1) S v ↔ doneC g k S v ∨ (S = M ∧ v = k) := fun S v => by
    unfold doneC
    constructor
    · rintro ⟨tt, h1 | ⟨h1, h2⟩⟩
      · exact .inl ⟨tt, .inl h1⟩
      · by_cases c : v = k
        · subst c
          have := pow_testBit tt
          exact .inr ⟨by omega, rfl⟩
        · exact .inl ⟨tt, .inr ⟨h1, by omega⟩⟩
    · rintro (⟨tt, h1 | ⟨h1, h2⟩⟩ | ⟨rfl, rfl⟩)
      · exact ⟨tt, .inl h1⟩
      · exact ⟨tt, .inr ⟨h1, by omega⟩⟩
      · exact ⟨t, .inr ⟨e, by omega⟩⟩
  refine ⟨by rw [List.length_set]; exact I.len, by rw [G, if_neg (by omega)]; exact I.nil, fun S => ?_, fun S h0 h1 v d => ?_, fun S h0 h1 => ?_⟩
  · rw [G]
    split
    · omega
    · exact I.top S
  · rw [low S v d, G]
    rcases (iff S v).mp d with d' | ⟨rfl, rfl⟩
    · have := I.le S h0 h1 v d'
      split
      · rename_i c; rw [← c]; omega
      · exact this
    · rw [if_pos rfl, e, ex]; omega
  · by_cases c : S = M
    · subst c
      right
      by_cases d : x < cs.getD S 0
      · refine ⟨k, (iff S k).mpr (.inr ⟨rfl, rfl⟩), ?_⟩
        rw [G, if_pos rfl, G, if_neg (by omega), e, ex]
        omega
      · rcases I.ex S h0 h1 with ⟨a, b⟩ | ⟨v, dd, ee⟩
        · refine ⟨k, (iff S k).mpr (.inr ⟨rfl, rfl⟩), ?_⟩
          rw [G, if_pos rfl, G, if_neg (by omega), e, ex]
          omega
        · have d' := (iff S v).mpr (.inl dd)
          refine ⟨v, d', ?_⟩
          rw [low S v d', G, if_pos rfl, ← ee]
          omega
    · rcases I.ex S h0 h1 with ⟨a, b⟩ | ⟨v, dd, ee⟩
      · refine .inl ⟨by rw [G, if_neg c]; exact a, fun v z => ?_⟩
        rcases (iff S v).mp z with z | z
        · exact b v z
        · exact c z.1
      · have d' := (iff S v).mpr (.inl dd)
        exact .inr ⟨v, d', by rw [low S v d', G, if_neg c]; exact ee⟩
theorem cost_next {n : Nat} {ts : List (Int × Int)} {g : Nat} {cs : List Int} (I : CostI n ts g n cs) : CostI n ts (g + 1) 0 cs := by
  have iff : ∀ S, S < 2 ^ n → ∀ v, doneC (g + 1) 0 S v ↔ doneC g n S v := fun S hS v => by
    unfold doneC
    constructor
    · rintro ⟨t, h1 | h1⟩
      · have vn : v < n := by
          apply Classical.byContradiction
          intro c
          rw [test_small hS (by omega)] at t
          cases t
        by_cases c : S - 2 ^ v = g
        · exact ⟨t, .inr ⟨c, vn⟩⟩
        · exact ⟨t, .inl (by omega)⟩
      · omega
    · rintro ⟨t, h1 | ⟨h1, _⟩⟩
      · exact ⟨t, .inl (by omega)⟩
      · exact ⟨t, .inl (by omega)⟩
  refine ⟨I.len, I.nil, I.top, fun S h0 h1 v d => I.le S h0 h1 v ((iff S h1 v).mp d), fun S h0 h1 => ?_⟩
  rcases I.ex S h0 h1 with ⟨a, b⟩ | ⟨v, d, e⟩
  · exact .inl ⟨a, fun v z => b v ((iff S h1 v).mp z)⟩
  · exact .inr ⟨v, (iff S h1 v).mpr d, e⟩
theorem cost_end {n : Nat} {ts : List (Int × Int)} {cs : List Int} (I : CostI n ts (2 ^ n) 0 cs) : CostOk n ts cs := by
  have all : ∀ S, S < 2 ^ n → ∀ v, S.testBit v = true → doneC (2 ^ n) 0 S v := fun S hS v t => ⟨t, .inl (Nat.lt_of_le_of_lt (Nat.sub_le _ _) hS)⟩
  refine ⟨I.len, I.nil, fun S h0 h1 v t => I.le S h0 h1 v (all S h1 v t), fun S h0 h1 => ?_⟩
  rcases I.ex S h0 h1 with ⟨a, b⟩ | ⟨v, d, e⟩
  · exact absurd (all S h1 _ (top_bit h0).1) (b _)
  · exact ⟨v, d.1, e⟩
def spCostsAlong (K : PySem.W.Frag) : Sp := fun vs H Q _ => ∃ (p : Addr) (qs : List Addr) (n : Nat) (ts : List (Int × Int)), vs = [.ref p] ∧ H p = some (.lst (qs.map V.ref)) ∧ qs.length = 2 ^ n ∧ n ≤ 10 ∧ (∀ (g : Nat) q, qs[g]? = some q → BagQ n ts H q g) ∧
  ∀ r cs H', Same H H' → H r = none → H' r = some (.lst (cs.map V.int)) → CostOk n ts cs → Q (.ref r) H'
def spCosts (K : PySem.W.Frag) : Sp := fun vs H Q _ => ∃ (g : V) (n : Nat) (ts : List (Int × Int)), vs = [g] ∧ GraphV K H g n ts ∧ (∀ t ∈ ts, 0 ≤ t.1 ∧ t.1 < t.2 ∧ t.2 < (n : Int)) ∧ n ≤ 10 ∧
  ∀ r cs H', Same H H' → H r = none → H' r = some (.lst (cs.map V.int)) → CostOk n ts cs → Q (.ref r) H'

end K


namespace K
open PySem L2 Lw Bg
section
variable {P : Program} {w : World} {K : PySem.W.Frag} {mg : Str → Option Value} {base : Heap}
set_option maxHeartbeats 8000000 in
theorem ok_all_bags (B : Bl mg) (d_first_bags : Dn K mg "first_bags" s_first_bags ["graph"]) (d_taken_out : Dn K mg "taken_out" s_taken_out ["bags", "v"]) (d_all_bags : Dn K mg "all_bags" s_all_bags ["graph"]) : FnOk P w K mg base CX0 2 d_all_bags.f d_all_bags.fd ["graph"] (spAllBags K) := by
  have G_first_bags : FnOk P w K mg base CX0 1 _ _ _ _ := ok_first_bags B d_first_bags
  have G_taken_out : FnOk P w K mg base CX0 1 _ _ _ _ := ok_taken_out B d_taken_out
  refine d_all_bags.F.ok sc_all_bags (fun vs H Q E h => ?_) (fun cdv A outer s H vs Q E hr h => ?_)
  · obtain ⟨g, n, ts, rfl, _⟩ := h
    rfl
  obtain ⟨g, n, ts, rfl, hG, okt, n10, q⟩ := h
  obtain ⟨pg, ta, rfl, hP, hT⟩ := id hG
  have p10 : 2 ^ n ≤ 2 ^ 10 := Nat.pow_le_pow_right (by decide) n10
  have p0 : 0 < 2 ^ n := Nat.pow_pos (by decide)
  have e10 : (2 : Nat) ^ 10 = 1024 := by decide
  refine ⟨_, (pss_cons (ps_set (i := 1) sc_all_bags.nd rfl (Or.inl rfl) (pe_lstN (pa_cons (pe_call G_first_bags hr rfl d_first_bags.m d_first_bags.F.kp d_first_bags.b .nil pass0 (pa_cons (pv 0) pa_nil)) pa_nil)))
      (pss_cons (ps_for PassesOwn.never rfl (pi_range2 rfl B.range (pa_cons pe_int (pa_cons (pe_op op_shl pe_int (pe_ix (ix_tupK (K := K) rfl) (pv 0) pe_int (fun _ _ => rfl))) pa_nil))) (pg_name (i := 2) sc_all_bags.nd rfl (Or.inl rfl))
      (pss_cons (ps_set (i := 3) sc_all_bags.nd rfl (Or.inl rfl) (pe_op op_sub (pe_bm0K (K := K) rfl PySem.F.plainAttrs_int PySem.F.slot_int_bit_length PySem.F.type_int_bit_length mt_bits (pv 2)) pe_int))
      (pss_one (ps_expr (pe_bmK (K := K) rfl PySem.F.plainAttrs_list PySem.F.slot_list_append PySem.F.type_list_append mt_appendW (pv 1) (pa_cons (pe_call G_taken_out hr rfl d_taken_out.m d_taken_out.F.kp d_taken_out.b .nil pass0 (pa_cons (pe_ix (ix_listK (K := K) rfl) (pv 1) (pe_op op_sub (pv 2) (pe_op op_shl pe_int (pv 3))) (fun _ _ => rfl)) (pa_cons (pv 3) pa_nil))) pa_nil))))))
      (pss_one (ps_ret (pv 1))))), ?_⟩
  refine ⟨_, rfl, .ref pg, n, ts, rfl, hG, okt, n10, fun p1 ms1 H1 s1 f1 h1 B1 => ?_⟩
  refine ⟨(by show 1 ≤ 1000; decide), fun p H2 n2 => ?_⟩
  have s02 : Same H H2 := s1.trans n2.same
  have fp : H p = none := s1.free n2.fresh
  have sh := shl1 n
  obtain ⟨N, hN⟩ : ∃ N, N = 2 ^ n - 1 := ⟨_, rfl⟩
  refine ⟨_, rfl, pg, _, _, _, rfl, rfl, s02.tupq hP, rfl, _, _, rfl, rfl, ⟨by omega, by omega, by decide⟩, _, _, rfl, ⟨by decide, by decide, by rw [sh]; omega, by rw [sh]; omega⟩, ?_⟩
  rw [show ((1 : Int) * 2 ^ ((n : Nat) : Int).toNat - 1).toNat = N by rw [sh]; omega]
  refine for_range (lo := 1) (n := N) (fun i σ H' => ∃ (qs : List Addr) (gg ll : Option V), σ = [some (.ref pg), some (.ref p), gg, ll] ∧ Same H H' ∧ H' p = some (.lst (qs.map V.ref)) ∧ qs.length = i + 1 ∧ p ∉ qs ∧ ∀ (g : Nat) q, qs[g]? = some q → BagQ n ts H' q g) ⟨[p1], none, none, rfl, s02, n2.here, rfl, fun z => ?_, fun g q e => ?_⟩ ?_ ?_
  · have z := List.mem_singleton.mp z
    have := n2.fresh
    rw [z, h1] at this
    cases this
  · cases g with
    | zero =>
      have e' : q = p1 := by
        have : some p1 = some q := e
        injection this with this
        exact this.symm
      subst e'
      exact ⟨ms1, [], n2.same _ _ h1, .nil, fun u => by rw [Nat.zero_testBit]; exact ⟨fun z => absurd z List.not_mem_nil, fun z => by cases z⟩, B1⟩
    | succ g => cases e
  · rintro i σ H3 hi ⟨qs, gg, ll, rfl, s3, h3, lq, np, bq⟩
    have ei : (1 : Int) + (i : Int) = ((i + 1 : Nat) : Int) := by omega
    rw [ei]
    obtain ⟨tb, tp⟩ := top_bit (m := i + 1) (by omega)
    obtain ⟨L, hL⟩ : ∃ L, L = Builtin.Int.intBits ((i + 1 : Nat) : Int) - 1 := ⟨_, rfl⟩
    rw [← hL] at tb
    have Ln : L < n := by
      apply Classical.byContradiction
      intro c
      rw [test_small (k := n) (by omega) (by omega)] at tb
      cases tb
    have le := pow_testBit tb
    refine ⟨_, rfl, rfl, i + 1, rfl, rfl, _, _, rfl, rfl, ?_⟩
    dsimp only
    have eL : ((Builtin.Int.intBits ((i + 1 : Nat) : Int) : Nat) : Int) - 1 = (L : Int) := by omega
    rw [eL]
    have gl : i + 1 - 2 ^ L < qs.length := by
      have : 0 < 2 ^ L := Nat.pow_pos (by decide)
      omega
    obtain ⟨ms, S, hq, nd, hS, BM⟩ := bq _ _ (List.getElem?_eq_getElem gl)
    have hx : (qs.map V.ref)[i + 1 - 2 ^ L]? = some (V.ref qs[i + 1 - 2 ^ L]) := by rw [List.getElem?_map, List.getElem?_eq_getElem gl]; rfl
    have ex : ((i + 1 : Nat) : Int) - 1 * 2 ^ ((L : Nat) : Int).toNat = ((i + 1 - 2 ^ L : Nat) : Int) := by
      rw [shl1 L]; omega
    refine ⟨_, rfl, .inl ⟨rfl, _, SqL.of h3⟩, _, rfl, _, rfl, _, rfl, _, _, rfl, rfl, ⟨by omega, by omega, by decide⟩, _, _, rfl, rfl, p, _, _, V.ref qs[i + 1 - 2 ^ L], rfl, rfl, SqL.of h3, (by rw [ex]; exact atI_nat hx), ?_⟩
    refine ⟨_, rfl, _, n, ms, _, L, rfl, SqL.of hq, BM, Ln, fun p4 H4 s4 f4 h4 => ?_⟩
    refine ⟨p, _, _, rfl, rfl, s4 _ _ h3, (by rw [List.length_map]; omega), fun H5 c5 => ?_⟩
    have p4p : p4 ≠ p := fun z => by rw [z, h3] at f4; cases f4
    refine ⟨qs ++ [p4], _, _, rfl, (s3.trans s4).chg fp c5, ?_, by rw [List.length_append, lq]; rfl, fun z => ?_, fun g q e => ?_⟩
    · rw [c5.here, List.map_append]; rfl
    · rcases List.mem_append.mp z with z | z
      · exact np z
      · exact p4p (List.mem_singleton.mp z).symm
    · by_cases c : g < qs.length
      · rw [List.getElem?_append_left c] at e
        obtain ⟨ms', S', hq', nd', hS', BM'⟩ := bq g q e
        have qp : q ≠ p := fun z => np (by rw [← z]; exact List.mem_of_getElem? e)
        exact ⟨ms', S', (c5.rest q qp).trans (s4 _ _ hq'), nd', hS', BM'⟩
      · rw [List.getElem?_append_right (by omega)] at e
        have g0 : g - qs.length = 0 := by
          apply Classical.byContradiction
          intro z
          rw [List.getElem?_eq_none (by show 1 ≤ _; omega)] at e
          cases e
        rw [g0] at e
        have e' : q = p4 := by
          have : some p4 = some q := e
          injection this with this
          exact this.symm
        subst e'
        have gi : g = i + 1 := by omega
        subst gi
        have nL : L ∉ S := fun z => by
          have := (hS L).mp z
          rw [sub_bit tb, decide_eq_true rfl] at this
          simp at this
        refine ⟨takeM L ms, S ++ [L], (c5.rest q p4p).trans h4, List.nodup_append.mpr ⟨nd, by simp, fun x hx y hy z => ?_⟩, fun u => ?_, by rw [runR_snoc]; exact take_ok BM Ln⟩
        · rw [List.mem_singleton.mp hy] at z
          rw [z] at hx
          exact nL hx
        · rw [List.mem_append, List.mem_singleton, hS, sub_bit tb]
          by_cases d : u = L
          · subst d; rw [tb]; simp
          · simp [d]
  · rintro σ H3 ⟨qs, gg, ll, rfl, s3, h3, lq, np, bq⟩
    exact ⟨_, rfl, q p qs H3 s3 fp h3 (by omega) bq⟩
set_option maxHeartbeats 8000000 in
theorem ok_costs_along (B : Bl mg) (d_mask_sizes : Dn K mg "mask_sizes" s_mask_sizes ["n"]) (d_costs_along : Dn K mg "costs_along" s_costs_along ["bags"]) : FnOk P w K mg base CX0 2 d_costs_along.f d_costs_along.fd ["bags"] (spCostsAlong K) := by
  have G_mask_sizes : FnOk P w K mg base CX0 1 _ _ _ _ := ok_mask_sizes B d_mask_sizes
  refine d_costs_along.F.ok sc_costs_along (fun vs H Q E h => ?_) (fun cdv A outer s H vs Q E hr h => ?_)
  · obtain ⟨p, qs, n, ts, rfl, _⟩ := h
    rfl
  obtain ⟨p, qs, n, ts, rfl, hp, lq, n10, bq, q⟩ := h
  have p10 : 2 ^ n ≤ 2 ^ 10 := Nat.pow_le_pow_right (by decide) n10
  have p0 : 0 < 2 ^ n := Nat.pow_pos (by decide)
  have e10 : (2 : Nat) ^ 10 = 1024 := by decide
  refine ⟨_, (pss_cons (ps_set (i := 1) sc_costs_along.nd rfl (Or.inr rfl) (pe_callB (call_lenK (K := K) rfl) rfl B.len (by decide +kernel) (pa_cons (pe_ix (ix_listK (K := K) rfl) (pv 0) pe_int (fun _ _ => rfl)) pa_nil)))
      (pss_cons (ps_set (i := 2) sc_costs_along.nd rfl (Or.inl rfl) (pe_call G_mask_sizes hr rfl d_mask_sizes.m d_mask_sizes.F.kp d_mask_sizes.b .nil pass0 (pa_cons (pv 1) pa_nil)))
      (pss_cons (ps_set (i := 3) sc_costs_along.nd rfl (Or.inl rfl) (pe_op op_catW (pe_lstN (pa_cons (pe_un un_neg pe_int) pa_nil)) (pe_lc ["mask", "n"] [none, some 1]  (by kernel_rfl) rfl (pi_range2 rfl B.range (pa_cons pe_int (pa_cons (pe_callB (call_lenK (K := K) rfl) rfl B.len (by decide +kernel) (pa_cons (pv 0) pa_nil)) pa_nil))) (fun _ _ _ _ _ => (pg_name (i := 0) (show (["mask", "n"] : List Str).Nodup by decide +kernel) rfl (Or.inl rfl))) (fun _ _ _ _ _ => pts_nil) (fun _ _ _ _ _ => (pv 1)))))
      (pss_cons (ps_for PassesOwn.never rfl (pi_enum (K := K) rfl rfl B.enumerate (pa_cons (pv 0) pa_nil)) (pg_tupK (K := K) (n := 2) rfl rfl (pgs_cons (pg_name (i := 4) sc_costs_along.nd rfl (Or.inl rfl)) (pgs_cons (pg_name (i := 5) sc_costs_along.nd rfl (Or.inl rfl)) pgs_nil)))
      (pss_one (ps_for PassesOwn.never rfl (pi_enum (K := K) rfl rfl B.enumerate (pa_cons (pv 5) pa_nil)) (pg_tupK (K := K) (n := 2) rfl rfl (pgs_cons (pg_name (i := 6) sc_costs_along.nd rfl (Or.inl rfl)) (pgs_cons (pg_name (i := 7) sc_costs_along.nd rfl (Or.inl rfl)) pgs_nil)))
      (pss_one (ps_if (pt_truthK (K := K) rfl (pv 7) (fun _ => rfl))
      (pss_cons (ps_set (i := 8) sc_costs_along.nd rfl (Or.inl rfl) (pe_op op_or (pv 4) (pe_op op_shl pe_int (pv 6))))
      (pss_one (ps_asg (pe_callB (call_min2 rfl) rfl B.min (by decide +kernel) (pa_cons (pe_ix (ix_listK (K := K) rfl) (pv 3) (pv 8) (fun _ _ => rfl)) (pa_cons (pe_callB (call_max2 rfl) rfl B.max (by decide +kernel) (pa_cons (pe_ix (ix_listK (K := K) rfl) (pv 3) (pv 4) (fun _ _ => rfl)) (pa_cons (pe_op op_sub (pe_ix (ix_listK (K := K) rfl) (pv 2) (pv 7) (fun _ _ => rfl)) pe_int) pa_nil))) pa_nil))) (pg_sub (pv 3) (pv 8) set_listN))))
      pss_nil)))))
      (pss_one (ps_ret (pv 3))))))), ?_⟩
  obtain ⟨ms0, S0, hq0, nd0, hS0, B0⟩ := bq 0 _ (List.getElem?_eq_getElem (show 0 < qs.length by omega))
  have x0 : (qs.map V.ref)[0]? = some (V.ref qs[0]) := by rw [List.getElem?_map, List.getElem?_eq_getElem (show 0 < qs.length by omega)]; rfl
  refine ⟨_, rfl, p, _, _, _, rfl, rfl, SqL.of hp, atI_nat (j := 0) x0, _, _, rfl, .inl (SqL.of hq0), ?_⟩
  rw [natV_len, B0.len]
  refine ⟨_, rfl, n, rfl, n10, fun pz H1 n1 => ?_⟩
  refine ⟨_, rfl, (by show 1 ≤ 1000; decide), fun pm H2 n2 => ?_⟩
  have s02 : Same H H2 := n1.same.trans n2.same
  obtain ⟨N, hN⟩ : ∃ N, N = 2 ^ n - 1 := ⟨_, rfl⟩
  have lq' : (qs.map V.ref).length = 2 ^ n := by rw [List.length_map, lq]
  refine ⟨_, rfl, p, _, rfl, .inl (SqL.of (s02 _ _ hp)), _, _, rfl, ⟨by decide, by decide, by omega, by omega⟩, ?_⟩
  rw [show ((((qs.map V.ref).length : Nat) : Int) - 1).toNat = N by omega]
  refine lc_fmR (fun _ => some (.int (n : Int))) (Nat.le_trans (show N ≤ 5000 by omega) (by decide)) (fun j H3 N' hj s3 hN' => ?_) (fun H3 pl s3 hfree => ?_)
  · exact ⟨_, rfl, hN' H3 s3⟩
  obtain ⟨G, hnew⟩ : ∃ G, G = upd H3 pl (.lst ((List.range N).filterMap fun _ => some (V.int (n : Int)))) := ⟨_, rfl⟩
  have nG : New H3 pl (.lst ((List.range N).filterMap fun _ => some (V.int (n : Int)))) G := by rw [hnew]; exact New.mk0 hfree
  rw [← hnew]
  have sG : Same H2 G := s3.trans nG.same
  have eN : (List.range N).filterMap (fun _ => some (V.int (n : Int))) = (List.replicate N (n : Int)).map V.int := by
    rw [List.map_replicate]
    have : ∀ k, (List.range k).filterMap (fun _ => some (V.int (n : Int))) = List.replicate k (V.int (n : Int)) := fun k => by
      induction k with
      | zero => rfl
      | succ k ih => rw [List.range_succ, List.filterMap_append, ih, List.replicate_succ']; rfl
    exact this N
  have hl := nG.here
  rw [eN] at hl
  refine ⟨pm, pl, _, _, rfl, rfl, sG _ _ n2.here, hl, (by rw [List.length_map, List.length_replicate]; show 1 + N ≤ 5000; omega), fun pt H4 n4 => ?_⟩
  have n4' : New G pt (.lst ((-1 :: List.replicate (2 ^ n - 1) (n : Int)).map V.int)) H4 := by rw [← hN]; exact n4
  have s14 : Same H1 H4 := n2.same.trans (sG.trans n4.same)
  have s04 : Same H H4 := n1.same.trans s14
  have fpt : H pt = none := s02.free (sG.free n4.fresh)
  have pzt : pz ≠ pt := fun z => by
    have := n4.fresh
    rw [← z, (n2.same.trans sG) _ _ n1.here] at this
    cases this
  have minif : ∀ i j : Int, (if j < i then j else i) = min i j := fun i j => by omega
  have maxif : ∀ i j : Int, (if j > i then j else i) = max i j := fun i j => by omega
  have csAt : ∀ {cs : List Int} {M : Nat}, M < cs.length → atI (cs.map V.int) (M : Int) = some (.int (cs.getD M 0)) := fun {cs M} h => atI_nat (by
    rw [List.getElem?_map, List.getElem?_eq_getElem h, List.getD_eq_getElem?_getD, List.getElem?_eq_getElem h]; rfl)
  refine ⟨_, rfl, p, rfl, ⟨_, SqL.of (s04 _ _ hp)⟩, ?_⟩
  refine for_enum (xs := qs.map V.ref) (fun i σ H' => ∃ (cs : List Int) (gg ll vv bb mm : Option V), σ = [some (.ref p), some (.int n), some (.ref pz), some (.ref pt), gg, ll, vv, bb, mm] ∧ Same H H' ∧ H' pz = some (.lst (sizesV (2 ^ n))) ∧ H' pt = some (.lst (cs.map V.int)) ∧ CostI n ts i 0 cs) ⟨_, none, none, none, none, none, rfl, s04, s14 _ _ n1.here, n4'.here, cost_first n ts⟩ (fun i σ H' _ ⟨_, _, _, _, _, _, _, s, _⟩ => SqL.of (s _ _ hp)) ?_ ?_
  · rintro g x σ H5 pe H6 hx ⟨cs, gg, ll, vv, bb, mm, rfl, s5, hz5, ht5, CI⟩ n6
    rw [List.getElem?_map] at hx
    obtain ⟨qg, hqg, rfl⟩ := Option.map_eq_some_iff.mp hx
    have gl : g < 2 ^ n := by
      rw [← lq]
      exact (List.getElem?_eq_some_iff.mp hqg).1
    obtain ⟨ms, S, hms, nd, hS, BM⟩ := bq g qg hqg
    refine ⟨pe, _, rfl, SqT.of n6.here, rfl, _, _, rfl, _, _, rfl, rfl, ?_⟩
    have s6 : Same H H6 := s5.trans n6.same
    refine ⟨_, rfl, qg, rfl, ⟨_, SqL.of (s6 _ _ hms)⟩, ?_⟩
    refine for_enum (xs := natV ms) (fun v σ H' => ∃ (cs : List Int) (vv bb mm : Option V), σ = [some (.ref p), some (.int n), some (.ref pz), some (.ref pt), some (.int (g : Int)), some (.ref qg), vv, bb, mm] ∧ Same H H' ∧ H' pz = some (.lst (sizesV (2 ^ n))) ∧ H' pt = some (.lst (cs.map V.int)) ∧ CostI n ts g v cs) ⟨cs, _, _, _, rfl, s6, n6.same _ _ hz5, n6.same _ _ ht5, CI⟩ (fun i σ H' _ ⟨_, _, _, _, _, s, _⟩ => SqL.of (s _ _ hms)) ?_ ?_
    · rintro v x σ H7 pf H8 hx ⟨cs, vv, bb, mm, rfl, s7, hz7, ht7, CI⟩ n8
      have vn : v < n := by
        have := (List.getElem?_eq_some_iff.mp hx).1
        rw [natV_len, BM.len] at this
        exact this
      have ex : x = .int ((ms.getD v 0 : Nat) : Int) := by
        rw [List.getElem?_map, BM.get vn] at hx
        injection hx with hx
        exact hx.symm
      subst ex
      refine ⟨pf, _, rfl, SqT.of n8.here, rfl, _, _, rfl, _, _, rfl, rfl, ?_⟩
      have s8 : Same H H8 := s7.trans n8.same
      have hz8 := n8.same _ _ hz7
      have ht8 := n8.same _ _ ht7
      refine ⟨_, rfl, _, rfl, ?_⟩
      by_cases c : v ∈ S
      · rw [bag_gone BM vn c]
        exact iteF ⟨cs, _, _, _, rfl, s8, hz8, ht8, cost_skip CI ((hS v).mp c)⟩
      · obtain ⟨nz, pop⟩ := bag_left BM nd gl hS vn c
        have gb : g.testBit v = false := by
          cases e : g.testBit v with
          | false => rfl
          | true => exact absurd ((hS v).mpr e) c
        rw [show ((((ms.getD v 0 : Nat) : Int)) != 0) = true from by simpa using nz]
        refine iteT ?_
        obtain ⟨tb, sb, ab⟩ := add_bit gb
        have ml : (g ||| 2 ^ v) < 2 ^ n := Nat.or_lt_two_pow gl (Nat.pow_lt_pow_right (by decide) vn)
        refine ⟨_, rfl, _, rfl, _, _, rfl, rfl, ⟨by omega, by omega, by decide⟩, _, _, rfl, rfl, ?_⟩
        dsimp only
        rw [shl1, or_nat]
        have bl : ms.getD v 0 < 2 ^ n := lt_of_bits fun u hu => by
          rw [BM.bit v vn] at hu
          exact (BM.far v u hu).2
        have lc := CI.len
        refine ⟨_, rfl, _, rfl, pt, _, _, _, rfl, rfl, SqL.of ht8, csAt (by omega), _, rfl, _, rfl, pt, _, _, _, rfl, rfl, SqL.of ht8, csAt (by omega), _, rfl, _, rfl, pz, _, _, _, rfl, rfl, SqL.of hz8, sizesV_at bl, _, _, rfl, rfl, _, _, rfl, _, _, rfl, ?_⟩
        rw [minif, maxif, show (((popF (ms.getD v 0) : Nat) : Int) - 1) = (degF n ts g v : Int) by omega]
        refine ⟨_, rfl, _, rfl, pt, _, _, g ||| 2 ^ v, rfl, rfl, ht8, ixN_nat (by rw [List.length_map]; omega), fun H9 c9 => ?_⟩
        refine ⟨_, _, _, _, rfl, s8.chg fpt c9, (c9.rest pz pzt).trans hz8, ?_, cost_step CI vn gl gb⟩
        rw [c9.here, List.map_set]
    · rintro σ H7 ⟨cs, vv, bb, mm, rfl, s7, hz7, ht7, CI⟩
      rw [natV_len, BM.len] at CI
      exact ⟨cs, _, _, _, _, _, rfl, s7, hz7, ht7, cost_next CI⟩
  · rintro σ H5 ⟨cs, gg, ll, vv, bb, mm, rfl, s5, hz5, ht5, CI⟩
    rw [lq'] at CI
    exact ⟨_, rfl, q pt cs H5 s5 fpt ht5 (cost_end CI)⟩
set_option maxHeartbeats 4000000 in
theorem ok_costs (B : Bl mg) (d_mask_sizes : Dn K mg "mask_sizes" s_mask_sizes ["n"]) (d_first_bags : Dn K mg "first_bags" s_first_bags ["graph"]) (d_taken_out : Dn K mg "taken_out" s_taken_out ["bags", "v"]) (d_all_bags : Dn K mg "all_bags" s_all_bags ["graph"]) (d_costs_along : Dn K mg "costs_along" s_costs_along ["bags"]) (d_costs : Dn K mg "costs" s_costs ["graph"]) : FnOk P w K mg base CX0 3 d_costs.f d_costs.fd ["graph"] (spCosts K) := by
  have G_all_bags : FnOk P w K mg base CX0 2 _ _ _ _ := ok_all_bags B d_first_bags d_taken_out d_all_bags
  have G_costs_along : FnOk P w K mg base CX0 2 _ _ _ _ := ok_costs_along B d_mask_sizes d_costs_along
  refine d_costs.F.ok sc_costs (fun vs H Q E h => ?_) (fun cdv A outer s H vs Q E hr h => ?_)
  · obtain ⟨g, n, ts, rfl, _⟩ := h
    rfl
  obtain ⟨g, n, ts, rfl, hG, okt, n10, q⟩ := h
  refine ⟨_, (pss_one (ps_ret (pe_call G_costs_along hr rfl d_costs_along.m d_costs_along.F.kp d_costs_along.b .nil pass0 (pa_cons (pe_call G_all_bags hr rfl d_all_bags.m d_all_bags.F.kp d_all_bags.b .nil pass0 (pa_cons (pv 0) pa_nil)) pa_nil)))), ?_⟩
  refine ⟨_, rfl, g, n, ts, rfl, hG, okt, n10, fun p qs H1 s1 f1 h1 lq bq => ?_⟩
  exact ⟨p, qs, n, ts, rfl, h1, lq, n10, bq, fun r cs H2 s2 f2 h2 C => q r cs H2 (s1.trans s2) (s1.free f2) h2 C⟩
end

end K


namespace K
open PySem L2 Lw Bg
/-! orders step by step, over masks -/
theorem places_ok {n g : Nat} (n10 : n ≤ 10) (gl : g < 2 ^ n) : (placesF g).Nodup ∧ (∀ a ∈ placesF g, a < n) ∧ ∀ u, u ∈ placesF g ↔ g.testBit u = true := by
  have g10 : g < 2 ^ 10 := Nat.lt_of_lt_of_le gl (Nat.pow_le_pow_right (by decide) n10)
  refine ⟨List.nodup_range.sublist List.filter_sublist, fun a ha => ?_, fun u => mem_places g10⟩
  apply Classical.byContradiction
  intro c
  have := (mem_places g10).mp ha
  rw [test_small gl (by omega)] at this
  cases this
/-- an order of the places of a mask, each step good -/
inductive FreeP (n : Nat) (good : Nat → Nat → Prop) : Nat → List Nat → Prop
  | nil : FreeP n good 0 []
  | snoc {S v : Nat} {os : List Nat} : FreeP n good S os → S.testBit v = false → v < n → good S v → FreeP n good (S ||| 2 ^ v) (os ++ [v])
theorem FreeP.lt {n : Nat} {good : Nat → Nat → Prop} {S : Nat} {os : List Nat} (h : FreeP n good S os) : S < 2 ^ n := by
  induction h with
  | nil => exact Nat.pow_pos (by decide)
  | snoc _ _ vn _ ih => exact Nat.or_lt_two_pow ih (Nat.pow_lt_pow_right (by decide) vn)
theorem FreeP.mem {n : Nat} {good : Nat → Nat → Prop} {S : Nat} {os : List Nat} (h : FreeP n good S os) : ∀ u, u ∈ os ↔ S.testBit u = true := by
  induction h with
  | nil => intro u; rw [Nat.zero_testBit]; simp
  | @snoc S v os _ _ vn _ ih =>
    intro u
    rw [List.mem_append, ih u, Nat.testBit_or, Nat.testBit_two_pow, Bool.or_eq_true, List.mem_singleton, decide_eq_true_iff]
    exact or_congr_right eq_comm
theorem FreeP.weak {n : Nat} {good good' : Nat → Nat → Prop} {S : Nat} {os : List Nat} (h : FreeP n good S os) (hw : ∀ S v, S < 2 ^ n → v < n → S.testBit v = false → good S v → good' S v) : FreeP n good' S os := by
  induction h with
  | nil => exact .nil
  | snoc p f vn g ih => exact .snoc ih f vn (hw _ _ p.lt vn f g)
/-- the greatest number of later places in an order -/
inductive WidP (n : Nat) (ts : List (Int × Int)) : Nat → List Nat → Int → Prop
  | nil : WidP n ts 0 [] (-1)
  | snoc {S v : Nat} {os : List Nat} {G : Int} : WidP n ts S os G → S.testBit v = false → v < n → WidP n ts (S ||| 2 ^ v) (os ++ [v]) (max G (degF n ts S v : Int))
theorem WidP.free {n : Nat} {ts : List (Int × Int)} {S : Nat} {os : List Nat} {G : Int} (h : WidP n ts S os G) : FreeP n (fun S v => (degF n ts S v : Int) ≤ G) S os := by
  induction h with
  | nil => exact .nil
  | snoc _ f vn ih => exact .snoc (ih.weak fun S v _ _ _ g => by omega) f vn (by omega)
theorem WidP.lt {n : Nat} {ts : List (Int × Int)} {S : Nat} {os : List Nat} {G : Int} (h : WidP n ts S os G) : S < 2 ^ n := h.free.lt
/-- what is free for w is at most w wide -/
theorem wid_le {n : Nat} {ts : List (Int × Int)} {w : Int} (w1 : -1 ≤ w) {S : Nat} {os : List Nat} (h : FreeP n (fun S v => (degF n ts S v : Int) ≤ w) S os) : ∃ G, WidP n ts S os G ∧ G ≤ w := by
  induction h with
  | nil => exact ⟨-1, .nil, w1⟩
  | snoc p f vn g ih =>
    obtain ⟨G, hG, le⟩ := ih
    exact ⟨_, .snoc hG f vn, by omega⟩
/-- the costs are the least of the orders' widths -/
theorem wid_cost {n : Nat} {ts : List (Int × Int)} {cs : List Int} (C : CostOk n ts cs) {S : Nat} {os : List Nat} {G : Int} (h : WidP n ts S os G) : cs.getD S 0 ≤ G := by
  induction h with
  | nil => rw [C.nil]; exact Int.le_refl _
  | @snoc S v os G p f vn ih =>
    obtain ⟨t, e, a⟩ := add_bit f
    have p0 : 0 < 2 ^ v := Nat.pow_pos (by decide)
    have := C.le (S ||| 2 ^ v) (by omega) (Nat.or_lt_two_pow p.lt (Nat.pow_lt_pow_right (by decide) vn)) v t
    rw [e] at this
    omega
theorem cost_free {n : Nat} {ts : List (Int × Int)} {cs : List Int} (C : CostOk n ts cs) (w : Int) : ∀ (k S : Nat), S ≤ k → S < 2 ^ n → cs.getD S 0 ≤ w → ∃ os, FreeP n (fun S v => (degF n ts S v : Int) ≤ w) S os
  | 0, S, hk, hS, hw => by
    obtain rfl : S = 0 := by omega
    exact ⟨[], .nil⟩
  | k + 1, S, hk, hS, hw => by
    by_cases c : S = 0
    · subst c; exact ⟨[], .nil⟩
    · obtain ⟨v, t, e⟩ := C.ex S (by omega) hS
      have p0 : 0 < 2 ^ v := Nat.pow_pos (by decide)
      have ge := pow_testBit t
      have vn : v < n := by
        apply Classical.byContradiction
        intro z
        rw [test_small hS (by omega)] at t
        cases t
      obtain ⟨os, h⟩ := cost_free C w k (S - 2 ^ v) (by omega) (by omega) (by omega)
      have f : (S - 2 ^ v).testBit v = false := by rw [sub_bit t, decide_eq_true rfl]; simp
      have r := FreeP.snoc h f vn (show (degF n ts (S - 2 ^ v) v : Int) ≤ w by omega)
      obtain ⟨_, _, a⟩ := add_bit f
      rw [← a, Nat.sub_add_cancel ge] at r
      exact ⟨_, r⟩
theorem cost_ge {n : Nat} {ts : List (Int × Int)} {cs : List Int} (C : CostOk n ts cs) : ∀ (k S : Nat), S ≤ k → S < 2 ^ n → -1 ≤ cs.getD S 0
  | 0, S, hk, hS => by
    obtain rfl : S = 0 := by omega
    rw [C.nil]; exact Int.le_refl _
  | k + 1, S, hk, hS => by
    by_cases c : S = 0
    · subst c; rw [C.nil]; exact Int.le_refl _
    · obtain ⟨v, t, e⟩ := C.ex S (by omega) hS
      have p0 : 0 < 2 ^ v := Nat.pow_pos (by decide)
      have ge := pow_testBit t
      have := cost_ge C k (S - 2 ^ v) (by omega) (by omega)
      omega
/-! the last places of what can be taken out freely -/


theorem pigP {α : Type} [DecidableEq α] : ∀ {l U : List α}, l.Nodup → (∀ x ∈ l, x ∈ U) → l.length ≤ U.length
  | [], _, _, _ => Nat.zero_le _
  | x :: r, U, h, s => by
    have h' := List.nodup_cons.mp h
    have hx := s x List.mem_cons_self
    have := List.length_erase_of_mem hx
    have p := List.length_pos_of_mem hx
    have ih := pigP (l := r) (U := U.erase x) h'.2 fun y hy => (List.mem_erase_of_ne (fun (e : y = x) => h'.1 (e ▸ hy))).mpr (s y (List.mem_cons_of_mem _ hy))
    rw [List.length_cons]; omega
theorem PathT.edgesP {ts ts' : List (Int × Int)} {S : List Nat} {x u : Nat} (h : PathT ts S x u) (e : ∀ a b, tieT ts a b = true → tieT ts' a b = true) : PathT ts' S x u := by
  induction h with
  | one h => exact .one (e _ _ h)
  | step p m h ih => exact .step ih m (e _ _ h)
/-! costs of sets that fall into parts without ties between them -/
theorem le_deg_of {n : Nat} {ts : List (Int × Int)} {S v : Nat} (n10 : n ≤ 10) (Sl : S < 2 ^ n) (vn : v < n) (vS : S.testBit v = false) {U : List Nat} (nd : U.Nodup) (h : ∀ u ∈ U, u < n ∧ u ≠ v ∧ S.testBit u = false ∧ PathT ts (placesF S) v u) : U.length ≤ degF n ts S v := by
  obtain ⟨pn, pl, pm⟩ := places_ok n10 Sl
  have vP : v ∉ placesF S := fun z => by
    have := (pm v).mp z
    rw [vS] at this
    cases this
  have R := run_ok (ts := ts) pn pl
  unfold degF
  refine pigP nd fun u hu => ?_
  obtain ⟨un, uv, uS, p⟩ := h u hu
  have uP : u ∉ placesF S := fun z => by
    have := (pm u).mp z
    rw [uS] at this
    cases this
  unfold laterF
  rw [List.mem_filter, List.mem_range, Bool.and_eq_true]
  exact ⟨un, (R.path v u vn un vP uP).mpr (.inr p), by simpa using uv⟩
theorem cost_iff {n : Nat} {ts : List (Int × Int)} {cs : List Int} (C : CostOk n ts cs) {S : Nat} (hS : S < 2 ^ n) {w : Int} (w1 : -1 ≤ w) : cs.getD S 0 ≤ w ↔ ∃ os, FreeP n (fun S v => (degF n ts S v : Int) ≤ w) S os := by
  constructor
  · exact cost_free C w S S (Nat.le_refl _) hS
  · rintro ⟨os, h⟩
    obtain ⟨G, hG, l⟩ := wid_le w1 h
    have := wid_cost C hG
    omega

abbrev s_least_width : Stmt := top 73
theorem sc_least_width : FnScope ["graph"] ["graph"] (defScope s_least_width) := ⟨rfl, rfl, rfl, by decide +kernel, rfl, by decide +kernel, by decide +kernel⟩
def spLeastW (K : PySem.W.Frag) : Sp := fun vs H Q _ => ∃ (g : V) (n : Nat) (ts : List (Int × Int)), vs = [g] ∧ GraphV K H g n ts ∧ (∀ t ∈ ts, 0 ≤ t.1 ∧ t.1 < t.2 ∧ t.2 < (n : Int)) ∧ n ≤ 10 ∧
  ∀ cs H', Same H H' → CostOk n ts cs → Q (.int (cs.getD (2 ^ n - 1) 0)) H'
theorem at_end {xs : List V} {v : V} {j : Nat} (hl : xs.length = j + 1) (h : xs[j]? = some v) : atI xs (-1) = some v := by
  obtain ⟨hj, e⟩ := List.getElem?_eq_some_iff.mp h
  have : xs = xs.take j ++ [v] := by
    rw [← e, ← List.take_succ_eq_append_getElem hj, List.take_of_length_le (by omega)]
  rw [this]
  exact atI_last _ _
section
variable {P : Program} {w : World} {K : PySem.W.Frag} {mg : Str → Option Value} {base : Heap}
set_option maxHeartbeats 4000000 in
theorem ok_least_width (B : Bl mg) (d_mask_sizes : Dn K mg "mask_sizes" s_mask_sizes ["n"]) (d_first_bags : Dn K mg "first_bags" s_first_bags ["graph"]) (d_taken_out : Dn K mg "taken_out" s_taken_out ["bags", "v"]) (d_all_bags : Dn K mg "all_bags" s_all_bags ["graph"]) (d_costs_along : Dn K mg "costs_along" s_costs_along ["bags"]) (d_costs : Dn K mg "costs" s_costs ["graph"]) (d_least_width : Dn K mg "least_width" s_least_width ["graph"]) : FnOk P w K mg base CX0 4 d_least_width.f d_least_width.fd ["graph"] (spLeastW K) := by
  have G_costs : FnOk P w K mg base CX0 3 _ _ _ _ := ok_costs B d_mask_sizes d_first_bags d_taken_out d_all_bags d_costs_along d_costs
  refine d_least_width.F.ok sc_least_width (fun vs H Q E h => ?_) (fun cdv A outer s H vs Q E hr h => ?_)
  · obtain ⟨g, n, ts, rfl, _⟩ := h
    rfl
  obtain ⟨g, n, ts, rfl, hG, okt, n10, q⟩ := h
  have p0 : 0 < 2 ^ n := Nat.pow_pos (by decide)
  refine ⟨_, (pss_one (ps_ret (pe_ix (ix_listK (K := K) rfl) (pe_call G_costs hr rfl d_costs.m d_costs.F.kp d_costs.b .nil pass0 (pa_cons (pv 0) pa_nil)) (pe_un un_neg pe_int) (fun _ _ => rfl)))), ?_⟩
  refine ⟨_, rfl, g, n, ts, rfl, hG, okt, n10, fun r cs H1 s1 f1 h1 C => ?_⟩
  have l := C.len
  refine ⟨_, rfl, r, _, _, .int (cs.getD (2 ^ n - 1) 0), rfl, rfl, SqL.of h1, at_end (j := 2 ^ n - 1) (by rw [List.length_map]; omega) ?_, q cs H1 s1 C⟩
  rw [List.getElem?_map, List.getElem?_eq_getElem (by omega), List.getD_eq_getElem?_getD, List.getElem?_eq_getElem (by omega)]; rfl
end

end K

namespace K
open PySem L2 Lw Bg
/-- an order of places: at each turn at most w places that are left are reached through what is gone -/
inductive OrdL (n : Nat) (ts : List (Int × Int)) (w : Int) : List Nat → Prop
  | nil : OrdL n ts w []
  | snoc {os : List Nat} {v : Nat} : OrdL n ts w os → v ∉ os → v < n → (∀ U : List Nat, U.Nodup → (∀ u ∈ U, u < n ∧ u ≠ v ∧ u ∉ os ∧ PathT ts os v u) → (U.length : Int) ≤ w) → OrdL n ts w (os ++ [v])
def LW (n : Nat) (ts : List (Int × Int)) (w : Int) : Prop := ∃ os, OrdL n ts w os ∧ ∀ v, v < n → v ∈ os
theorem OrdL.inn {n : Nat} {ts : List (Int × Int)} {w : Int} {os : List Nat} (h : OrdL n ts w os) : ∀ v ∈ os, v < n := by
  induction h with
  | nil => exact fun v hv => absurd hv List.not_mem_nil
  | @snoc os v h _ vn _ ih =>
    intro x hx
    rcases List.mem_append.mp hx with hx | hx
    · exact ih x hx
    · rw [List.mem_singleton.mp hx]; exact vn
theorem free_ord {n : Nat} {ts : List (Int × Int)} {w : Int} {S : Nat} {os : List Nat} (n10 : n ≤ 10) (h : FreeP n (fun S v => (degF n ts S v : Int) ≤ w) S os) : OrdL n ts w os := by
  induction h with
  | nil => exact .nil
  | @snoc S v os p f vn g ih =>
    have mem := p.mem
    refine .snoc ih (fun z => by rw [(mem v).mp z] at f; cases f) vn fun U nd hU => ?_
    obtain ⟨_, _, pm⟩ := places_ok n10 p.lt
    have := le_deg_of n10 p.lt vn f (ts := ts) nd fun u hu => by
      obtain ⟨un, uv, uo, pp⟩ := hU u hu
      refine ⟨un, uv, ?_, pp.mono fun a ha => (pm a).mpr ((mem a).mp ha)⟩
      cases c : S.testBit u with
      | false => rfl
      | true => exact absurd ((mem u).mpr c) uo
    have g' : (degF n ts S v : Int) ≤ w := g
    omega
theorem ord_free {n : Nat} {ts : List (Int × Int)} {w : Int} {os : List Nat} (n10 : n ≤ 10) (h : OrdL n ts w os) : ∃ S, FreeP n (fun S v => (degF n ts S v : Int) ≤ w) S os := by
  induction h with
  | nil => exact ⟨0, .nil⟩
  | @snoc os v h f vn g ih =>
    obtain ⟨S, p⟩ := ih
    have mem := p.mem
    have fS : S.testBit v = false := by
      cases c : S.testBit v with
      | false => rfl
      | true => exact absurd ((mem v).mpr c) f
    refine ⟨_, .snoc p fS vn ?_⟩
    obtain ⟨pn, pl, pm⟩ := places_ok n10 p.lt
    have R := run_ok (ts := ts) pn pl
    have vP : v ∉ placesF S := fun z => f ((mem v).mpr ((pm v).mp z))
    refine g (laterF n (runR n ts (placesF S)) v) (List.nodup_range.sublist List.filter_sublist) fun u hu => ?_
    unfold laterF at hu
    rw [List.mem_filter, List.mem_range, Bool.and_eq_true] at hu
    obtain ⟨un, hr, hv⟩ := hu
    have uv : u ≠ v := by simpa using hv
    have uP : u ∉ placesF S := fun z => by
      rw [R.gone v u vn vP z] at hr
      cases hr
    exact ⟨un, uv, fun z => uP ((pm u).mpr ((mem u).mp z)), (((R.path v u vn un vP uP).mp hr).resolve_left (Ne.symm uv)).mono fun a ha => (mem a).mpr ((pm a).mp ha)⟩
theorem full_bits {n S : Nat} (hS : S < 2 ^ n) (h : ∀ v, v < n → S.testBit v = true) : S = 2 ^ n - 1 := by
  refine Nat.eq_of_testBit_eq fun i => ?_
  rw [Nat.testBit_two_pow_sub_one]
  by_cases c : i < n
  · rw [h i c, decide_eq_true c]
  · rw [decide_eq_false c]
    exact Nat.testBit_lt_two_pow (Nat.lt_of_lt_of_le hS (Nat.pow_le_pow_right (by decide) (by omega)))
theorem lw_iff {n : Nat} {ts : List (Int × Int)} {cs : List Int} {w : Int} (n10 : n ≤ 10) (C : CostOk n ts cs) (w1 : -1 ≤ w) : cs.getD (2 ^ n - 1) 0 ≤ w ↔ LW n ts w := by
  have hS : 2 ^ n - 1 < 2 ^ n := Nat.sub_lt (Nat.pow_pos (by decide)) (by decide)
  rw [cost_iff C hS w1]
  constructor
  · rintro ⟨os, h⟩
    exact ⟨os, free_ord n10 h, fun v vn => (h.mem v).mpr (by rw [Nat.testBit_two_pow_sub_one]; exact decide_eq_true vn)⟩
  · rintro ⟨os, h, all⟩
    obtain ⟨S, p⟩ := ord_free n10 h
    have e : S = 2 ^ n - 1 := full_bits p.lt fun v vn => (p.mem v).mp (all v vn)
    rw [e] at p
    exact ⟨os, p⟩
/-- a graph within another -/
theorem lw_embed {n n' : Nat} {ts ts' : List (Int × Int)} {w : Int} {f : Nat → Nat} (inj : ∀ x y, x < n' → y < n' → f x = f y → x = y) (inn : ∀ x, x < n' → f x < n) (lt' : ∀ x y, tieT ts' x y = true → x < n' ∧ y < n') (e : ∀ x y, tieT ts' x y = true → tieT ts (f x) (f y) = true) (h : LW n ts w) : LW n' ts' w := by
  obtain ⟨os, h, all⟩ := h
  have key : ∀ {os : List Nat}, OrdL n ts w os → ∃ os', OrdL n' ts' w os' ∧ ∀ x, x < n' → (x ∈ os' ↔ f x ∈ os) := fun {os} h => by
    induction h with
    | nil => exact ⟨[], .nil, fun x _ => by simp⟩
    | @snoc os v h fv vn g ih =>
      obtain ⟨os', h', m'⟩ := ih
      by_cases c : ∃ x, x < n' ∧ f x = v
      · obtain ⟨x, xn, rfl⟩ := c
        have xo : x ∉ os' := fun z => fv ((m' x xn).mp z)
        refine ⟨os' ++ [x], .snoc h' xo xn fun U nd hU => ?_, fun y yn => ?_⟩
        · have nd' : (U.map f).Nodup := by
            unfold List.Nodup
            rw [List.pairwise_map]
            refine List.pairwise_iff_forall_sublist.mpr fun {a b} hs z => ?_
            have : a ≠ b := List.pairwise_iff_forall_sublist.mp nd hs
            exact this (inj a b (hU a (hs.subset (by simp))).1 (hU b (hs.subset (by simp))).1 z)
          have := g (U.map f) nd' fun u hu => by
            obtain ⟨y, hy, rfl⟩ := List.mem_map.mp hu
            obtain ⟨yn, yx, yo, p⟩ := hU y hy
            refine ⟨inn y yn, fun z => yx (inj y x yn xn z), fun z => yo ((m' y yn).mpr z), ?_⟩
            clear hy yx yo
            have : ∀ {u}, PathT ts' os' x u → PathT ts os (f x) (f u) := fun {u} p => by
              induction p with
              | one h => exact .one (e _ _ h)
              | @step a u p m h ih => exact .step ih ((m' a (lt' _ _ h).1).mp m) (e _ _ h)
            exact this p
          rw [List.length_map] at this
          exact this
        · rw [List.mem_append, List.mem_singleton, List.mem_append, List.mem_singleton, m' y yn]
          exact or_congr_right ⟨fun z => by rw [z], fun z => inj y x yn xn z⟩
      · refine ⟨os', h', fun y yn => ?_⟩
        rw [m' y yn, List.mem_append, List.mem_singleton]
        exact ⟨.inl, fun z => z.resolve_right fun z => c ⟨y, yn, z⟩⟩
  obtain ⟨os', h', m'⟩ := key h
  exact ⟨os', h', fun v vn => (m' v vn).mpr (all _ (inn v vn))⟩
/-- a place more, at most one more -/
theorem lw_apex {n : Nat} {ts ts' : List (Int × Int)} {w : Int} {a : Nat} (an : a < n) (w1 : -1 ≤ w) (e : ∀ x y, x ≠ a → y ≠ a → tieT ts' x y = true → tieT ts x y = true) (h : LW n ts w) : LW n ts' (w + 1) := by
  obtain ⟨os, h, all⟩ := h
  have key : ∀ {os : List Nat}, OrdL n ts w os → OrdL n ts' (w + 1) (os.filter fun x => !decide (x = a)) := fun {os} h => by
    induction h with
    | nil => exact .nil
    | @snoc os v h fv vn g ih =>
      rw [List.filter_append]
      by_cases c : v = a
      · rw [c]
        have : [a].filter (fun x => !decide (x = a)) = [] := by simp
        rw [this, List.append_nil]
        exact ih
      · have : [v].filter (fun x => !decide (x = a)) = [v] := by simp [c]
        rw [this]
        refine .snoc ih (fun z => fv (List.mem_filter.mp z).1) vn fun U nd hU => ?_
        have path : ∀ {u}, PathT ts' (os.filter fun x => !decide (x = a)) v u → u ≠ a → PathT ts os v u := fun {u} p => by
          induction p with
          | one h => exact fun ua => .one (e _ _ c ua h)
          | @step b u p m h ih =>
            intro ua
            obtain ⟨m1, m2⟩ := List.mem_filter.mp m
            have ba : b ≠ a := by simpa using m2
            exact .step (ih ba) m1 (e _ _ ba ua h)
        have := g (U.filter fun x => !decide (x = a)) (nd.sublist List.filter_sublist) fun u hu => by
          obtain ⟨hu, ua⟩ := List.mem_filter.mp hu
          have ua : u ≠ a := by simpa using ua
          obtain ⟨un, uv, uo, p⟩ := hU u hu
          exact ⟨un, uv, fun z => uo (List.mem_filter.mpr ⟨z, by simpa using ua⟩), path p ua⟩
        have l : U.length ≤ (U.filter fun x => !decide (x = a)).length + 1 := by
          have h2 := pigP (l := U) (U := a :: U.filter fun x => !decide (x = a)) nd fun x hx => by
            by_cases z : x = a
            · rw [z]; exact List.mem_cons_self
            · exact List.mem_cons_of_mem _ (List.mem_filter.mpr ⟨hx, by simpa using z⟩)
          simpa using h2
        omega
  refine ⟨(os.filter fun x => !decide (x = a)) ++ [a], .snoc (key h) (fun z => by simpa using (List.mem_filter.mp z).2) an fun U nd hU => ?_, fun v vn => ?_⟩
  · have : U = [] := by
      cases U with
      | nil => rfl
      | cons u r =>
        obtain ⟨un, uv, uo, _⟩ := hU u List.mem_cons_self
        exact absurd (List.mem_filter.mpr ⟨all u un, by simpa using uv⟩) uo
    rw [this]
    show (0 : Int) ≤ w + 1
    omega
  · by_cases c : v = a
    · rw [c]; exact List.mem_append_right _ List.mem_cons_self
    · exact List.mem_append_left _ (List.mem_filter.mpr ⟨all v vn, by simpa using c⟩)
/-- two graphs side by side -/
theorem lw_union {n m : Nat} {ts bs us : List (Int × Int)} {w : Int} (e : ∀ x y, tieT us x y = true → (x < n ∧ y < n ∧ tieT ts x y = true) ∨ (n ≤ x ∧ n ≤ y ∧ tieT bs (x - n) (y - n) = true)) (h1 : LW n ts w) (h2 : LW m bs w) : LW (n + m) us w := by
  obtain ⟨os, h, all⟩ := h1
  obtain ⟨ps, k, all2⟩ := h2
  have A : ∀ {os : List Nat}, OrdL n ts w os → OrdL (n + m) us w os := fun {os} h => by
    induction h with
    | nil => exact .nil
    | @snoc os v h fv vn g ih =>
      refine .snoc ih fv (by omega) fun U nd hU => g U nd fun u hu => ?_
      obtain ⟨un, uv, uo, p⟩ := hU u hu
      have : ∀ {u}, PathT us os v u → u < n ∧ PathT ts os v u := fun {u} p => by
        induction p with
        | one h =>
          rcases e _ _ h with ⟨_, y, t⟩ | ⟨x, _⟩
          · exact ⟨y, .one t⟩
          · omega
        | @step b u p mb h ih =>
          rcases e _ _ h with ⟨_, y, t⟩ | ⟨x, _⟩
          · exact ⟨y, .step ih.2 mb t⟩
          · have := ih.1
            omega
      obtain ⟨z1, z2⟩ := this p
      exact ⟨z1, uv, uo, z2⟩
  have on := h.inn
  have B : ∀ {ps : List Nat}, OrdL m bs w ps → OrdL (n + m) us w (os ++ ps.map (n + ·)) := fun {ps} k => by
    induction k with
    | nil => rw [List.map_nil, List.append_nil]; exact A h
    | @snoc ps v k fv vn g ih =>
      rw [List.map_append, ← List.append_assoc]
      refine .snoc ih (fun z => ?_) (by show n + v < n + m; omega) fun U nd hU => ?_
      · rcases List.mem_append.mp z with z | z
        · have zz : n + v < n := on _ z
          omega
        · obtain ⟨y, hy, ey⟩ := List.mem_map.mp z
          have : y = v := by
            have ey' : n + y = n + v := ey
            omega
          exact fv (this ▸ hy)
      · have path : ∀ {u}, PathT us (os ++ ps.map (n + ·)) (n + v) u → n ≤ u ∧ PathT bs ps v (u - n) := fun {u} p => by
          induction p with
          | one h =>
            rcases e _ _ h with ⟨x, _⟩ | ⟨_, y, t⟩
            · omega
            · rw [Nat.add_sub_cancel_left] at t
              exact ⟨y, .one t⟩
          | @step b u p mb h ih =>
            rcases e _ _ h with ⟨x, _⟩ | ⟨_, y, t⟩
            · have := ih.1
              omega
            · refine ⟨y, .step ih.2 ?_ t⟩
              rcases List.mem_append.mp mb with z | z
              · have := on _ z
                have := ih.1
                omega
              · obtain ⟨c, hc, ec⟩ := List.mem_map.mp z
                have ec' : n + c = b := ec
                have : b - n = c := by omega
                rw [this]; exact hc
        have nd' : (U.map (· - n)).Nodup := by
          unfold List.Nodup
          rw [List.pairwise_map]
          refine List.pairwise_iff_forall_sublist.mpr fun {a b} hs z => ?_
          have ne : a ≠ b := List.pairwise_iff_forall_sublist.mp nd hs
          have a1 := (path (hU a (hs.subset (by simp))).2.2.2).1
          have b1 := (path (hU b (hs.subset (by simp))).2.2.2).1
          have z' : a - n = b - n := z
          omega
        have := g (U.map (· - n)) nd' fun u hu => by
          obtain ⟨y, hy, rfl⟩ := List.mem_map.mp hu
          obtain ⟨yn, yv, yo, p⟩ := hU y hy
          obtain ⟨y1, p2⟩ := path p
          have yv' : y ≠ n + v := yv
          refine ⟨by show y - n < m; omega, by show y - n ≠ v; omega, fun z => yo (List.mem_append_right _ (List.mem_map.mpr ⟨y - n, z, by show n + (y - n) = y; omega⟩)), p2⟩
        rw [List.length_map] at this
        exact this
  refine ⟨_, B k, fun v vn => ?_⟩
  by_cases c : v < n
  · exact List.mem_append_left _ (all v c)
  · exact List.mem_append_right _ (List.mem_map.mpr ⟨v - n, all2 _ (by omega), by show n + (v - n) = v; omega⟩)
/-- a place tied with all: just one more -/
theorem lw_all {n : Nat} {ts us : List (Int × Int)} {w : Int} (lt : ∀ x y, tieT ts x y = true → x < n ∧ y < n) (e1 : ∀ x y, tieT ts x y = true → tieT us x y = true) (e2 : ∀ x, x < n → tieT us x n = true ∧ tieT us n x = true) (h : LW (n + 1) us w) : LW n ts (w - 1) := by
  obtain ⟨os, h, all⟩ := h
  have key : ∀ {os : List Nat}, OrdL (n + 1) us w os → OrdL n ts (w - 1) (os.filter fun x => !decide (x = n)) ∧ (n ∈ os → ∀ U : List Nat, U.Nodup → (∀ u ∈ U, u < n ∧ u ∉ os) → (U.length : Int) ≤ w) := fun {os} h => by
    induction h with
    | nil => exact ⟨.nil, fun z => absurd z List.not_mem_nil⟩
    | @snoc os v h fv vn g ih =>
      rw [List.filter_append]
      by_cases c : v = n
      · subst c
        have : [v].filter (fun x => !decide (x = v)) = [] := by simp
        rw [this, List.append_nil]
        refine ⟨ih.1, fun _ U nd hU => g U nd fun u hu => ?_⟩
        obtain ⟨un, uo⟩ := hU u hu
        exact ⟨by omega, by omega, fun z => uo (List.mem_append_left _ z), .one (e2 u un).2⟩
      · have : [v].filter (fun x => !decide (x = n)) = [v] := by simp [c]
        rw [this]
        have vn' : v < n := by omega
        refine ⟨.snoc ih.1 (fun z => fv (List.mem_filter.mp z).1) vn' fun U nd hU => ?_, fun z U nd hU => ?_⟩
        · have path : ∀ {u}, PathT ts (os.filter fun x => !decide (x = n)) v u → PathT us os v u := fun {u} p => by
            induction p with
            | one h => exact .one (e1 _ _ h)
            | @step b u p m h ih => exact .step ih (List.mem_filter.mp m).1 (e1 _ _ h)
          have uo : ∀ u ∈ U, u ∉ os := fun u hu z => by
            obtain ⟨un, _, uf, _⟩ := hU u hu
            exact uf (List.mem_filter.mpr ⟨z, by simp; omega⟩)
          by_cases cn : n ∈ os
          · have := ih.2 cn (v :: U) (List.nodup_cons.mpr ⟨fun z => (hU v z).2.1 rfl, nd⟩) fun u hu => by
              rcases List.mem_cons.mp hu with rfl | hu
              · exact ⟨vn', fv⟩
              · exact ⟨(hU u hu).1, uo u hu⟩
            rw [List.length_cons] at this
            omega
          · have := g (n :: U) (List.nodup_cons.mpr ⟨fun z => by have := (hU n z).1; omega, nd⟩) fun u hu => by
              rcases List.mem_cons.mp hu with rfl | hu
              · exact ⟨by omega, fun z => c z.symm, cn, .one (e2 v vn').1⟩
              · obtain ⟨un, uv, _, p⟩ := hU u hu
                exact ⟨by omega, uv, uo u hu, path p⟩
            rw [List.length_cons] at this
            omega
        · have zn : n ∈ os := by
            rcases List.mem_append.mp z with z | z
            · exact z
            · exact absurd (List.mem_singleton.mp z).symm c
          exact ih.2 zn U nd fun u hu => ⟨(hU u hu).1, fun y => (hU u hu).2 (List.mem_append_left _ y)⟩
  refine ⟨_, (key h).1, fun v vn => List.mem_filter.mpr ⟨all v (by omega), by simp; omega⟩⟩

end K


namespace K
open PySem L2 Lw Bg Tx
theorem ord_top {n : Nat} {ts : List (Int × Int)} : ∀ k, k ≤ n → OrdL n ts ((n : Int) - 1) (List.range k)
  | 0, _ => .nil
  | k + 1, h => by
    rw [List.range_succ]
    refine .snoc (ord_top k (by omega)) (by rw [List.mem_range]; omega) (by omega) fun U nd hU => ?_
    have := nodup_le (m := n) (l := k :: U) (List.nodup_cons.mpr ⟨fun z => (hU k z).2.1 rfl, nd⟩) fun x hx => by
      rcases List.mem_cons.mp hx with rfl | hx
      · omega
      · exact (hU x hx).1
    rw [List.length_cons] at this
    omega
theorem lw_top (n : Nat) (ts : List (Int × Int)) : LW n ts ((n : Int) - 1) := ⟨List.range n, ord_top n (Nat.le_refl _), fun v hv => List.mem_range.mpr hv⟩
theorem wide_few {n : Nat} {ts : List (Int × Int)} {cs : List Int} (C : CostOk n ts cs) (n10 : n ≤ 10) : -1 ≤ cs.getD (2 ^ n - 1) 0 ∧ cs.getD (2 ^ n - 1) 0 < (n : Int) := by
  have p0 : 0 < 2 ^ n := Nat.pow_pos (by decide)
  have := (lw_iff n10 C (w := (n : Int) - 1) (by omega)).mpr (lw_top n ts)
  exact ⟨cost_ge C (2 ^ n - 1) (2 ^ n - 1) (Nat.le_refl _) (by omega), by omega⟩

/-- a row that is told to the desk -/
inductive DOp
  | place (l : List Nat) (z : List Nat)
  | tie (x y : List Nat) (z : List Nat)
  | untie (x y : List Nat)
  | drop (x : List Nat)
def wPlace : List Nat := [112, 108, 97, 99, 101]
def wTie : List Nat := [116, 105, 101]
def wUntie : List Nat := [117, 110, 116, 105, 101]
def wDrop : List Nat := [100, 114, 111, 112]
def wWidth : List Nat := [119, 105, 100, 116, 104]
theorem place_t : (Str.ofString "place") = sT wPlace := by decide +kernel
theorem tie_t : (Str.ofString "tie") = sT wTie := by decide +kernel
theorem untie_t : (Str.ofString "untie") = sT wUntie := by decide +kernel
theorem drop_t : (Str.ofString "drop") = sT wDrop := by decide +kernel
theorem width_t : (Str.ofString "width") = sT wWidth := by decide +kernel
/-- its words -/
def DOp.words : DOp → List (List Nat)
  | .place l z => [wPlace, l, z]
  | .tie x y z => [wTie, x, y, z]
  | .untie x y => [wUntie, x, y]
  | .drop x => [wDrop, x]
/-- words with a blank between them -/
def blankT : List (List Nat) → List Nat
  | [] => []
  | [a] => a
  | a :: b :: r => a ++ 32 :: blankT (b :: r)
theorem blank_join : ∀ (A : List (List Nat)), A ≠ [] → sT (blankT A) = Str.join ⟨#[32]⟩ (A.map sT)
  | [], h => absurd rfl h
  | [a], _ => rfl
  | a :: b :: r, _ => by
    refine cL_inj ?_
    show a ++ 32 :: blankT (b :: r) = cL (Str.join ⟨#[32]⟩ (sT a :: sT b :: r.map sT))
    rw [join_two]
    have := blank_join (b :: r) (by intro z; cases z)
    have e := congrArg cL this
    rw [cL_sT] at e
    rw [e]
    rfl
theorem blank_split {A : List (List Nat)} (ne : A ≠ []) (h : ∀ l ∈ A, 32 ∉ l) : Txt.split (sT (blankT A)) (sT [32]) = A.map sT := by
  rw [blank_join A ne]
  refine split_one (c := 32) (by cases A with | nil => exact absurd rfl ne | cons a r => intro z; cases z) fun p hp => ?_
  obtain ⟨l, hl, rfl⟩ := List.mem_map.mp hp
  exact h l hl
theorem blank_len : ∀ {A : List (List Nat)} {B : Nat}, (∀ l ∈ A, l.length ≤ B) → (blankT A).length ≤ A.length * (B + 1)
  | [], _, _ => Nat.zero_le _
  | [a], B, h => by
    have := h a List.mem_cons_self
    show a.length ≤ 1 * (B + 1)
    omega
  | a :: b :: r, B, h => by
    have h1 := h a List.mem_cons_self
    have := blank_len (A := b :: r) (B := B) fun l hl => h l (List.mem_cons_of_mem _ hl)
    show (a ++ 32 :: blankT (b :: r)).length ≤ _
    rw [List.length_append, List.length_cons, List.length_cons, Nat.add_mul, Nat.one_mul]
    omega
/-- what a row must be for names and ties as they are, and what they become -/
inductive DStep : List (List Nat) → List (Int × Int) → DOp → List (List Nat) → List (Int × Int) → Prop
  | place {nm ts l z} : Nms (nm ++ [l]) → numOk (sT z) = true → DStep nm ts (.place l z) (nm ++ [l]) ts
  | tie {nm ts x y z a b} : nm[a]? = some x → nm[b]? = some y → a ≠ b → tieP a b ∉ ts → numOk (sT z) = true → DStep nm ts (.tie x y z) nm (ts ++ [tieP a b])
  | untie {nm ts x y a b} : nm[a]? = some x → nm[b]? = some y → a ≠ b → tieP a b ∈ ts → DStep nm ts (.untie x y) nm (ts.filter fun u => decide (u ≠ tieP a b))
  | drop {nm ts x v} : nm[v]? = some x → DStep nm ts (.drop x) (nm.eraseIdx v) (offT v ts)
theorem tieP_ok {a b n : Nat} (ha : a < n) (hb : b < n) (ne : a ≠ b) : 0 ≤ (tieP a b).1 ∧ (tieP a b).1 < (tieP a b).2 ∧ (tieP a b).2 < (n : Int) := by
  unfold tieP
  dsimp only
  omega
theorem nodup_erase {α : Type} {l : List α} {v : Nat} (h : l.Nodup) : (l.eraseIdx v).Nodup := h.sublist (List.eraseIdx_sublist _ _)
theorem DStep.ds {nm nm' : List (List Nat)} {ts ts' : List (Int × Int)} {o : DOp} (h : DStep nm ts o nm' ts') (S : DS nm ts) : DS nm' ts' := by
  cases h with
  | place hN hz =>
    refine ⟨hN, fun t ht => ?_, S.nd⟩
    have := S.okt t ht
    rw [List.length_append, List.length_singleton]
    omega
  | tie ha hb ab nt hz =>
    refine ⟨S.nms, fun t ht => ?_, ?_⟩
    · rcases List.mem_append.mp ht with ht | ht
      · exact S.okt t ht
      · rw [List.mem_singleton.mp ht]
        exact tieP_ok (List.getElem?_eq_some_iff.mp ha).1 (List.getElem?_eq_some_iff.mp hb).1 ab
    · exact List.nodup_append.mpr ⟨S.nd, List.pairwise_singleton _ _, fun x hx y hy e => nt (by rw [← List.mem_singleton.mp hy, ← e]; exact hx)⟩
  | untie ha hb ab nt => exact ⟨S.nms, fun t ht => S.okt t (List.mem_filter.mp ht).1, S.nd.sublist List.filter_sublist⟩
  | @drop x v hx =>
    have vn := (List.getElem?_eq_some_iff.mp hx).1
    refine ⟨⟨?_, nodup_erase S.nms.nd, fun l hl => S.nms.ok l (List.mem_of_mem_eraseIdx hl)⟩, fun t ht => ?_, offT_nd S.nd⟩
    · have := S.nms.few
      rw [List.length_eraseIdx_of_lt vn]
      omega
    · obtain ⟨s, hs, h1, h2, rfl⟩ := offT_mem.mp ht
      obtain ⟨o1, o2, o3⟩ := S.okt s hs
      rw [List.length_eraseIdx_of_lt vn]
      refine ⟨?_, upN_lt o2 h1 h2, ?_⟩
      · show 0 ≤ upN s.1 v
        unfold upN
        split <;> omega
      · show upN s.2 v < _
        unfold upN
        split <;> omega
/-- a desk in the heap with these names and ties -/
def DkH (C : Addr) (H0 H : Hp) (d : Addr) (k : V) (nm : List (List Nat)) (ts : List (Int × Int)) : Prop := ∃ dx pn pw pc ws kvs, DkA C H0 H d dx pn pw pc k nm ws kvs ∧ KeyP kvs ts
theorem DkH.mono {C : Addr} {H0 H H' : Hp} {d : Addr} {k : V} {nm : List (List Nat)} {ts : List (Int × Int)} (h : DkH C H0 H d k nm ts) (s : Same H H') : DkH C H0 H' d k nm ts := by
  obtain ⟨dx, pn, pw, pc, ws, kvs, hD, kp⟩ := h
  exact ⟨dx, pn, pw, pc, ws, kvs, hD.mono s, kp⟩
/-- more things stand beside the desk -/
theorem DkH.more {C : Addr} {H0 H : Hp} {d p : Addr} {k : V} {o : HO} {nm : List (List Nat)} {ts : List (Int × Int)} (h : DkH C H0 H d k nm ts) {H' : Hp} (n : New H p o H') : DkH C (upd H0 p o) H' d k nm ts := by
  obtain ⟨dx, pn, pw, pc, ws, kvs, hD, kp⟩ := h
  have hD1 := hD.mono n.same
  refine ⟨dx, pn, pw, pc, ws, kvs, ⟨fun b u e => ?_, ?_, ?_, ?_, ?_, hD1.hd, hD1.hn, hD1.hw, hD1.hc, hD1.ne, hD1.len⟩, kp⟩
  · by_cases c : b = p
    · subst c; rw [upd_same] at e; rw [n.here]; exact e
    · rw [upd_ne c] at e; exact hD1.sm b u e
  · rw [upd_ne (n.ne hD.hd)]; exact hD.d0
  · rw [upd_ne (n.ne hD.hn)]; exact hD.n0
  · rw [upd_ne (n.ne hD.hw)]; exact hD.w0
  · rw [upd_ne (n.ne hD.hc)]; exact hD.c0
theorem DkH.sm {C : Addr} {H0 H : Hp} {d : Addr} {k : V} {nm : List (List Nat)} {ts : List (Int × Int)} (h : DkH C H0 H d k nm ts) : Same H0 H := by
  obtain ⟨dx, pn, pw, pc, ws, kvs, hD, kp⟩ := h
  exact hD.sm
def spChange (K : PySem.W.Frag) (C : Addr) : Sp := fun vs H Q _ => ∃ (H0 : Hp) (d a : Addr) (k : V) (nm nm' : List (List Nat)) (ts ts' : List (Int × Int)) (o : DOp), vs = [.ref d, .ref a] ∧ SqL K H a ((o.words.map sT).map V.str) ∧ DkH C H0 H d k nm ts ∧ DS nm ts ∧ DStep nm ts o nm' ts' ∧ ∀ H', DkH C H0 H' d .non nm' ts' → Q .non H'
def spLooked (K : PySem.W.Frag) (C : Addr) : Sp := fun vs H Q _ => ∃ (H0 : Hp) (d : Addr) (k : V) (nm : List (List Nat)) (ts : List (Int × Int)), vs = [.ref d, .str (sT wWidth)] ∧ DkH C H0 H d k nm ts ∧ DS nm ts ∧
  ∀ us cs H', Same H H' → us.Perm ts → CostOk nm.length us cs → Q (.str (toString (cs.getD (2 ^ nm.length - 1) 0))) H'
theorem num_free {z : List Nat} (h : numOk (sT z) = true) : ∀ c ∈ z, 48 ≤ c ∧ c ≤ 57 := fun c hc => by
  unfold numOk at h
  rw [Bool.and_eq_true, Bool.and_eq_true] at h
  have h1 := h.1.2
  unfold allFig at h1
  rw [← Array.all_toList, List.all_eq_true] at h1
  exact of_decide_eq_true (h1 c hc)
theorem DStep.clean {nm nm' : List (List Nat)} {ts ts' : List (Int × Int)} {o : DOp} (h : DStep nm ts o nm' ts') (S : DS nm ts) : ∀ l ∈ o.words, 32 ∉ l ∧ l.length ≤ 30 := by
  have nmc : ∀ {nm : List (List Nat)} {l}, Nms nm → l ∈ nm → 32 ∉ l ∧ l.length ≤ 30 := fun {nm l} N hl => by
    obtain ⟨h1, h2⟩ := N.ok l hl
    exact ⟨fun z => by have := h2 _ z; omega, by omega⟩
  have zc : ∀ {z : List Nat}, numOk (sT z) = true → 32 ∉ z ∧ z.length ≤ 30 := fun {z} hz => ⟨fun q => by have := num_free hz _ q; omega, by have := num_few hz; rwa [sT_len] at this⟩
  cases h with
  | place hN hz =>
    intro w hw
    simp only [DOp.words, List.mem_cons, List.not_mem_nil, or_false] at hw
    rcases hw with rfl | rfl | rfl
    · decide
    · exact nmc hN (List.mem_append_right _ List.mem_cons_self)
    · exact zc hz
  | tie ha hb ab nt hz =>
    intro w hw
    simp only [DOp.words, List.mem_cons, List.not_mem_nil, or_false] at hw
    rcases hw with rfl | rfl | rfl | rfl
    · decide
    · exact nmc S.nms (List.mem_of_getElem? ha)
    · exact nmc S.nms (List.mem_of_getElem? hb)
    · exact zc hz
  | untie ha hb ab nt =>
    intro w hw
    simp only [DOp.words, List.mem_cons, List.not_mem_nil, or_false] at hw
    rcases hw with rfl | rfl | rfl
    · decide
    · exact nmc S.nms (List.mem_of_getElem? ha)
    · exact nmc S.nms (List.mem_of_getElem? hb)
  | drop hx =>
    intro w hw
    simp only [DOp.words, List.mem_cons, List.not_mem_nil, or_false] at hw
    rcases hw with rfl | rfl
    · decide
    · exact nmc S.nms (List.mem_of_getElem? hx)
theorem op_first (o : DOp) : ∃ (w : List Nat) (r : List (List Nat)), o.words = w :: r ∧ inV (.str (sT w)) [.str "keep", .str "link"] = false ∧ valV wordF (.inr (sT w)) = some (.int (r.length + 1 : Nat)) ∧ inV (.str (sT w)) [.str "place", .str "tie", .str "untie", .str "drop"] = true ∧ decide (V.str (sT w) = V.str "keep") = false := by
  cases o with
  | place l z => exact ⟨wPlace, [l, z], rfl, by decide +kernel, by rw [← place_t]; rfl, by decide +kernel, by decide +kernel⟩
  | tie x y z => exact ⟨wTie, [x, y, z], rfl, by decide +kernel, by rw [← tie_t]; rfl, by decide +kernel, by decide +kernel⟩
  | untie x y => exact ⟨wUntie, [x, y], rfl, by decide +kernel, by rw [← untie_t]; rfl, by decide +kernel, by decide +kernel⟩
  | drop x => exact ⟨wDrop, [x], rfl, by decide +kernel, by rw [← drop_t]; rfl, by decide +kernel, by decide +kernel⟩
def spSay (K : PySem.W.Frag) (C : Addr) : Sp := fun vs H Q _ => ∃ (H0 : Hp) (d : Addr) (k : V) (nm : List (List Nat)) (ts : List (Int × Int)) (z : List Nat), vs = [.ref d, .str (sT z)] ∧ DkH C H0 H d k nm ts ∧ DS nm ts ∧
  ((∃ o nm' ts', z = blankT o.words ∧ DStep nm ts o nm' ts' ∧ ∀ H', DkH C H0 H' d .non nm' ts' → Q (.str "ok") H') ∨
   (z = wWidth ∧ ∀ us cs H', Same H H' → us.Perm ts → CostOk nm.length us cs → Q (.str (toString (cs.getD (2 ^ nm.length - 1) 0))) H'))
def spInit (C : Addr) : Sp := fun vs H Q _ => ∃ (d dx : Addr), vs = [.ref d] ∧ H d = some (.ins C dx []) ∧ ∀ H', (∀ H0, H0 d = none → Same H0 H → DkH C H0 H' d .non [] []) → Q .non H'
section
variable {P : Program} {w : World} {K : PySem.W.Frag} {mg : Str → Option Value} {base : Heap}
set_option maxHeartbeats 4000000 in
theorem ok_looked (B : Bl mg) (D_Desk : ObDesk K mg) (d_mask_sizes : Dn K mg "mask_sizes" s_mask_sizes ["n"]) (d_first_bags : Dn K mg "first_bags" s_first_bags ["graph"]) (d_taken_out : Dn K mg "taken_out" s_taken_out ["bags", "v"]) (d_all_bags : Dn K mg "all_bags" s_all_bags ["graph"]) (d_costs_along : Dn K mg "costs_along" s_costs_along ["bags"]) (d_costs : Dn K mg "costs" s_costs ["graph"]) (d_least_width : Dn K mg "least_width" s_least_width ["graph"]) : FnOk P w K mg base CX0 5 D_Desk.d_looked.f D_Desk.d_looked.fd ["self", "kind"] (spLooked K D_Desk.C) := by
  have G_Desk_whole_graph : FnOk P w K mg base CX0 4 _ _ _ _ := (ok_whole_graph B D_Desk).mono (by decide)
  have G_least_width : FnOk P w K mg base CX0 4 _ _ _ _ := ok_least_width B d_mask_sizes d_first_bags d_taken_out d_all_bags d_costs_along d_costs d_least_width
  refine D_Desk.d_looked.F.ok sc_Desk_looked (fun vs H Q E h => ?_) (fun cdv A outer s H vs Q E hr h => ?_)
  · obtain ⟨H0, d, k, nm, ts, rfl, _⟩ := h
    rfl
  obtain ⟨H0, d, k, nm, ts, rfl, ⟨dx, pn, pw, pc, ws, kvs, hD, kp⟩, S, q⟩ := h
  refine ⟨_, (pss_cons (ps_if (pt_cmpR op_eq (pv 1) pe_str (nomark _))
      (pss_one (ps_ret (pe_callTy call_str_int rfl B.str (by decide +kernel) (pa_cons (pe_call G_least_width hr rfl d_least_width.m d_least_width.F.kp d_least_width.b .nil pass0 (pa_cons (pe_meth0 (pv 0) D_Desk.cl D_Desk.d_whole_graph.mt G_Desk_whole_graph hr D_Desk.d_whole_graph.b .nil pass0) pa_nil)) pa_nil))))
      pss_nil)
      pss_never), ?_⟩
  refine ⟨_, rfl, rfl, _, rfl, ?_⟩
  rw [width_t, decide_eq_true rfl]
  refine iteT ⟨_, rfl, d, _, _, rfl, hD.hd, lk_meth (by decide +kernel) _ _ _ _, H0, d, dx, pn, pw, pc, k, nm, ws, kvs, ts, rfl, hD, kp, S, fun p us H1 s1 pm hG => ?_⟩
  refine ⟨.ref p, nm.length, us, rfl, hG, fun t ht => S.okt t (pm.mem_iff.mp ht), S.nms.few, fun cs H2 s2 C => ?_⟩
  have wf := wide_few C S.nms.few
  have few := S.nms.few
  exact ⟨_, rfl, by
    have := Nat.log2_le_self (cs.getD (2 ^ nm.length - 1) 0).natAbs
    omega, q us cs H2 (s1.trans s2) pm C⟩
set_option maxHeartbeats 4000000 in
theorem ok_change (B : Bl mg) (Ct : Cts mg) (D_Desk : ObDesk K mg) (d_is_whole : Dn K mg "is_whole" s_is_whole ["thing"]) (d_is_below : Dn K mg "is_below" s_is_below ["n", "thing"]) (d_tie_of : Dn K mg "tie_of" s_tie_of ["n", "a", "b"]) (d_is_written : Dn K mg "is_written" s_is_written ["text", "signs", "most"]) (d_is_number : Dn K mg "is_number" s_is_number ["text"]) (d_is_name : Dn K mg "is_name" s_is_name ["text"]) (d_read_number : Dn K mg "read_number" s_read_number ["text"]) (d_moved_up : Dn K mg "moved_up" s_moved_up ["place", "gone"]) : FnOk P w K mg base CX0 5 D_Desk.d_change.f D_Desk.d_change.fd ["self", "words"] (spChange K D_Desk.C) := by
  have G_Desk_place : FnOk P w K mg base CX0 4 _ _ _ _ := ok_place B Ct D_Desk d_is_written d_is_number d_is_name d_read_number
  have G_Desk_tie : FnOk P w K mg base CX0 4 _ _ _ _ := ok_tie B Ct D_Desk d_is_written d_is_number d_read_number d_is_whole d_is_below d_tie_of
  have G_Desk_untie : FnOk P w K mg base CX0 4 _ _ _ _ := ok_untie B D_Desk d_is_whole d_is_below d_tie_of
  have G_Desk_drop : FnOk P w K mg base CX0 4 _ _ _ _ := (ok_drop B D_Desk d_moved_up).mono (by decide)
  refine D_Desk.d_change.F.ok sc_Desk_change (fun vs H Q E h => ?_) (fun cdv A outer s H vs Q E hr h => ?_)
  · obtain ⟨H0, d, a, k, nm, nm', ts, ts', o, rfl, _⟩ := h
    rfl
  obtain ⟨H0, d, a, k, nm, nm', ts, ts', o, rfl, hA, ⟨dx, pn, pw, pc, ws, kvs, hD, kp⟩, S, st, q⟩ := h
  refine ⟨_, (pss_cut (ps_if (pt_cmpR op_eq (pe_ix (ix_listK (K := K) rfl) (pv 1) pe_int (fun _ _ => rfl)) pe_str (nomark _))
      (pss_one (ps_expr (pe_meth (pv 0) D_Desk.cl D_Desk.d_place.mt G_Desk_place hr D_Desk.d_place.b .nil pass0 (pa_cons (pe_ix (ix_listK (K := K) rfl) (pv 1) pe_int (fun _ _ => rfl)) (pa_cons (pe_ix (ix_listK (K := K) rfl) (pv 1) pe_int (fun _ _ => rfl)) pa_nil)))))
      (pss_one (ps_if (pt_cmpR op_eq (pe_ix (ix_listK (K := K) rfl) (pv 1) pe_int (fun _ _ => rfl)) pe_str (nomark _))
      (pss_one (ps_expr (pe_meth (pv 0) D_Desk.cl D_Desk.d_tie.mt G_Desk_tie hr D_Desk.d_tie.b .nil pass0 (pa_cons (pe_ix (ix_listK (K := K) rfl) (pv 1) pe_int (fun _ _ => rfl)) (pa_cons (pe_ix (ix_listK (K := K) rfl) (pv 1) pe_int (fun _ _ => rfl)) (pa_cons (pe_ix (ix_listK (K := K) rfl) (pv 1) pe_int (fun _ _ => rfl)) pa_nil))))))
      (pss_one (ps_if (pt_cmpR op_eq (pe_ix (ix_listK (K := K) rfl) (pv 1) pe_int (fun _ _ => rfl)) pe_str (nomark _))
      (pss_one (ps_expr (pe_meth (pv 0) D_Desk.cl D_Desk.d_untie.mt G_Desk_untie hr D_Desk.d_untie.b .nil pass0 (pa_cons (pe_ix (ix_listK (K := K) rfl) (pv 1) pe_int (fun _ _ => rfl)) (pa_cons (pe_ix (ix_listK (K := K) rfl) (pv 1) pe_int (fun _ _ => rfl)) pa_nil)))))
      (pss_one (ps_expr (pe_meth (pv 0) D_Desk.cl D_Desk.d_drop.mt G_Desk_drop hr D_Desk.d_drop.b .nil pass0 (pa_cons (pe_ix (ix_listK (K := K) rfl) (pv 1) pe_int (fun _ _ => rfl)) pa_nil)))))))))
      (pss_one (ps_fld (pv 0) pe_non rfl))), ?_⟩
  refine ⟨fun σ' H' => σ' = [some (.ref d), some (.ref a)] ∧ DkH D_Desk.C H0 H' d k nm' ts', ?_, ?_⟩
  · have l45 := ties45 S.nms.few S.okt S.nd
    cases st with
    | @place l z hN hz =>
      refine ⟨_, rfl, a, _, _, V.str (sT wPlace), rfl, rfl, hA, atI_nat (j := 0) rfl, rfl, _, rfl, ?_⟩
      rw [place_t, decide_eq_true rfl]
      refine iteT ⟨_, rfl, d, _, _, rfl, hD.hd, lk_meth (by decide +kernel) _ _ _ _, _, rfl, a, _, _, V.str (sT l), rfl, rfl, hA, atI_nat (j := 1) rfl, _, rfl, a, _, _, V.str (sT z), rfl, rfl, hA, atI_nat (j := 2) rfl, H0, d, dx, pn, pw, pc, k, nm, ws, kvs, l, sT z, rfl, hD, hN, hz, fun H' hD' => ⟨rfl, _, _, _, _, _, _, hD', kp⟩⟩
    | @tie x y z i j ha hb ab nt hz =>
      refine ⟨_, rfl, a, _, _, V.str (sT wTie), rfl, rfl, hA, atI_nat (j := 0) rfl, rfl, _, rfl, ?_⟩
      rw [place_t, decide_eq_false (fun e => absurd (sT_inj (V.str.inj e)) (by decide))]
      refine iteF ⟨_, rfl, a, _, _, V.str (sT wTie), rfl, rfl, hA, atI_nat (j := 0) rfl, rfl, _, rfl, ?_⟩
      rw [tie_t, decide_eq_true rfl]
      refine iteT ⟨_, rfl, d, _, _, rfl, hD.hd, lk_meth (by decide +kernel) _ _ _ _, _, rfl, a, _, _, V.str (sT x), rfl, rfl, hA, atI_nat (j := 1) rfl, _, rfl, a, _, _, V.str (sT y), rfl, rfl, hA, atI_nat (j := 2) rfl, _, rfl, a, _, _, V.str (sT z), rfl, rfl, hA, atI_nat (j := 3) rfl, H0, d, dx, pn, pw, pc, k, nm, ws, kvs, ts, x, y, i, j, sT z, rfl, hD, S.nms, kp, l45, ha, hb, ab, nt, hz, fun kvs' H' kp' hD' => ⟨rfl, _, _, _, _, _, _, hD', kp'⟩⟩
    | @untie x y i j ha hb ab nt =>
      refine ⟨_, rfl, a, _, _, V.str (sT wUntie), rfl, rfl, hA, atI_nat (j := 0) rfl, rfl, _, rfl, ?_⟩
      rw [place_t, decide_eq_false (fun e => absurd (sT_inj (V.str.inj e)) (by decide))]
      refine iteF ⟨_, rfl, a, _, _, V.str (sT wUntie), rfl, rfl, hA, atI_nat (j := 0) rfl, rfl, _, rfl, ?_⟩
      rw [tie_t, decide_eq_false (fun e => absurd (sT_inj (V.str.inj e)) (by decide))]
      refine iteF ⟨_, rfl, a, _, _, V.str (sT wUntie), rfl, rfl, hA, atI_nat (j := 0) rfl, rfl, _, rfl, ?_⟩
      rw [untie_t, decide_eq_true rfl]
      refine iteT ⟨_, rfl, d, _, _, rfl, hD.hd, lk_meth (by decide +kernel) _ _ _ _, _, rfl, a, _, _, V.str (sT x), rfl, rfl, hA, atI_nat (j := 1) rfl, _, rfl, a, _, _, V.str (sT y), rfl, rfl, hA, atI_nat (j := 2) rfl, H0, d, dx, pn, pw, pc, k, nm, ws, kvs, ts, x, y, i, j, rfl, hD, S.nms, kp, ha, hb, ab, nt, fun kvs' H' kp' hD' => ⟨rfl, _, _, _, _, _, _, hD', kp'⟩⟩
    | @drop x v hx =>
      refine ⟨_, rfl, a, _, _, V.str (sT wDrop), rfl, rfl, hA, atI_nat (j := 0) rfl, rfl, _, rfl, ?_⟩
      rw [place_t, decide_eq_false (fun e => absurd (sT_inj (V.str.inj e)) (by decide))]
      refine iteF ⟨_, rfl, a, _, _, V.str (sT wDrop), rfl, rfl, hA, atI_nat (j := 0) rfl, rfl, _, rfl, ?_⟩
      rw [tie_t, decide_eq_false (fun e => absurd (sT_inj (V.str.inj e)) (by decide))]
      refine iteF ⟨_, rfl, a, _, _, V.str (sT wDrop), rfl, rfl, hA, atI_nat (j := 0) rfl, rfl, _, rfl, ?_⟩
      rw [untie_t, decide_eq_false (fun e => absurd (sT_inj (V.str.inj e)) (by decide))]
      refine iteF ⟨_, rfl, d, _, _, rfl, hD.hd, lk_meth (by decide +kernel) _ _ _ _, _, rfl, a, _, _, V.str (sT x), rfl, rfl, hA, atI_nat (j := 1) rfl, H0, d, dx, pn, pw, pc, k, nm, ws, kvs, ts, x, v, rfl, hD, kp, S, hx, fun q' kvs' H' kp' hD' => ⟨rfl, _, _, _, _, _, _, hD', kp'⟩⟩
  · rintro σ' H' ⟨rfl, dx', pn', pw', pc', ws', kvs', hD', kp'⟩
    refine ⟨_, rfl, d, _, _, _, rfl, hD'.hd, D_Desk.cl, D_Desk.n_kept, fsD_len _ _ _ _, ?_⟩
    rw [pf_kept]
    exact q _ ⟨_, _, _, _, _, _, hD'.kept Chg.mk0, kp'⟩
set_option maxHeartbeats 4000000 in
theorem ok_say (B : Bl mg) (Wd : Wds w K mg) (Ct : Cts mg) (D_Desk : ObDesk K mg) (d_words_of : Dn K mg "words_of" s_words_of ["row"]) (d_is_whole : Dn K mg "is_whole" s_is_whole ["thing"]) (d_is_below : Dn K mg "is_below" s_is_below ["n", "thing"]) (d_tie_of : Dn K mg "tie_of" s_tie_of ["n", "a", "b"]) (d_is_written : Dn K mg "is_written" s_is_written ["text", "signs", "most"]) (d_is_number : Dn K mg "is_number" s_is_number ["text"]) (d_is_name : Dn K mg "is_name" s_is_name ["text"]) (d_read_number : Dn K mg "read_number" s_read_number ["text"]) (d_moved_up : Dn K mg "moved_up" s_moved_up ["place", "gone"]) (d_mask_sizes : Dn K mg "mask_sizes" s_mask_sizes ["n"]) (d_first_bags : Dn K mg "first_bags" s_first_bags ["graph"]) (d_taken_out : Dn K mg "taken_out" s_taken_out ["bags", "v"]) (d_all_bags : Dn K mg "all_bags" s_all_bags ["graph"]) (d_costs_along : Dn K mg "costs_along" s_costs_along ["bags"]) (d_costs : Dn K mg "costs" s_costs ["graph"]) (d_least_width : Dn K mg "least_width" s_least_width ["graph"]) : FnOk P w K mg base CX0 6 D_Desk.d_say.f D_Desk.d_say.fd ["self", "row"] (spSay K D_Desk.C) := by
  have G_words_of : FnOk P w K mg base CX0 5 _ _ _ _ := (ok_words_of B Wd d_words_of).mono (by decide)
  have G_Desk_change : FnOk P w K mg base CX0 5 _ _ _ _ := ok_change B Ct D_Desk d_is_whole d_is_below d_tie_of d_is_written d_is_number d_is_name d_read_number d_moved_up
  have G_Desk_looked : FnOk P w K mg base CX0 5 _ _ _ _ := ok_looked B D_Desk d_mask_sizes d_first_bags d_taken_out d_all_bags d_costs_along d_costs d_least_width
  refine D_Desk.d_say.F.ok sc_Desk_say (fun vs H Q E h => ?_) (fun cdv A outer s H vs Q E hr h => ?_)
  · obtain ⟨H0, d, k, nm, ts, z, rfl, _⟩ := h
    rfl
  obtain ⟨H0, d, k, nm, ts, z, rfl, hD, S, h⟩ := h
  refine ⟨_, (pss_cons (ps_set (i := 2) sc_Desk_say.nd rfl (Or.inl rfl) (pe_call G_words_of hr rfl d_words_of.m d_words_of.F.kp d_words_of.b .nil pass0 (pa_cons (pv 1) pa_nil)))
      (pss_cons (ps_if (pt_cmpR op_eq (pe_ix (ix_listK (K := K) rfl) (pv 2) pe_int (fun _ _ => rfl)) pe_str (nomark _))
      (pss_cons ps_never
      (pss_one (ps_ret pe_str)))
      pss_nil)
      (pss_cons (ps_if (pt_cmpR (op_inSK (K := K) rfl) (pe_ix (ix_listK (K := K) rfl) (pv 2) pe_int (fun _ _ => rfl)) (pe_glob (v := .ref Wd.a_CHANGES) (u := .ref Wd.a_CHANGES) rfl Wd.m_CHANGES rfl) (by with_unfolding_all rfl))
      (pss_cons (ps_expr (pe_meth (pv 0) D_Desk.cl D_Desk.d_change.mt G_Desk_change hr D_Desk.d_change.b .nil pass0 (pa_cons (pv 2) pa_nil)))
      (pss_one (ps_ret pe_str)))
      pss_nil)
      (pss_cons (ps_if (pt_cmpR (op_inSK (K := K) rfl) (pe_ix (ix_listK (K := K) rfl) (pv 2) pe_int (fun _ _ => rfl)) (pe_glob (v := .ref Wd.a_QUESTIONS) (u := .ref Wd.a_QUESTIONS) rfl Wd.m_QUESTIONS rfl) (by with_unfolding_all rfl))
      (pss_one ps_never)
      pss_nil)
      (pss_one (ps_ret (pe_meth (pv 0) D_Desk.cl D_Desk.d_looked.mt G_Desk_looked hr D_Desk.d_looked.b .nil pass0 (pa_cons (pe_ix (ix_listK (K := K) rfl) (pv 2) pe_int (fun _ _ => rfl)) pa_nil)))))))), ?_⟩
  rcases h with ⟨o, nm', ts', rfl, st, q⟩ | ⟨rfl, q⟩
  · obtain ⟨w0, r, ew, f1, f2, f3, f4⟩ := op_first o
    have cl := st.clean S
    have sp := blank_split (A := o.words) (by rw [ew]; intro z; cases z) (fun l hl => (cl l hl).1)
    have lw : o.words.length ≤ 4 := by cases o <;> simp [DOp.words]
    have ll := blank_len (A := o.words) (B := 30) (fun l hl => (cl l hl).2)
    rw [ew, List.map_cons] at sp
    refine ⟨_, rfl, _, sT w0, r.map sT, rfl, by rw [sT_len]; omega, by rw [ew]; exact sp, f1, by rw [List.length_map]; exact f2, fun p H1 s1 fp h1 => ?_⟩
    have h1' : H1 p = some (.lst ((o.words.map sT).map V.str)) := by rw [ew]; exact h1
    refine ⟨_, rfl, p, _, _, V.str (sT w0), rfl, rfl, SqL.of h1, atI_nat (j := 0) rfl, rfl, _, rfl, ?_⟩
    rw [f4]
    refine iteF ⟨_, rfl, p, _, _, V.str (sT w0), rfl, rfl, SqL.of h1, atI_nat (j := 0) rfl, Wd.a_CHANGES, _, rfl, .inr (.inr Wd.s_CHANGES), rfl, rfl, _, rfl, ?_⟩
    rw [if_neg (by decide), f3]
    have hD1 := hD.mono s1
    obtain ⟨dx, pn, pw, pc, ws, kvs, hA, kp⟩ := hD1
    refine iteT ⟨_, rfl, d, _, _, rfl, hA.hd, lk_meth (by decide +kernel) _ _ _ _, _, rfl, H0, d, p, k, nm, nm', ts, ts', o, rfl, SqL.of h1', ⟨dx, pn, pw, pc, ws, kvs, hA, kp⟩, S, st, fun H2 hD2 => q H2 hD2⟩
  · have sp := blank_split (A := [wWidth]) (by intro z; cases z) (fun l hl => by rw [List.mem_singleton.mp hl]; decide)
    refine ⟨_, rfl, _, sT wWidth, [], rfl, by rw [sT_len]; decide, sp, by decide +kernel, by rw [← width_t]; rfl, fun p H1 s1 fp h1 => ?_⟩
    refine ⟨_, rfl, p, _, _, V.str (sT wWidth), rfl, rfl, SqL.of h1, atI_nat (j := 0) rfl, rfl, _, rfl, ?_⟩
    rw [show decide (V.str (sT wWidth) = V.str "keep") = false by decide +kernel]
    refine iteF ⟨_, rfl, p, _, _, V.str (sT wWidth), rfl, rfl, SqL.of h1, atI_nat (j := 0) rfl, Wd.a_CHANGES, _, rfl, .inr (.inr Wd.s_CHANGES), rfl, rfl, _, rfl, ?_⟩
    rw [if_neg (by decide), show inV (.str (sT wWidth)) [.str "place", .str "tie", .str "untie", .str "drop"] = false by decide +kernel]
    refine iteF ⟨_, rfl, p, _, _, V.str (sT wWidth), rfl, rfl, SqL.of h1, atI_nat (j := 0) rfl, Wd.a_QUESTIONS, _, rfl, .inr (.inr Wd.s_QUESTIONS), rfl, rfl, _, rfl, ?_⟩
    rw [if_neg (by decide), show inV (.str (sT wWidth)) [.str "colours", .str "apart", .str "watch", .str "link", .str "round"] = false by decide +kernel]
    have hD1 := hD.mono s1
    obtain ⟨dx, pn, pw, pc, ws, kvs, hA, kp⟩ := hD1
    refine iteF ⟨_, rfl, d, _, _, rfl, hA.hd, lk_meth (by decide +kernel) _ _ _ _, _, rfl, p, _, _, V.str (sT wWidth), rfl, rfl, SqL.of h1, atI_nat (j := 0) rfl, H0, d, k, nm, ts, rfl, ⟨dx, pn, pw, pc, ws, kvs, hA, kp⟩, S, fun us cs H2 s2 pm C => q us cs H2 (s1.trans s2) pm C⟩
set_option maxHeartbeats 4000000 in
theorem ok_init (B : Bl mg) (D_Desk : ObDesk K mg) : FnOk P w K mg base CX0 1 D_Desk.d___init__.f D_Desk.d___init__.fd ["self"] (spInit D_Desk.C) := by
  refine D_Desk.d___init__.F.ok sc_Desk___init__ (fun vs H Q E h => ?_) (fun cdv A outer s H vs Q E hr h => ?_)
  · obtain ⟨d, dx, rfl, _⟩ := h
    rfl
  obtain ⟨d, dx, rfl, hd, q⟩ := h
  refine ⟨_, (pss_cons (ps_fld (pv 0) (pe_lstN pa_nil) rfl)
      (pss_cons (ps_fld (pv 0) (pe_lstN pa_nil) rfl)
      (pss_cons (ps_fld (pv 0) pe_dnewT rfl)
      (pss_one (ps_fld (pv 0) pe_non rfl))))), ?_⟩
  refine ⟨(by show 0 ≤ 1000; decide), fun pn H1 n1 => ?_⟩
  have h1 := n1.same _ _ hd
  refine ⟨_, rfl, d, _, _, _, rfl, h1, D_Desk.cl, D_Desk.n_names, by decide, ?_⟩
  generalize hU1 : upd H1 d _ = U1
  have u1 : Chg H1 d (.ins D_Desk.C dx (putF "names" (.ref pn) [])) U1 := by rw [← hU1]; exact Chg.mk0
  refine ⟨(by show 0 ≤ 1000; decide), fun pw H2 n2 => ?_⟩
  have h2 := n2.same _ _ u1.here
  refine ⟨_, rfl, d, _, _, _, rfl, h2, D_Desk.cl, D_Desk.n_weights, (by show 1 < 1000; decide), ?_⟩
  generalize hU2 : upd H2 d _ = U2
  have u2 : Chg H2 d (.ins D_Desk.C dx (putF "weights" (.ref pw) (putF "names" (.ref pn) []))) U2 := by rw [← hU2]; exact Chg.mk0
  refine fun pc fc => ?_
  have n3 : New U2 pc (.dT []) (upd U2 pc (.dT [])) := New.mk0 fc
  generalize upd U2 pc (.dT []) = H3 at n3
  have h3 := n3.same _ _ u2.here
  refine ⟨_, rfl, d, _, _, _, rfl, h3, D_Desk.cl, D_Desk.n_costs, (by show 2 < 1000; decide), ?_⟩
  generalize hU3 : upd H3 d _ = U3
  have u3 : Chg H3 d (.ins D_Desk.C dx (putF "costs" (.ref pc) (putF "weights" (.ref pw) (putF "names" (.ref pn) [])))) U3 := by rw [← hU3]; exact Chg.mk0
  refine ⟨_, rfl, d, _, _, _, rfl, u3.here, D_Desk.cl, D_Desk.n_kept, (by show 3 < 1000; decide), ?_⟩
  rw [pf_all]
  have dn : pn ≠ d := fun e => by have := n1.fresh; rw [e, hd] at this; cases this
  have dw : pw ≠ d := fun e => by have := n2.fresh; rw [e, u1.here] at this; cases this
  have dc : pc ≠ d := fun e => by have := n3.fresh; rw [e, u2.here] at this; cases this
  have nU1 : U1 pn = some (.lst []) := by rw [u1.rest _ dn]; exact n1.here
  have nw : pn ≠ pw := fun e => by have := n2.fresh; rw [← e, nU1] at this; cases this
  generalize hU4 : upd U3 d _ = U4
  have u4 : Chg U3 d (.ins D_Desk.C dx (fsD pn pw pc .non)) U4 := by rw [← hU4]; exact Chg.mk0
  have wU3 : U3 pw = some (.lst []) := by rw [u3.rest _ dw]; exact n3.same _ _ (by rw [u2.rest _ dw]; exact n2.here)
  have nU3 : U3 pn = some (.lst []) := by rw [u3.rest _ dn]; exact n3.same _ _ (by rw [u2.rest _ dn]; exact n2.same _ _ nU1)
  have cU3 : U3 pc = some (.dT []) := by rw [u3.rest _ dc]; exact n3.here
  refine q U4 fun H0 h0 s0 => ?_
  have s1 : Same H0 U1 := (s0.trans n1.same).chg h0 u1
  have s2 : Same H0 U2 := (s1.trans n2.same).chg h0 u2
  have s3 : Same H0 U3 := (s2.trans n3.same).chg h0 u3
  exact ⟨dx, pn, pw, pc, [], [], ⟨s3.chg h0 u4, h0, s0.free n1.fresh, s1.free n2.fresh, s2.free n3.fresh, u4.here, by rw [u4.rest _ dn]; exact nU3, by rw [u4.rest _ dw]; exact wU3, by rw [u4.rest _ dc]; exact cU3, nw, rfl⟩, rfl⟩
end

end K

namespace K
open PySem L2 Lw Bg Tx
/-- two places by their names are tied -/
def TN (nm : List (List Nat)) (ts : List (Int × Int)) (x y : List Nat) : Prop := ∃ a b : Nat, nm[a]? = some x ∧ nm[b]? = some y ∧ a ≠ b ∧ tieP a b ∈ ts
abbrev Rl := List Nat → List Nat → Prop
theorem tieP_comm (a b : Nat) : tieP a b = tieP b a := by
  unfold tieP
  rw [Nat.min_comm, Nat.max_comm]
theorem at_inj {nm : List (List Nat)} (nd : nm.Nodup) {a b : Nat} {x : List Nat} (ha : nm[a]? = some x) (hb : nm[b]? = some x) : a = b := by
  obtain ⟨h1, e1⟩ := List.getElem?_eq_some_iff.mp ha
  obtain ⟨h2, e2⟩ := List.getElem?_eq_some_iff.mp hb
  exact (List.getElem_inj nd).mp (e1.trans e2.symm)
theorem tieP_inj {a b c d : Nat} (h : tieP a b = tieP c d) : (a = c ∧ b = d) ∨ (a = d ∧ b = c) := by
  unfold tieP at h
  injection h with h1 h2
  omega
theorem tT_iff (l : List (Int × Int)) (x y : Nat) : tieT l x y = true ↔ (((x : Int), (y : Int)) ∈ l ∨ ((y : Int), (x : Int)) ∈ l) := by
  unfold tieT
  rw [Bool.or_eq_true, decide_eq_true_iff, decide_eq_true_iff]
theorem tT_P {nm : List (List Nat)} {ts : List (Int × Int)} (S : DS nm ts) (a b : Nat) : tieT ts a b = true ↔ a ≠ b ∧ tieP a b ∈ ts := by
  rw [tT_iff]
  constructor
  · rintro (h | h)
    · have := S.okt _ h
      dsimp only at this
      refine ⟨by omega, ?_⟩
      rw [show tieP a b = ((a : Int), (b : Int)) by unfold tieP; rw [show min a b = a by omega, show max a b = b by omega]]
      exact h
    · have := S.okt _ h
      dsimp only at this
      refine ⟨by omega, ?_⟩
      rw [show tieP a b = ((b : Int), (a : Int)) by unfold tieP; rw [show min a b = b by omega, show max a b = a by omega]]
      exact h
  · rintro ⟨ne, h⟩
    rcases Nat.lt_or_gt_of_ne ne with c | c
    · left
      rwa [show tieP a b = ((a : Int), (b : Int)) by unfold tieP; rw [show min a b = a by omega, show max a b = b by omega]] at h
    · right
      rwa [show tieP a b = ((b : Int), (a : Int)) by unfold tieP; rw [show min a b = b by omega, show max a b = a by omega]] at h
theorem tT_lt {nm : List (List Nat)} {ts : List (Int × Int)} (S : DS nm ts) {a b : Nat} (h : tieT ts a b = true) : a < nm.length ∧ b < nm.length := by
  rcases (tT_iff ts a b).mp h with h | h
  · have := S.okt _ h
    dsimp only at this
    omega
  · have := S.okt _ h
    dsimp only at this
    omega
theorem tn_iff {nm : List (List Nat)} {ts : List (Int × Int)} (S : DS nm ts) {a b : Nat} {x y : List Nat} (ha : nm[a]? = some x) (hb : nm[b]? = some y) : tieT ts a b = true ↔ TN nm ts x y := by
  rw [tT_P S]
  constructor
  · rintro ⟨ne, h⟩
    exact ⟨a, b, ha, hb, ne, h⟩
  · rintro ⟨a', b', ha', hb', ne, h⟩
    obtain rfl := at_inj S.nms.nd ha ha'
    obtain rfl := at_inj S.nms.nd hb hb'
    exact ⟨ne, h⟩
/-- names and ties as they stand, the ties by names -/
structure NS (nm : List (List Nat)) (R : Rl) (ts : List (Int × Int)) : Prop where
  s : DS nm ts
  r : ∀ x y, TN nm ts x y ↔ R x y
inductive NStep : List (List Nat) → Rl → DOp → List (List Nat) → Rl → Prop
  | place {nm R l z} : Nms (nm ++ [l]) → numOk (sT z) = true → NStep nm R (.place l z) (nm ++ [l]) R
  | tie {nm R x y z} : x ∈ nm → y ∈ nm → x ≠ y → ¬ R x y → numOk (sT z) = true → NStep nm R (.tie x y z) nm (fun u v => R u v ∨ (u = x ∧ v = y) ∨ (u = y ∧ v = x))
  | untie {nm R x y} : x ∈ nm → y ∈ nm → R x y → NStep nm R (.untie x y) nm (fun u v => R u v ∧ ¬ ((u = x ∧ v = y) ∨ (u = y ∧ v = x)))
  | drop {nm R x} : x ∈ nm → NStep nm R (.drop x) (nm.filter fun l => decide (l ≠ x)) (fun u v => R u v ∧ u ≠ x ∧ v ≠ x)
theorem erase_at : ∀ {nm : List (List Nat)} {v : Nat} {x : List Nat}, nm.Nodup → nm[v]? = some x → nm.eraseIdx v = nm.filter fun l => decide (l ≠ x)
  | [], v, x, _, h => by simp at h
  | a :: r, 0, x, nd, h => by
    obtain rfl : a = x := by simpa using h
    rw [List.nodup_cons] at nd
    rw [List.filter_cons_of_neg (by simp)]
    exact (List.filter_eq_self.mpr fun y hy => by
      have : y ≠ a := fun e => nd.1 (e ▸ hy)
      simp [this]).symm
  | a :: r, v + 1, x, nd, h => by
    rw [List.nodup_cons] at nd
    have h' : r[v]? = some x := by simpa using h
    have ne : a ≠ x := fun e => nd.1 (e ▸ List.mem_of_getElem? h')
    rw [List.filter_cons_of_pos (by simp [ne]), List.eraseIdx_cons_succ, erase_at nd.2 h']
theorem erase_get {nm : List (List Nat)} {v j : Nat} : (nm.eraseIdx v)[j]? = if j < v then nm[j]? else nm[j + 1]? := List.getElem?_eraseIdx
theorem at_of {nm : List (List Nat)} {x : List Nat} (h : x ∈ nm) : ∃ a : Nat, nm[a]? = some x := List.mem_iff_getElem?.mp h
theorem NStep.to {nm nm' : List (List Nat)} {R R' : Rl} {ts : List (Int × Int)} {o : DOp} (h : NStep nm R o nm' R') (N : NS nm R ts) : ∃ ts', DStep nm ts o nm' ts' ∧ NS nm' R' ts' := by
  have S := N.s
  cases h with
  | @place l z hN hz =>
    have st : DStep nm ts (.place l z) (nm ++ [l]) ts := .place hN hz
    refine ⟨ts, st, st.ds S, fun x y => ?_⟩
    rw [← N.r]
    constructor
    · rintro ⟨a, b, ha, hb, ne, h⟩
      have := S.okt _ h
      unfold tieP at this
      dsimp only at this
      exact ⟨a, b, by rwa [List.getElem?_append_left (by omega)] at ha, by rwa [List.getElem?_append_left (by omega)] at hb, ne, h⟩
    · rintro ⟨a, b, ha, hb, ne, h⟩
      have h1 := (List.getElem?_eq_some_iff.mp ha).1
      have h2 := (List.getElem?_eq_some_iff.mp hb).1
      exact ⟨a, b, by rwa [List.getElem?_append_left h1], by rwa [List.getElem?_append_left h2], ne, h⟩
  | @tie x y z hx hy ne nr hz =>
    obtain ⟨a, ha⟩ := at_of hx
    obtain ⟨b, hb⟩ := at_of hy
    have ab : a ≠ b := fun e => by
      subst e
      rw [ha] at hb
      exact ne (Option.some.inj hb)
    have nt : tieP a b ∉ ts := fun h => nr ((N.r x y).mp ⟨a, b, ha, hb, ab, h⟩)
    have st : DStep nm ts (.tie x y z) nm (ts ++ [tieP a b]) := .tie ha hb ab nt hz
    refine ⟨_, st, st.ds S, fun u v => ?_⟩
    rw [← N.r]
    constructor
    · rintro ⟨c, d, hc, hd, cd, h⟩
      rcases List.mem_append.mp h with h | h
      · exact .inl ⟨c, d, hc, hd, cd, h⟩
      · right
        rcases tieP_inj (List.mem_singleton.mp h) with ⟨rfl, rfl⟩ | ⟨rfl, rfl⟩
        · rw [ha] at hc; rw [hb] at hd
          exact .inl ⟨(Option.some.inj hc).symm, (Option.some.inj hd).symm⟩
        · rw [hb] at hc; rw [ha] at hd
          exact .inr ⟨(Option.some.inj hc).symm, (Option.some.inj hd).symm⟩
    · rintro (⟨c, d, hc, hd, cd, h⟩ | ⟨rfl, rfl⟩ | ⟨rfl, rfl⟩)
      · exact ⟨c, d, hc, hd, cd, List.mem_append_left _ h⟩
      · exact ⟨a, b, ha, hb, ab, List.mem_append_right _ List.mem_cons_self⟩
      · exact ⟨b, a, hb, ha, Ne.symm ab, by rw [tieP_comm]; exact List.mem_append_right _ List.mem_cons_self⟩
  | @untie x y hx hy nr =>
    obtain ⟨a, b, ha, hb, ab, nt⟩ := (N.r x y).mpr nr
    have st : DStep nm ts (.untie x y) nm (ts.filter fun u => decide (u ≠ tieP a b)) := .untie ha hb ab nt
    refine ⟨_, st, st.ds S, fun u v => ?_⟩
    rw [← N.r]
    constructor
    · rintro ⟨c, d, hc, hd, cd, h⟩
      obtain ⟨h1, h2⟩ := List.mem_filter.mp h
      refine ⟨⟨c, d, hc, hd, cd, h1⟩, fun z => of_decide_eq_true h2 ?_⟩
      rcases z with ⟨rfl, rfl⟩ | ⟨rfl, rfl⟩
      · rw [at_inj S.nms.nd hc ha, at_inj S.nms.nd hd hb]
      · rw [at_inj S.nms.nd hc hb, at_inj S.nms.nd hd ha, tieP_comm]
    · rintro ⟨⟨c, d, hc, hd, cd, h⟩, z⟩
      refine ⟨c, d, hc, hd, cd, List.mem_filter.mpr ⟨h, decide_eq_true fun e => z ?_⟩⟩
      rcases tieP_inj e with ⟨rfl, rfl⟩ | ⟨rfl, rfl⟩
      · rw [ha] at hc; rw [hb] at hd
        exact .inl ⟨(Option.some.inj hc).symm, (Option.some.inj hd).symm⟩
      · rw [hb] at hc; rw [ha] at hd
        exact .inr ⟨(Option.some.inj hc).symm, (Option.some.inj hd).symm⟩
  | @drop x hx =>
    obtain ⟨v, hv⟩ := at_of hx
    have st : DStep nm ts (.drop x) (nm.eraseIdx v) (offT v ts) := .drop hv
    have st' := st
    rw [erase_at S.nms.nd hv] at st'
    have ds := st.ds S
    refine ⟨_, st', by rw [← erase_at S.nms.nd hv]; exact ds, fun u w => ?_⟩
    rw [← N.r, ← erase_at S.nms.nd hv]
    constructor
    · rintro ⟨c, d, hc, hd, cd, h⟩
      obtain ⟨s, hs, h1, h2, e⟩ := offT_mem.mp h
      obtain ⟨o1, o2, o3⟩ := S.okt s hs
      have key : ∀ {j : Nat} {z : List Nat}, (nm.eraseIdx v)[j]? = some z → nm[if j < v then j else j + 1]? = some z ∧ z ≠ x ∧ upN ((if j < v then j else j + 1 : Nat) : Int) v = (j : Int) ∧ (if j < v then j else j + 1) ≠ v := fun {j z} hj => by
        rw [erase_get] at hj
        refine ⟨?_, ?_, ?_, ?_⟩
        · split at hj <;> rename_i q
          · rw [if_pos q]; exact hj
          · rw [if_neg q]; exact hj
        · intro ez
          subst ez
          split at hj
          · have := at_inj S.nms.nd hj hv; omega
          · have := at_inj S.nms.nd hj hv; omega
        · unfold upN
          split <;> split <;> omega
        · split <;> omega
      obtain ⟨k1, k2, k3, k4⟩ := key hc
      obtain ⟨l1, l2, l3, l4⟩ := key hd
      generalize (if c < v then c else c + 1) = c' at k1 k3 k4
      generalize (if d < v then d else d + 1) = d' at l1 l3 l4
      have cd' : c' ≠ d' := fun z => by rw [z, l3] at k3; omega
      refine ⟨⟨c', d', k1, l1, cd', ?_⟩, k2, l2⟩
      have e' : upT v (tieP c' d') = tieP c d := by
        rw [← e]
        have e1 : upN s.1 v = ((min c d : Nat) : Int) := congrArg Prod.fst e
        have e2 : upN s.2 v = ((max c d : Nat) : Int) := congrArg Prod.snd e
        unfold upT tieP
        dsimp only
        rw [e1, e2]
        refine Prod.ext ?_ ?_
        · dsimp only
          unfold upN at k3 l3 ⊢
          split at k3 <;> split at l3 <;> split <;> omega
        · dsimp only
          unfold upN at k3 l3 ⊢
          split at k3 <;> split at l3 <;> split <;> omega
      have e3 : s = tieP c' d' := by
        have := e.trans e'.symm
        unfold upT at this
        injection this with t1 t2
        refine Prod.ext (upN_inj h1 ?_ t1) (upN_inj h2 ?_ t2)
        · unfold tieP; dsimp only; omega
        · unfold tieP; dsimp only; omega
      rw [← e3]
      exact hs
    · rintro ⟨⟨c, d, hc, hd, cd, h⟩, u1, w1⟩
      have cv : c ≠ v := fun e => by subst e; rw [hv] at hc; exact u1 (Option.some.inj hc).symm
      have dv : d ≠ v := fun e => by subst e; rw [hv] at hd; exact w1 (Option.some.inj hd).symm
      have key : ∀ {j : Nat} {z : List Nat}, nm[j]? = some z → j ≠ v → (nm.eraseIdx v)[if j > v then j - 1 else j]? = some z ∧ upN (j : Int) v = ((if j > v then j - 1 else j : Nat) : Int) := fun {j z} hj jv => by
        rw [erase_get]
        refine ⟨?_, ?_⟩
        · by_cases q : j > v
          · rw [if_pos q, if_neg (by omega), show j - 1 + 1 = j by omega]; exact hj
          · rw [if_neg q, if_pos (by omega)]; exact hj
        · unfold upN
          split <;> split <;> omega
      obtain ⟨k1, k2⟩ := key hc cv
      obtain ⟨l1, l2⟩ := key hd dv
      have ne' : (if c > v then c - 1 else c) ≠ (if d > v then d - 1 else d) := by split <;> split <;> omega
      refine ⟨_, _, k1, l1, ne', offT_mem.mpr ⟨tieP c d, h, ?_, ?_, ?_⟩⟩
      · unfold tieP; dsimp only; omega
      · unfold tieP; dsimp only; omega
      · generalize (if c > v then c - 1 else c) = c' at k2
        generalize (if d > v then d - 1 else d) = d' at l2
        unfold upT tieP
        dsimp only
        refine Prod.ext ?_ ?_
        · dsimp only
          unfold upN at k2 l2 ⊢
          split at k2 <;> split at l2 <;> split <;> omega
        · dsimp only
          unfold upN at k2 l2 ⊢
          split at k2 <;> split at l2 <;> split <;> omega
inductive NRun : List (List Nat) → Rl → List DOp → List (List Nat) → Rl → Prop
  | nil {nm R} : NRun nm R [] nm R
  | cons {nm R o nm' R' os nm'' R''} : NStep nm R o nm' R' → NRun nm' R' os nm'' R'' → NRun nm R (o :: os) nm'' R''

end K

namespace K
open PySem L2 Lw Bg Tx
theorem lw_0 {m : Nat} {us : List (Int × Int)} {w : Int} (m0 : 0 < m) (h : LW m us w) : 0 ≤ w := by
  obtain ⟨os, h, all⟩ := h
  have ne : os ≠ [] := fun z => by have := all 0 m0; rw [z] at this; exact absurd this List.not_mem_nil
  cases h with
  | nil => exact absurd rfl ne
  | snoc _ _ _ g => exact g [] .nil fun u hu => absurd hu List.not_mem_nil
abbrev Val (n : Nat) (ts : List (Int × Int)) : Prop := ∀ t ∈ ts, 0 ≤ t.1 ∧ t.1 < t.2 ∧ t.2 < (n : Int)
theorem tieT_iff (l : List (Int × Int)) (x y : Nat) : tieT l x y = true ↔ (((x : Int), (y : Int)) ∈ l ∨ ((y : Int), (x : Int)) ∈ l) := by
  unfold tieT
  rw [Bool.or_eq_true, decide_eq_true_iff, decide_eq_true_iff]
theorem val_lt {n : Nat} {ts : List (Int × Int)} (W : Val n ts) (x y : Nat) (h : tieT ts x y = true) : x < n ∧ y < n ∧ x ≠ y := by
  rcases (tieT_iff ts x y).mp h with h | h
  · have o : 0 ≤ (x : Int) ∧ (x : Int) < (y : Int) ∧ (y : Int) < (n : Int) := W _ h
    omega
  · have o : 0 ≤ (y : Int) ∧ (y : Int) < (x : Int) ∧ (x : Int) < (n : Int) := W _ h
    omega
theorem lw_one {w : Int} (w0 : 0 ≤ w) : LW 1 [] w := ⟨[0], .snoc (os := []) .nil List.not_mem_nil (by decide) (fun U nd hU => by
  cases U with
  | nil => exact w0
  | cons u r =>
    obtain ⟨_, _, _, p⟩ := hU u List.mem_cons_self
    exfalso
    cases p with
    | one h => cases h
    | step p m h => cases h), fun v hv => by rw [show v = 0 by omega]; exact List.mem_cons_self⟩
theorem lw_isol {m : Nat} {us : List (Int × Int)} {w : Int} (w0 : 0 ≤ w) (W : Val m us) (h : LW m us w) : LW (m + 1) us w :=
  lw_union (bs := []) (fun x y t => .inl ⟨(val_lt W x y t).1, (val_lt W x y t).2.1, t⟩) h (lw_one w0)

/-- w is the least width -/
structure IsW (n : Nat) (ts : List (Int × Int)) (w : Int) : Prop where
  lo : -1 ≤ w
  le : ∀ u, -1 ≤ u → (w ≤ u ↔ LW n ts u)
theorem IsW.lw {n : Nat} {ts : List (Int × Int)} {w : Int} (h : IsW n ts w) : LW n ts w := (h.le w h.lo).mp (Int.le_refl _)
theorem IsW.of {n : Nat} {ts us : List (Int × Int)} {cs : List Int} (n10 : n ≤ 10) (pm : us.Perm ts) (C : CostOk n us cs) : IsW n ts (cs.getD (2 ^ n - 1) 0) := by
  have e : ∀ x y, tieT us x y = tieT ts x y := fun x y => by
    unfold tieT
    rw [decide_eq_decide.mpr (pm.mem_iff (a := ((x : Int), (y : Int)))), decide_eq_decide.mpr (pm.mem_iff (a := ((y : Int), (x : Int))))]
  have f : ∀ {as bs : List (Int × Int)} {u : Int}, (∀ x y, tieT as x y = tieT bs x y) → LW n as u → LW n bs u := fun {as bs u} e ⟨os, h, al⟩ => by
    refine ⟨os, ?_, al⟩
    clear al
    induction h with
    | nil => exact .nil
    | @snoc os v h1 h2 h3 h4 ih =>
      refine .snoc ih h2 h3 fun U nd hU => h4 U nd fun x hx => ?_
      obtain ⟨a, b, c, p⟩ := hU x hx
      refine ⟨a, b, c, ?_⟩
      exact p.edgesP fun a b q => by rw [e]; exact q
  refine ⟨(wide_few C n10).1, fun u hu => (lw_iff n10 C hu).trans ⟨f e, f fun x y => (e x y).symm⟩⟩
/-- the number of a name -/
def ixN (nm : List (List Nat)) (x : List Nat) : Nat := nm.idxOf x
theorem ixN_at {nm : List (List Nat)} {x : List Nat} (h : x ∈ nm) : nm[ixN nm x]? = some x ∧ ixN nm x < nm.length := by
  have l := List.idxOf_lt_length_of_mem h
  exact ⟨by unfold ixN; rw [List.getElem?_eq_getElem l]; exact congrArg some (List.getElem_idxOf l), l⟩
theorem wn_le {nm nm' : List (List Nat)} {R R' : Rl} {ts ts' : List (Int × Int)} {w w' : Int} (N : NS nm R ts) (N' : NS nm' R' ts') (hW : IsW nm.length ts w) (hW' : IsW nm'.length ts' w') (sub : ∀ x ∈ nm', x ∈ nm) (e : ∀ x y, R' x y → R x y) : w' ≤ w := by
  refine (hW'.le w hW.lo).mpr (lw_embed (n := nm.length) (ts := ts) (f := fun i => ixN nm (nm'.getD i [])) ?_ ?_ ?_ ?_ hW.lw)
  · intro i j hi hj q
    have mi : nm'.getD i [] ∈ nm' := by rw [List.getD_eq_getElem?_getD, List.getElem?_eq_getElem hi]; exact List.getElem_mem _
    have mj : nm'.getD j [] ∈ nm' := by rw [List.getD_eq_getElem?_getD, List.getElem?_eq_getElem hj]; exact List.getElem_mem _
    have a := (ixN_at (sub _ mi)).1
    have b := (ixN_at (sub _ mj)).1
    rw [q, b] at a
    have := Option.some.inj a
    rw [List.getD_eq_getElem?_getD, List.getD_eq_getElem?_getD, List.getElem?_eq_getElem hi, List.getElem?_eq_getElem hj] at this
    exact ((List.getElem_inj N'.s.nms.nd).mp this).symm
  · intro i hi
    have mi : nm'.getD i [] ∈ nm' := by rw [List.getD_eq_getElem?_getD, List.getElem?_eq_getElem hi]; exact List.getElem_mem _
    exact (ixN_at (sub _ mi)).2
  · exact fun x y h => tT_lt N'.s h
  · intro i j h
    obtain ⟨hi, hj⟩ := tT_lt N'.s h
    have gi : nm'[i]? = some (nm'.getD i []) := by rw [List.getD_eq_getElem?_getD, List.getElem?_eq_getElem hi]; rfl
    have gj : nm'[j]? = some (nm'.getD j []) := by rw [List.getD_eq_getElem?_getD, List.getElem?_eq_getElem hj]; rfl
    have t := (tn_iff N'.s gi gj).mp h
    have r := (N.r _ _).mpr (e _ _ ((N'.r _ _).mp t))
    exact (tn_iff N.s (ixN_at (sub _ (List.mem_of_getElem? gi))).1 (ixN_at (sub _ (List.mem_of_getElem? gj))).1).mpr r
theorem wn_apex {nm nm' : List (List Nat)} {R R' : Rl} {ts ts' : List (Int × Int)} {w w' : Int} {x : List Nat} (N : NS nm R ts) (N' : NS nm' R' ts') (hW : IsW nm.length ts w) (hW' : IsW nm'.length ts' w') (hx : x ∈ nm) (sub : ∀ u ∈ nm, u ≠ x → u ∈ nm') (e : ∀ u v, R u v → u ≠ x → v ≠ x → R' u v) : w ≤ w' + 1 := by
  have lo' := hW'.lo
  refine (hW.le _ (by omega)).mpr ?_
  by_cases c : nm'.length = 0
  · have e0 : nm' = [] := List.eq_nil_of_length_eq_zero c
    have n1 : nm.length = 1 := by
      obtain ⟨a, ha⟩ := at_of hx
      obtain ⟨al, ae⟩ := List.getElem?_eq_some_iff.mp ha
      have all : ∀ u ∈ nm, u = x := fun u hu => Classical.byContradiction fun z => by
        have := sub u hu z
        rw [e0] at this
        exact absurd this List.not_mem_nil
      have : ∀ j, j < nm.length → j = a := fun j hj => by
        have := all nm[j] (List.getElem_mem _)
        rw [← ae] at this
        exact (List.getElem_inj N.s.nms.nd).mp this
      have h0 := this 0 (by omega)
      rcases Nat.lt_or_ge 1 nm.length with q | q
      · have h1 := this 1 q
        omega
      · omega
    have := lw_top nm.length ts
    rw [n1] at this ⊢
    have q := (hW'.le (-1) (by omega)).mpr (by rw [c]; exact ⟨[], .nil, fun v hv => absurd hv (Nat.not_lt_zero _)⟩)
    have : w' + 1 = ((1 : Nat) : Int) - 1 := by omega
    rw [this]
    assumption
  · have w0 := lw_0 (m := nm'.length) (by omega) hW'.lw
    have h1 := lw_isol w0 N'.s.okt hW'.lw
    have ax := ixN_at hx
    have go : ∀ {i : Nat}, i < nm.length → nm[i]? = some (nm.getD i []) := fun {i} hi => by rw [List.getD_eq_getElem?_getD, List.getElem?_eq_getElem hi]; rfl
    have nx : ∀ {i : Nat}, i < nm.length → i ≠ ixN nm x → nm.getD i [] ≠ x := fun {i} hi ne z => by
      have := go hi
      rw [z] at this
      exact ne (at_inj N.s.nms.nd this ax.1)
    have mm : ∀ {i : Nat}, i < nm.length → i ≠ ixN nm x → nm.getD i [] ∈ nm' := fun {i} hi ne => sub _ (List.mem_of_getElem? (go hi)) (nx hi ne)
    refine lw_apex (ts := ts.filter fun t => decide (t.1 ≠ (ixN nm x : Int)) && decide (t.2 ≠ (ixN nm x : Int))) ax.2 hW'.lo ?_ (lw_embed (n := nm'.length + 1) (ts := ts') (f := fun i => if i = ixN nm x then nm'.length else ixN nm' (nm.getD i [])) ?_ ?_ ?_ ?_ h1)
    · intro i j hi hj t
      rw [tT_iff] at t ⊢
      rcases t with t | t
      · exact .inl (List.mem_filter.mpr ⟨t, by rw [decide_eq_true (by dsimp only; omega), decide_eq_true (by dsimp only; omega)]; rfl⟩)
      · exact .inr (List.mem_filter.mpr ⟨t, by rw [decide_eq_true (by dsimp only; omega), decide_eq_true (by dsimp only; omega)]; rfl⟩)
    · intro i j hi hj q
      by_cases ci : i = ixN nm x
      · by_cases cj : j = ixN nm x
        · omega
        · rw [if_pos ci, if_neg cj] at q
          have := (ixN_at (mm hj cj)).2
          omega
      · by_cases cj : j = ixN nm x
        · rw [if_neg ci, if_pos cj] at q
          have := (ixN_at (mm hi ci)).2
          omega
        · rw [if_neg ci, if_neg cj] at q
          have a := (ixN_at (mm hi ci)).1
          rw [q, (ixN_at (mm hj cj)).1] at a
          have z := Option.some.inj a
          have g1 := go hi
          have g2 := go hj
          rw [z] at g2
          exact at_inj N.s.nms.nd g1 g2
    · intro i hi
      by_cases ci : i = ixN nm x
      · rw [if_pos ci]; omega
      · rw [if_neg ci]
        have := (ixN_at (mm hi ci)).2
        omega
    · intro i j h
      refine tT_lt N.s ?_
      rw [tT_iff] at h ⊢
      exact h.imp (fun z => (List.mem_filter.mp z).1) (fun z => (List.mem_filter.mp z).1)
    · intro i j h
      have h' : tieT ts i j = true ∧ i ≠ ixN nm x ∧ j ≠ ixN nm x := by
        rw [tT_iff] at h ⊢
        rcases h with h | h
        · obtain ⟨a, b⟩ := List.mem_filter.mp h
          rw [Bool.and_eq_true, decide_eq_true_iff, decide_eq_true_iff] at b
          dsimp only at b
          exact ⟨.inl a, by omega, by omega⟩
        · obtain ⟨a, b⟩ := List.mem_filter.mp h
          rw [Bool.and_eq_true, decide_eq_true_iff, decide_eq_true_iff] at b
          dsimp only at b
          exact ⟨.inr a, by omega, by omega⟩
      obtain ⟨t, ci, cj⟩ := h'
      obtain ⟨hi, hj⟩ := tT_lt N.s t
      rw [if_neg ci, if_neg cj]
      have r := e _ _ ((N.r _ _).mp ((tn_iff N.s (go hi) (go hj)).mp t)) (nx hi ci) (nx hj cj)
      exact (tn_iff N'.s (ixN_at (mm hi ci)).1 (ixN_at (mm hj cj)).1).mpr ((N'.r _ _).mpr r)
theorem wn_all {nm : List (List Nat)} {R R' : Rl} {ts ts' : List (Int × Int)} {w w' : Int} {x : List Nat} (N : NS nm R ts) (N' : NS (nm ++ [x]) R' ts') (hW : IsW nm.length ts w) (hW' : IsW (nm ++ [x]).length ts' w') (e : ∀ u v, R' u v ↔ (R u v ∨ (u = x ∧ v ∈ nm) ∨ (v = x ∧ u ∈ nm))) : w' = w + 1 := by
  have nx : x ∉ nm := (N'.s.nms.init).2.1
  have ln : (nm ++ [x]).length = nm.length + 1 := by rw [List.length_append]; rfl
  have a1 := wn_apex N' N hW' hW (x := x) (List.mem_append_right _ List.mem_cons_self) (fun u hu ne => by
    rcases List.mem_append.mp hu with h | h
    · exact h
    · exact absurd (List.mem_singleton.mp h) ne) (fun u v h u1 v1 => by
    rcases (e u v).mp h with h | h | h
    · exact h
    · exact absurd h.1 u1
    · exact absurd h.1 v1)
  have h0 := lw_0 (m := (nm ++ [x]).length) (by rw [ln]; omega) hW'.lw
  have hl := hW'.lw
  rw [ln] at hl
  have gx : (nm ++ [x])[nm.length]? = some x := by rw [List.getElem?_append_right (Nat.le_refl _), Nat.sub_self]; rfl
  have gi : ∀ {i : Nat}, i < nm.length → (nm ++ [x])[i]? = nm[i]? := fun {i} hi => List.getElem?_append_left hi
  have a2 := (hW.le (w' - 1) (by omega)).mpr (lw_all (fun i j h => tT_lt N.s h) (fun i j h => by
    obtain ⟨hi, hj⟩ := tT_lt N.s h
    have g1 : nm[i]? = some nm[i] := List.getElem?_eq_getElem hi
    have g2 : nm[j]? = some nm[j] := List.getElem?_eq_getElem hj
    refine (tn_iff N'.s ((gi hi).trans g1) ((gi hj).trans g2)).mpr ((N'.r _ _).mpr ((e _ _).mpr (.inl ((N.r _ _).mp ((tn_iff N.s g1 g2).mp h)))))) (fun i hi => by
    have g1 : nm[i]? = some nm[i] := List.getElem?_eq_getElem hi
    exact ⟨(tn_iff N'.s ((gi hi).trans g1) gx).mpr ((N'.r _ _).mpr ((e _ _).mpr (.inr (.inr ⟨rfl, List.getElem_mem _⟩)))), (tn_iff N'.s gx ((gi hi).trans g1)).mpr ((N'.r _ _).mpr ((e _ _).mpr (.inr (.inl ⟨rfl, List.getElem_mem _⟩))))⟩) hl)
  omega

end K


namespace K
open PySem L2 Lw Bg Tx
abbrev s__law_cell : Stmt := top 146
theorem sc__law_cell : FnScope ["_law_script", "_law_k", "_law_number"] ["_law_script", "_law_k"] (defScope s__law_cell) := ⟨rfl, rfl, rfl, by decide +kernel, rfl, by decide +kernel, by decide +kernel⟩
abbrev s__law_mixed : Stmt := top 147
theorem sc__law_mixed : FnScope ["_law_cell_here", "_law_many"] ["_law_cell_here", "_law_many"] (defScope s__law_mixed) := ⟨rfl, rfl, rfl, by decide +kernel, rfl, by decide +kernel, by decide +kernel⟩
section
variable {P : Program} {w : World} {K : PySem.W.Frag} {mg : Str → Option Value} {base : Heap}
set_option maxHeartbeats 4000000 in
theorem ok_cell (B : Bl mg) (d : Dn K mg "_law_cell" s__law_cell ["_law_script", "_law_k"]) : FnOk P w K mg base CX0 1 d.f d.fd ["_law_script", "_law_k"] (spCell K) := by
  refine d.F.ok sc__law_cell (fun vs H Q E h => ?_) (fun cdv A outer s H vs Q E hr h => ?_)
  · obtain ⟨a, ns, k, rfl, _⟩ := h
    rfl
  obtain ⟨a, ns, k, rfl, hS, h63, h0, h1, q⟩ := h
  refine ⟨_, (pss_cons (ps_if (pt_cmpR op_lt (pv 1) (pe_callB (call_lenK (K := K) rfl) rfl B.len (by decide +kernel) (pa_cons (pv 0) pa_nil)) (nomark _))
      (pss_one (ps_ret (pe_ix (ix_listK (K := K) rfl) (pv 0) (pv 1) (fun _ _ => rfl))))
      pss_nil)
      (pss_cons (ps_set (i := 2) sc__law_cell.nd rfl (Or.inl rfl) (pe_op op_add (pe_op op_mul (pv 1) pe_int) pe_int))
      (pss_cut (ps_if (pt_cmpR op_gt (pe_callB (call_lenK (K := K) rfl) rfl B.len (by decide +kernel) (pa_cons (pv 0) pa_nil)) pe_int (nomark _))
      (pss_one (ps_set (i := 2) sc__law_cell.nd rfl (Or.inl rfl) (pe_op op_add (pe_op op_mul (pe_op op_mod (pe_ix (ix_listK (K := K) rfl) (pv 0) (pe_op op_mod (pe_op op_mul (pv 1) pe_int) (pe_callB (call_lenK (K := K) rfl) rfl B.len (by decide +kernel) (pa_cons (pv 0) pa_nil))) (fun _ _ => rfl)) pe_int) pe_int) (pe_op op_mul (pv 1) pe_int))))
      pss_nil)
      (pss_one (ps_ret (pe_op op_mod (pe_op op_mul (pv 2) (pv 2)) pe_int)))))), ?_⟩
  have hl : (ns.map V.int).length = ns.length := List.length_map _
  refine ⟨_, rfl, _, rfl, a, _, rfl, .inl hS, _, _, rfl, rfl, _, rfl, ?_⟩
  refine ite2 (fun c => ?_) (fun c => ?_)
  · have c' : k < (((ns.map V.int).length : Nat) : Int) := of_decide_eq_true c
    rw [hl] at c'
    refine ⟨_, rfl, _, rfl, a, _, _, _, rfl, rfl, hS, at_ints h0 c', ?_⟩
    have e : cellF ns k = ns.getD k.toNat 0 := by unfold cellF; rw [if_pos c']
    rw [e] at q
    exact q
  · have c' : ¬ k < (((ns.map V.int).length : Nat) : Int) := of_decide_eq_false (Bool.eq_false_iff.mpr c)
    rw [hl] at c'
    refine ⟨_, rfl, _, _, rfl, rfl, .inr ⟨by decide, by decide⟩, _, _, rfl, rfl, ?_⟩
    refine ⟨fun σ' H' => ∃ z : Int, σ' = [some (.ref a), some (.int k), some (.int z)] ∧ H' = H ∧ cellF ns k = z * z % 2147483629 ∧ -(2 ^ 64) < z ∧ z < 2 ^ 64, ?_, ?_⟩
    rotate_left
    · rintro σ' H' ⟨z, rfl, rfl, e, b1, b2⟩
      refine ⟨_, rfl, _, rfl, _, _, rfl, rfl, .inl ⟨b1, b2⟩, _, _, rfl, rfl, (show (0 : Int) < _ by decide), ?_⟩
      rw [e] at q
      exact q
    refine ⟨_, rfl, a, _, rfl, .inl hS, _, _, rfl, rfl, _, rfl, ?_⟩
    refine ite2 (fun z => ?_) (fun z => ?_)
    · have z' : (0 : Int) < (((ns.map V.int).length : Nat) : Int) := of_decide_eq_true z
      rw [hl] at z'
      have m0 := Int.emod_nonneg (k * 7) (show (ns.length : Int) ≠ 0 by omega)
      have m1 := Int.emod_lt_of_pos (k * 7) z'
      have b := cell_bound (ns.getD (k * 7 % (ns.length : Int)).toNat 0) k h0 h1
      refine ⟨_, rfl, _, rfl, _, _, rfl, rfl, .inr ⟨by decide, by decide⟩, _, rfl, a, _, rfl, .inl hS, _, _, rfl, rfl, (by rw [hl]; exact z'), a, _, _, _, rfl, rfl, hS, (by rw [hl]; exact at_ints m0 m1), _, _, rfl, rfl, (show (0 : Int) < _ by decide), _, _, rfl, rfl, .inr ⟨by decide, by decide⟩, _, rfl, _, _, rfl, rfl, .inr ⟨by decide, by decide⟩, _, _, rfl, rfl, ?_⟩
      refine ⟨_, rfl, rfl, ?_, b.1, b.2⟩
      unfold cellF; rw [if_neg c']; simp only [if_pos z']
    · have z' : ¬ (0 : Int) < (((ns.map V.int).length : Nat) : Int) := of_decide_eq_false (Bool.eq_false_iff.mpr z)
      rw [hl] at z'
      refine ⟨_, rfl, rfl, ?_, by omega, by omega⟩
      unfold cellF; rw [if_neg c']; simp only [if_neg z']
set_option maxHeartbeats 4000000 in
theorem ok_mixed (B : Bl mg) (d : Dn K mg "_law_mixed" s__law_mixed ["_law_cell_here", "_law_many"]) : FnOk P w K mg base CX0 1 d.f d.fd ["_law_cell_here", "_law_many"] spMix := by
  refine d.F.ok sc__law_mixed (fun vs H Q E h => ?_) (fun cdv A outer s H vs Q E hr h => ?_)
  · obtain ⟨c, m, rfl, _⟩ := h
    rfl
  obtain ⟨c, m, rfl, hm, q⟩ := h
  refine ⟨_, (pss_one (ps_ret (pe_op op_mod (pe_op op_fdiv (pe_op op_mod (pe_op op_mul (pe_op op_mod (pv 0) (pe_op op_pow pe_int pe_int)) pe_int) (pe_op op_pow pe_int pe_int)) (pe_op op_pow pe_int pe_int)) (pv 1)))), ?_⟩
  have p64 : (0 : Int) < 2 ^ 64 := by decide
  have a1 := Int.emod_nonneg c (show (2 ^ 64 : Int) ≠ 0 by decide)
  have a2 := Int.emod_lt_of_pos c p64
  refine ⟨_, rfl, _, _, rfl, rfl, ⟨by decide, by decide, by decide⟩, _, _, rfl, rfl, (show (0 : Int) < _ by decide), _, _, rfl, rfl, .inl ⟨?_, ?_⟩, _, _, rfl, rfl, ⟨by decide, by decide, by decide⟩, _, _, rfl, rfl, (show (0 : Int) < _ by decide), _, _, rfl, rfl, ⟨by decide, by decide, by decide⟩, _, _, rfl, rfl, ⟨by decide, by decide⟩, _, rfl, _, _, rfl, rfl, hm, ?_⟩
  · show -(2 ^ 64) < c % 2 ^ 64
    omega
  · exact a2
  · exact q
end

theorem empty_t : (Str.ofString "") = sT [] := by decide +kernel
def codeF (first k : Int) : Nat := 97 + ((first + 5 * k) % 26).toNat
/-- the name k is the one before with one sign more -/
def mvF (size first : Int) (k : Nat) : Bool := decide (k % 2 = 1) && (decide (size < 6) && decide (first % 4 = 1))
def baseF (size first : Int) (k : Nat) : Nat := if mvF size first k then k - 1 else k
def sizeF (size first : Int) (k : Nat) : Nat := if mvF size first k then size.toNat + 1 else size.toNat
def Let (l : List Nat) : Prop := ∀ c ∈ l, 97 ≤ c ∧ c ≤ 122
structure NmI (size spot first : Int) (k : Nat) (nm : List (List Nat)) : Prop where
  len : nm.length = k
  lets : ∀ l ∈ nm, Let l
  at_ : ∀ (j : Nat) (l : List Nat), nm[j]? = some l → l.length = sizeF size first j ∧ l[spot.toNat]? = some (codeF first (baseF size first j : Nat))
theorem NmI.nil {size spot first : Int} : NmI size spot first 0 [] := ⟨rfl, (fun _ h => by cases h), (fun j l h => by cases h)⟩
theorem NmI.snoc {size spot first : Int} {k : Nat} {nm : List (List Nat)} (h : NmI size spot first k nm) {l : List Nat} (hl : Let l) (h1 : l.length = sizeF size first k) (h2 : l[spot.toNat]? = some (codeF first (baseF size first k : Nat))) : NmI size spot first (k + 1) (nm ++ [l]) := by
  refine ⟨by rw [List.length_append, h.len]; rfl, fun x hx => ?_, fun j x hx => ?_⟩
  · rcases List.mem_append.mp hx with hx | hx
    · exact h.lets x hx
    · rw [List.mem_singleton.mp hx]; exact hl
  · by_cases c : j < k
    · rw [List.getElem?_append_left (by rw [h.len]; exact c)] at hx
      exact h.at_ j x hx
    · have := (List.getElem?_eq_some_iff.mp hx).1
      rw [List.length_append, h.len, List.length_singleton] at this
      have e : j = k := by omega
      subst e
      rw [List.getElem?_append_right (by rw [h.len]; exact Nat.le_refl _), h.len, Nat.sub_self] at hx
      have : l = x := Option.some.inj hx
      subst this
      exact ⟨h1, h2⟩
theorem code_ne {first : Int} {i j : Nat} (h : i < j) (h2 : j < 20) : codeF first (i : Nat) ≠ codeF first (j : Nat) := by
  unfold codeF
  omega
theorem NmI.nd {size spot first : Int} {k : Nat} {nm : List (List Nat)} (h : NmI size spot first k nm) (hs : 0 ≤ size) (hk : k ≤ 10) : nm.Nodup := by
  rw [List.nodup_iff_pairwise_ne, List.pairwise_iff_getElem]
  intro i j hi hj ij e
  have a := h.at_ i _ (List.getElem?_eq_getElem hi)
  have b := h.at_ j _ (List.getElem?_eq_getElem hj)
  rw [e] at a
  have e1 : sizeF size first i = sizeF size first j := a.1.symm.trans b.1
  have e2 : codeF first (baseF size first i : Nat) = codeF first (baseF size first j : Nat) := Option.some.inj (a.2.symm.trans b.2)
  rw [h.len] at hi hj
  unfold sizeF at e1
  unfold baseF at e2
  cases c1 : mvF size first i <;> cases c2 : mvF size first j <;> rw [c1, c2] at e1 e2 <;> simp only [if_true, if_false, Bool.false_eq_true] at e1 e2
  · exact code_ne ij (by omega) e2
  · omega
  · omega
  · have o1 : i % 2 = 1 := by
      unfold mvF at c1
      rw [Bool.and_eq_true, decide_eq_true_iff] at c1
      exact c1.1
    have o2 : j % 2 = 1 := by
      unfold mvF at c2
      rw [Bool.and_eq_true, decide_eq_true_iff] at c2
      exact c2.1
    exact code_ne (by omega) (by omega) e2
theorem nd_set {α : Type} {xs : List α} (h : xs.Nodup) {i : Nat} {w : α} (hw : w ∉ xs) : (xs.set i w).Nodup := by
  rw [List.nodup_iff_pairwise_ne, List.pairwise_iff_getElem] at h ⊢
  intro a b ha hb ab e
  rw [List.length_set] at ha hb
  rw [List.getElem_set, List.getElem_set] at e
  split at e <;> split at e
  · omega
  · exact hw (by rw [e]; exact List.getElem_mem _)
  · exact hw (by rw [← e]; exact List.getElem_mem _)
  · exact h a b ha hb ab e
theorem NmI.nms {size spot first : Int} {k : Nat} {nm : List (List Nat)} (h : NmI size spot first k nm) (hs : 1 ≤ size) (hs6 : size ≤ 6) (hk : k ≤ 10) : Nms nm := by
  refine ⟨by rw [h.len]; exact hk, h.nd (by omega) hk, fun l hl => ⟨?_, h.lets l hl⟩⟩
  obtain ⟨j, hj, rfl⟩ := List.getElem_of_mem hl
  rw [(h.at_ j _ (List.getElem?_eq_getElem hj)).1]
  unfold sizeF mvF
  by_cases c : size < 6
  · split <;> omega
  · rw [decide_eq_false c, Bool.false_and, Bool.and_false]
    simp only [if_false, Bool.false_eq_true]
    omega
theorem Nms.put {nm : List (List Nat)} (h : Nms nm) {i : Nat} {l : List Nat} (hl : l ∉ nm) (h1 : 1 ≤ l.length) (h2 : l.length ≤ 6) (h3 : Let l) : Nms (nm.set i l) := by
  refine ⟨by rw [List.length_set]; exact h.few, nd_set h.nd hl, fun x hx => ?_⟩
  rcases List.mem_or_eq_of_mem_set hx with hx | rfl
  · exact h.ok x hx
  · exact ⟨⟨h1, h2⟩, h3⟩
/-- the signs of the name k up to j -/
structure LtI (spot first k : Int) (j : Nat) (l : List Nat) : Prop where
  len : l.length = j
  lets : Let l
  at_ : spot.toNat < j → l[spot.toNat]? = some (codeF first k)
theorem LtI.snoc {spot first k : Int} {j : Nat} {l : List Nat} (h : LtI spot first k j l) {c : Nat} (hc : 97 ≤ c ∧ c ≤ 122) (e : j = spot.toNat → c = codeF first k) : LtI spot first k (j + 1) (l ++ [c]) := by
  refine ⟨by rw [List.length_append, h.len]; rfl, fun x hx => ?_, fun hs => ?_⟩
  · rcases List.mem_append.mp hx with hx | hx
    · exact h.lets x hx
    · rw [List.mem_singleton.mp hx]; exact hc
  · by_cases c2 : spot.toNat < j
    · rw [List.getElem?_append_left (by rw [h.len]; exact c2)]
      exact h.at_ c2
    · have e2 : j = spot.toNat := by omega
      rw [List.getElem?_append_right (by rw [h.len]; omega), h.len, ← e2, Nat.sub_self, e e2]
      rfl

abbrev s__law_names : Stmt := top 148
theorem sc__law_names : FnScope ["_law_script", "_law_at", "_law_n", "_law_size", "_law_spot", "_law_first", "_law_alike", "_law_names_here", "_law_k", "_law_name", "_law_j", "_law_sign", "_law_word"] ["_law_script", "_law_at", "_law_n"] (defScope s__law_names) := ⟨rfl, rfl, rfl, by decide +kernel, rfl, by decide +kernel, by decide +kernel⟩
def spNames81 (K : PySem.W.Frag) : Sp := fun vs H Q _ => ∃ (a : Addr) (ns : List Int) (at0 : Int) (n : Nat), vs = [.ref a, .int at0, .int n] ∧ SqL K H a (ns.map V.int) ∧ ns.length ≤ 63 ∧ 0 ≤ at0 ∧ at0 ≤ 100 ∧ n ≤ 10 ∧ ∀ p nm H', Same H H' → NmL H' p nm → Nms nm → nm.length = n → Q (.ref p) H'
theorem sT_app (l m : List Nat) : sT l ++ sT m = sT (l ++ m) := cL_inj (by rw [cL_app, cL_sT, cL_sT, cL_sT])
theorem let_at {i : Int} (h0 : 0 ≤ i) (h1 : i < 26) : atI (Str.ofString "abcdefghijklmnopqrstuvwxyz").cps.toList i = some (97 + i.toNat) := by
  rw [show (Str.ofString "abcdefghijklmnopqrstuvwxyz").cps.toList = (List.range 26).map (97 + ·) from let_l]
  obtain ⟨k, rfl⟩ : ∃ k : Nat, i = (k : Int) := ⟨i.toNat, by omega⟩
  refine atI_nat ?_
  rw [List.getElem?_map, List.getElem?_range (by omega)]
  rfl
theorem let_len : (Str.ofString "abcdefghijklmnopqrstuvwxyz").length ≤ sizeLine := by
  rw [show (Str.ofString "abcdefghijklmnopqrstuvwxyz").length = 26 by decide +kernel, sizeLine_eq]
  decide
def wordsL : List (List Nat) := [[107, 101, 101, 112], [116, 105, 101], [100, 114, 111, 112], [108, 105, 110, 107], [119, 111, 111, 100], [114, 111, 117, 110, 100]]
theorem words_ok : ∀ l ∈ wordsL, (1 ≤ l.length ∧ l.length ≤ 6) ∧ ∀ c ∈ l, 97 ≤ c ∧ c ≤ 122 := by decide
theorem words_t : [Str.ofString "keep", Str.ofString "tie", Str.ofString "drop", Str.ofString "link", Str.ofString "wood", Str.ofString "round"] = wordsL.map sT := by decide +kernel
theorem words_v : [V.str (Str.ofString "keep"), V.str (Str.ofString "tie"), V.str (Str.ofString "drop"), V.str (Str.ofString "link"), V.str (Str.ofString "wood"), V.str (Str.ofString "round")] = wordsL.map fun l => V.str (sT l) := by
  have := congrArg (List.map V.str) words_t
  rw [List.map_map] at this
  exact this
section
variable {P : Program} {w : World} {K : PySem.W.Frag} {mg : Str → Option Value} {base : Heap}
set_option maxHeartbeats 4000000 in
theorem ok__law_names (B : Bl mg) (d__law_cell : Dn K mg "_law_cell" s__law_cell ["_law_script", "_law_k"]) (d__law_mixed : Dn K mg "_law_mixed" s__law_mixed ["_law_cell_here", "_law_many"]) (d__law_names : Dn K mg "_law_names" s__law_names ["_law_script", "_law_at", "_law_n"]) : FnOk P w K mg base CX0 2 d__law_names.f d__law_names.fd ["_law_script", "_law_at", "_law_n"] (spNames81 K) := by
  have G__law_cell : FnOk P w K mg base CX0 1 _ _ _ _ := ok_cell B d__law_cell
  have G__law_mixed : FnOk P w K mg base CX0 1 _ _ _ _ := ok_mixed B d__law_mixed
  refine d__law_names.F.ok sc__law_names (fun vs H Q E h => ?_) (fun cdv A outer s H vs Q E hr h => ?_)
  · obtain ⟨a, ns, at0, n, rfl, _⟩ := h
    rfl
  obtain ⟨a, ns, at0, n, rfl, hS, h63, h0, h1, n10, q⟩ := h
  have hv : (A.deeper (PyProof.Rows.envOfC "_law_names" (defScope s__law_names) s.heap.objs.size d__law_names.f cdv)).units + 65 < cLine := by have := hr.un; omega
  refine ⟨_, (pss_cons (ps_set (i := 3) sc__law_names.nd rfl (Or.inl rfl) (pe_op op_add pe_int (pe_op op_mod (pe_call G__law_cell hr rfl d__law_cell.m d__law_cell.F.kp d__law_cell.b .nil pass0 (pa_cons (pv 0) (pa_cons (pv 1) pa_nil))) pe_int)))
      (pss_cons (ps_set (i := 4) sc__law_names.nd rfl (Or.inl rfl) (pe_op op_mod (pe_call G__law_cell hr rfl d__law_cell.m d__law_cell.F.kp d__law_cell.b .nil pass0 (pa_cons (pv 0) (pa_cons (pe_op op_add (pv 1) pe_int) pa_nil))) (pv 3)))
      (pss_cons (ps_set (i := 5) sc__law_names.nd rfl (Or.inl rfl) (pe_op op_mod (pe_call G__law_cell hr rfl d__law_cell.m d__law_cell.F.kp d__law_cell.b .nil pass0 (pa_cons (pv 0) (pa_cons (pe_op op_add (pv 1) pe_int) pa_nil))) pe_int))
      (pss_cons (ps_set (i := 6) sc__law_names.nd rfl (Or.inl rfl) (pe_op op_mod (pe_op op_fdiv (pe_call G__law_cell hr rfl d__law_cell.m d__law_cell.F.kp d__law_cell.b .nil pass0 (pa_cons (pv 0) (pa_cons (pe_op op_add (pv 1) pe_int) pa_nil))) pe_int) pe_int))
      (pss_cons (ps_set (i := 7) sc__law_names.nd rfl (Or.inl rfl) (pe_lstN pa_nil))
      (pss_cons (ps_for PassesOwn.never rfl (pi_range1 rfl B.range (pa_cons (pv 2) pa_nil)) (pg_name (i := 8) sc__law_names.nd rfl (Or.inl rfl))
      (pss_cons (ps_set (i := 9) sc__law_names.nd rfl (Or.inl rfl) pe_str)
      (pss_cons (ps_for PassesOwn.never rfl (pi_range1 rfl B.range (pa_cons (pv 3) pa_nil)) (pg_name (i := 10) sc__law_names.nd rfl (Or.inl rfl))
      (pss_cons (ps_set (i := 11) sc__law_names.nd rfl (Or.inl rfl) (pe_call G__law_mixed hr rfl d__law_mixed.m d__law_mixed.F.kp d__law_mixed.b .nil pass0 (pa_cons (pe_op op_add (pe_op op_add (pv 5) (pe_op op_mul pe_int (pv 10))) (pe_op op_mul (pe_op op_mul pe_int (pv 8)) (pe_op op_sub pe_int (pv 6)))) (pa_cons pe_int pa_nil))))
      (pss_cut (ps_if (pt_cmpR op_eq (pv 10) (pv 4) (nomark _))
      (pss_one (ps_set (i := 11) sc__law_names.nd rfl (Or.inl rfl) (pe_op op_mod (pe_op op_add (pv 5) (pe_op op_mul pe_int (pv 8))) pe_int)))
      pss_nil)
      (pss_one (ps_set (i := 9) sc__law_names.nd rfl (Or.inl rfl) (pe_op op_add_str (pv 9) (pe_ix ix_str pe_str (pv 11) (fun _ _ => rfl))))))))
      (pss_cut (ps_if (PW.pt (pw_and (pt_cmpR op_eq (pe_op op_mod (pv 8) pe_int) pe_int (nomark _)) (pw_and (pt_cmpR op_lt (pv 3) pe_int (nomark _)) (pw_and1 (pt_cmpR op_eq (pe_op op_mod (pv 5) pe_int) pe_int (nomark _))))))
      (pss_one (ps_set (i := 9) sc__law_names.nd rfl (Or.inl rfl) (pe_op op_add_str (pe_ix (ix_listK (K := K) rfl) (pv 7) (pe_op op_sub (pv 8) pe_int) (fun _ _ => rfl)) (pe_ix ix_str pe_str (pe_op op_mod (pe_op op_add (pv 5) (pv 8)) pe_int) (fun _ _ => rfl)))))
      pss_nil)
      (pss_one (ps_expr (pe_bmK (K := K) rfl PySem.F.plainAttrs_list PySem.F.slot_list_append PySem.F.type_list_append mt_appendN (pv 7) (pa_cons (pv 9) pa_nil))))))))
      (pss_cons (ps_set (i := 12) sc__law_names.nd rfl (Or.inl rfl) (pe_ix (ix_listK (K := K) rfl) (pe_lstN (pa_cons pe_str (pa_cons pe_str (pa_cons pe_str (pa_cons pe_str (pa_cons pe_str (pa_cons pe_str pa_nil))))))) (pe_op op_mod (pe_op op_fdiv (pv 5) pe_int) pe_int) (fun _ _ => rfl)))
      (pss_cut (ps_if (PW.pt (pw_and (pt_cmpR op_eq (pe_op op_mod (pv 5) pe_int) pe_int (nomark _)) (pw_and (pt_cmpR op_gt (pv 2) pe_int (nomark _)) (pw_and1 (pt_cmpR (op_notInDK (K := K) rfl hv) (pv 12) (pv 7) (by with_unfolding_all rfl))))))
      (pss_one (ps_asg (pv 12) (pg_sub (pv 7) (pe_op op_mod (pe_op op_fdiv (pv 5) pe_int) (pv 2)) set_listN)))
      pss_nil)
      (pss_one (ps_ret (pv 7))))))))))), ?_⟩
  refine ⟨_, rfl, _, rfl, a, ns, at0, rfl, hS, h63, h0, by omega, _, _, rfl, rfl, (show (0 : Int) < 6 by decide), _, _, rfl, rfl, ?_⟩
  obtain ⟨sz, esz, sz1, sz6⟩ : ∃ m : Nat, 1 + cellF ns at0 % 6 = (m : Int) ∧ 1 ≤ m ∧ m ≤ 6 := ⟨(1 + cellF ns at0 % 6).toNat, by omega, by omega, by omega⟩
  dsimp only
  rw [esz]
  refine ⟨_, rfl, _, rfl, _, _, rfl, rfl, a, ns, _, rfl, hS, h63, by omega, by omega, _, rfl, _, _, rfl, rfl, (by omega), ?_⟩
  have sp0 := Int.emod_nonneg (cellF ns (at0 + 1)) (show ((sz : Nat) : Int) ≠ 0 by omega)
  have sp1 := Int.emod_lt_of_pos (cellF ns (at0 + 1)) (show (0 : Int) < ((sz : Nat) : Int) by omega)
  dsimp only
  obtain ⟨sp, esp⟩ : ∃ m : Nat, cellF ns (at0 + 1) % ((sz : Nat) : Int) = (m : Int) := ⟨(cellF ns (at0 + 1) % ((sz : Nat) : Int)).toNat, by omega⟩
  rw [esp] at sp0 sp1 ⊢
  refine ⟨_, rfl, _, rfl, _, _, rfl, rfl, a, ns, _, rfl, hS, h63, by omega, by omega, _, _, rfl, rfl, (show (0 : Int) < 1000003 by decide), ?_⟩
  have f0 := Int.emod_nonneg (cellF ns (at0 + 2)) (show (1000003 : Int) ≠ 0 by decide)
  have f1 := Int.emod_lt_of_pos (cellF ns (at0 + 2)) (show (0 : Int) < 1000003 by decide)
  dsimp only
  generalize cellF ns (at0 + 2) % 1000003 = f at f0 f1 ⊢
  refine ⟨_, rfl, _, rfl, _, _, rfl, rfl, a, ns, _, rfl, hS, h63, by omega, by omega, _, _, rfl, rfl, ⟨by decide, by decide⟩, _, _, rfl, rfl, (show (0 : Int) < 2 by decide), ?_⟩
  have a0 := Int.emod_nonneg (cellF ns (at0 + 1) / 6) (show (2 : Int) ≠ 0 by decide)
  have a1 := Int.emod_lt_of_pos (cellF ns (at0 + 1) / 6) (show (0 : Int) < 2 by decide)
  dsimp only
  generalize cellF ns (at0 + 1) / 6 % 2 = al at a0 a1 ⊢
  refine ⟨(by show 0 ≤ 1000; decide), fun p H1 n1 => ?_⟩
  refine ⟨_, rfl, _, rfl, by omega, by omega, ?_⟩
  rw [Int.toNat_natCast]
  refine for_range (n := n) (fun i σ G => ∃ (nm : List (List Nat)) (o8 o9 o10 o11 : Option V), σ = [some (.ref a), some (.int at0), some (.int n), some (.int (sz : Nat)), some (.int (sp : Nat)), some (.int f), some (.int al), some (.ref p), o8, o9, o10, o11, none] ∧ Same H G ∧ NmL G p nm ∧ NmI (sz : Nat) (sp : Nat) f i nm) ⟨[], none, none, none, none, rfl, n1.same, n1.here, .nil⟩ ?_ ?_
  · rintro i σ G hi ⟨nm, o8, o9, o10, o11, rfl, sG, hG, hI⟩
    have ei : (0 + (i : Int)) = ((i : Nat) : Int) := by omega
    rw [ei]
    refine ⟨_, rfl, _, rfl, by omega, by omega, ?_⟩
    rw [Int.toNat_natCast]
    refine for_range (n := sz) (fun j σ G' => ∃ (l : List Nat) (o10 o11 : Option V), σ = [some (.ref a), some (.int at0), some (.int n), some (.int (sz : Nat)), some (.int (sp : Nat)), some (.int f), some (.int al), some (.ref p), some (.int (i : Nat)), some (.str (sT l)), o10, o11, none] ∧ G' = G ∧ LtI (sp : Nat) f (i : Nat) j l) ⟨[], _, _, by rw [← empty_t]; rfl, rfl, rfl, (fun c h => by cases h), (fun h => absurd h (Nat.not_lt_zero _))⟩ ?_ ?_
    · rintro j σ G' hj ⟨l, o10, o11, rfl, rfl, hL⟩
      have ej : (0 + (j : Int)) = ((j : Nat) : Int) := by omega
      rw [ej]
      refine ⟨_, rfl, _, rfl, _, _, rfl, rfl, .inl ⟨by decide, by decide⟩, _, _, rfl, rfl, _, rfl, _, _, rfl, rfl, .inl ⟨by decide, by decide⟩, _, rfl, _, _, rfl, rfl, _, _, rfl, rfl, .inl ⟨by omega, by omega⟩, _, _, rfl, rfl, _, _, rfl, (by decide), ?_⟩
      refine ⟨fun σ' H' => ∃ sg : Int, σ' = [some (.ref a), some (.int at0), some (.int n), some (.int (sz : Nat)), some (.int (sp : Nat)), some (.int f), some (.int al), some (.ref p), some (.int (i : Nat)), some (.str (sT l)), some (.int (j : Nat)), some (.int sg), none] ∧ H' = G' ∧ 0 ≤ sg ∧ sg < 26 ∧ (j = sp → 97 + sg.toNat = codeF f (i : Nat)), ?_, ?_⟩
      · refine ⟨_, rfl, _, rfl, rfl, _, rfl, ite2 (fun c => ?_) (fun c => ?_)⟩
        · refine ⟨_, rfl, _, rfl, _, _, rfl, rfl, .inl ⟨by decide, by decide⟩, _, _, rfl, rfl, _, _, rfl, rfl, (show (0 : Int) < 26 by decide), ?_⟩
          exact ⟨_, rfl, rfl, Int.emod_nonneg _ (by decide), Int.emod_lt_of_pos _ (by decide), fun _ => rfl⟩
        · refine ⟨_, rfl, rfl, mixF_lo (by decide), mixF_hi (by decide), fun e => ?_⟩
          exact absurd (by rw [e]; exact decide_eq_true rfl) c
      · rintro σ' H' ⟨sg, rfl, rfl, sg0, sg1, hc⟩
        refine ⟨_, rfl, _, rfl, _, _, _, rfl, rfl, let_len, let_at sg0 sg1, _, _, rfl, rfl, ?_, ?_⟩
        · rw [sT_len, hL.len, sizeLine_eq]
          show j + 1 ≤ _
          omega
        · have e1 : sT l ++ (⟨#[97 + sg.toNat]⟩ : Str) = sT (l ++ [97 + sg.toNat]) := sT_app l [97 + sg.toNat]
          rw [e1]
          exact ⟨_, _, _, rfl, rfl, hL.snoc ⟨by omega, by omega⟩ (fun e => hc (by rw [Int.toNat_natCast] at e; exact e))⟩
    · rintro σ G' ⟨l, o10', o11', rfl, rfl, hL⟩
      refine ⟨fun σ' H' => ∃ l' : List Nat, σ' = [some (.ref a), some (.int at0), some (.int n), some (.int (sz : Nat)), some (.int (sp : Nat)), some (.int f), some (.int al), some (.ref p), some (.int (i : Nat)), some (.str (sT l')), o10', o11', none] ∧ H' = G' ∧ NmI (sz : Nat) (sp : Nat) f (i + 1) (nm ++ [l']), ?_, ?_⟩
      · have fin : mvF (sz : Nat) f i = false → NmI (sz : Nat) (sp : Nat) f (i + 1) (nm ++ [l]) := fun c => hI.snoc hL.lets (by unfold sizeF; rw [c, hL.len]; rfl) (by unfold baseF; rw [c]; exact hL.at_ (by omega))
        refine ⟨_, rfl, _, _, rfl, rfl, (show (0 : Int) < 2 by decide), rfl, _, rfl, ite2 (fun c1 => ?_) (fun c1 => iteF ⟨l, rfl, rfl, fin ?_⟩)⟩
        · have d1 : i % 2 = 1 := by
            have := V.int.inj (of_decide_eq_true c1)
            omega
          refine ⟨_, rfl, _, _, rfl, rfl, _, rfl, ite2 (fun c2 => ?_) (fun c2 => iteF ⟨l, rfl, rfl, fin ?_⟩)⟩
          · have d2 := of_decide_eq_true c2
            refine ⟨_, rfl, _, _, rfl, rfl, (show (0 : Int) < 4 by decide), rfl, _, rfl, ite2 (fun c3 => ?_) (fun c3 => ⟨l, rfl, rfl, fin ?_⟩)⟩
            · have d3 := V.int.inj (of_decide_eq_true c3)
              have li := hI.len
              obtain ⟨x, hx⟩ : ∃ x, nm[i - 1]? = some x := ⟨nm[i - 1]'(by omega), List.getElem?_eq_getElem (by omega)⟩
              have mv0 : mvF (sz : Nat) f (i - 1) = false := by
                unfold mvF
                rw [decide_eq_false (by omega), Bool.false_and]
              have mv1 : mvF (sz : Nat) f i = true := by
                unfold mvF
                rw [decide_eq_true d1, decide_eq_true d2, decide_eq_true d3]
                rfl
              have hx1 := hI.at_ _ _ hx
              unfold sizeF baseF at hx1
              rw [mv0] at hx1
              simp only [if_false, Bool.false_eq_true] at hx1
              have cc0 := Int.emod_nonneg (f + ((i : Nat) : Int)) (show (26 : Int) ≠ 0 by decide)
              have cc1 := Int.emod_lt_of_pos (f + ((i : Nat) : Int)) (show (0 : Int) < 26 by decide)
              refine ⟨_, rfl, _, rfl, _, _, rfl, rfl, p, _, _, _, rfl, rfl, SqL.of hG, (by
                rw [show ((i : Nat) : Int) - 1 = ((i - 1 : Nat) : Int) by omega]
                exact atI_nat (by rw [List.getElem?_map, hx]; rfl)), _, rfl, _, rfl, _, _, rfl, rfl, _, _, rfl, rfl, (show (0 : Int) < 26 by decide), _, _, _, rfl, rfl, let_len, let_at cc0 cc1, _, _, rfl, rfl, ?_, ?_⟩
              · rw [sT_len, hx1.1, sizeLine_eq]
                show _ + 1 ≤ _
                omega
              · have e1 : sT x ++ (⟨#[97 + ((f + ((i : Nat) : Int)) % 26).toNat]⟩ : Str) = sT (x ++ [97 + ((f + ((i : Nat) : Int)) % 26).toNat]) := sT_app x [97 + ((f + ((i : Nat) : Int)) % 26).toNat]
                rw [e1]
                refine ⟨_, rfl, rfl, hI.snoc (fun c hc => ?_) ?_ ?_⟩
                · rcases List.mem_append.mp hc with hc | hc
                  · exact hI.lets x (List.mem_of_getElem? hx) c hc
                  · rw [List.mem_singleton.mp hc]
                    omega
                · unfold sizeF
                  rw [mv1, List.length_append, hx1.1]
                  rfl
                · unfold baseF
                  rw [mv1, List.getElem?_append_left (by rw [hx1.1]; omega)]
                  exact hx1.2
            · unfold mvF
              rw [decide_eq_false (fun z => c3 (decide_eq_true (congrArg V.int z))), Bool.and_false, Bool.and_false]
          · unfold mvF
            rw [decide_eq_false (fun z => c2 (decide_eq_true z)), Bool.false_and, Bool.and_false]
        · unfold mvF
          rw [decide_eq_false (fun z => c1 (decide_eq_true (by
            have : ((i : Nat) : Int) % 2 = 1 := by omega
            exact congrArg V.int this))), Bool.false_and]
      · rintro σ' H' ⟨l', rfl, rfl, hI'⟩
        have li := hI.len
        refine ⟨_, rfl, .inl ⟨rfl, _, SqL.of hG⟩, _, rfl, p, _, _, rfl, rfl, hG, by rw [List.length_map]; omega, fun H2 c2 => ?_⟩
        refine ⟨nm ++ [l'], _, _, _, _, rfl, sG.chg n1.fresh c2, ?_, hI'⟩
        unfold NmL
        rw [c2.here, List.map_append]
        rfl
  · rintro σ G ⟨nm, o8, o9, o10, o11, rfl, sG, hG, hI⟩
    have hN := hI.nms (by omega) (by omega) n10
    refine ⟨(by show 6 ≤ 1000; decide), fun p6 H6 n6 => ?_⟩
    rw [words_v] at n6
    have w0 := Int.emod_nonneg (f / 5) (show (6 : Int) ≠ 0 by decide)
    have w1 := Int.emod_lt_of_pos (f / 5) (show (0 : Int) < 6 by decide)
    obtain ⟨m, em⟩ : ∃ m : Nat, f / 5 % 6 = (m : Int) := ⟨(f / 5 % 6).toNat, by omega⟩
    obtain ⟨wl, hw⟩ : ∃ wl, wordsL[m]? = some wl := ⟨wordsL[m]'(by show m < 6; omega), List.getElem?_eq_getElem (by show m < 6; omega)⟩
    have hW := words_ok wl (List.mem_of_getElem? hw)
    refine ⟨_, rfl, _, _, rfl, rfl, ⟨by decide, by decide⟩, _, _, rfl, rfl, (show (0 : Int) < 6 by decide), p6, _, _, V.str (sT wl), rfl, rfl, SqL.of n6.here, (by
      show atI (wordsL.map fun l => V.str (sT l)) (f / 5 % 6) = _
      rw [em]
      exact atI_nat (by rw [List.getElem?_map, hw]; rfl)), ?_⟩
    have sG6 := sG.trans n6.same
    have hG6 : NmL H6 p nm := n6.same _ _ hG
    refine ⟨fun σ' H' => ∃ nm' : List (List Nat), σ' = [some (.ref a), some (.int at0), some (.int n), some (.int (sz : Nat)), some (.int (sp : Nat)), some (.int f), some (.int al), some (.ref p), o8, o9, o10, o11, some (.str (sT wl))] ∧ Same H H' ∧ NmL H' p nm' ∧ Nms nm' ∧ nm'.length = n, ?_, ?_⟩
    · have stay : ∃ nm' : List (List Nat), [some (V.ref a), some (.int at0), some (.int n), some (.int (sz : Nat)), some (.int (sp : Nat)), some (.int f), some (.int al), some (.ref p), o8, o9, o10, o11, some (.str (sT wl))] = [some (V.ref a), some (.int at0), some (.int n), some (.int (sz : Nat)), some (.int (sp : Nat)), some (.int f), some (.int al), some (.ref p), o8, o9, o10, o11, some (.str (sT wl))] ∧ Same H H6 ∧ NmL H6 p nm' ∧ Nms nm' ∧ nm'.length = n := ⟨nm, rfl, sG6, hG6, hN, hI.len⟩
      refine ⟨_, rfl, _, _, rfl, rfl, (show (0 : Int) < 5 by decide), rfl, _, rfl, ite2 (fun c1 => ?_) (fun c1 => iteF stay)⟩
      refine ⟨_, rfl, _, _, rfl, rfl, _, rfl, ite2 (fun c2 => ?_) (fun c2 => iteF stay)⟩
      have n0 := of_decide_eq_true c2
      refine ⟨_, rfl, _, rfl, .str (sT wl), nm.map fun l => PyData.str (sT l), .str _, .lst (SqL.of hG6) (isDs_strs nm), shaped_str (fun c hc => by have := hW.2 c hc; omega), shaped_strs hN.short, _, rfl, ?_⟩
      rw [if_pos rfl, any_str]
      refine ite2 (fun c3 => ?_) (fun c3 => stay)
      have nw : wl ∉ nm := fun z => by
        rw [decide_eq_true z] at c3
        cases c3
      have j0 := Int.emod_nonneg (f / 30) (show ((n : Nat) : Int) ≠ 0 by omega)
      have j1 := Int.emod_lt_of_pos (f / 30) (show (0 : Int) < ((n : Nat) : Int) by omega)
      obtain ⟨j, ej⟩ : ∃ j : Nat, f / 30 % ((n : Nat) : Int) = (j : Int) := ⟨(f / 30 % ((n : Nat) : Int)).toNat, by omega⟩
      refine ⟨_, rfl, _, rfl, _, rfl, _, _, rfl, rfl, ⟨by decide, by decide⟩, _, rfl, _, _, rfl, rfl, n0, p, _, _, j, rfl, rfl, hG6, (by
        show L2.ixN (nm.map fun l => V.str (sT l)).length (f / 30 % ((n : Nat) : Int)) = _
        rw [ej]
        exact ixN_nat (by rw [List.length_map, hI.len]; omega)), fun H7 c7 => ?_⟩
      refine ⟨nm.set j wl, rfl, sG6.chg n1.fresh c7, ?_, hN.put nw hW.1.1 hW.1.2 hW.2, by rw [List.length_set]; exact hI.len⟩
      unfold NmL
      rw [c7.here, List.map_set]
    · rintro σ' H' ⟨nm', rfl, s7, h7, hN7, l7⟩
      exact ⟨_, rfl, q p nm' H' s7 h7 hN7 l7⟩
end

abbrev s__law_ties : Stmt := top 149
theorem sc__law_ties : FnScope ["_law_script", "_law_at", "_law_n", "_law_bits", "_law_way", "_law_other", "_law_ties_here", "_law_a", "_law_b"] ["_law_script", "_law_at", "_law_n"] (defScope s__law_ties) := ⟨rfl, rfl, rfl, by decide +kernel, rfl, by decide +kernel, by decide +kernel⟩
abbrev lexT (s t : Int × Int) : Prop := s.1 < t.1 ∨ (s.1 = t.1 ∧ s.2 < t.2)
structure Web (n : Int) (ts : List (Int × Int)) : Prop where
  ok : ∀ t ∈ ts, 0 ≤ t.1 ∧ t.1 < t.2 ∧ t.2 < n
  up : ts.Pairwise lexT
def spTiesB (K : PySem.W.Frag) : Sp := fun vs H Q _ => ∃ (a : Addr) (ns : List Int) (k : Int) (n : Nat), vs = [.ref a, .int k, .int n] ∧ SqL K H a (ns.map V.int) ∧ ns.length ≤ 63 ∧ 0 ≤ k ∧ k ≤ 900 ∧ n ≤ 10 ∧
  ∀ r xs ts H', Same H H' → H r = none → H' r = some (.lst xs) → Paired (TieL H') xs ts → Web n ts → ts.length ≤ 100 → Q (.ref r) H'
section
variable {P : Program} {w : World} {K : PySem.W.Frag} {mg : Str → Option Value} {base : Heap}
set_option maxHeartbeats 4000000 in
theorem ok__law_ties (B : Bl mg) (d__law_cell : Dn K mg "_law_cell" s__law_cell ["_law_script", "_law_k"]) (d__law_mixed : Dn K mg "_law_mixed" s__law_mixed ["_law_cell_here", "_law_many"]) (d__law_ties : Dn K mg "_law_ties" s__law_ties ["_law_script", "_law_at", "_law_n"]) : FnOk P w K mg base CX0 2 d__law_ties.f d__law_ties.fd ["_law_script", "_law_at", "_law_n"] (spTiesB K) := by
  have G__law_cell : FnOk P w K mg base CX0 1 _ _ _ _ := ok_cell B d__law_cell
  have G__law_mixed : FnOk P w K mg base CX0 1 _ _ _ _ := ok_mixed B d__law_mixed
  refine d__law_ties.F.ok sc__law_ties (fun vs H Q E h => ?_) (fun cdv A outer s H vs Q E hr h => ?_)
  · obtain ⟨a, ns, k, n, rfl, _⟩ := h
    rfl
  obtain ⟨a, ns, k, n, rfl, hS, h63, k0, k1, hn, q⟩ := h
  refine ⟨_, (pss_cons (ps_set (i := 3) sc__law_ties.nd rfl (Or.inl rfl) (pe_call G__law_mixed hr rfl d__law_mixed.m d__law_mixed.F.kp d__law_mixed.b .nil pass0 (pa_cons (pe_call G__law_cell hr rfl d__law_cell.m d__law_cell.F.kp d__law_cell.b .nil pass0 (pa_cons (pv 0) (pa_cons (pv 1) pa_nil))) (pa_cons (pe_op op_pow pe_int pe_int) pa_nil))))
      (pss_cons (ps_set (i := 4) sc__law_ties.nd rfl (Or.inl rfl) (pe_op op_mod (pe_call G__law_cell hr rfl d__law_cell.m d__law_cell.F.kp d__law_cell.b .nil pass0 (pa_cons (pv 0) (pa_cons (pe_op op_add (pv 1) pe_int) pa_nil))) pe_int))
      (pss_cons (ps_set (i := 5) sc__law_ties.nd rfl (Or.inl rfl) (pe_call G__law_mixed hr rfl d__law_mixed.m d__law_mixed.F.kp d__law_mixed.b .nil pass0 (pa_cons (pe_call G__law_cell hr rfl d__law_cell.m d__law_cell.F.kp d__law_cell.b .nil pass0 (pa_cons (pv 0) (pa_cons (pe_op op_add (pv 1) pe_int) pa_nil))) (pa_cons (pe_op op_pow pe_int pe_int) pa_nil))))
      (pss_cut (ps_if (pt_cmpR op_lt (pv 4) pe_int (nomark _))
      (pss_one (ps_set (i := 3) sc__law_ties.nd rfl (Or.inl rfl) (pe_op op_and (pv 3) (pv 5))))
      (pss_one (ps_if (pt_cmpR op_lt (pv 4) pe_int (nomark _))
      (pss_one (ps_set (i := 3) sc__law_ties.nd rfl (Or.inl rfl) (pe_op op_or (pv 3) (pv 5))))
      (pss_one (ps_if (pt_cmpR op_eq (pv 4) pe_int (nomark _))
      (pss_one (ps_set (i := 3) sc__law_ties.nd rfl (Or.inl rfl) (pe_op op_sub (pe_op op_pow pe_int pe_int) pe_int)))
      pss_nil)))))
      (pss_cons (ps_set (i := 6) sc__law_ties.nd rfl (Or.inl rfl) (pe_lstN pa_nil))
      (pss_cons (ps_for PassesOwn.never rfl (pi_range1 rfl B.range (pa_cons (pv 2) pa_nil)) (pg_name (i := 7) sc__law_ties.nd rfl (Or.inl rfl))
      (pss_one (ps_for PassesOwn.never rfl (pi_range2 rfl B.range (pa_cons (pe_op op_add (pv 7) pe_int) (pa_cons (pv 2) pa_nil))) (pg_name (i := 8) sc__law_ties.nd rfl (Or.inl rfl))
      (pss_cut (ps_if (pt_cmpR op_eq (pe_op op_mod (pv 3) pe_int) pe_int (nomark _))
      (pss_one (ps_expr (pe_bmK (K := K) rfl PySem.F.plainAttrs_list PySem.F.slot_list_append PySem.F.type_list_append mt_appendN (pv 6) (pa_cons (pe_tupN (pa_cons (pv 7) (pa_cons (pv 8) pa_nil))) pa_nil))))
      pss_nil)
      (pss_one (ps_set (i := 3) sc__law_ties.nd rfl (Or.inl rfl) (pe_op op_fdiv (pv 3) pe_int)))))))
      (pss_one (ps_ret (pv 6))))))))), ?_⟩
  refine ⟨_, rfl, _, rfl, a, ns, k, rfl, hS, h63, k0, (by omega), _, _, rfl, rfl, ⟨by decide, by decide, by decide⟩, _, _, rfl, (by decide), ?_⟩
  refine ⟨_, rfl, _, rfl, _, _, rfl, rfl, a, ns, k + 1, rfl, hS, h63, (by omega), (by omega), _, _, rfl, rfl, (show (0 : Int) < _ by decide), ?_⟩
  refine ⟨_, rfl, _, rfl, _, _, rfl, rfl, a, ns, k + 2, rfl, hS, h63, (by omega), (by omega), _, _, rfl, rfl, ⟨by decide, by decide, by decide⟩, _, _, rfl, (by decide), ?_⟩
  refine ⟨fun σ' H' => ∃ b x y : Int, σ' = [some (.ref a), some (.int k), some (.int n), some (.int b), some (.int x), some (.int y), none, none, none] ∧ H' = H, ?_, ?_⟩
  · refine ⟨_, rfl, _, _, rfl, rfl, _, rfl, ?_⟩
    refine ite2 (fun c => ?_) (fun c => ?_)
    · exact ⟨_, rfl, _, rfl, _, _, rfl, rfl, _, _, _, rfl, rfl⟩
    · refine ⟨_, rfl, _, _, rfl, rfl, _, rfl, ?_⟩
      refine ite2 (fun c => ?_) (fun c => ?_)
      · exact ⟨_, rfl, _, rfl, _, _, rfl, rfl, _, _, _, rfl, rfl⟩
      · refine ⟨_, rfl, rfl, _, rfl, ?_⟩
        refine ite2 (fun c => ?_) (fun c => ?_)
        · exact ⟨_, _, rfl, rfl, ⟨by decide, by decide, by decide⟩, _, _, rfl, rfl, _, _, _, rfl, rfl⟩
        · exact ⟨_, _, _, rfl, rfl⟩
  rintro σ' H' ⟨b0, x0, y0, rfl, rfl⟩
  refine ⟨(by show 0 ≤ 1000; decide), fun r H0 nw => ?_⟩
  refine ⟨_, rfl, _, rfl, by omega, by omega, ?_⟩
  have en : ((n : Nat) : Int).toNat = n := by omega
  rw [en]
  refine for_range (n := n) (fun i σ H2 => ∃ (b : Int) (aa bb : Option V) (xs : List V) (ts : List (Int × Int)), σ = [some (.ref a), some (.int k), some (.int n), some (.int b), some (.int x0), some (.int y0), some (.ref r), aa, bb] ∧ Same H' H2 ∧ H2 r = some (.lst xs) ∧ Paired (TieL H2) xs ts ∧ ts.length ≤ 10 * i ∧ Web n ts ∧ ∀ t ∈ ts, t.1 < (i : Int))
    ⟨_, none, none, [], [], rfl, nw.same, nw.here, .nil, Nat.zero_le _, ⟨fun t h => absurd h List.not_mem_nil, .nil⟩, fun t h => absurd h List.not_mem_nil⟩ ?_ ?_
  · rintro i σ H2 hi ⟨b, aa, bb, xs, ts, rfl, sm, hr2, hp, hz, hw, hlt⟩
    refine ⟨_, rfl, _, _, rfl, rfl, _, rfl, _, _, rfl, ⟨by omega, by omega, by omega, by omega⟩, ?_⟩
    refine for_range (n := _) (fun j σ H3 => ∃ (b : Int) (bb : Option V) (xs : List V) (ts : List (Int × Int)), σ = [some (.ref a), some (.int k), some (.int n), some (.int b), some (.int x0), some (.int y0), some (.ref r), some (.int (0 + (i : Int))), bb] ∧ Same H' H3 ∧ H3 r = some (.lst xs) ∧ Paired (TieL H3) xs ts ∧ ts.length ≤ 10 * i + j ∧ Web n ts ∧ ∀ t ∈ ts, t.1 < (i : Int) ∨ (t.1 = (i : Int) ∧ t.2 < (i : Int) + 1 + j))
      ⟨b, bb, xs, ts, rfl, sm, hr2, hp, by omega, hw, fun t h => .inl (hlt t h)⟩ ?_ ?_
    · rintro j σ H3 hj ⟨b, bb, xs, ts, rfl, sm, hr3, hp, hz, hw, hlt⟩
      have jn : (j : Int) + (0 + (i : Int) + 1) < n := by omega
      refine ⟨fun σ' H4 => ∃ (xs : List V) (ts : List (Int × Int)), σ' = [some (.ref a), some (.int k), some (.int n), some (.int b), some (.int x0), some (.int y0), some (.ref r), some (.int (0 + (i : Int))), some (.int (0 + (i : Int) + 1 + (j : Int)))] ∧ Same H' H4 ∧ H4 r = some (.lst xs) ∧ Paired (TieL H4) xs ts ∧ ts.length ≤ 10 * i + (j + 1) ∧ Web n ts ∧ ∀ t ∈ ts, t.1 < (i : Int) ∨ (t.1 = (i : Int) ∧ t.2 < (i : Int) + 1 + (j + 1 : Nat)), ?_, ?_⟩
      · refine ⟨_, rfl, _, _, rfl, rfl, (show (0 : Int) < _ by decide), rfl, _, rfl, ?_⟩
        refine ite2 (fun c => ?_) (fun c => ?_)
        · refine ⟨_, rfl, .inl ⟨rfl, _, SqL.of hr3⟩, _, rfl, _, rfl, (by show 2 ≤ 1000; decide), fun p4 H4 n4 => ?_⟩
          have hl : xs.length = ts.length := Paired.length hp
          refine ⟨r, _, _, rfl, rfl, n4.same _ _ hr3, (by omega), fun H5 c5 => ?_⟩
          refine ⟨xs ++ [.ref p4], ts ++ [(0 + (i : Int), 0 + (i : Int) + 1 + (j : Int))], rfl, (sm.trans n4.same).chg nw.fresh c5, c5.here, ?_, ?_, ⟨fun t ht => ?_, ?_⟩, fun t ht => ?_⟩
          · refine paired_snoc (Paired.mapP hp fun v t q => (q.same n4.same).chg (n4.same _ _ hr3) c5) ?_
            exact TieL.chg (n4.same _ _ hr3) c5 ⟨p4, rfl, n4.here⟩
          · rw [List.length_append]; show ts.length + 1 ≤ _; omega
          · rcases List.mem_append.mp ht with ht | ht
            · exact hw.ok t ht
            · rw [List.mem_singleton.mp ht]
              exact ⟨by show 0 ≤ 0 + (i : Int); omega, by show 0 + (i : Int) < 0 + (i : Int) + 1 + (j : Int); omega, by show 0 + (i : Int) + 1 + (j : Int) < n; omega⟩
          · refine List.pairwise_append.mpr ⟨hw.up, List.pairwise_singleton _ _, fun t ht u hu => ?_⟩
            rw [List.mem_singleton.mp hu]
            show t.1 < 0 + (i : Int) ∨ (t.1 = 0 + (i : Int) ∧ t.2 < 0 + (i : Int) + 1 + (j : Int))
            have := hlt t ht
            omega
          · rcases List.mem_append.mp ht with ht | ht
            · have := hlt t ht
              omega
            · rw [List.mem_singleton.mp ht]
              show 0 + (i : Int) < (i : Int) ∨ (0 + (i : Int) = (i : Int) ∧ 0 + (i : Int) + 1 + (j : Int) < (i : Int) + 1 + (j + 1 : Nat))
              omega
        · exact ⟨xs, ts, rfl, sm, hr3, hp, by omega, hw, fun t ht => by have := hlt t ht; omega⟩
      · rintro σ' H4 ⟨xs, ts, rfl, sm, hr4, hp, hz, hw, hlt⟩
        refine ⟨_, rfl, _, _, rfl, rfl, ⟨by decide, by decide⟩, ?_⟩
        exact ⟨_, _, xs, ts, rfl, sm, hr4, hp, hz, hw, hlt⟩
    · rintro σ H3 ⟨b, bb, xs, ts, rfl, sm, hr3, hp, hz, hw, hlt⟩
      exact ⟨b, _, bb, xs, ts, rfl, sm, hr3, hp, by omega, hw, fun t ht => by have := hlt t ht; omega⟩
  · rintro σ H2 ⟨b, aa, bb, xs, ts, rfl, sm, hr2, hp, hz, hw, hlt⟩
    exact ⟨_, rfl, q r xs ts H2 sm nw.fresh hr2 hp hw (by omega)⟩
end

end K


namespace K
open PySem L2 Lw Bg Tx
abbrev s__law_said : Stmt := top 150
theorem sc__law_said : FnScope ["_law_desk", "_law_row", "_law_found"] ["_law_desk", "_law_row"] (defScope s__law_said) := ⟨rfl, rfl, rfl, by decide +kernel, rfl, by decide +kernel, by decide +kernel⟩
abbrev s__law_width : Stmt := top 151
theorem sc__law_width : FnScope ["_law_desk", "_law_text"] ["_law_desk"] (defScope s__law_width) := ⟨rfl, rfl, rfl, by decide +kernel, rfl, by decide +kernel, by decide +kernel⟩
abbrev s__law_tell : Stmt := top 152
theorem sc__law_tell : FnScope ["_law_desk", "_law_rows", "_law_row"] ["_law_desk", "_law_rows"] (defScope s__law_tell) := ⟨rfl, rfl, rfl, by decide +kernel, rfl, by decide +kernel, by decide +kernel⟩
abbrev s__law_tie_rows : Stmt := top 153
theorem sc__law_tie_rows : FnScope ["_law_ties_here", "_law_left"] ["_law_ties_here", "_law_left"] (defScope s__law_tie_rows) := ⟨rfl, rfl, rfl, by decide +kernel, rfl, by decide +kernel, by decide +kernel⟩
def DkN (C : Addr) (H0 H : Hp) (d : Addr) (k : V) (nm : List (List Nat)) (R : Rl) : Prop := ∃ ts, DkH C H0 H d k nm ts ∧ NS nm R ts
theorem DkN.mono {C : Addr} {H0 H H' : Hp} {d : Addr} {k : V} {nm : List (List Nat)} {R : Rl} (h : DkN C H0 H d k nm R) (s : Same H H') : DkN C H0 H' d k nm R := by
  obtain ⟨ts, hD, hS⟩ := h
  exact ⟨ts, hD.mono s, hS⟩
theorem DkN.more {C : Addr} {H0 H : Hp} {d p : Addr} {k : V} {o : HO} {nm : List (List Nat)} {R : Rl} (h : DkN C H0 H d k nm R) {H' : Hp} (n : New H p o H') : DkN C (upd H0 p o) H' d k nm R := by
  obtain ⟨ts, hD, hS⟩ := h
  exact ⟨ts, hD.more n, hS⟩
theorem DkN.sm {C : Addr} {H0 H : Hp} {d : Addr} {k : V} {nm : List (List Nat)} {R : Rl} (h : DkN C H0 H d k nm R) : Same H0 H := by
  obtain ⟨ts, hD, hS⟩ := h
  exact hD.sm
theorem DkN.few {C : Addr} {H0 H : Hp} {d : Addr} {k : V} {nm : List (List Nat)} {R : Rl} (h : DkN C H0 H d k nm R) : nm.length ≤ 10 := by
  obtain ⟨ts, hD, hS⟩ := h
  exact hS.s.nms.few
def spSaid (K : PySem.W.Frag) (C : Addr) : Sp := fun vs H Q _ => ∃ (H0 : Hp) (d : Addr) (k : V) (nm : List (List Nat)) (R : Rl) (z : List Nat), vs = [.ref d, .str (sT z)] ∧ DkN C H0 H d k nm R ∧
  ((∃ o nm' R', z = blankT o.words ∧ NStep nm R o nm' R' ∧ ∀ H', DkN C H0 H' d .non nm' R' → Q (.str "ok") H') ∨
   (z = wWidth ∧ ∀ ts w H', Same H H' → NS nm R ts → IsW nm.length ts w → -1 ≤ w → w < nm.length → Q (.str (toString w)) H'))
def spWidth98 (K : PySem.W.Frag) (C : Addr) : Sp := fun vs H Q _ => ∃ (H0 : Hp) (d : Addr) (k : V) (nm : List (List Nat)) (R : Rl), vs = [.ref d] ∧ DkN C H0 H d k nm R ∧
   ∀ ts w H', Same H H' → NS nm R ts → IsW nm.length ts w → -1 ≤ w → w < nm.length → Q (.int w) H'
def rowT (o : DOp) : Str := sT (blankT o.words)
def spTell98 (K : PySem.W.Frag) (C : Addr) : Sp := fun vs H Q _ => ∃ (H0 : Hp) (d a : Addr) (nm nm' : List (List Nat)) (R R' : Rl) (os : List DOp), vs = [.ref d, .ref a] ∧ SqL K H0 a ((os.map rowT).map V.str) ∧ DkN C H0 H d .non nm R ∧ NRun nm R os nm' R' ∧ ∀ H', DkN C H0 H' d .non nm' R' → Q (.bl true) H'
/-- a pair of names -/
def NtL (H : Hp) (v : V) (t : List Nat × List Nat) : Prop := ∃ p, v = .ref p ∧ H p = some (.tup [.str (sT t.1), .str (sT t.2)])
theorem NtL.same {H H' : Hp} (s : Same H H') {v : V} {t : List Nat × List Nat} (h : NtL H v t) : NtL H' v t := by
  obtain ⟨p, e, hp⟩ := h
  exact ⟨p, e, s _ _ hp⟩
def tieO (t : List Nat × List Nat) : DOp := .tie t.2 t.1 [49]
def spTieRows (K : PySem.W.Frag) : Sp := fun vs H Q _ => ∃ (a b : Addr) (xs : List V) (ps : List (List Nat × List Nat)) (nm : List (List Nat)), vs = [.ref a, .ref b] ∧ H a = some (.lst xs) ∧ Paired (NtL H) xs ps ∧ ps.length ≤ 100 ∧ NmL H b nm ∧ Nms nm ∧ (∀ t ∈ ps, t.1 ∈ nm ∧ t.2 ∈ nm) ∧
  ∀ p H', Same H H' → H p = none → H' p = some (.lst ((ps.map fun t => rowT (tieO t)).map V.str)) → Q (.ref p) H'
theorem tieR_t (a b : List Nat) : (Str.ofString "tie ") ++ sT b ++ (Str.ofString " ") ++ sT a ++ (Str.ofString " 1") = rowT (tieO (a, b)) := by
  have e1 : (Str.ofString "tie ") = sT [116, 105, 101, 32] := by decide +kernel
  have e2 : (Str.ofString " 1") = sT [32, 49] := by decide +kernel
  rw [e1, e2, blank_t, sT_app, sT_app, sT_app, sT_app]
  unfold rowT
  refine congrArg sT ?_
  show _ = wTie ++ 32 :: (b ++ 32 :: (a ++ 32 :: [49]))
  simp [wTie]
theorem isDs_S {K : PySem.W.Frag} {H : Hp} : ∀ zs : List Str, IsDs K H (zs.map V.str) (zs.map PyData.str)
  | [] => .nil
  | _ :: r => .cons (.str _) (isDs_S r)
def widL : List Str := ["-1", "0", "1", "2", "3", "4", "5", "6", "7", "8", "9"]
theorem widL_sh : SeqAt.shaped (.list (widL.map PyData.str)) = true := by decide +kernel
theorem wid_t : ∀ k : Fin 11, (widL.map PyData.str).any (fun e => PyData.eqv e (.str (Str.ofString (toString ((k.val : Int) - 1))))) = true ∧ intText? (Str.ofString (toString ((k.val : Int) - 1))) = some ((k.val : Int) - 1) ∧ (Str.ofString (toString ((k.val : Int) - 1))).length ≤ 2 ∧ SeqAt.shaped (.str (Str.ofString (toString ((k.val : Int) - 1)))) = true := by decide +kernel
section
variable {P : Program} {w : World} {K : PySem.W.Frag} {mg : Str → Option Value} {base : Heap}
set_option maxHeartbeats 4000000 in
theorem ok__law_said (B : Bl mg) (Wd : Wds w K mg) (Ct : Cts mg) (D_Desk : ObDesk K mg) (d_words_of : Dn K mg "words_of" s_words_of ["row"]) (d_is_whole : Dn K mg "is_whole" s_is_whole ["thing"]) (d_is_below : Dn K mg "is_below" s_is_below ["n", "thing"]) (d_tie_of : Dn K mg "tie_of" s_tie_of ["n", "a", "b"]) (d_is_written : Dn K mg "is_written" s_is_written ["text", "signs", "most"]) (d_is_number : Dn K mg "is_number" s_is_number ["text"]) (d_is_name : Dn K mg "is_name" s_is_name ["text"]) (d_read_number : Dn K mg "read_number" s_read_number ["text"]) (d_moved_up : Dn K mg "moved_up" s_moved_up ["place", "gone"]) (d_mask_sizes : Dn K mg "mask_sizes" s_mask_sizes ["n"]) (d_first_bags : Dn K mg "first_bags" s_first_bags ["graph"]) (d_taken_out : Dn K mg "taken_out" s_taken_out ["bags", "v"]) (d_all_bags : Dn K mg "all_bags" s_all_bags ["graph"]) (d_costs_along : Dn K mg "costs_along" s_costs_along ["bags"]) (d_costs : Dn K mg "costs" s_costs ["graph"]) (d_least_width : Dn K mg "least_width" s_least_width ["graph"]) (d__law_said : Dn K mg "_law_said" s__law_said ["_law_desk", "_law_row"]) : FnOk P w K mg base CX0 7 d__law_said.f d__law_said.fd ["_law_desk", "_law_row"] (spSaid K D_Desk.C) := by
  have G_Desk_say : FnOk P w K mg base CX0 6 _ _ _ _ := ok_say B Wd Ct D_Desk d_words_of d_is_whole d_is_below d_tie_of d_is_written d_is_number d_is_name d_read_number d_moved_up d_mask_sizes d_first_bags d_taken_out d_all_bags d_costs_along d_costs d_least_width
  refine d__law_said.F.ok sc__law_said (fun vs H Q E h => ?_) (fun cdv A outer s H vs Q E hr h => ?_)
  · obtain ⟨H0, d, k, nm, R, z, rfl, _⟩ := h
    rfl
  obtain ⟨H0, d, k, nm, R, z, rfl, ⟨ts, ⟨dx, pn, pw, pc, ws, kvs, hA, kp⟩, hS⟩, h⟩ := h
  refine ⟨_, (pss_cons (ps_try (ok := fun _ => False) (th := fun _ _ => tNever) ⟨rfl, rfl, rfl⟩ (pxss_cons (pxs_plain (fun _ _ z => z) (ps_set (i := 2) sc__law_said.nd rfl (Or.inl rfl) (pe_meth (pv 0) D_Desk.cl D_Desk.d_say.mt G_Desk_say hr D_Desk.d_say.b .nil pass0 (pa_cons (pv 1) pa_nil)))) pxss_nil) (fun p cc z => z.elim))
      (pss_cons (ps_if (pt_not (pt_truthK (K := K) rfl (pe_callB (call_isinstK (K := K) rfl) rfl B.isinstance (by decide +kernel) (pa_cons (pv 2) (pa_cons (pe_bltn (v := .ty "str") (u := .type "str") rfl B.str (by decide +kernel) rfl) pa_nil))) (fun _ => rfl)))
      (pss_one (ps_ret pe_str))
      pss_nil)
      (pss_one (ps_ret (pv 2))))), ?_⟩
  refine ⟨_, rfl, d, _, _, rfl, hA.hd, lk_meth (by decide +kernel) _ _ _ _, _, rfl, H0, d, k, nm, ts, z, rfl, ⟨dx, pn, pw, pc, ws, kvs, hA, kp⟩, hS.s, ?_⟩
  rcases h with ⟨o, nm', R', rfl, st, q⟩ | ⟨rfl, q⟩
  · obtain ⟨ts', st', hS'⟩ := st.to hS
    refine .inl ⟨o, nm', ts', rfl, st', fun H' hD => ?_⟩
    refine ⟨_, rfl, _, _, _, _, _, rfl, rfl, .str _, rfl, _, rfl, iteF ⟨_, rfl, q H' ⟨ts', hD, hS'⟩⟩⟩
  · refine .inr ⟨rfl, fun us cs H' s1 pm C => ?_⟩
    have wf := wide_few C hS.s.nms.few
    refine ⟨_, rfl, _, _, _, _, _, rfl, rfl, .str _, rfl, _, rfl, iteF ⟨_, rfl, q ts _ H' s1 hS (IsW.of hS.s.nms.few pm C) wf.1 wf.2⟩⟩
set_option maxHeartbeats 4000000 in
theorem ok__law_width (B : Bl mg) (Wd : Wds w K mg) (Ct : Cts mg) (D_Desk : ObDesk K mg) (d_words_of : Dn K mg "words_of" s_words_of ["row"]) (d_is_whole : Dn K mg "is_whole" s_is_whole ["thing"]) (d_is_below : Dn K mg "is_below" s_is_below ["n", "thing"]) (d_tie_of : Dn K mg "tie_of" s_tie_of ["n", "a", "b"]) (d_is_written : Dn K mg "is_written" s_is_written ["text", "signs", "most"]) (d_is_number : Dn K mg "is_number" s_is_number ["text"]) (d_is_name : Dn K mg "is_name" s_is_name ["text"]) (d_read_number : Dn K mg "read_number" s_read_number ["text"]) (d_moved_up : Dn K mg "moved_up" s_moved_up ["place", "gone"]) (d_mask_sizes : Dn K mg "mask_sizes" s_mask_sizes ["n"]) (d_first_bags : Dn K mg "first_bags" s_first_bags ["graph"]) (d_taken_out : Dn K mg "taken_out" s_taken_out ["bags", "v"]) (d_all_bags : Dn K mg "all_bags" s_all_bags ["graph"]) (d_costs_along : Dn K mg "costs_along" s_costs_along ["bags"]) (d_costs : Dn K mg "costs" s_costs ["graph"]) (d_least_width : Dn K mg "least_width" s_least_width ["graph"]) (d__law_said : Dn K mg "_law_said" s__law_said ["_law_desk", "_law_row"]) (d__law_width : Dn K mg "_law_width" s__law_width ["_law_desk"]) : FnOk P w K mg base CX0 8 d__law_width.f d__law_width.fd ["_law_desk"] (spWidth98 K D_Desk.C) := by
  have G__law_said : FnOk P w K mg base CX0 7 _ _ _ _ := ok__law_said B Wd Ct D_Desk d_words_of d_is_whole d_is_below d_tie_of d_is_written d_is_number d_is_name d_read_number d_moved_up d_mask_sizes d_first_bags d_taken_out d_all_bags d_costs_along d_costs d_least_width d__law_said
  refine d__law_width.F.ok sc__law_width (fun vs H Q E h => ?_) (fun cdv A outer s H vs Q E hr h => ?_)
  · obtain ⟨H0, d, k, nm, R, rfl, _⟩ := h
    rfl
  obtain ⟨H0, d, k, nm, R, rfl, hD, q⟩ := h
  have hv : (A.deeper (PyProof.Rows.envOfC "_law_width" (defScope s__law_width) s.heap.objs.size d__law_width.f cdv)).units + 65 < cLine := by have := hr.un; omega
  refine ⟨_, (pss_cons (ps_set (i := 1) sc__law_width.nd rfl (Or.inl rfl) (pe_call G__law_said hr rfl d__law_said.m d__law_said.F.kp d__law_said.b .nil pass0 (pa_cons (pv 0) (pa_cons pe_str pa_nil))))
      (pss_cons (ps_if (pt_cmpR (op_inDK (K := K) rfl hv) (pv 1) (pe_lstN (pa_cons pe_str (pa_cons pe_str (pa_cons pe_str (pa_cons pe_str (pa_cons pe_str (pa_cons pe_str (pa_cons pe_str (pa_cons pe_str (pa_cons pe_str (pa_cons pe_str (pa_cons pe_str pa_nil)))))))))))) (by with_unfolding_all rfl))
      (pss_one (ps_ret (pe_callTy call_intT rfl B.int (by decide +kernel) (pa_cons (pv 1) pa_nil))))
      pss_nil)
      (pss_one (ps_ret (pe_un un_neg pe_int))))), ?_⟩
  refine ⟨_, rfl, H0, d, k, nm, R, wWidth, by rw [width_t]; rfl, hD, .inr ⟨rfl, fun ts w0 H1 s1 hS hW lo hi => ?_⟩⟩
  have few := hD.few
  obtain ⟨f, ef⟩ : ∃ f : Fin 11, (f.val : Int) - 1 = w0 := ⟨⟨(w0 + 1).toNat, by omega⟩, by show ((w0 + 1).toNat : Int) - 1 = w0; omega⟩
  obtain ⟨t1, t2, t3, t4⟩ := wid_t f
  rw [ef] at t1 t2 t3 t4
  refine ⟨_, rfl, (by show 11 ≤ 1000; decide), fun p H2 n2 => ⟨.str _, widL.map PyData.str, .str _, .lst (SqL.of n2.here) (isDs_S widL), t4, widL_sh, _, rfl, ?_⟩⟩
  rw [if_neg (by decide), t1]
  exact iteT ⟨_, rfl, _, w0, rfl, by omega, t2, q ts w0 H2 (s1.trans n2.same) hS hW lo hi⟩
set_option maxHeartbeats 4000000 in
theorem ok__law_tell (B : Bl mg) (Wd : Wds w K mg) (Ct : Cts mg) (D_Desk : ObDesk K mg) (d_words_of : Dn K mg "words_of" s_words_of ["row"]) (d_is_whole : Dn K mg "is_whole" s_is_whole ["thing"]) (d_is_below : Dn K mg "is_below" s_is_below ["n", "thing"]) (d_tie_of : Dn K mg "tie_of" s_tie_of ["n", "a", "b"]) (d_is_written : Dn K mg "is_written" s_is_written ["text", "signs", "most"]) (d_is_number : Dn K mg "is_number" s_is_number ["text"]) (d_is_name : Dn K mg "is_name" s_is_name ["text"]) (d_read_number : Dn K mg "read_number" s_read_number ["text"]) (d_moved_up : Dn K mg "moved_up" s_moved_up ["place", "gone"]) (d_mask_sizes : Dn K mg "mask_sizes" s_mask_sizes ["n"]) (d_first_bags : Dn K mg "first_bags" s_first_bags ["graph"]) (d_taken_out : Dn K mg "taken_out" s_taken_out ["bags", "v"]) (d_all_bags : Dn K mg "all_bags" s_all_bags ["graph"]) (d_costs_along : Dn K mg "costs_along" s_costs_along ["bags"]) (d_costs : Dn K mg "costs" s_costs ["graph"]) (d_least_width : Dn K mg "least_width" s_least_width ["graph"]) (d__law_said : Dn K mg "_law_said" s__law_said ["_law_desk", "_law_row"]) (d__law_tell : Dn K mg "_law_tell" s__law_tell ["_law_desk", "_law_rows"]) : FnOk P w K mg base CX0 8 d__law_tell.f d__law_tell.fd ["_law_desk", "_law_rows"] (spTell98 K D_Desk.C) := by
  have G__law_said : FnOk P w K mg base CX0 7 _ _ _ _ := ok__law_said B Wd Ct D_Desk d_words_of d_is_whole d_is_below d_tie_of d_is_written d_is_number d_is_name d_read_number d_moved_up d_mask_sizes d_first_bags d_taken_out d_all_bags d_costs_along d_costs d_least_width d__law_said
  refine d__law_tell.F.ok sc__law_tell (fun vs H Q E h => ?_) (fun cdv A outer s H vs Q E hr h => ?_)
  · obtain ⟨H0, d, a, nm, nm', R, R', os, rfl, _⟩ := h
    rfl
  obtain ⟨H0, d, a, nm, nm', R, R', os, rfl, hA, hD, hR, q⟩ := h
  refine ⟨_, (pss_cons (ps_for PassesOwn.never rfl (pi_listK (K := K) rfl (pv 1)) (pg_name (i := 2) sc__law_tell.nd rfl (Or.inl rfl))
      (pss_one (ps_if (pt_cmpR op_ne (pe_call G__law_said hr rfl d__law_said.m d__law_said.F.kp d__law_said.b .nil pass0 (pa_cons (pv 0) (pa_cons (pv 2) pa_nil))) pe_str (nomark _))
      (pss_one (ps_ret pe_bl))
      pss_nil)))
      (pss_one (ps_ret pe_bl))), ?_⟩
  refine ⟨_, rfl, a, rfl, ⟨_, hD.sm.seq hA⟩, ?_⟩
  refine for_list (xs := (os.map rowT).map V.str) (fun i σ G => ∃ (o2 : Option V) (nmi : List (List Nat)) (Ri : Rl), σ = [some (.ref d), some (.ref a), o2] ∧ DkN D_Desk.C H0 G d .non nmi Ri ∧ NRun nmi Ri (os.drop i) nm' R') ⟨none, nm, R, rfl, hD, hR⟩ (fun i σ G _ ⟨_, _, _, _, h, _⟩ => h.sm.seq hA) ?_ ?_
  · rintro i x σ G hx ⟨o2, nmi, Ri, rfl, hG, hi⟩
    rw [List.getElem?_map, List.getElem?_map] at hx
    obtain ⟨z, hz, rfl⟩ := Option.map_eq_some_iff.mp hx
    obtain ⟨o, ho, rfl⟩ := Option.map_eq_some_iff.mp hz
    obtain ⟨il, eo⟩ := List.getElem?_eq_some_iff.mp ho
    rw [List.drop_eq_getElem_cons il, eo] at hi
    cases hi with
    | @cons _ _ _ nm1 R1 _ _ _ st rn =>
      refine ⟨_, rfl, _, rfl, H0, d, .non, nmi, Ri, blankT o.words, rfl, hG, .inl ⟨o, nm1, R1, rfl, st, fun H1 hD1 => ?_⟩⟩
      refine ⟨rfl, _, rfl, ?_⟩
      rw [decide_eq_true rfl]
      exact iteF ⟨_, nm1, R1, rfl, hD1, rn⟩
  · rintro σ G ⟨o2, nmi, Ri, rfl, hG, hi⟩
    rw [List.length_map, List.length_map, List.drop_length] at hi
    cases hi
    exact q G hG
end

end K


namespace K
open PySem L2 Lw Bg Tx
section
variable {P : Program} {w : World} {K : PySem.W.Frag} {mg : Str → Option Value} {base : Heap}
set_option maxHeartbeats 4000000 in
theorem ok__law_tie_rows (B : Bl mg) (d__law_tie_rows : Dn K mg "_law_tie_rows" s__law_tie_rows ["_law_ties_here", "_law_left"]) : FnOk P w K mg base CX0 1 d__law_tie_rows.f d__law_tie_rows.fd ["_law_ties_here", "_law_left"] (spTieRows K) := by
  refine d__law_tie_rows.F.ok sc__law_tie_rows (fun vs H Q E h => ?_) (fun cdv A outer s H vs Q E hr h => ?_)
  · obtain ⟨a, b, xs, ps, nm, rfl, _⟩ := h
    rfl
  obtain ⟨a, b, xs, ps, nm, rfl, hA, hP, l100, hB, hN, inn, q⟩ := h
  have hv : (A.deeper (PyProof.Rows.envOfC "_law_tie_rows" (defScope s__law_tie_rows) s.heap.objs.size d__law_tie_rows.f cdv)).units + 65 < cLine := by have := hr.un; omega
  refine ⟨_, (pss_one (ps_ret (pe_lc ["_law_a", "_law_b", "_law_left"] [none, none, some 1]  (by kernel_rfl) rfl (pi_listK (K := K) rfl (pv 0)) (fun _ _ _ _ _ => (pg_tupK (K := K) (n := 2) rfl rfl (pgs_cons (pg_name (i := 0) (show (["_law_a", "_law_b", "_law_left"] : List Str).Nodup by decide +kernel) rfl (Or.inl rfl)) (pgs_cons (pg_name (i := 1) (show (["_law_a", "_law_b", "_law_left"] : List Str).Nodup by decide +kernel) rfl (Or.inl rfl)) pgs_nil)))) (fun _ _ _ _ _ => (pts_one (PW.pt (pw_and (pt_cmpR (op_inDK (K := K) rfl hv) (pv 0) (pv 2) (by with_unfolding_all rfl)) (pw_and1 (pt_cmpR (op_inDK (K := K) rfl hv) (pv 1) (pv 2) (by with_unfolding_all rfl))))))) (fun _ _ _ _ _ => (pe_op op_add_str (pe_op op_add_str (pe_op op_add_str (pe_op op_add_str pe_str (pv 1)) pe_str) (pv 0)) pe_str))))), ?_⟩
  refine ⟨_, rfl, a, rfl, ⟨_, SqL.of hA⟩, ?_⟩
  have lp : xs.length = ps.length := Paired.length hP
  refine lc_list (fun i ys H' => Same H H' ∧ ys = ((ps.take i).map fun t => rowT (tieO t)).map V.str) ⟨Same.refl _, rfl⟩ (fun i ys H' hi ⟨e2, e1⟩ => ⟨SqL.of (e2 _ _ hA), by rw [e1, List.length_map, List.length_map, List.length_take, sizeLine_eq]; omega⟩) (fun i x ys H' hx ⟨s1, e1⟩ => ?_) (fun ys H' ⟨s1, e1⟩ p hp => ?_)
  · obtain ⟨t, ht, tb⟩ := paired_get hP hx
    obtain ⟨b', rfl, hb⟩ := NtL.same s1 tb
    obtain ⟨it, et⟩ := List.getElem?_eq_some_iff.mp ht
    have tm := inn t (List.mem_of_getElem? ht)
    have d1 : ∀ {l}, l ∈ nm → SeqAt.shaped (.str (sT l)) = true := fun {l} h => shaped_str (hN.short _ h)
    have hB' := s1 _ _ hB
    refine ⟨b', _, rfl, SqT.of hb, rfl, _, _, rfl, _, _, rfl, rfl, ?_⟩
    refine ⟨_, rfl, _, rfl, .str (sT t.1), nm.map fun l => PyData.str (sT l), .str _, .lst (SqL.of hB') (isDs_strs nm), d1 tm.1, shaped_strs hN.short, ?_⟩
    rw [if_neg (by decide), any_str, decide_eq_true tm.1]
    refine ⟨_, rfl, iteT ⟨_, rfl, _, rfl, .str (sT t.2), nm.map fun l => PyData.str (sT l), .str _, .lst (SqL.of hB') (isDs_strs nm), d1 tm.2, shaped_strs hN.short, ?_⟩⟩
    rw [if_neg (by decide), any_str, decide_eq_true tm.2]
    have l1 := (hN.ok _ tm.1).1.2
    have l2 := (hN.ok _ tm.2).1.2
    have k1 : (Str.ofString "tie ").length = 4 := by decide +kernel
    have k2 : (Str.ofString " ").length = 1 := by decide +kernel
    have k3 : (Str.ofString " 1").length = 2 := by decide +kernel
    refine ⟨_, rfl, iteT ⟨_, rfl, _, _, rfl, rfl, by rw [k1, sT_len, sizeLine_eq]; omega, _, _, rfl, rfl, by rw [len_app, k1, k2, sT_len, sizeLine_eq]; omega, _, rfl, _, _, rfl, rfl, by rw [len_app, len_app, k1, k2, sT_len, sT_len, sizeLine_eq]; omega, _, _, rfl, rfl, by rw [len_app, len_app, len_app, k1, k2, k3, sT_len, sT_len, sizeLine_eq]; omega, s1, ?_⟩⟩
    rw [tieR_t, e1, List.take_succ_eq_append_getElem it, et, List.map_append, List.map_append]
    rfl
  · have np := New.mk0 (o := .lst ys) hp
    generalize upd H' p (.lst ys) = H2 at np
    refine q p H2 (s1.trans np.same) (s1.free hp) ?_
    rw [np.here, e1, lp, List.take_length]
end

end K

namespace K
open PySem L2 Lw Bg Tx
theorem Nms.sub {nm nm' : List (List Nat)} (h : Nms nm) (s : nm'.Sublist nm) : Nms nm' := ⟨Nat.le_trans s.length_le h.few, h.nd.sublist s, fun l hl => h.ok l (s.subset hl)⟩
theorem one_num : numOk (sT [49]) = true := by decide +kernel
theorem four_num : numOk (sT [52]) = true := by decide +kernel
def noR : Rl := fun _ _ => False
theorem place_run {R : Rl} : ∀ (ls nm : List (List Nat)), Nms (nm ++ ls) → NRun nm R (ls.map fun l => DOp.place l [49]) (nm ++ ls) R
  | [], nm, _ => by rw [List.append_nil]; exact .nil
  | l :: r, nm, h => by
    have e : nm ++ l :: r = (nm ++ [l]) ++ r := by rw [List.append_assoc]; rfl
    rw [e] at h ⊢
    exact .cons (.place (h.sub (List.sublist_append_left _ _)) one_num) (place_run r _ h)
/-- ties told one by one -/
theorem tie_run {z : List Nat} (hz : numOk (sT z) = true) : ∀ (ps : List (List Nat × List Nat)) {nm : List (List Nat)} {R : Rl}, (∀ t ∈ ps, t.1 ∈ nm ∧ t.2 ∈ nm ∧ t.1 ≠ t.2) → ps.Pairwise (fun s t => s ≠ t ∧ s ≠ (t.2, t.1)) → (∀ t ∈ ps, ¬ R t.2 t.1) →
    NRun nm R (ps.map fun t => DOp.tie t.2 t.1 z) nm (fun u v => R u v ∨ (u, v) ∈ ps ∨ (v, u) ∈ ps)
  | [], nm, R, _, _, _ => by
    have e : (fun u v => R u v ∨ (u, v) ∈ ([] : List (List Nat × List Nat)) ∨ (v, u) ∈ ([] : List (List Nat × List Nat))) = R := by
      funext u v
      simp
    rw [e]
    exact .nil
  | t :: r, nm, R, h1, h2, h3 => by
    obtain ⟨a, b, c⟩ := h1 t List.mem_cons_self
    obtain ⟨p1, p2⟩ := List.pairwise_cons.mp h2
    have st : NStep nm R (.tie t.2 t.1 z) nm _ := .tie b a (Ne.symm c) (h3 t List.mem_cons_self) hz
    have ih := tie_run hz r (nm := nm) (R := fun u v => R u v ∨ (u = t.2 ∧ v = t.1) ∨ (u = t.1 ∧ v = t.2)) (fun s hs => h1 s (List.mem_cons_of_mem _ hs)) p2 (fun s hs z => by
      obtain ⟨n1, n2⟩ := p1 s hs
      rcases z with z | ⟨z1, z2⟩ | ⟨z1, z2⟩
      · exact h3 s (List.mem_cons_of_mem _ hs) z
      · exact n1 (Prod.ext z2.symm z1.symm)
      · exact n2 (Prod.ext z1.symm z2.symm))
    have e : (fun u v => (R u v ∨ (u = t.2 ∧ v = t.1) ∨ (u = t.1 ∧ v = t.2)) ∨ (u, v) ∈ r ∨ (v, u) ∈ r) = (fun u v => R u v ∨ (u, v) ∈ t :: r ∨ (v, u) ∈ t :: r) := by
      funext u v
      obtain ⟨t1, t2⟩ := t
      simp only [List.mem_cons, Prod.mk.injEq, eq_iff_iff]
      constructor
      · rintro ((h | h | h) | h | h)
        · exact .inl h
        · exact .inr (.inr (.inl ⟨h.2, h.1⟩))
        · exact .inr (.inl (.inl h))
        · exact .inr (.inl (.inr h))
        · exact .inr (.inr (.inr h))
      · rintro (h | (h | h) | (h | h))
        · exact .inl (.inl h)
        · exact .inl (.inr (.inr h))
        · exact .inr (.inl h)
        · exact .inl (.inr (.inl ⟨h.2, h.1⟩))
        · exact .inr (.inr h)
    rw [e] at ih
    exact .cons st ih
/-- the pairs of names -/
def RP (ps : List (List Nat × List Nat)) : Rl := fun u v => (u, v) ∈ ps ∨ (v, u) ∈ ps
/-- pairs of names as they are drawn -/
structure Prs (nm : List (List Nat)) (ps : List (List Nat × List Nat)) : Prop where
  inn : ∀ t ∈ ps, t.1 ∈ nm ∧ t.2 ∈ nm ∧ t.1 ≠ t.2
  one : ps.Pairwise (fun s t => s ≠ t ∧ s ≠ (t.2, t.1))
theorem Prs.of {nms nm : List (List Nat)} {ts : List (Int × Int)} {n : Nat} (hN : Nms nms) (en : nm = nms.take n) (ln : n ≤ nms.length) (hW : Web n ts) : Prs nm (ts.map fun t => (nms.getD t.1.toNat [], nms.getD t.2.toNat [])) := by
  have at_ : ∀ {i : Int}, 0 ≤ i → i < (n : Int) → nms.getD i.toNat [] ∈ nm ∧ nms[i.toNat]? = some (nms.getD i.toNat []) := fun {i} h0 h1 => by
    have l : i.toNat < nms.length := by omega
    have e : nms[i.toNat]? = some (nms.getD i.toNat []) := by rw [List.getD_eq_getElem?_getD, List.getElem?_eq_getElem l]; rfl
    refine ⟨?_, e⟩
    rw [en]
    refine List.mem_of_getElem? (i := i.toNat) ?_
    rw [List.getElem?_take_of_lt (by omega)]
    exact e
  refine ⟨fun t ht => ?_, ?_⟩
  · obtain ⟨s, hs, rfl⟩ := List.mem_map.mp ht
    obtain ⟨o1, o2, o3⟩ := hW.ok s hs
    have a := at_ (i := s.1) o1 (by omega)
    have b := at_ (i := s.2) (by omega) o3
    refine ⟨a.1, b.1, fun e => ?_⟩
    have := at_inj hN.nd a.2 (by rw [show nms.getD s.1.toNat [] = nms.getD s.2.toNat [] from e]; exact b.2)
    omega
  · rw [List.pairwise_map]
    refine (List.pairwise_iff_forall_sublist.mpr fun {s t} hs => ?_)
    have hx := hW.ok s (hs.subset (show s ∈ [s, t] by simp))
    have hy := hW.ok t (hs.subset (show t ∈ [s, t] by simp))
    have lx := List.pairwise_iff_forall_sublist.mp hW.up hs
    have e1 := at_ (i := s.1) hx.1 (by omega)
    have e2 := at_ (i := s.2) (by omega) hx.2.2
    have e3 := at_ (i := t.1) hy.1 (by omega)
    have e4 := at_ (i := t.2) (by omega) hy.2.2
    refine ⟨fun e => ?_, fun e => ?_⟩
    · injection e with q1 q2
      have a := at_inj hN.nd e1.2 (by rw [q1]; exact e3.2)
      have b := at_inj hN.nd e2.2 (by rw [q2]; exact e4.2)
      have : s = t := Prod.ext (by omega) (by omega)
      subst this
      rcases lx with h | h <;> omega
    · injection e with q1 q2
      have a := at_inj hN.nd e1.2 (by rw [q1]; exact e4.2)
      have b := at_inj hN.nd e2.2 (by rw [q2]; exact e3.2)
      omega

theorem cut_lo98 (xs : List V) (k : Nat) : cutV xs none (some (k : Int)) = xs.take k := by
  unfold cutV
  have e1 : HT.sIx xs.length xs.length (some (k : Int)) = min k xs.length := HT.sIx_nat _ _ k
  have e2 : HT.sIx xs.length 0 none = 0 := rfl
  rw [e1, e2, List.drop_zero, Nat.sub_zero]
  rcases Nat.le_total k xs.length with c | c
  · rw [Nat.min_eq_left c]
  · rw [Nat.min_eq_right c, List.take_length, List.take_of_length_le c]
theorem placeR_t (l : List Nat) : (Str.ofString "place ") ++ sT l ++ (Str.ofString " 1") = rowT (.place l [49]) := by
  have e1 : (Str.ofString "place ") = sT [112, 108, 97, 99, 101, 32] := by decide +kernel
  have e2 : (Str.ofString " 1") = sT [32, 49] := by decide +kernel
  rw [e1, e2, sT_app, sT_app]
  unfold rowT
  refine congrArg sT ?_
  show _ = wPlace ++ 32 :: (l ++ 32 :: [49])
  simp [wPlace]
theorem tie4_t (a b : List Nat) : (Str.ofString "tie ") ++ sT a ++ (Str.ofString " ") ++ sT b ++ (Str.ofString " 4") = rowT (.tie a b [52]) := by
  have e1 : (Str.ofString "tie ") = sT [116, 105, 101, 32] := by decide +kernel
  have e2 : (Str.ofString " 4") = sT [32, 52] := by decide +kernel
  rw [e1, e2, blank_t, sT_app, sT_app, sT_app, sT_app]
  unfold rowT
  refine congrArg sT ?_
  show _ = wTie ++ 32 :: (a ++ 32 :: (b ++ 32 :: [52]))
  simp [wTie]
theorem untieR_t (a b : List Nat) : (Str.ofString "untie ") ++ sT b ++ (Str.ofString " ") ++ sT a = rowT (.untie b a) := by
  have e1 : (Str.ofString "untie ") = sT [117, 110, 116, 105, 101, 32] := by decide +kernel
  rw [e1, blank_t, sT_app, sT_app, sT_app]
  unfold rowT
  refine congrArg sT ?_
  show _ = wUntie ++ 32 :: (b ++ 32 :: a)
  simp [wUntie]
theorem dropR_t (x : List Nat) : (Str.ofString "drop ") ++ sT x = rowT (.drop x) := by
  have e1 : (Str.ofString "drop ") = sT [100, 114, 111, 112, 32] := by decide +kernel
  rw [e1, sT_app]
  unfold rowT
  refine congrArg sT ?_
  show _ = wDrop ++ 32 :: x
  simp [wDrop]
theorem txt_len : (Str.ofString "place ").length = 6 ∧ (Str.ofString "tie ").length = 4 ∧ (Str.ofString "untie ").length = 6 ∧ (Str.ofString "drop ").length = 5 ∧ (Str.ofString " ").length = 1 ∧ (Str.ofString " 1").length = 2 ∧ (Str.ofString " 4").length = 2 := by decide +kernel
theorem DkN.less {C : Addr} {H0 H1 H : Hp} {d : Addr} {k : V} {nm : List (List Nat)} {R : Rl} (h : DkN C H1 H d k nm R) (s : Same H0 H1) : DkN C H0 H d k nm R := by
  obtain ⟨ts, ⟨dx, pn, pw, pc, ws, kvs, hA, kp⟩, hS⟩ := h
  exact ⟨ts, ⟨dx, pn, pw, pc, ws, kvs, ⟨s.trans hA.sm, s.free hA.d0, s.free hA.n0, s.free hA.w0, s.free hA.c0, hA.hd, hA.hn, hA.hw, hA.hc, hA.ne, hA.len⟩, kp⟩, hS⟩
/-- with a new list beside the desk -/
theorem DkN.list {C : Addr} {H0 H H1 H2 : Hp} {d p : Addr} {k : V} {o : HO} {nm : List (List Nat)} {R : Rl} (h : DkN C H0 H d k nm R) (s : Same H H1) (n : New H1 p o H2) : DkN C (upd H0 p o) H2 d k nm R ∧ Same H0 (upd H0 p o) :=
  ⟨(h.mono s).more n, (New.mk0 ((h.sm.trans s).free n.fresh)).same⟩
theorem DkN.list2 {C : Addr} {H0 H H2 : Hp} {d p : Addr} {k : V} {o : HO} {nm : List (List Nat)} {R : Rl} (h : DkN C H0 H d k nm R) (s : Same H H2) (f : H p = none) (e : H2 p = some o) : DkN C (upd H0 p o) H2 d k nm R ∧ Same H0 (upd H0 p o) := by
  have s0 := (New.mk0 (o := o) (h.sm.free f)).same
  refine ⟨?_, s0⟩
  obtain ⟨ts, ⟨dx, pn, pw, pc, ws, kvs, hA, kp⟩, hS⟩ := h
  have hB := hA.mono s
  refine ⟨ts, ⟨dx, pn, pw, pc, ws, kvs, ⟨fun b u q => ?_, ?_, ?_, ?_, ?_, hB.hd, hB.hn, hB.hw, hB.hc, hB.ne, hB.len⟩, kp⟩, hS⟩
  · by_cases c : b = p
    · subst c; rw [upd_same] at q; rw [e]; exact q
    · rw [upd_ne c] at q; exact hB.sm b u q
  · rw [upd_ne (ne_of_none hA.hd f)]; exact hA.d0
  · rw [upd_ne (ne_of_none hA.hn f)]; exact hA.n0
  · rw [upd_ne (ne_of_none hA.hw f)]; exact hA.w0
  · rw [upd_ne (ne_of_none hA.hc f)]; exact hA.c0
theorem DkN.start {C : Addr} {H0 H : Hp} {d : Addr} (h : DkH C H0 H d .non [] []) : DkN C H0 H d .non [] noR :=
  ⟨[], h, { s := { nms := { few := Nat.zero_le _, nd := List.Pairwise.nil, ok := (fun _ z => by cases z) }, okt := (fun _ z => by cases z), nd := List.Pairwise.nil }, r := fun x y => ⟨fun ⟨_, _, z, _⟩ => (by simp at z), fun z => z.elim⟩ }⟩
theorem ops_run {nm : List (List Nat)} {ps : List (List Nat × List Nat)} (Pr : Prs nm ps) : NRun nm noR (ps.map tieO) nm (RP ps) := by
  have := tie_run one_num ps (nm := nm) (R := noR) Pr.inn Pr.one (fun _ _ z => z)
  have e : (fun u v => noR u v ∨ (u, v) ∈ ps ∨ (v, u) ∈ ps) = RP ps := by
    funext u v
    unfold RP noR
    simp
  rw [e] at this
  exact this
/-- a tie taken away and told again -/
theorem untie_run {nm : List (List Nat)} {ps : List (List Nat × List Nat)} (Pr : Prs nm ps) {t : List Nat × List Nat} (ht : t ∈ ps) : NStep nm (RP ps) (.untie t.2 t.1) nm (fun u v => RP ps u v ∧ ¬ ((u = t.2 ∧ v = t.1) ∨ (u = t.1 ∧ v = t.2))) ∧
    NRun nm (fun u v => RP ps u v ∧ ¬ ((u = t.2 ∧ v = t.1) ∨ (u = t.1 ∧ v = t.2))) [.tie t.1 t.2 [52]] nm (RP ps) := by
  obtain ⟨a, b, c⟩ := Pr.inn t ht
  refine ⟨.untie b a (.inr ht), ?_⟩
  have st : NStep nm (fun u v => RP ps u v ∧ ¬ ((u = t.2 ∧ v = t.1) ∨ (u = t.1 ∧ v = t.2))) (.tie t.1 t.2 [52]) nm _ := .tie a b c (fun z => z.2 (.inr ⟨rfl, rfl⟩)) four_num
  have e : (fun u v => (RP ps u v ∧ ¬ ((u = t.2 ∧ v = t.1) ∨ (u = t.1 ∧ v = t.2))) ∨ (u = t.1 ∧ v = t.2) ∨ (u = t.2 ∧ v = t.1)) = RP ps := by
    funext u v
    refine propext ⟨?_, fun h => ?_⟩
    · rintro (h | ⟨rfl, rfl⟩ | ⟨rfl, rfl⟩)
      · exact h.1
      · exact .inl ht
      · exact .inr ht
    · by_cases z : (u = t.1 ∧ v = t.2) ∨ (u = t.2 ∧ v = t.1)
      · exact .inr z
      · exact .inl ⟨h, fun q => z q.symm⟩
  have := NRun.cons st (NRun.nil)
  rw [e] at this
  exact this
/-- the ties left without a place -/
def RD (ps : List (List Nat × List Nat)) (g : List Nat) : Rl := fun u v => RP ps u v ∧ u ≠ g ∧ v ≠ g
def RA (R : Rl) (nm : List (List Nat)) (f : List Nat) : Rl := fun u v => R u v ∨ (u = f ∧ v ∈ nm) ∨ (v = f ∧ u ∈ nm)
theorem all_run {nm : List (List Nat)} {R : Rl} {f : List Nat} (hN : Nms (nm ++ [f])) (hR : ∀ u v, R u v → u ∈ nm ∧ v ∈ nm) : NRun nm R (DOp.place f [49] :: nm.map fun l => DOp.tie f l [49]) (nm ++ [f]) (RA R nm f) := by
  obtain ⟨_, nf, _⟩ := hN.init
  refine .cons (.place hN one_num) ?_
  have := tie_run one_num (nm.map fun l => (l, f)) (nm := nm ++ [f]) (R := R) (fun t ht => by
    obtain ⟨l, hl, rfl⟩ := List.mem_map.mp ht
    exact ⟨List.mem_append_left _ hl, List.mem_append_right _ List.mem_cons_self, fun e => nf (by rw [← show l = f from e]; exact hl)⟩) (by
    rw [List.pairwise_map]
    refine List.pairwise_iff_forall_sublist.mpr fun {s t} hs => ?_
    have ne : s ≠ t := List.pairwise_iff_forall_sublist.mp (hN.init).1.nd hs
    refine ⟨fun e => ne (congrArg Prod.fst e), fun e => nf ?_⟩
    have e1 : s = f := congrArg Prod.fst e
    rw [← e1]
    exact hs.subset (by simp)) (fun t ht z => by
    obtain ⟨l, hl, rfl⟩ := List.mem_map.mp ht
    exact nf (hR _ _ z).1)
  rw [List.map_map] at this
  have e : (fun u v => R u v ∨ (u, v) ∈ (nm.map fun l => (l, f)) ∨ (v, u) ∈ (nm.map fun l => (l, f))) = RA R nm f := by
    funext u v
    refine propext ⟨?_, ?_⟩
    · rintro (h | h | h)
      · exact .inl h
      · obtain ⟨l, hl, e⟩ := List.mem_map.mp h
        injection e with e1 e2
        exact .inr (.inr ⟨e2.symm, e1 ▸ hl⟩)
      · obtain ⟨l, hl, e⟩ := List.mem_map.mp h
        injection e with e1 e2
        exact .inr (.inl ⟨e2.symm, e1 ▸ hl⟩)
    · rintro (h | ⟨rfl, h⟩ | ⟨rfl, h⟩)
      · exact .inl h
      · exact .inr (.inr (List.mem_map.mpr ⟨v, h, rfl⟩))
      · exact .inr (.inl (List.mem_map.mpr ⟨u, h, rfl⟩))
  rw [e] at this
  exact this
/-- the new place goes, and the old one comes back with its ties -/
theorem back_run {nm : List (List Nat)} {ps : List (List Nat × List Nat)} {f g : List Nat} (Pr : Prs nm ps) (hN : Nms nm) (n9 : nm.length ≤ 9) (hg : g ∈ nm) (nf : f ∉ nm) :
    NRun ((nm.filter fun l => decide (l ≠ g)) ++ [f]) (RA (RD ps g) (nm.filter fun l => decide (l ≠ g)) f) ([.drop f, .place g [49]] ++ (ps.filter fun t => decide (g = t.1) || decide (g = t.2)).map tieO) ((nm.filter fun l => decide (l ≠ g)) ++ [g]) (RP ps) := by
  have m2 : ∀ {u}, u ∈ (nm.filter fun l => decide (l ≠ g)) ↔ u ∈ nm ∧ u ≠ g := fun {u} => by rw [List.mem_filter, decide_eq_true_iff]
  have f2 : f ∉ (nm.filter fun l => decide (l ≠ g)) := fun z => nf (m2.mp z).1
  have st1 : NStep ((nm.filter fun l => decide (l ≠ g)) ++ [f]) (RA (RD ps g) (nm.filter fun l => decide (l ≠ g)) f) (.drop f) _ _ := .drop (List.mem_append_right _ List.mem_cons_self)
  have e1 : ((nm.filter fun l => decide (l ≠ g)) ++ [f]).filter (fun l => decide (l ≠ f)) = (nm.filter fun l => decide (l ≠ g)) := by
    rw [List.filter_append, show [f].filter (fun l => decide (l ≠ f)) = [] by simp, List.append_nil]
    exact List.filter_eq_self.mpr fun u hu => by
      have : u ≠ f := fun e => f2 (e ▸ hu)
      simp [this]
  have e2 : (fun u v => RA (RD ps g) (nm.filter fun l => decide (l ≠ g)) f u v ∧ u ≠ f ∧ v ≠ f) = RD ps g := by
    funext u v
    refine propext ⟨?_, fun h => ?_⟩
    · rintro ⟨h | h | h, h1, h2⟩
      · exact h
      · exact absurd h.1 h1
      · exact absurd h.1 h2
    · have : u ∈ nm ∧ v ∈ nm := by
        rcases h.1 with q | q
        · exact ⟨(Pr.inn _ q).1, (Pr.inn _ q).2.1⟩
        · exact ⟨(Pr.inn _ q).2.1, (Pr.inn _ q).1⟩
      exact ⟨.inl h, fun e => nf (e ▸ this.1), fun e => nf (e ▸ this.2)⟩
  rw [e1, e2] at st1
  have hN2 : Nms ((nm.filter fun l => decide (l ≠ g)) ++ [g]) := by
    refine ⟨?_, ?_, fun l hl => ?_⟩
    · have := List.length_filter_le (fun l => decide (l ≠ g)) nm
      rw [List.length_append, List.length_singleton]
      omega
    · refine List.nodup_append.mpr ⟨hN.nd.sublist List.filter_sublist, List.pairwise_singleton _ _, fun x hx y hy e => ?_⟩
      rw [List.mem_singleton.mp hy] at e
      exact (m2.mp hx).2 e
    · rcases List.mem_append.mp hl with hl | hl
      · exact hN.ok l (m2.mp hl).1
      · rw [List.mem_singleton.mp hl]; exact hN.ok g hg
  have inn2 : ∀ {u}, u ∈ nm → u ∈ (nm.filter fun l => decide (l ≠ g)) ++ [g] := fun {u} hu => by
    by_cases c : u = g
    · exact List.mem_append_right _ (by rw [c]; exact List.mem_cons_self)
    · exact List.mem_append_left _ (m2.mpr ⟨hu, c⟩)
  have mf : ∀ {t}, t ∈ (ps.filter fun t => decide (g = t.1) || decide (g = t.2)) ↔ t ∈ ps ∧ (g = t.1 ∨ g = t.2) := fun {t} => by rw [List.mem_filter, Bool.or_eq_true, decide_eq_true_iff, decide_eq_true_iff]
  have := tie_run one_num (ps.filter fun t => decide (g = t.1) || decide (g = t.2)) (nm := (nm.filter fun l => decide (l ≠ g)) ++ [g]) (R := RD ps g) (fun t ht => by
    obtain ⟨h1, _⟩ := mf.mp ht
    obtain ⟨a, b, c⟩ := Pr.inn t h1
    exact ⟨inn2 a, inn2 b, c⟩) (Pr.one.sublist List.filter_sublist) (fun t ht z => by
    obtain ⟨_, h1 | h1⟩ := mf.mp ht
    · exact z.2.2 h1.symm
    · exact z.2.1 h1.symm)
  have e3 : (fun u v => RD ps g u v ∨ (u, v) ∈ (ps.filter fun t => decide (g = t.1) || decide (g = t.2)) ∨ (v, u) ∈ (ps.filter fun t => decide (g = t.1) || decide (g = t.2))) = RP ps := by
    funext u v
    refine propext ⟨?_, fun h => ?_⟩
    · rintro (h | h | h)
      · exact h.1
      · exact .inl (mf.mp h).1
      · exact .inr (mf.mp h).1
    · by_cases c : u ≠ g ∧ v ≠ g
      · exact .inl ⟨h, c⟩
      · have c' : g = u ∨ g = v := by
          by_cases q : u = g
          · exact .inl q.symm
          · exact .inr (Classical.byContradiction fun z => c ⟨q, fun e => z e.symm⟩)
        rcases h with h | h
        · exact .inr (.inl (mf.mpr ⟨h, c'⟩))
        · exact .inr (.inr (mf.mpr ⟨h, c'.symm⟩))
  rw [e3] at this
  exact .cons st1 (.cons (.place hN2 one_num) this)
theorem any_two98 (a b c : Int) : [PyData.int a, PyData.int b].any (fun e => PyData.eqv e (.int c)) = (decide (a = c) || decide (b = c)) := by
  simp only [List.any_cons, List.any_nil, Bool.or_false, PyData.eqv]
  congr 1 <;> (rw [Bool.eq_iff_iff]; simp)
theorem in_two {a c : Int} (h : c = a ∨ c = a - 1) : [PyData.int a, PyData.int (a - 1)].any (fun e => PyData.eqv e (.int c)) = true := by
  rw [any_two98, Bool.or_eq_true, decide_eq_true_iff, decide_eq_true_iff]
  omega
def plF : V → Option V
  | .str y => some (.str ((Str.ofString "place ") ++ y ++ (Str.ofString " 1")))
  | _ => none
def neF (g : List Nat) : V → Option V
  | .str y => if y = sT g then none else some (.str y)
  | _ => none
def tfF (f : List Nat) : V → Option V
  | .str y => some (.str ((Str.ofString "tie ") ++ sT f ++ (Str.ofString " ") ++ y ++ (Str.ofString " 1")))
  | _ => none
theorem fm_pl : ∀ (nm : List (List Nat)), (nm.map fun l => V.str (sT l)).filterMap plF = ((nm.map fun l => DOp.place l [49]).map rowT).map V.str
  | [] => rfl
  | l :: r => by
    rw [List.map_cons, List.filterMap_cons_some (show plF (V.str (sT l)) = some (.str (rowT (.place l [49]))) by rw [← placeR_t]; rfl), fm_pl r]
    rfl
theorem fm_ne (g : List Nat) : ∀ (nm : List (List Nat)), (nm.map fun l => V.str (sT l)).filterMap (neF g) = (nm.filter fun l => decide (l ≠ g)).map fun l => V.str (sT l)
  | [] => rfl
  | l :: r => by
    by_cases c : l = g
    · rw [List.map_cons, List.filterMap_cons_none (show neF g (V.str (sT l)) = none from if_pos (by rw [c])), fm_ne g r, List.filter_cons_of_neg (by simp [c])]
    · rw [List.map_cons, List.filterMap_cons_some (show neF g (V.str (sT l)) = some (.str (sT l)) from if_neg fun z => c (sT_inj z)), fm_ne g r, List.filter_cons_of_pos (by simp [c])]
      rfl
theorem fm_tf (f : List Nat) : ∀ (nm : List (List Nat)), (nm.map fun l => V.str (sT l)).filterMap (tfF f) = ((nm.map fun l => DOp.tie f l [49]).map rowT).map V.str
  | [] => rfl
  | l :: r => by
    rw [List.map_cons, List.filterMap_cons_some (show tfF f (V.str (sT l)) = some (.str (rowT (.tie f l [49]))) by rw [← show _ = rowT (.tie f l [49]) from tieR_t l f]; rfl), fm_tf f r]
    rfl
theorem inV_two (g a b : List Nat) : inV (.str (sT g)) [.str (sT a), .str (sT b)] = (decide (g = a) || decide (g = b)) := by
  unfold inV
  simp only [List.any_cons, List.any_nil, Bool.or_false, eqV]
  have e : ∀ a : List Nat, (sT a == sT g) = decide (g = a) := fun a => by
    rw [Bool.eq_iff_iff, beq_iff_eq, decide_eq_true_iff]
    exact ⟨fun z => (sT_inj z).symm, fun z => by rw [z]⟩
  rw [e, e]

end K


namespace K
open PySem L2 Lw Bg Tx
abbrev s_law : Stmt := top 154
theorem sc_law : FnScope ["_law_script", "_law_n", "_law_names_here", "_law_fresh", "_law_ties_here", "_law_a", "_law_b", "_law_desk", "_law_least", "_law_gone", "_law_left", "_law_less_wide", "_law_rows"] ["_law_script"] (defScope s_law) := ⟨rfl, rfl, rfl, by decide +kernel, rfl, by decide +kernel, by decide +kernel⟩
section
variable {P : Program} {w : World} {K : PySem.W.Frag} {mg : Str → Option Value} {base : Heap}
set_option maxHeartbeats 8000000 in
theorem ok_law (B : Bl mg) (D_Desk : ObDesk K mg) (Wd : Wds w K mg) (Ct : Cts mg) (d_words_of : Dn K mg "words_of" s_words_of ["row"]) (d_is_whole : Dn K mg "is_whole" s_is_whole ["thing"]) (d_is_below : Dn K mg "is_below" s_is_below ["n", "thing"]) (d_tie_of : Dn K mg "tie_of" s_tie_of ["n", "a", "b"]) (d_is_written : Dn K mg "is_written" s_is_written ["text", "signs", "most"]) (d_is_number : Dn K mg "is_number" s_is_number ["text"]) (d_is_name : Dn K mg "is_name" s_is_name ["text"]) (d_read_number : Dn K mg "read_number" s_read_number ["text"]) (d_moved_up : Dn K mg "moved_up" s_moved_up ["place", "gone"]) (d_mask_sizes : Dn K mg "mask_sizes" s_mask_sizes ["n"]) (d_first_bags : Dn K mg "first_bags" s_first_bags ["graph"]) (d_taken_out : Dn K mg "taken_out" s_taken_out ["bags", "v"]) (d_all_bags : Dn K mg "all_bags" s_all_bags ["graph"]) (d_costs_along : Dn K mg "costs_along" s_costs_along ["bags"]) (d_costs : Dn K mg "costs" s_costs ["graph"]) (d_least_width : Dn K mg "least_width" s_least_width ["graph"]) (d__law_cell : Dn K mg "_law_cell" s__law_cell ["_law_script", "_law_k"]) (d__law_mixed : Dn K mg "_law_mixed" s__law_mixed ["_law_cell_here", "_law_many"]) (d__law_names : Dn K mg "_law_names" s__law_names ["_law_script", "_law_at", "_law_n"]) (d__law_ties : Dn K mg "_law_ties" s__law_ties ["_law_script", "_law_at", "_law_n"]) (d__law_said : Dn K mg "_law_said" s__law_said ["_law_desk", "_law_row"]) (d__law_width : Dn K mg "_law_width" s__law_width ["_law_desk"]) (d__law_tell : Dn K mg "_law_tell" s__law_tell ["_law_desk", "_law_rows"]) (d__law_tie_rows : Dn K mg "_law_tie_rows" s__law_tie_rows ["_law_ties_here", "_law_left"]) (d_law : Dn K mg "law" s_law ["_law_script"]) : FnOk P w K mg base CX0 9 d_law.f d_law.fd ["_law_script"] (spLaw K) := by
  have G__law_cell : FnOk P w K mg base CX0 8 _ _ _ _ := (ok_cell B d__law_cell).mono (by decide)
  have G__law_names : FnOk P w K mg base CX0 8 _ _ _ _ := (ok__law_names B d__law_cell d__law_mixed d__law_names).mono (by decide)
  have G__law_ties : FnOk P w K mg base CX0 8 _ _ _ _ := (ok__law_ties B d__law_cell d__law_mixed d__law_ties).mono (by decide)
  have G__law_tie_rows : FnOk P w K mg base CX0 8 _ _ _ _ := (ok__law_tie_rows B d__law_tie_rows).mono (by decide)
  have G__law_tell : FnOk P w K mg base CX0 8 _ _ _ _ := ok__law_tell B Wd Ct D_Desk d_words_of d_is_whole d_is_below d_tie_of d_is_written d_is_number d_is_name d_read_number d_moved_up d_mask_sizes d_first_bags d_taken_out d_all_bags d_costs_along d_costs d_least_width d__law_said d__law_tell
  have G__law_width : FnOk P w K mg base CX0 8 _ _ _ _ := ok__law_width B Wd Ct D_Desk d_words_of d_is_whole d_is_below d_tie_of d_is_written d_is_number d_is_name d_read_number d_moved_up d_mask_sizes d_first_bags d_taken_out d_all_bags d_costs_along d_costs d_least_width d__law_said d__law_width
  have G_Desk___init__ : FnOk P w K mg base CX0 7 _ _ _ _ := (ok_init B D_Desk).mono (by decide)
  refine d_law.F.ok sc_law (fun vs H Q E h => ?_) (fun cdv A outer s H vs Q E hr h => ?_)
  · obtain ⟨a, ns, rfl, _⟩ := h
    rfl
  obtain ⟨a, ns, rfl, hS, h63, q⟩ := h
  have hv : (A.deeper (PyProof.Rows.envOfC "law" (defScope s_law) s.heap.objs.size d_law.f cdv)).units + 65 < cLine := by have := hr.un; omega
  refine ⟨_, (pss_cons (ps_set (i := 1) sc_law.nd rfl (Or.inl rfl) (pe_op op_add pe_int (pe_op op_mod (pe_call G__law_cell hr rfl d__law_cell.m d__law_cell.F.kp d__law_cell.b .nil pass0 (pa_cons (pv 0) (pa_cons pe_int pa_nil))) pe_int)))
      (pss_cut (ps_if (pt_cmpR op_eq (pe_op op_mod (pe_op op_fdiv (pe_call G__law_cell hr rfl d__law_cell.m d__law_cell.F.kp d__law_cell.b .nil pass0 (pa_cons (pv 0) (pa_cons pe_int pa_nil))) pe_int) pe_int) pe_int (nomark _))
      (pss_one (ps_set (i := 1) sc_law.nd rfl (Or.inl rfl) (pe_op op_add pe_int (pe_op op_mod (pe_op op_fdiv (pe_call G__law_cell hr rfl d__law_cell.m d__law_cell.F.kp d__law_cell.b .nil pass0 (pa_cons (pv 0) (pa_cons pe_int pa_nil))) pe_int) pe_int))))
      pss_nil)
      (pss_cons (ps_set (i := 2) sc_law.nd rfl (Or.inr rfl) (pe_call G__law_names hr rfl d__law_names.m d__law_names.F.kp d__law_names.b .nil pass0 (pa_cons (pv 0) (pa_cons pe_int (pa_cons (pe_op op_add (pv 1) pe_int) pa_nil)))))
      (pss_cons (ps_set (i := 3) sc_law.nd rfl (Or.inr rfl) (pe_ix (ix_listK (K := K) rfl) (pv 2) (pv 1) (fun _ _ => rfl)))
      (pss_cons (ps_setLC (i := 4) ["_law_a", "_law_b", "_law_names_here"] [none, none, some 2] sc_law.nd rfl rfl (by kernel_rfl) rfl (pi_listK (K := K) rfl (pe_call G__law_ties hr rfl d__law_ties.m d__law_ties.F.kp d__law_ties.b .nil pass0 (pa_cons (pv 0) (pa_cons pe_int (pa_cons (pv 1) pa_nil))))) (fun _ _ _ _ _ => (pg_tupK (K := K) (n := 2) rfl rfl (pgs_cons (pg_name (i := 0) (show (["_law_a", "_law_b", "_law_names_here"] : List Str).Nodup by decide +kernel) rfl (Or.inl rfl)) (pgs_cons (pg_name (i := 1) (show (["_law_a", "_law_b", "_law_names_here"] : List Str).Nodup by decide +kernel) rfl (Or.inl rfl)) pgs_nil)))) (fun _ _ _ _ _ => pts_nil) (fun _ _ _ _ _ => (pe_tupN (pa_cons (pe_ix (ix_listK (K := K) rfl) (pv 2) (pv 0) (fun _ _ => rfl)) (pa_cons (pe_ix (ix_listK (K := K) rfl) (pv 2) (pv 1) (fun _ _ => rfl)) pa_nil)))) (by rfl))
      (pss_cons (ps_set (i := 7) sc_law.nd rfl (Or.inl rfl) (pe_make0 D_Desk.mkd G_Desk___init__ hr rfl D_Desk.m D_Desk.d___init__.b .nil pass0))
      (pss_cons (ps_if (pt_not (pt_truthK (K := K) rfl (pe_call G__law_tell hr rfl d__law_tell.m d__law_tell.F.kp d__law_tell.b .nil pass0 (pa_cons (pv 7) (pa_cons (pe_lc ["_law_name"] [none]  (by kernel_rfl) rfl (pi_listK (K := K) rfl (pe_slice (sl_listN (K := K) rfl) (pv 2) po_none (po_some (pv 1)))) (fun _ _ _ _ _ => (pg_name (i := 0) (show (["_law_name"] : List Str).Nodup by decide +kernel) rfl (Or.inl rfl))) (fun _ _ _ _ _ => pts_nil) (fun _ _ _ _ _ => (pe_op op_add_str (pe_op op_add_str pe_str (pv 0)) pe_str))) pa_nil))) (fun _ => rfl)))
      (pss_one (ps_ret pe_bl))
      pss_nil)
      (pss_cons (ps_if (pt_not (pt_truthK (K := K) rfl (pe_call G__law_tell hr rfl d__law_tell.m d__law_tell.F.kp d__law_tell.b .nil pass0 (pa_cons (pv 7) (pa_cons (pe_call G__law_tie_rows hr rfl d__law_tie_rows.m d__law_tie_rows.F.kp d__law_tie_rows.b .nil pass0 (pa_cons (pv 4) (pa_cons (pv 2) pa_nil))) pa_nil))) (fun _ => rfl)))
      (pss_one (ps_ret pe_bl))
      pss_nil)
      (pss_cons (ps_set (i := 8) sc_law.nd rfl (Or.inl rfl) (pe_call G__law_width hr rfl d__law_width.m d__law_width.F.kp d__law_width.b .nil pass0 (pa_cons (pv 7) pa_nil)))
      (pss_cons (ps_if (PW.pt (pw_or (pt_cmpR op_lt (pv 8) pe_int (nomark _)) (pw_or1 (pt_cmpR op_ge (pv 8) (pv 1) (nomark _)))))
      (pss_one (ps_ret pe_bl))
      pss_nil)
      (pss_cut (ps_if (PW.pt (pw_and (pt_cmpR op_gt (pe_callB (call_lenK (K := K) rfl) rfl B.len (by decide +kernel) (pa_cons (pv 4) pa_nil)) pe_int (nomark _)) (pw_and1 (pt_cmpR op_eq (pe_op op_mod (pe_call G__law_cell hr rfl d__law_cell.m d__law_cell.F.kp d__law_cell.b .nil pass0 (pa_cons (pv 0) (pa_cons pe_int pa_nil))) pe_int) pe_int (nomark _)))))
      (pss_cons (ps_asg (pe_ix (ix_listK (K := K) rfl) (pv 4) (pe_op op_mod (pe_call G__law_cell hr rfl d__law_cell.m d__law_cell.F.kp d__law_cell.b .nil pass0 (pa_cons (pv 0) (pa_cons pe_int pa_nil))) (pe_callB (call_lenK (K := K) rfl) rfl B.len (by decide +kernel) (pa_cons (pv 4) pa_nil))) (fun _ _ => rfl)) (pg_tupK (K := K) (n := 2) rfl rfl (pgs_cons (pg_name (i := 5) sc_law.nd rfl (Or.inl rfl)) (pgs_cons (pg_name (i := 6) sc_law.nd rfl (Or.inl rfl)) pgs_nil))))
      (pss_cons (ps_if (PW.pt (pw_or (pt_not (pt_truthK (K := K) rfl (pe_call G__law_tell hr rfl d__law_tell.m d__law_tell.F.kp d__law_tell.b .nil pass0 (pa_cons (pv 7) (pa_cons (pe_lstN (pa_cons (pe_op op_add_str (pe_op op_add_str (pe_op op_add_str pe_str (pv 6)) pe_str) (pv 5)) pa_nil)) pa_nil))) (fun _ => rfl))) (pw_or1 (pt_cmpR (op_notInDK (K := K) rfl hv) (pe_call G__law_width hr rfl d__law_width.m d__law_width.F.kp d__law_width.b .nil pass0 (pa_cons (pv 7) pa_nil)) (pe_lstN (pa_cons (pv 8) (pa_cons (pe_op op_sub (pv 8) pe_int) pa_nil))) (by with_unfolding_all rfl)))))
      (pss_one (ps_ret pe_bl))
      pss_nil)
      (pss_one (ps_if (pt_not (pt_truthK (K := K) rfl (pe_call G__law_tell hr rfl d__law_tell.m d__law_tell.F.kp d__law_tell.b .nil pass0 (pa_cons (pv 7) (pa_cons (pe_lstN (pa_cons (pe_op op_add_str (pe_op op_add_str (pe_op op_add_str (pe_op op_add_str pe_str (pv 5)) pe_str) (pv 6)) pe_str) pa_nil)) pa_nil))) (fun _ => rfl)))
      (pss_one (ps_ret pe_bl))
      pss_nil))))
      pss_nil)
      (pss_cons (ps_set (i := 9) sc_law.nd rfl (Or.inr rfl) (pe_ix (ix_listK (K := K) rfl) (pv 2) (pe_op op_mod (pe_call G__law_cell hr rfl d__law_cell.m d__law_cell.F.kp d__law_cell.b .nil pass0 (pa_cons (pv 0) (pa_cons pe_int pa_nil))) (pv 1)) (fun _ _ => rfl)))
      (pss_cons (ps_setLC (i := 10) ["_law_name", "_law_gone"] [none, some 9] sc_law.nd rfl rfl (by kernel_rfl) rfl (pi_listK (K := K) rfl (pe_slice (sl_listN (K := K) rfl) (pv 2) po_none (po_some (pv 1)))) (fun _ _ _ _ _ => (pg_name (i := 0) (show (["_law_name", "_law_gone"] : List Str).Nodup by decide +kernel) rfl (Or.inl rfl))) (fun _ _ _ _ _ => (pts_one (pt_cmpR op_ne (pv 0) (pv 1) (nomark _)))) (fun _ _ _ _ _ => (pv 0)) (by rfl))
      (pss_cons (ps_if (pt_not (pt_truthK (K := K) rfl (pe_call G__law_tell hr rfl d__law_tell.m d__law_tell.F.kp d__law_tell.b .nil pass0 (pa_cons (pv 7) (pa_cons (pe_lstN (pa_cons (pe_op op_add_str pe_str (pv 9)) pa_nil)) pa_nil))) (fun _ => rfl)))
      (pss_one (ps_ret pe_bl))
      pss_nil)
      (pss_cons (ps_set (i := 11) sc_law.nd rfl (Or.inl rfl) (pe_call G__law_width hr rfl d__law_width.m d__law_width.F.kp d__law_width.b .nil pass0 (pa_cons (pv 7) pa_nil)))
      (pss_cons (ps_if (pt_cmpR (op_notInDK (K := K) rfl hv) (pv 11) (pe_lstN (pa_cons (pv 8) (pa_cons (pe_op op_sub (pv 8) pe_int) pa_nil))) (by with_unfolding_all rfl))
      (pss_one (ps_ret pe_bl))
      pss_nil)
      (pss_cons (ps_set (i := 12) sc_law.nd rfl (Or.inl rfl) (pe_op op_catN (pe_lstN (pa_cons (pe_op op_add_str (pe_op op_add_str pe_str (pv 3)) pe_str) pa_nil)) (pe_lc ["_law_name", "_law_fresh"] [none, some 3]  (by kernel_rfl) rfl (pi_listK (K := K) rfl (pv 10)) (fun _ _ _ _ _ => (pg_name (i := 0) (show (["_law_name", "_law_fresh"] : List Str).Nodup by decide +kernel) rfl (Or.inl rfl))) (fun _ _ _ _ _ => pts_nil) (fun _ _ _ _ _ => (pe_op op_add_str (pe_op op_add_str (pe_op op_add_str (pe_op op_add_str pe_str (pv 1)) pe_str) (pv 0)) pe_str)))))
      (pss_cons (ps_if (PW.pt (pw_or (pt_not (pt_truthK (K := K) rfl (pe_call G__law_tell hr rfl d__law_tell.m d__law_tell.F.kp d__law_tell.b .nil pass0 (pa_cons (pv 7) (pa_cons (pv 12) pa_nil))) (fun _ => rfl))) (pw_or1 (pt_cmpR op_ne (pe_call G__law_width hr rfl d__law_width.m d__law_width.F.kp d__law_width.b .nil pass0 (pa_cons (pv 7) pa_nil)) (pe_op op_add (pv 11) pe_int) (nomark _)))))
      (pss_one (ps_ret pe_bl))
      pss_nil)
      (pss_cons (ps_set (i := 12) sc_law.nd rfl (Or.inl rfl) (pe_lstN (pa_cons (pe_op op_add_str pe_str (pv 3)) (pa_cons (pe_op op_add_str (pe_op op_add_str pe_str (pv 9)) pe_str) pa_nil))))
      (pss_cons (ps_set (i := 12) sc_law.nd rfl (Or.inl rfl) (pe_op op_catN (pv 12) (pe_lc ["_law_a", "_law_b", "_law_gone"] [none, none, some 9]  (by kernel_rfl) rfl (pi_listK (K := K) rfl (pv 4)) (fun _ _ _ _ _ => (pg_tupK (K := K) (n := 2) rfl rfl (pgs_cons (pg_name (i := 0) (show (["_law_a", "_law_b", "_law_gone"] : List Str).Nodup by decide +kernel) rfl (Or.inl rfl)) (pgs_cons (pg_name (i := 1) (show (["_law_a", "_law_b", "_law_gone"] : List Str).Nodup by decide +kernel) rfl (Or.inl rfl)) pgs_nil)))) (fun _ _ _ _ _ => (pts_one (pt_cmpR (op_inSK (K := K) rfl) (pv 2) (pe_tupN (pa_cons (pv 0) (pa_cons (pv 1) pa_nil))) (by with_unfolding_all rfl)))) (fun _ _ _ _ _ => (pe_op op_add_str (pe_op op_add_str (pe_op op_add_str (pe_op op_add_str pe_str (pv 1)) pe_str) (pv 0)) pe_str)))))
      (pss_one (ps_ret (pe_and (pe_call G__law_tell hr rfl d__law_tell.m d__law_tell.F.kp d__law_tell.b .nil pass0 (pa_cons (pv 7) (pa_cons (pv 12) pa_nil))) (pe_one (pe_cmpR op_eq (pe_call G__law_width hr rfl d__law_width.m d__law_width.F.kp d__law_width.b .nil pass0 (pa_cons (pv 7) pa_nil)) (pv 8) (nomark _)))))))))))))))))))))))))), ?_⟩
  have hA := hS.seq
  have cell : ∀ {H' : Hp}, Same H H' → SqL K H' a (ns.map V.int) := fun s => s.seq hA
  refine ⟨_, rfl, a, ns, 0, rfl, hA, h63, by decide, by decide, _, _, rfl, rfl, (show (0 : Int) < _ by decide), _, _, rfl, rfl, ?_⟩
  refine ⟨fun σ' H' => (∃ n : Nat, 0 < n ∧ n ≤ 8 ∧ σ' = [some (.ref a), some (.int (n : Int)), none, none, none, none, none, none, none, none, none, none, none]) ∧ H = H', ?_, ?_⟩
  · have r0 := Int.emod_nonneg (cellF ns 0) (show (6 : Int) ≠ 0 by decide)
    have r1 := Int.emod_lt_of_pos (cellF ns 0) (show (0 : Int) < 6 by decide)
    have r2 := Int.emod_nonneg (cellF ns 0 / 54) (show (2 : Int) ≠ 0 by decide)
    have r3 := Int.emod_lt_of_pos (cellF ns 0 / 54) (show (0 : Int) < 2 by decide)
    refine ⟨_, rfl, a, ns, 0, rfl, hA, h63, by decide, by decide, _, _, rfl, rfl, ⟨by decide, by decide⟩, _, _, rfl, rfl, (show (0 : Int) < _ by decide), rfl, _, rfl, ite2 (fun _ => ?_) (fun _ => ⟨⟨(1 + cellF ns 0 % 6).toNat, by omega, by omega, ?_⟩, rfl⟩)⟩
    · refine ⟨_, rfl, a, ns, 0, rfl, hA, h63, by decide, by decide, _, _, rfl, rfl, ⟨by decide, by decide⟩, _, _, rfl, rfl, (show (0 : Int) < _ by decide), _, _, rfl, rfl, ⟨⟨(7 + cellF ns 0 / 54 % 2).toNat, by omega, by omega, ?_⟩, rfl⟩⟩
      rw [Int.toNat_of_nonneg (by omega)]
      rfl
    · rw [Int.toNat_of_nonneg (by omega)]
      rfl
  rintro σ' H' ⟨⟨n, n0, n8, rfl⟩, eH⟩
  subst eH
  refine ⟨_, rfl, _, rfl, _, _, rfl, rfl, a, ns, 4, n + 1, rfl, hA, h63, by decide, by decide, by omega, fun pn nms H1 s1 hN Nm ln => ?_⟩
  obtain ⟨fr, hfr⟩ : ∃ fr, nms[n]? = some fr := ⟨nms[n]'(by omega), List.getElem?_eq_getElem _⟩
  refine ⟨_, rfl, _, rfl, pn, _, _, V.str (sT fr), rfl, rfl, SqL.of hN, atI_nat (by rw [List.getElem?_map, hfr]; rfl), ?_⟩
  refine ⟨_, rfl, _, rfl, a, ns, 1, n, rfl, cell s1, h63, by decide, by decide, by omega, fun rt xs ts H2 s2 f2 hT pT Wb l100 => ⟨rt, rfl, ⟨_, SqL.of hT⟩, ?_⟩⟩
  have lx := Paired.length pT
  have hN2 := s2 _ _ hN
  have getn : ∀ {i : Int}, 0 ≤ i → i < (n : Int) → nms[i.toNat]? = some (nms.getD i.toNat []) := fun {i} h0 h1 => by
    rw [List.getD_eq_getElem?_getD, List.getElem?_eq_getElem (by omega)]; rfl
  have geta : ∀ {i : Int}, 0 ≤ i → i < (n : Int) → atI (nms.map fun l => V.str (sT l)) i = some (.str (sT (nms.getD i.toNat []))) := fun {i} h0 h1 => by
    rw [show i = ((i.toNat : Nat) : Int) by omega]
    exact atI_nat (by rw [List.getElem?_map, Int.toNat_natCast, getn h0 h1]; rfl)
  generalize hps : (ts.map fun t => (nms.getD t.1.toNat [], nms.getD t.2.toNat [])) = ps
  refine lc_list (fun i zs G => zs.length = i ∧ Same H2 G ∧ Paired (NtL G) zs (ps.take i)) ⟨rfl, Same.refl _, .nil⟩ (fun i zs G hi ⟨e1, e2, _⟩ => ⟨SqL.of (e2 _ _ hT), by rw [sizeLine_eq]; omega⟩) (fun i x zs G hx ⟨l9, s9, p9⟩ => ?_) (fun zs G ⟨l9, s9, p9⟩ pt hpt => ?_)
  · obtain ⟨t, ht, tb⟩ := paired_get pT hx
    obtain ⟨b, rfl, hb⟩ := TieL.same s9 tb
    have hN9 := s9 _ _ hN2
    obtain ⟨o1, o2, o3⟩ := Wb.ok t (List.mem_of_getElem? ht)
    obtain ⟨it, et⟩ := List.getElem?_eq_some_iff.mp ht
    refine ⟨b, _, rfl, SqT.of hb, rfl, _, _, rfl, _, _, rfl, rfl, ?_⟩
    unfold tTrue
    dsimp only
    rw [if_pos rfl]
    refine ⟨_, rfl, _, rfl, pn, _, _, _, rfl, rfl, SqL.of hN9, geta o1 (by omega), _, rfl, _, rfl, pn, _, _, _, rfl, rfl, SqL.of hN9, geta (by omega) o3, (by show 2 ≤ 1000; decide), fun pz Hz nz => ?_⟩
    refine ⟨by rw [List.length_append, l9]; rfl, s9.trans nz.same, ?_⟩
    have it' : i < ps.length := by rw [← hps, List.length_map]; exact it
    have e5 : ps[i] = (nms.getD t.1.toNat [], nms.getD t.2.toNat []) := by
      have : ps[i]? = some (nms.getD t.1.toNat [], nms.getD t.2.toNat []) := by rw [← hps, List.getElem?_map, ht]; rfl
      rw [List.getElem?_eq_getElem it'] at this
      exact Option.some.inj this
    rw [List.take_succ_eq_append_getElem it', e5]
    exact paired_snoc (Paired.mapP p9 fun v t q => NtL.same nz.same q) ⟨pz, rfl, nz.here⟩
  have lps : ps.length = ts.length := by rw [← hps, List.length_map]
  rw [lx, ← lps, List.take_length] at p9
  have npt := New.mk0 (o := .lst zs) hpt
  generalize upd G pt (.lst zs) = H3 at npt
  have s23 : Same H2 H3 := s9.trans npt.same
  have s03 : Same H H3 := s1.trans (s2.trans s23)
  have hN3 := s23 _ _ hN2
  have p3 : Paired (NtL H3) zs ps := Paired.mapP p9 fun v t q => NtL.same npt.same q
  clear p9 l9 geta
  have hnm : nms = nms.take n ++ [fr] := by
    have h1 : nms.take (n + 1) = nms := List.take_of_length_le (by omega)
    rw [← h1, List.take_succ_eq_append_getElem (by omega), (List.getElem?_eq_some_iff.mp hfr).2, List.take_append_of_le_length (by rw [List.length_take]; omega), List.take_take]
    simp
  generalize hnn : nms.take n = nm at hnm
  have Pr : Prs nm ps := by rw [← hps]; exact Prs.of Nm hnn.symm (by omega) Wb
  have Nn : Nms nm := Nm.sub (by rw [← hnn]; exact List.take_sublist _ _)
  have lnm : nm.length = n := by rw [← hnn, List.length_take]; omega
  refine fun d dx fd fdx ddx => ⟨d, dx, rfl, upd_same, fun H4 hI => ⟨rfl, ?_⟩⟩
  have hD4 : DkN D_Desk.C H3 H4 d .non [] noR := DkN.start (hI H3 fd fun b o e => by rw [upd_ne (ne_of_none e fd), upd_ne (ne_of_none e fdx)]; exact e)
  clear hI
  have tl := txt_len
  have lnN : ∀ l ∈ nms, l.length ≤ 6 := fun l hl => (Nm.ok l hl).1.2
  have subn : ∀ l ∈ nm, l ∈ nms := fun l hl => by rw [hnm]; exact List.mem_append_left _ hl
  refine ⟨_, rfl, _, rfl, _, rfl, _, rfl, pn, _, rfl, SqL.of (hD4.sm _ _ hN3), fun p5 H5 n5 => ?_⟩
  rw [cut_lo98, ← List.map_take, hnn] at n5
  refine ⟨p5, rfl, ⟨_, SqL.of n5.here⟩, ?_⟩
  refine lc_fmN plF (SqL.of n5.here) (by rw [List.length_map]; omega) (fun x G5 N hx s5 hN5 => ?_) (fun G5 p6 H6 s5 n6 => ?_)
  · obtain ⟨l, hl, rfl⟩ := List.mem_map.mp hx
    have := lnN l (subn l hl)
    refine ⟨_, rfl, _, _, rfl, rfl, by rw [tl.1, sT_len, sizeLine_eq]; omega, _, _, rfl, rfl, by rw [len_app, tl.1, tl.2.2.2.2.2.1, sT_len, sizeLine_eq]; omega, hN5 G5 s5⟩
  rw [fm_pl] at n6
  obtain ⟨hD6, s6⟩ := hD4.list (n5.same.trans s5) n6
  refine ⟨_, d, p6, [], nm, noR, noR, _, rfl, SqL.of upd_same, hD6, place_run nm [] Nn, fun H7 hD7 => ⟨_, rfl, iteF ?_⟩⟩
  have hD7 := hD7.less s6
  clear hD6 s6 n6 n5 s5
  refine ⟨_, rfl, _, rfl, _, rfl, pt, pn, zs, ps, nms, rfl, hD7.sm _ _ npt.here, Paired.mapP p3 fun v t q => NtL.same hD7.sm q, by omega, hD7.sm _ _ hN3, Nm, fun t ht => ⟨subn _ (Pr.inn t ht).1, subn _ (Pr.inn t ht).2.1⟩, fun p8 H8 s8 f8 h8 => ?_⟩
  rw [show (ps.map fun t => rowT (tieO t)) = (ps.map tieO).map rowT by rw [List.map_map]; rfl] at h8
  obtain ⟨hD8, s8'⟩ := hD7.list2 s8 f8 h8
  refine ⟨_, d, p8, nm, nm, noR, RP ps, _, rfl, SqL.of upd_same, hD8, ops_run Pr, fun H9 hD9 => ⟨_, rfl, iteF ?_⟩⟩
  have hD9 := hD9.less s8'
  clear hD8 s8' h8 f8 s8
  refine ⟨_, rfl, H3, d, .non, nm, RP ps, rfl, hD9, fun t0 w0 H10 s10 N0 W0 lo0 hi0 => ?_⟩
  have w00 := lw_0 (m := nm.length) (by omega) W0.lw
  refine ⟨_, rfl, _, _, rfl, rfl, _, rfl, ?_⟩
  rw [decide_eq_false (show ¬ w0 < 0 by omega)]
  refine iteF ⟨_, rfl, _, rfl, _, _, rfl, rfl, _, rfl, ?_⟩
  rw [decide_eq_false (show ¬ w0 ≥ (n : Int) by omega)]
  refine iteF ?_
  have hD10 := hD9.mono s10
  have lzs : zs.length = ps.length := Paired.length p3
  refine ⟨fun σ' H' => (∃ oa ob : Option V, σ' = [some (.ref a), some (.int (n : Int)), some (.ref pn), some (.str (sT fr)), some (.ref pt), oa, ob, some (.ref d), some (.int w0), none, none, none, none]) ∧ DkN D_Desk.C H3 H' d .non nm (RP ps), ?_, ?_⟩
  · refine ⟨_, rfl, pt, _, rfl, .inl (SqL.of (hD10.sm _ _ npt.here)), _, _, rfl, rfl, _, rfl, ite2 (fun c1 => ?_) (fun c1 => iteF ⟨⟨_, _, rfl⟩, hD10⟩)⟩
    have c1' : 0 < zs.length := by have := of_decide_eq_true c1; omega
    refine ⟨_, rfl, a, ns, 7, rfl, cell (s03.trans hD10.sm), h63, by decide, by decide, _, _, rfl, rfl, (show (0 : Int) < _ by decide), rfl, _, rfl, ite2 (fun c2 => ?_) (fun c2 => ⟨⟨_, _, rfl⟩, hD10⟩)⟩
    have i0 := Int.emod_nonneg (cellF ns 8) (show ((zs.length : Nat) : Int) ≠ 0 by omega)
    have i1 := Int.emod_lt_of_pos (cellF ns 8) (show (0 : Int) < ((zs.length : Nat) : Int) by omega)
    obtain ⟨j, ej⟩ : ∃ j : Nat, cellF ns 8 % ((zs.length : Nat) : Int) = (j : Int) := ⟨(cellF ns 8 % ((zs.length : Nat) : Int)).toNat, by omega⟩
    have jl : j < zs.length := by omega
    obtain ⟨t, ht, tb⟩ := paired_get p3 (List.getElem?_eq_getElem jl)
    obtain ⟨b, eb, hb⟩ := NtL.same hD10.sm tb
    have tm := List.mem_of_getElem? ht
    obtain ⟨m1, m2, m12⟩ := Pr.inn t tm
    have l1 := lnN _ (subn _ m1)
    have l2 := lnN _ (subn _ m2)
    refine ⟨_, rfl, _, rfl, a, ns, 8, rfl, cell (s03.trans hD10.sm), h63, by decide, by decide, _, rfl, pt, _, rfl, .inl (SqL.of (hD10.sm _ _ npt.here)), _, _, rfl, rfl, (by omega), pt, _, _, .ref b, rfl, rfl, SqL.of (hD10.sm _ _ npt.here), (by rw [ej]; exact atI_nat (by rw [List.getElem?_eq_getElem jl, eb])), b, _, rfl, SqT.of hb, rfl, _, _, rfl, _, _, rfl, rfl, ?_⟩
    obtain ⟨st, rn⟩ := untie_run Pr tm
    refine ⟨_, rfl, _, rfl, _, _, rfl, rfl, by rw [tl.2.2.1, sT_len, sizeLine_eq]; omega, _, _, rfl, rfl, by rw [len_app, tl.2.2.1, tl.2.2.2.2.1, sT_len, sizeLine_eq]; omega, _, rfl, _, _, rfl, rfl, by rw [len_app, len_app, tl.2.2.1, tl.2.2.2.2.1, sT_len, sT_len, sizeLine_eq]; omega, (by show 1 ≤ 1000; decide), fun p12 H12 n12 => ?_⟩
    rw [untieR_t] at n12
    obtain ⟨hD12, s12⟩ := hD10.list (Same.refl _) n12
    refine ⟨_, d, p12, nm, nm, _, _, [.untie t.2 t.1], rfl, SqL.of upd_same, hD12, .cons st .nil, fun H13 hD13 => ⟨_, rfl, iteF ?_⟩⟩
    have hD13 := hD13.less s12
    clear hD12 s12 n12
    refine ⟨_, rfl, H3, d, .non, nm, _, rfl, hD13, fun t1 w1 H14 s14 N1 W1 lo1 hi1 => ?_⟩
    have hD14 := hD13.mono s14
    have w1a := wn_le N0 N1 W0 W1 (fun _ h => h) (fun u v h => h.1)
    have w1b := wn_apex N0 N1 W0 W1 m1 (fun _ h _ => h) (fun u v h u1 v1 => ⟨h, fun z => z.elim (fun q => v1 q.2) (fun q => u1 q.1)⟩)
    refine ⟨_, rfl, _, rfl, _, _, rfl, rfl, (by show 2 ≤ 1000; decide), fun p15 H15 n15 => ⟨.int w1, [.int w0, .int (w0 - 1)], .int _, .lst (SqL.of n15.here) (.cons (.int _) (.cons (.int _) .nil)), rfl, rfl, _, rfl, ?_⟩⟩
    rw [if_pos rfl, in_two (by omega)]
    have hD15 := hD14.mono n15.same
    refine iteF ⟨_, rfl, _, rfl, _, _, rfl, rfl, by rw [tl.2.1, sT_len, sizeLine_eq]; omega, _, _, rfl, rfl, by rw [len_app, tl.2.1, tl.2.2.2.2.1, sT_len, sizeLine_eq]; omega, _, rfl, _, _, rfl, rfl, by rw [len_app, len_app, tl.2.1, tl.2.2.2.2.1, sT_len, sT_len, sizeLine_eq]; omega, _, _, rfl, rfl, by rw [len_app, len_app, len_app, tl.2.1, tl.2.2.2.2.1, tl.2.2.2.2.2.2, sT_len, sT_len, sizeLine_eq]; omega, (by show 1 ≤ 1000; decide), fun p16 H16 n16 => ?_⟩
    rw [tie4_t] at n16
    obtain ⟨hD16, s16⟩ := hD15.list (Same.refl _) n16
    refine ⟨_, d, p16, nm, nm, _, _, [.tie t.1 t.2 [52]], rfl, SqL.of upd_same, hD16, rn, fun H17 hD17 => ⟨_, rfl, iteF ⟨⟨_, _, rfl⟩, hD17.less s16⟩⟩⟩
  · rintro σ' H11 ⟨⟨oa, ob, rfl⟩, hD11⟩
    have i0 := Int.emod_nonneg (cellF ns 9) (show ((n : Nat) : Int) ≠ 0 by omega)
    have i1 := Int.emod_lt_of_pos (cellF ns 9) (show (0 : Int) < ((n : Nat) : Int) by omega)
    obtain ⟨j, ej⟩ : ∃ j : Nat, cellF ns 9 % ((n : Nat) : Int) = (j : Int) := ⟨(cellF ns 9 % ((n : Nat) : Int)).toNat, by omega⟩
    have jl : j < nm.length := by omega
    obtain ⟨g, hg⟩ : ∃ g, nm[j]? = some g := ⟨nm[j], List.getElem?_eq_getElem jl⟩
    have gm := List.mem_of_getElem? hg
    have gj : nms[j]? = some g := by rw [hnm, List.getElem?_append_left jl]; exact hg
    have lg := lnN _ (subn _ gm)
    have hN11 := hD11.sm _ _ hN3
    refine ⟨_, rfl, _, rfl, a, ns, 9, rfl, cell (s03.trans hD11.sm), h63, by decide, by decide, _, rfl, _, _, rfl, rfl, (by omega), pn, _, _, V.str (sT g), rfl, rfl, SqL.of hN11, (by rw [ej]; exact atI_nat (by rw [List.getElem?_map, gj]; rfl)), ?_⟩
    refine ⟨_, rfl, _, rfl, _, rfl, pn, _, rfl, SqL.of hN11, fun p18 H18 n18 => ?_⟩
    rw [cut_lo98, ← List.map_take, hnn] at n18
    refine ⟨p18, rfl, ⟨_, SqL.of n18.here⟩, ?_⟩
    generalize hnm2 : (nm.filter fun l => decide (l ≠ g)) = nm2
    have m2 : ∀ {u}, u ∈ nm2 ↔ u ∈ nm ∧ u ≠ g := fun {u} => by rw [← hnm2, List.mem_filter, decide_eq_true_iff]
    refine lc_fmN (neF g) (SqL.of n18.here) (by rw [List.length_map]; omega) (fun x G5 N hx s5 hN5 => ?_) (fun G19 pl H19 s19 n19 => ?_)
    · obtain ⟨l, hl, rfl⟩ := List.mem_map.mp hx
      refine ⟨_, rfl, _, rfl, rfl, ?_⟩
      have h5 := hN5 G5 s5
      by_cases c : l = g
      · rw [show neF g (V.str (sT l)) = none from if_pos (by rw [c])] at h5
        rw [decide_eq_true (by rw [c])]
        exact ⟨_, rfl, iteF h5⟩
      · rw [show neF g (V.str (sT l)) = some (.str (sT l)) from if_neg fun z => c (sT_inj z)] at h5
        rw [decide_eq_false (fun z => c (sT_inj (V.str.inj z)))]
        exact ⟨_, rfl, iteT ⟨_, rfl, h5⟩⟩
    rw [fm_ne, hnm2] at n19
    obtain ⟨hD19, s19'⟩ := hD11.list (n18.same.trans s19) n19
    generalize hH20 : upd H3 pl (.lst (nm2.map fun l => V.str (sT l))) = H20 at hD19 s19'
    have hl20 : H20 pl = some (.lst (nm2.map fun l => V.str (sT l))) := by rw [← hH20]; exact upd_same
    clear hH20
    refine ⟨_, rfl, _, rfl, _, _, rfl, rfl, by rw [tl.2.2.2.1, sT_len, sizeLine_eq]; omega, (by show 1 ≤ 1000; decide), fun p21 H21 n21 => ?_⟩
    rw [dropR_t] at n21
    obtain ⟨hD21, s21⟩ := hD19.list (Same.refl _) n21
    have st : NStep nm (RP ps) (.drop g) nm2 (RD ps g) := by rw [← hnm2]; exact .drop gm
    refine ⟨_, d, p21, nm, nm2, _, _, [.drop g], rfl, SqL.of upd_same, hD21, .cons st .nil, fun H22 hD22 => ⟨_, rfl, iteF ?_⟩⟩
    have hD22 := hD22.less s21
    clear hD21 s21 n21
    refine ⟨_, rfl, H20, d, .non, nm2, _, rfl, hD22, fun t2 w2 H23 s23' N2 W2 lo2 hi2 => ?_⟩
    have hD23 := hD22.mono s23'
    have w2a := wn_le N0 N2 W0 W2 (fun _ h => (m2.mp h).1) (fun u v h => h.1)
    have w2b := wn_apex N0 N2 W0 W2 gm (fun u h ne => m2.mpr ⟨h, ne⟩) (fun u v h u1 v1 => ⟨h, u1, v1⟩)
    refine ⟨_, rfl, _, rfl, _, rfl, _, _, rfl, rfl, (by show 2 ≤ 1000; decide), fun p24 H24 n24 => ⟨.int w2, [.int w0, .int (w0 - 1)], .int _, .lst (SqL.of n24.here) (.cons (.int _) (.cons (.int _) .nil)), rfl, rfl, _, rfl, ?_⟩⟩
    rw [if_pos rfl, in_two (by omega)]
    have hD24 := hD23.mono n24.same
    refine iteF ?_
    have lf := lnN fr (by rw [hnm]; exact List.mem_append_right _ List.mem_cons_self)
    have nf : fr ∉ nm := (Nms.init (by rw [← hnm]; exact Nm)).2.1
    refine ⟨_, rfl, _, _, rfl, rfl, by rw [tl.1, sT_len, sizeLine_eq]; omega, _, _, rfl, rfl, by rw [len_app, tl.1, tl.2.2.2.2.2.1, sT_len, sizeLine_eq]; omega, (by show 1 ≤ 1000; decide), fun p25 H25 n25 => ?_⟩
    rw [placeR_t] at n25
    have hl25 := n25.same _ _ (hD24.sm _ _ hl20)
    refine ⟨_, rfl, pl, rfl, ⟨_, SqL.of hl25⟩, ?_⟩
    have ln2 : nm2.length ≤ 8 := by rw [← hnm2]; exact Nat.le_trans (List.length_filter_le _ _) (by omega)
    refine lc_fmN (tfF fr) (SqL.of hl25) (by rw [List.length_map]; omega) (fun x G5 N hx s5 hN5 => ?_) (fun G26 p26 H26 s26 n26 => ?_)
    · obtain ⟨l, hl, rfl⟩ := List.mem_map.mp hx
      have := lnN l (subn l (m2.mp hl).1)
      refine ⟨_, rfl, _, _, rfl, rfl, by rw [tl.2.1, sT_len, sizeLine_eq]; omega, _, _, rfl, rfl, by rw [len_app, tl.2.1, tl.2.2.2.2.1, sT_len, sizeLine_eq]; omega, _, rfl, _, _, rfl, rfl, by rw [len_app, len_app, tl.2.1, tl.2.2.2.2.1, sT_len, sT_len, sizeLine_eq]; omega, _, _, rfl, rfl, by rw [len_app, len_app, len_app, tl.2.1, tl.2.2.2.2.1, tl.2.2.2.2.2.1, sT_len, sT_len, sizeLine_eq]; omega, hN5 G5 s5⟩
    rw [fm_tf] at n26
    refine ⟨p25, p26, _, _, rfl, rfl, n26.same _ _ (s26 _ _ n25.here), n26.here, by simp; omega, fun p27 H27 n27 => ?_⟩
    obtain ⟨hD27, s27⟩ := hD24.list (n25.same.trans (s26.trans n26.same)) n27
    have N2f : Nms (nm2 ++ [fr]) := by
      have : Nms (nm ++ [fr]) := by rw [← hnm]; exact Nm
      exact this.sub (by rw [← hnm2]; exact List.filter_sublist.append (List.Sublist.refl _))
    have R2n : ∀ u v, RD ps g u v → u ∈ nm2 ∧ v ∈ nm2 := fun u v h => by
      have : u ∈ nm ∧ v ∈ nm := by
        rcases h.1 with q | q
        · exact ⟨(Pr.inn _ q).1, (Pr.inn _ q).2.1⟩
        · exact ⟨(Pr.inn _ q).2.1, (Pr.inn _ q).1⟩
      exact ⟨m2.mpr ⟨this.1, h.2.1⟩, m2.mpr ⟨this.2, h.2.2⟩⟩
    refine ⟨_, rfl, _, rfl, _, d, p27, nm2, nm2 ++ [fr], _, _, DOp.place fr [49] :: nm2.map fun l => DOp.tie fr l [49], rfl, SqL.of upd_same, hD27, all_run N2f R2n, fun H28 hD28 => ⟨_, rfl, iteF ?_⟩⟩
    have hD28 := hD28.less s27
    clear hD27 s27
    refine ⟨_, rfl, H20, d, .non, nm2 ++ [fr], _, rfl, hD28, fun t3 w3 H29 s29 N3 W3 lo3 hi3 => ?_⟩
    have w3e := wn_all N2 N3 W2 W3 (fun u v => Iff.rfl)
    refine ⟨_, rfl, _, _, rfl, rfl, rfl, _, rfl, ?_⟩
    rw [decide_eq_true (by rw [w3e])]
    have hD29 := hD28.mono s29
    refine iteF ?_
    refine ⟨_, rfl, _, _, rfl, rfl, by rw [tl.2.2.2.1, sT_len, sizeLine_eq]; omega, _, rfl, _, _, rfl, rfl, by rw [tl.1, sT_len, sizeLine_eq]; omega, _, _, rfl, rfl, by rw [len_app, tl.1, tl.2.2.2.2.2.1, sT_len, sizeLine_eq]; omega, (by show 2 ≤ 1000; decide), fun p30 H30 n30 => ?_⟩
    rw [placeR_t, dropR_t] at n30
    have hD30 := hD29.mono n30.same
    have ht30 := hD30.sm _ _ (s19' _ _ npt.here)
    have p30' : Paired (NtL H30) zs ps := Paired.mapP p3 fun v t q => NtL.same (s19'.trans hD30.sm) q
    refine ⟨_, rfl, _, rfl, pt, rfl, ⟨_, SqL.of ht30⟩, ?_⟩
    refine lc_list (fun i ys G => Same H30 G ∧ ys = (((ps.take i).filter fun t => decide (g = t.1) || decide (g = t.2)).map fun t => rowT (tieO t)).map V.str) ⟨Same.refl _, rfl⟩ (fun i ys G hi ⟨e2, e1⟩ => ⟨SqL.of (e2 _ _ ht30), by
      have := List.length_filter_le (fun t => decide (g = t.1) || decide (g = t.2)) (ps.take i)
      rw [e1, List.length_map, List.length_map, sizeLine_eq]
      rw [List.length_take] at this
      omega⟩) (fun i x ys G hx ⟨s9, e9⟩ => ?_) (fun ys G ⟨s9, e9⟩ p31 hp31 => ?_)
    · obtain ⟨t, ht, tb⟩ := paired_get p30' hx
      obtain ⟨b, rfl, hb⟩ := NtL.same s9 tb
      obtain ⟨it, et⟩ := List.getElem?_eq_some_iff.mp ht
      obtain ⟨m1, m2', m12⟩ := Pr.inn t (List.mem_of_getElem? ht)
      have l1 := lnN _ (subn _ m1)
      have l2 := lnN _ (subn _ m2')
      refine ⟨b, _, rfl, SqT.of hb, rfl, _, _, rfl, _, _, rfl, rfl, ?_⟩
      refine ⟨_, rfl, _, rfl, _, rfl, (by show 2 ≤ 1000; decide), fun pz Hz nz => ⟨pz, _, rfl, .inr (SqT.of nz.here), rfl, rfl, ?_⟩⟩
      rw [if_neg (by decide), inV_two]
      refine ⟨_, rfl, ?_⟩
      rw [List.take_succ_eq_append_getElem it, et, List.filter_append]
      cases cc : (decide (g = t.1) || decide (g = t.2)) with
      | false =>
        refine iteF ⟨s9.trans nz.same, ?_⟩
        rw [List.filter_cons_of_neg (by rw [cc]; decide), List.filter_nil, List.append_nil]
        exact e9
      | true =>
        refine iteT ⟨_, rfl, _, _, rfl, rfl, by rw [tl.2.1, sT_len, sizeLine_eq]; omega, _, _, rfl, rfl, by rw [len_app, tl.2.1, tl.2.2.2.2.1, sT_len, sizeLine_eq]; omega, _, rfl, _, _, rfl, rfl, by rw [len_app, len_app, tl.2.1, tl.2.2.2.2.1, sT_len, sT_len, sizeLine_eq]; omega, _, _, rfl, rfl, by rw [len_app, len_app, len_app, tl.2.1, tl.2.2.2.2.1, tl.2.2.2.2.2.1, sT_len, sT_len, sizeLine_eq]; omega, s9.trans nz.same, ?_⟩
        rw [List.filter_cons_of_pos (by rw [cc]), List.filter_nil, List.map_append, List.map_append, ← e9, tieR_t]
        rfl
    have n31 := New.mk0 (o := .lst ys) hp31
    generalize upd G p31 (.lst ys) = H31 at n31
    rw [lzs, List.take_length] at e9
    have lf2 := List.length_filter_le (fun t => decide (g = t.1) || decide (g = t.2)) ps
    refine ⟨p30, p31, _, _, rfl, rfl, n31.same _ _ (s9 _ _ n30.here), n31.here, by rw [e9, List.length_map, List.length_map]; show 2 + _ ≤ _; omega, fun p32 H32 n32 => ?_⟩
    rw [e9, show ((ps.filter fun t => decide (g = t.1) || decide (g = t.2)).map fun t => rowT (tieO t)) = ((ps.filter fun t => decide (g = t.1) || decide (g = t.2)).map tieO).map rowT by rw [List.map_map]; rfl] at n32
    obtain ⟨hD32, s32⟩ := hD30.list (s9.trans n31.same) n32
    have run := back_run Pr Nn (by omega) gm nf
    rw [hnm2] at run
    refine ⟨_, rfl, _, rfl, _, d, p32, nm2 ++ [fr], nm2 ++ [g], _, _, [.drop fr, .place g [49]] ++ (ps.filter fun t => decide (g = t.1) || decide (g = t.2)).map tieO, rfl, SqL.of upd_same, hD32, run, fun H33 hD33 => ?_⟩
    refine ⟨_, rfl, iteT ⟨_, rfl, _, d, .non, nm2 ++ [g], _, rfl, hD33, fun t5 w5 H34 s34 N5 W5 lo5 hi5 => ?_⟩⟩
    have sub1 : ∀ u ∈ nm2 ++ [g], u ∈ nm := fun u hu => by
      rcases List.mem_append.mp hu with h | h
      · exact (m2.mp h).1
      · rw [List.mem_singleton.mp h]; exact gm
    have sub2 : ∀ u ∈ nm, u ∈ nm2 ++ [g] := fun u hu => by
      by_cases c : u = g
      · exact List.mem_append_right _ (by rw [c]; exact List.mem_cons_self)
      · exact List.mem_append_left _ (m2.mpr ⟨hu, c⟩)
    have w5a := wn_le N0 N5 W0 W5 sub1 (fun u v h => h)
    have w5b := wn_le N5 N0 W5 W0 sub2 (fun u v h => h)
    refine ⟨_, rfl, rfl, ?_⟩
    rw [decide_eq_true (show V.int w5 = V.int w0 by rw [show w5 = w0 by omega])]
    exact q H34
end

end K


open PySem PySem.W PyProof.Rows
set_option maxRecDepth 100000 in
set_option maxHeartbeats 0 in
theorem PySem.Challenge.cw_bagwood_k98_whole_less_is_no_wider_holds : PySem.Challenge.rw_bagwood_k98_whole_less_is_no_wider.Holds := by
  refine PySem.Challenge.hd98 ?_
  k_fill
  refine L2.walk_ofK (l := PySem.Challenge.rw_bagwood_k98_whole_less_is_no_wider) (n := 63) (k := 9) (x := "_law_script") (CX := L2.CX0) (sp := Lw.spLaw) rfl (by decide) rfl ⟨rfl, by decide, by decide⟩ (fun w h Y => PySem.W.kIn_of Y) ?F ?S ?C
  case F =>
    intro w mg fa h KX G hmg
    have B : L2.Bl mg := by
      refine' L2.bl_mk KX G ?z1 ?z2 ?z3 ?z4 ?z5 ?z6 ?z7 ?z8 ?z9 ?z10 ?z11 ?z12 ?z13 ?z14 ?z15 ?z16 ?z17
      all_goals k_is
    have d_words_of : Nonempty (L2.Dn (L2.KOf KX) mg "words_of" K.s_words_of ["row"]) := by
      dsimp only [L2.KOf]
      refine' L2.dn_mk1 KX G ?a ?l ?c ?k rfl (fun _ _ _ _ _ _ _ => rfl)
      (case a => k_is); (case l => k_is); (case c => k_is); (case k => k_is)
    obtain ⟨d_words_of⟩ := d_words_of
    have d_is_whole : Nonempty (L2.Dn (L2.KOf KX) mg "is_whole" K.s_is_whole ["thing"]) := by
      dsimp only [L2.KOf]
      refine' L2.dn_mk1 KX G ?a ?l ?c ?k rfl (fun _ _ _ _ _ _ _ => rfl)
      (case a => k_is); (case l => k_is); (case c => k_is); (case k => k_is)
    obtain ⟨d_is_whole⟩ := d_is_whole
    have d_is_below : Nonempty (L2.Dn (L2.KOf KX) mg "is_below" K.s_is_below ["n", "thing"]) := by
      dsimp only [L2.KOf]
      refine' L2.dn_mk2 KX G ?a ?l ?c ?k rfl (fun _ _ _ _ _ _ _ _ => rfl)
      (case a => k_is); (case l => k_is); (case c => k_is); (case k => k_is)
    obtain ⟨d_is_below⟩ := d_is_below
    have d_tie_of : Nonempty (L2.Dn (L2.KOf KX) mg "tie_of" K.s_tie_of ["n", "a", "b"]) := by
      dsimp only [L2.KOf]
      refine' L2.dn_mk3 KX G ?a ?l ?c ?k rfl (fun _ _ _ _ _ _ _ _ _ => rfl)
      (case a => k_is); (case l => k_is); (case c => k_is); (case k => k_is)
    obtain ⟨d_tie_of⟩ := d_tie_of
    have d_is_written : Nonempty (L2.Dn (L2.KOf KX) mg "is_written" K.s_is_written ["text", "signs", "most"]) := by
      dsimp only [L2.KOf]
      refine' L2.dn_mk3 KX G ?a ?l ?c ?k rfl (fun _ _ _ _ _ _ _ _ _ => rfl)
      (case a => k_is); (case l => k_is); (case c => k_is); (case k => k_is)
    obtain ⟨d_is_written⟩ := d_is_written
    have d_is_number : Nonempty (L2.Dn (L2.KOf KX) mg "is_number" K.s_is_number ["text"]) := by
      dsimp only [L2.KOf]
      refine' L2.dn_mk1 KX G ?a ?l ?c ?k rfl (fun _ _ _ _ _ _ _ => rfl)
      (case a => k_is); (case l => k_is); (case c => k_is); (case k => k_is)
    obtain ⟨d_is_number⟩ := d_is_number
    have d_is_name : Nonempty (L2.Dn (L2.KOf KX) mg "is_name" K.s_is_name ["text"]) := by
      dsimp only [L2.KOf]
      refine' L2.dn_mk1 KX G ?a ?l ?c ?k rfl (fun _ _ _ _ _ _ _ => rfl)
      (case a => k_is); (case l => k_is); (case c => k_is); (case k => k_is)
    obtain ⟨d_is_name⟩ := d_is_name
    have d_read_number : Nonempty (L2.Dn (L2.KOf KX) mg "read_number" K.s_read_number ["text"]) := by
      dsimp only [L2.KOf]
      refine' L2.dn_mk1 KX G ?a ?l ?c ?k rfl (fun _ _ _ _ _ _ _ => rfl)
      (case a => k_is); (case l => k_is); (case c => k_is); (case k => k_is)
    obtain ⟨d_read_number⟩ := d_read_number
    have d_moved_up : Nonempty (L2.Dn (L2.KOf KX) mg "moved_up" K.s_moved_up ["place", "gone"]) := by
      dsimp only [L2.KOf]
      refine' L2.dn_mk2 KX G ?a ?l ?c ?k rfl (fun _ _ _ _ _ _ _ _ => rfl)
      (case a => k_is); (case l => k_is); (case c => k_is); (case k => k_is)
    obtain ⟨d_moved_up⟩ := d_moved_up
    have d_mask_sizes : Nonempty (L2.Dn (L2.KOf KX) mg "mask_sizes" K.s_mask_sizes ["n"]) := by
      dsimp only [L2.KOf]
      refine' L2.dn_mk1 KX G ?a ?l ?c ?k rfl (fun _ _ _ _ _ _ _ => rfl)
      (case a => k_is); (case l => k_is); (case c => k_is); (case k => k_is)
    obtain ⟨d_mask_sizes⟩ := d_mask_sizes
    have d_first_bags : Nonempty (L2.Dn (L2.KOf KX) mg "first_bags" K.s_first_bags ["graph"]) := by
      dsimp only [L2.KOf]
      refine' L2.dn_mk1 KX G ?a ?l ?c ?k rfl (fun _ _ _ _ _ _ _ => rfl)
      (case a => k_is); (case l => k_is); (case c => k_is); (case k => k_is)
    obtain ⟨d_first_bags⟩ := d_first_bags
    have d_taken_out : Nonempty (L2.Dn (L2.KOf KX) mg "taken_out" K.s_taken_out ["bags", "v"]) := by
      dsimp only [L2.KOf]
      refine' L2.dn_mk2 KX G ?a ?l ?c ?k rfl (fun _ _ _ _ _ _ _ _ => rfl)
      (case a => k_is); (case l => k_is); (case c => k_is); (case k => k_is)
    obtain ⟨d_taken_out⟩ := d_taken_out
    have d_all_bags : Nonempty (L2.Dn (L2.KOf KX) mg "all_bags" K.s_all_bags ["graph"]) := by
      dsimp only [L2.KOf]
      refine' L2.dn_mk1 KX G ?a ?l ?c ?k rfl (fun _ _ _ _ _ _ _ => rfl)
      (case a => k_is); (case l => k_is); (case c => k_is); (case k => k_is)
    obtain ⟨d_all_bags⟩ := d_all_bags
    have d_costs_along : Nonempty (L2.Dn (L2.KOf KX) mg "costs_along" K.s_costs_along ["bags"]) := by
      dsimp only [L2.KOf]
      refine' L2.dn_mk1 KX G ?a ?l ?c ?k rfl (fun _ _ _ _ _ _ _ => rfl)
      (case a => k_is); (case l => k_is); (case c => k_is); (case k => k_is)
    obtain ⟨d_costs_along⟩ := d_costs_along
    have d_costs : Nonempty (L2.Dn (L2.KOf KX) mg "costs" K.s_costs ["graph"]) := by
      dsimp only [L2.KOf]
      refine' L2.dn_mk1 KX G ?a ?l ?c ?k rfl (fun _ _ _ _ _ _ _ => rfl)
      (case a => k_is); (case l => k_is); (case c => k_is); (case k => k_is)
    obtain ⟨d_costs⟩ := d_costs
    have d_least_width : Nonempty (L2.Dn (L2.KOf KX) mg "least_width" K.s_least_width ["graph"]) := by
      dsimp only [L2.KOf]
      refine' L2.dn_mk1 KX G ?a ?l ?c ?k rfl (fun _ _ _ _ _ _ _ => rfl)
      (case a => k_is); (case l => k_is); (case c => k_is); (case k => k_is)
    obtain ⟨d_least_width⟩ := d_least_width
    have d__law_cell : Nonempty (L2.Dn (L2.KOf KX) mg "_law_cell" K.s__law_cell ["_law_script", "_law_k"]) := by
      dsimp only [L2.KOf]
      refine' L2.dn_mk2 KX G ?a ?l ?c ?k rfl (fun _ _ _ _ _ _ _ _ => rfl)
      (case a => k_is); (case l => k_is); (case c => k_is); (case k => k_is)
    obtain ⟨d__law_cell⟩ := d__law_cell
    have d__law_mixed : Nonempty (L2.Dn (L2.KOf KX) mg "_law_mixed" K.s__law_mixed ["_law_cell_here", "_law_many"]) := by
      dsimp only [L2.KOf]
      refine' L2.dn_mk2 KX G ?a ?l ?c ?k rfl (fun _ _ _ _ _ _ _ _ => rfl)
      (case a => k_is); (case l => k_is); (case c => k_is); (case k => k_is)
    obtain ⟨d__law_mixed⟩ := d__law_mixed
    have d__law_names : Nonempty (L2.Dn (L2.KOf KX) mg "_law_names" K.s__law_names ["_law_script", "_law_at", "_law_n"]) := by
      dsimp only [L2.KOf]
      refine' L2.dn_mk3 KX G ?a ?l ?c ?k rfl (fun _ _ _ _ _ _ _ _ _ => rfl)
      (case a => k_is); (case l => k_is); (case c => k_is); (case k => k_is)
    obtain ⟨d__law_names⟩ := d__law_names
    have d__law_ties : Nonempty (L2.Dn (L2.KOf KX) mg "_law_ties" K.s__law_ties ["_law_script", "_law_at", "_law_n"]) := by
      dsimp only [L2.KOf]
      refine' L2.dn_mk3 KX G ?a ?l ?c ?k rfl (fun _ _ _ _ _ _ _ _ _ => rfl)
      (case a => k_is); (case l => k_is); (case c => k_is); (case k => k_is)
    obtain ⟨d__law_ties⟩ := d__law_ties
    have d__law_said : Nonempty (L2.Dn (L2.KOf KX) mg "_law_said" K.s__law_said ["_law_desk", "_law_row"]) := by
      dsimp only [L2.KOf]
      refine' L2.dn_mk2 KX G ?a ?l ?c ?k rfl (fun _ _ _ _ _ _ _ _ => rfl)
      (case a => k_is); (case l => k_is); (case c => k_is); (case k => k_is)
    obtain ⟨d__law_said⟩ := d__law_said
    have d__law_width : Nonempty (L2.Dn (L2.KOf KX) mg "_law_width" K.s__law_width ["_law_desk"]) := by
      dsimp only [L2.KOf]
      refine' L2.dn_mk1 KX G ?a ?l ?c ?k rfl (fun _ _ _ _ _ _ _ => rfl)
      (case a => k_is); (case l => k_is); (case c => k_is); (case k => k_is)
    obtain ⟨d__law_width⟩ := d__law_width
    have d__law_tell : Nonempty (L2.Dn (L2.KOf KX) mg "_law_tell" K.s__law_tell ["_law_desk", "_law_rows"]) := by
      dsimp only [L2.KOf]
      refine' L2.dn_mk2 KX G ?a ?l ?c ?k rfl (fun _ _ _ _ _ _ _ _ => rfl)
      (case a => k_is); (case l => k_is); (case c => k_is); (case k => k_is)
    obtain ⟨d__law_tell⟩ := d__law_tell
    have d__law_tie_rows : Nonempty (L2.Dn (L2.KOf KX) mg "_law_tie_rows" K.s__law_tie_rows ["_law_ties_here", "_law_left"]) := by
      dsimp only [L2.KOf]
      refine' L2.dn_mk2 KX G ?a ?l ?c ?k rfl (fun _ _ _ _ _ _ _ _ => rfl)
      (case a => k_is); (case l => k_is); (case c => k_is); (case k => k_is)
    obtain ⟨d__law_tie_rows⟩ := d__law_tie_rows
    have d_law : Nonempty (L2.Dn (L2.KOf KX) mg "law" K.s_law ["_law_script"]) := by
      dsimp only [L2.KOf]
      refine' L2.dn_mk1 KX G ?a ?l ?c ?k rfl (fun _ _ _ _ _ _ _ => rfl)
      (case a => k_is); (case l => k_is); (case c => k_is); (case k => k_is)
    obtain ⟨d_law⟩ := d_law
    have D_Desk : Nonempty (K.ObDesk (L2.KOf KX) mg) := by
      dsimp only [L2.KOf]
      refine' K.obDesk_mk KX G ?a ?pg ?hd ?po ?sa ?mk ?kc ?n_names ?n_weights ?n_costs ?n_kept ?a___init__ ?i___init__ ?l___init__ ?c___init__ ?k___init__ ?a_say ?i_say ?l_say ?c_say ?k_say ?a_change ?i_change ?l_change ?c_change ?k_change ?a_place ?i_place ?l_place ?c_place ?k_place ?a_tie ?i_tie ?l_tie ?c_tie ?k_tie ?a_untie ?i_untie ?l_untie ?c_untie ?k_untie ?a_drop ?i_drop ?l_drop ?c_drop ?k_drop ?a_spot ?i_spot ?l_spot ?c_spot ?k_spot ?a_whole_graph ?i_whole_graph ?l_whole_graph ?c_whole_graph ?k_whole_graph ?a_looked ?i_looked ?l_looked ?c_looked ?k_looked
      (case a => k_is)
      (case pg => k_is)
      (case hd => k_is)
      (case po => k_is)
      (case sa => k_is)
      (case mk => k_is)
      (case kc => k_is)
      (case n_names => k_is)
      (case n_weights => k_is)
      (case n_costs => k_is)
      (case n_kept => k_is)
      (case a___init__ => k_is)
      (case i___init__ => k_is)
      (case l___init__ => k_is)
      (case c___init__ => k_is)
      (case k___init__ => k_is)
      (case a_say => k_is)
      (case i_say => k_is)
      (case l_say => k_is)
      (case c_say => k_is)
      (case k_say => k_is)
      (case a_change => k_is)
      (case i_change => k_is)
      (case l_change => k_is)
      (case c_change => k_is)
      (case k_change => k_is)
      (case a_place => k_is)
      (case i_place => k_is)
      (case l_place => k_is)
      (case c_place => k_is)
      (case k_place => k_is)
      (case a_tie => k_is)
      (case i_tie => k_is)
      (case l_tie => k_is)
      (case c_tie => k_is)
      (case k_tie => k_is)
      (case a_untie => k_is)
      (case i_untie => k_is)
      (case l_untie => k_is)
      (case c_untie => k_is)
      (case k_untie => k_is)
      (case a_drop => k_is)
      (case i_drop => k_is)
      (case l_drop => k_is)
      (case c_drop => k_is)
      (case k_drop => k_is)
      (case a_spot => k_is)
      (case i_spot => k_is)
      (case l_spot => k_is)
      (case c_spot => k_is)
      (case k_spot => k_is)
      (case a_whole_graph => k_is)
      (case i_whole_graph => k_is)
      (case l_whole_graph => k_is)
      (case c_whole_graph => k_is)
      (case k_whole_graph => k_is)
      (case a_looked => k_is)
      (case i_looked => k_is)
      (case l_looked => k_is)
      (case c_looked => k_is)
      (case k_looked => k_is)
    obtain ⟨D_Desk⟩ := D_Desk
    have Wd : Nonempty (L2.Wds w (L2.KOf KX) mg) := by
      dsimp only [L2.KOf]
      refine' L2.wds_mk KX G ?a ?l ?c ?n ?ac ?lc ?aq ?lq
      (case a => k_is); (case l => k_is); (case c => exact ⟨_, _, _, _, _, _, _, _, _, _, _, _, _, _, _, _, _, _, _, _, _, _, _, _, _, _, rfl⟩); (case n => first | rfl | decide | k_is)
      (case ac => k_is); (case lc => k_is); (case aq => k_is); (case lq => k_is)
    obtain ⟨Wd⟩ := Wd
    have Ct : Nonempty (K.Cts mg) := by
      refine' K.cts_mk KX G ?aFIGURES ?aLETTERS ?aMOST_FIGURES ?aMOST_LETTERS ?aMOST_PLACES
      (case aFIGURES => k_is)
      (case aLETTERS => k_is)
      (case aMOST_FIGURES => k_is)
      (case aMOST_LETTERS => k_is)
      (case aMOST_PLACES => k_is)
    obtain ⟨Ct⟩ := Ct
    exact L2.law_at hmg d_law fun base => K.ok_law B D_Desk Wd Ct d_words_of d_is_whole d_is_below d_tie_of d_is_written d_is_number d_is_name d_read_number d_moved_up d_mask_sizes d_first_bags d_taken_out d_all_bags d_costs_along d_costs d_least_width d__law_cell d__law_mixed d__law_names d__law_ties d__law_said d__law_width d__law_tell d__law_tie_rows d_law
  case S => exact fun K H a ns hl hO hS => ⟨a, ns, rfl, Lw.Scr.of hO hS, hl, fun _ => rfl⟩
  case C => exact fun _ _ _ _ z => z

