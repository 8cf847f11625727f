import PyProof.Rows.All
import Wide.All
import OpenK.AllK
import Wide.FinOn
import HandS.ForMost
import HandS.Wide
import HandS.IsInst
import HandS.EndBits
import HandS.Evl
import HandS.Star
import HandS.Style
import HandS.WordsDict
import HandS.SetKeys
import KE.GoesMore
import KE.GoesZip
import KE.GoesEnum
import KE.KUnpackStar
import KE.IntTextLaws
import HandS.Zip
import HandS.Walk
import HandS.Conv
import HandS.RaiseMore
import PyProof.FitsReplace
import HandS.Dict
import HandS.Small
import HandS.ExcIs
import HandS.TryOnly
import HandS.Sort
import HandS.More
import HandS.WordsExc
import HandS.Iter
import KE.KDictSum
import HandS.DictTup
import KE.KSortTupG
import HandS.ExcInit
import KE.KExcIs
import PyProof.Rows.MatchSeqLen
import PyProof.RulesMatch
import PyProof.RulesMatchSeq
import PySem.Challenge.RW_allonge_k38_deeds_written_and_read
set_option Elab.async false
set_option linter.all false
set_option maxRecDepth 100000
set_option maxHeartbeats 4000000
namespace PySem.W.Fast
theorem tw1586675409909661418 : True := trivial
theorem tw6237048688897720142 : True := trivial
theorem tw10349497795284687591 : True := trivial
theorem tw17151660555905908608 : True := trivial
theorem tw11865927459962735919 : True := trivial
theorem tw2338879528780644948 : True := trivial
theorem tw3974128246256872491 : True := trivial
theorem tw12095476414682454466 : True := trivial
theorem tw4611599629272985033 : True := trivial
theorem tw7594403959611659527 : True := trivial
theorem tw1567815833231066141 : True := trivial
theorem tw16579149833051480291 : True := trivial
theorem tw6533382274183624902 : True := trivial
theorem tw5229342818619351127 : True := trivial
theorem tw7296638779383469960 : True := trivial
theorem tw904271623623105475 : True := trivial
theorem tw7478354222978483796 : True := trivial
theorem tw2060891047825549662 : True := trivial
theorem tw17875562729185064107 : True := trivial
theorem tw957980890860692910 : True := trivial
theorem tw7874148955851668312 : True := trivial
theorem tw15075058431955548651 : True := trivial
theorem tw14077257773345339641 : True := trivial
theorem tw10995159892954309233 : True := trivial
theorem tw5182406100299714952 : True := trivial
theorem tw11032752754153264906 : True := trivial
theorem tw2938473268539683654 : True := trivial
theorem tw12047043587323882743 : True := trivial
theorem tw4431499932882395525 : True := trivial
theorem tw4237012555832902901 : True := trivial
theorem tw14954430304605242463 : True := trivial
theorem tw5507537994111673750 : True := trivial
theorem tw8512537701345899236 : True := trivial
theorem tw18128547355674757273 : True := trivial
theorem tw15999810919935583806 : True := trivial
theorem tw16503326814824843272 : True := trivial
theorem tw15855483973030297586 : True := trivial
theorem tw63562727917778301 : True := trivial
theorem tw7209013905314829739 : True := trivial
theorem tw5547457080365293832 : True := trivial
theorem tw14194751416409345263 : True := trivial
theorem tw6213298356231246986 : True := trivial
theorem tw4296856526498523000 : True := trivial
theorem tw16967574505718631037 : True := trivial
theorem tw6678400209806348611 : True := trivial
theorem tw2486290624222307058 : True := trivial
theorem tw6876740205210566807 : True := trivial
theorem tw2320032968950866046 : True := trivial
theorem tw10825034491100066006 : True := trivial
theorem tw5833681860692017992 : True := trivial
theorem tw5962225379512207023 : True := trivial
theorem tw2639792312592605167 : True := trivial
theorem tw841861898850300877 : True := trivial
theorem tw9266090001886299255 : True := trivial
theorem tw1923396325701793390 : True := trivial
theorem tw17367117030219758024 : True := trivial
theorem tw6254627293200522010 : True := trivial
theorem tw3283026450844800478 : True := trivial
theorem tw12991164634935842167 : True := trivial
theorem tw10560683309841194107 : True := trivial
theorem tw8720255751738663266 : True := trivial
theorem tw18389121351804452677 : True := trivial
theorem tw9742037783331698191 : True := trivial
theorem tw7741096565380192032 : True := trivial
theorem tw4736752323069381993 : True := trivial
theorem tw17544306660217268808 : True := trivial
theorem tw17622852380543224667 : True := trivial
theorem tw12109844115251713727 : True := trivial
theorem tw686589234330044790 : True := trivial
theorem tw6839776737271854708 : True := trivial
theorem tw10371907859421594143 : True := trivial
theorem tw6921923024258183565 : True := trivial
theorem tw16867539386555226160 : True := trivial
theorem tw15954833314218780119 : True := trivial
theorem tw10167830289857014247 : True := trivial
theorem tw3227140850490213307 : True := trivial
theorem tw18145122807079503508 : True := trivial
theorem tw17490911970619639077 : True := trivial
theorem tw12396924960387313091 : True := trivial
theorem tw8332096749292695118 : True := trivial
theorem tw5013148701936550383 : True := trivial
theorem tw14035493221078856694 : True := trivial
theorem tw7391419982408974270 : True := trivial
theorem tw516106475179835576 : True := trivial
theorem tw9951753627652579742 : True := trivial
theorem tw15726229038552504339 : True := trivial
theorem tw12551828234619820808 : True := trivial
theorem tw12805513077371737646 : True := trivial
theorem tw14082907836285796857 : True := trivial
theorem tw15549582094948859757 : True := trivial
theorem tw3015004155547402422 : True := trivial
theorem tw16393410257783481956 : True := trivial
theorem tw9251762810606896091 : True := trivial
theorem tw1556961195250723589 : True := trivial
theorem tw4598232841794734702 : True := trivial
theorem tw12757012503930347323 : True := trivial
theorem tw6617975645768230454 : True := trivial
theorem tw17840770547179748845 : True := trivial
theorem tw13371512840149960425 : True := trivial
theorem tw9587929622847731961 : True := trivial
theorem tw2828563578369124878 : True := trivial
theorem tw16701301179906388764 : True := trivial
theorem tw4736814167851931779 : True := trivial
theorem tw2220223345510400060 : True := trivial
theorem tw880668367644678164 : True := trivial
theorem tw88580166020060091 : True := trivial
theorem tw2656950941976134371 : True := trivial
theorem tw10302799794426502419 : True := trivial
theorem tw17939361646879106015 : True := trivial
theorem tw6253214921979953139 : True := trivial
theorem tw9164843303907368246 : True := trivial
theorem tw1420483402773421990 : True := trivial
theorem tw8806948928085044723 : True := trivial
theorem tw6408776045985519022 : True := trivial
theorem tw10906416631160368793 : True := trivial
theorem tw13638634099706580781 : True := trivial
theorem tw15839103946459671550 : True := trivial
theorem tw7897702371633436314 : True := trivial
theorem tw8638567312002729949 : True := trivial
theorem tw4320541910173794238 : True := trivial
theorem tw1110818964223519331 : True := trivial
theorem tw13385781452665945839 : True := trivial
theorem tw8335661742324403064 : True := trivial
theorem tw13420778699203941661 : True := trivial
theorem tw15409382866460863066 : True := trivial
theorem tw9269752327436516625 : True := trivial
theorem tw9957847663051268966 : True := trivial
theorem tw2506469738235845296 : True := trivial
theorem tw7473011008066165834 : True := trivial
theorem tw16532935555703133940 : True := trivial
theorem tw15976656304493740137 : True := trivial
theorem tw12196738111613973656 : True := trivial
theorem tw8561180298011087109 : True := trivial
theorem tw4143399718965696800 : True := trivial
theorem tw14295247566676884444 : True := trivial
theorem tw18083927215850690792 : True := trivial
theorem tw15714072470046370098 : True := trivial
theorem tw7299822861233250747 : True := trivial
theorem tw6186773454104700416 : True := trivial
theorem tw1944315336037164194 : True := trivial
theorem tw15221784001092291369 : True := trivial
theorem tw13677206397574599237 : True := trivial
theorem tw9973159971258503241 : True := trivial
theorem tw6061232729563304018 : True := trivial
theorem tw5340469245630328258 : True := trivial
theorem tw3285051731313514815 : True := trivial
theorem tw6036478991083987649 : True := trivial
theorem tw13470512020002054786 : True := trivial
theorem tw7321946491099170447 : True := trivial
theorem tw9550465055906673144 : True := trivial
theorem tw5366325204294484332 : True := trivial
theorem tw14437958463171728109 : True := trivial
theorem tw10211525199538453869 : True := trivial
theorem tw4076320091134605744 : True := trivial
theorem tw9681020916491311755 : True := trivial
theorem tw12724316047273445372 : True := trivial
theorem tw15700330834664531576 : True := trivial
theorem tw3351944212600339123 : True := trivial
theorem tw9307012430839449888 : True := trivial
theorem tw10479946729565710115 : True := trivial
theorem tw11089407315541650274 : True := trivial
theorem tw9205571734884098718 : True := trivial
theorem tw12024001984412888162 : True := trivial
theorem tw9058355328754859276 : True := trivial
theorem tw10831379755700827332 : True := trivial
theorem tw12909600903489036877 : True := trivial
theorem tw12344489996790328773 : True := trivial
theorem tw7608376424279966861 : True := trivial
theorem tw17025896828503448976 : True := trivial
theorem tw1332662080171218439 : True := trivial
theorem tw6123813362087411342 : True := trivial
theorem tw13832388108212950923 : True := trivial
theorem tw16021712187249910218 : True := trivial
theorem tw295514006212867364 : True := trivial
theorem tw9300614810150159288 : True := trivial
theorem tw2594869580291426697 : True := trivial
theorem tw5028290243283211201 : True := trivial
theorem tw2939202091386075248 : True := trivial
theorem tw18382795553144294502 : True := trivial
theorem tw8585879771899297688 : True := trivial
theorem tw6845461689376494004 : True := trivial
theorem tw8477673011905777553 : True := trivial
theorem tw2619990823818106638 : True := trivial
theorem tw10751878373733476273 : True := trivial
theorem tw12501479784148781559 : True := trivial
theorem tw10544915107317797345 : True := trivial
theorem tw14599296331999843970 : True := trivial
theorem tw8873223259732591068 : True := trivial
theorem tw12427481509178311092 : True := trivial
theorem tw10085922453848668187 : True := trivial
theorem tw5561785840867878843 : True := trivial
theorem tw4724609761689293901 : True := trivial
theorem tw3915147250878898951 : True := trivial
theorem tw13769769692530215900 : True := trivial
theorem tw13462772674374108581 : True := trivial
theorem tw2595458332440893244 : True := trivial
theorem tw8669563298416533165 : True := trivial
theorem tw214265478991850226 : True := trivial
theorem tw9675222203422711318 : True := trivial
theorem tw14998900444795569974 : True := trivial
theorem tw1631287337815852905 : True := trivial
theorem tw13695105211720246463 : True := trivial
theorem tw3945965390343356980 : True := trivial
theorem tw7331798281995732804 : True := trivial
theorem tw8603123899019102903 : True := trivial
theorem tw2877220724313552415 : True := trivial
theorem tw11460672198124600399 : True := trivial
theorem tw13491745791267589417 : True := trivial
theorem tw10037538755557064086 : True := trivial
theorem tw13754833310579339729 : True := trivial
theorem tw5096192819576090901 : True := trivial
theorem tw9079964693218584767 : True := trivial
theorem tw6756195954608643765 : True := trivial
theorem tw8394460273420318061 : True := trivial
theorem tw16735882936713134307 : True := trivial
theorem tw12020950247911003126 : True := trivial
theorem tw7077252787258079208 : True := trivial
theorem tw815047263990436514 : True := trivial
theorem tw8050067042287341206 : True := trivial
theorem tw16666846001144301433 : True := trivial
theorem tw13462678391705365485 : True := trivial
theorem tw15015334592611288950 : True := trivial
theorem tw6509245017378735189 : True := trivial
theorem tw10794341343273685729 : True := trivial
theorem tw2454934048443006193 : True := trivial
theorem tw7698104552825883158 : True := trivial
theorem tw16805517734082839109 : True := trivial
theorem tw6575307914268136980 : True := trivial
theorem tw3276310726424959281 : True := trivial
theorem tw16795173678738098591 : True := trivial
theorem tw14661421246460736695 : True := trivial
theorem tw12778126608203165963 : True := trivial
theorem tw2700108812529968449 : True := trivial
theorem tw2876513584160127823 : True := trivial
theorem tw13857922227243239732 : True := trivial
theorem tw3576212797487464207 : True := trivial
theorem tw108533407156631652 : True := trivial
theorem tw6815400495628972278 : True := trivial
theorem tw3216886584780067084 : True := trivial
theorem tw13428110448737490792 : True := trivial
theorem tw6141773209581550511 : True := trivial
theorem tw16796028429649278555 : True := trivial
theorem tw2735465034020334594 : True := trivial
theorem tw10716779982058182856 : True := trivial
theorem tw6236844373720394951 : True := trivial
theorem tw16677021095007016552 : True := trivial
theorem tw4469354374687284676 : True := trivial
theorem tw17360867797819465538 : True := trivial
theorem tw1220352434957607895 : True := trivial
theorem tw1205791718669212235 : True := trivial
theorem tw6567744648324935997 : True := trivial
theorem tw16963228264834363146 : True := trivial
theorem tw15171336663071408800 : True := trivial
theorem tw10906058625536997679 : True := trivial
theorem tw11527684679000642870 : True := trivial
theorem tw9231157919527619564 : True := trivial
theorem tw1742773747783718144 : True := trivial
theorem tw17217068996943234857 : True := trivial
theorem tw6542339166171450945 : True := trivial
theorem tw3176926853756105575 : True := trivial
theorem tw3861991922454072017 : True := trivial
theorem tw12611636195749502652 : True := trivial
theorem tw14691613874849213947 : True := trivial
theorem tw10815086355750247298 : True := trivial
theorem tw9956920839846559461 : True := trivial
theorem tw1481064585766284061 : True := trivial
theorem tw13575964370776024499 : True := trivial
theorem tw16768371352452701887 : True := trivial
theorem tw9271849442721442862 : True := trivial
theorem tw10769078311680216982 : True := trivial
theorem tw16680861798953337494 : True := trivial
theorem tw5686508843781242972 : True := trivial
theorem tw1289060099836853344 : True := trivial
theorem tw8228231341398754464 : True := trivial
theorem tw18394597325039780150 : True := trivial
theorem tw8302202489440291914 : True := trivial
theorem tw1778217860200405520 : True := trivial
theorem tw16324914954625597675 : True := trivial
theorem tw11178108448814262541 : True := trivial
theorem tw9340493302943844415 : True := trivial
theorem tw16723144882088375735 : True := trivial
theorem tw11986444014024420695 : True := trivial
theorem tw3317230136815784200 : True := trivial
theorem tw6046437213057505639 : True := trivial
theorem tw15230186444788672840 : True := trivial
theorem tw463529018484950860 : True := trivial
theorem tw4235636284340495399 : True := trivial
theorem tw16333371343365943657 : True := trivial
theorem tw12602460399535960574 : True := trivial
theorem tw14806008905245464885 : True := trivial
theorem tw9687967329820256027 : True := trivial
theorem tw9801468777830375042 : True := trivial
theorem tw6575748704761485764 : True := trivial
theorem tw5914756760878545655 : True := trivial
theorem tw11718398135429513389 : True := trivial
theorem tw10233831107224404098 : True := trivial
theorem tw5634578647933126372 : True := trivial
theorem tw16915517208964391594 : True := trivial
theorem tw4771542140914315883 : True := trivial
theorem tw15715225853990760363 : True := trivial
theorem tw9095774132899268166 : True := trivial
theorem tw17780288040477702719 : True := trivial
theorem tw3597323328149689492 : True := trivial
theorem tw542104272306429853 : True := trivial
theorem tw11341894716500158152 : True := trivial
theorem tw9504480535482929711 : True := trivial
theorem tw1507561601372579783 : True := trivial
theorem tw2240499005042515970 : True := trivial
theorem tw5634359793068694196 : True := trivial
theorem tw17603159961491364167 : True := trivial
theorem tw12593969524665338375 : True := trivial
theorem tw13133311369563497096 : True := trivial
theorem tw13586551178666193637 : True := trivial
theorem tw2679903446330153724 : True := trivial
theorem tw13053394594287570372 : True := trivial
theorem tw17123625539976088814 : True := trivial
theorem tw7648008663812444582 : True := trivial
theorem tw5148204426567473519 : True := trivial
theorem tw17216484457291789686 : True := trivial
theorem tw13359422117347588853 : True := trivial
theorem tw2241417549698664839 : True := trivial
theorem tw12459842097943158386 : True := trivial
theorem tw5283498015363160672 : True := trivial
theorem tw3691852043342118135 : True := trivial
theorem tw10221664872561131171 : True := trivial
theorem tw13595897770708255189 : True := trivial
theorem tw3692094284014020376 : True := trivial
theorem tw8486836268526548998 : True := trivial
theorem tw16510717947400892877 : True := trivial
theorem tw1530194742589868478 : True := trivial
theorem tw377924401190679552 : True := trivial
theorem tw3627558744991226111 : True := trivial
theorem tw14559518598783461311 : True := trivial
theorem tw11192524504490128270 : True := trivial
theorem tw15973153968827791703 : True := trivial
theorem tw3313683894928606641 : True := trivial
theorem tw17748426369207692962 : True := trivial
theorem tw5380947823173662868 : True := trivial
theorem tw8672225795069788049 : True := trivial
theorem tw13525078638805421407 : True := trivial
theorem tw8944564641542015018 : True := trivial
theorem tw2029410817830226604 : True := trivial
theorem tw2647544175526745696 : True := trivial
theorem tw15341871747044670787 : True := trivial
theorem tw2500638477079355091 : True := trivial
theorem tw15713944298525968038 : True := trivial
theorem tw9461409793557317906 : True := trivial
theorem tw12045007477832950314 : True := trivial
theorem tw4751224161864273944 : True := trivial
theorem tw3951391198343336749 : True := trivial
theorem tw17892788673906227336 : True := trivial
theorem tw12950338143699853331 : True := trivial
theorem tw5886621829022798458 : True := trivial
theorem tw8901497885443054033 : True := trivial
theorem tw6034843382162008055 : True := trivial
theorem tw14603581634837622786 : True := trivial
theorem tw16646191433196628048 : True := trivial
theorem tw3745433195923053256 : True := trivial
theorem tw17067702476559835290 : True := trivial
theorem tw8889446722030346407 : True := trivial
theorem tw11352745341711811947 : True := trivial
theorem tw9605473524205010121 : True := trivial
theorem tw4435088171567593273 : True := trivial
theorem tw8904631333127388372 : True := trivial
theorem tw17942274373839076382 : True := trivial
theorem tw9916023373378398552 : True := trivial
theorem tw5023470316016159970 : True := trivial
theorem tw8499798054329728203 : True := trivial
theorem tw8420232509598662110 : True := trivial
theorem tw1042298091309346902 : True := trivial
theorem tw10799376824526860337 : True := trivial
theorem tw9531766627670048301 : True := trivial
theorem tw14479438423887814524 : True := trivial
theorem tw9525898466743854841 : True := trivial
theorem tw17835242366906603934 : True := trivial
theorem tw1756983831953573312 : True := trivial
theorem tw7667086234405616726 : True := trivial
theorem tw7694398420600472350 : True := trivial
theorem tw16996964701593338059 : True := trivial
theorem tw7285259758015933711 : True := trivial
theorem tw1830358606915452483 : True := trivial
theorem tw10274188066812072982 : True := trivial
theorem tw9906748568895834270 : True := trivial
theorem tw14262826817784940878 : True := trivial
theorem tw1436226913672544774 : True := trivial
theorem tw11855846722258878697 : True := trivial
theorem tw16585717137911857365 : True := trivial
theorem tw15729234786656033878 : True := trivial
theorem tw8049264134264895331 : True := trivial
theorem tw4769742598761133060 : True := trivial
theorem tw635065830590696107 : True := trivial
theorem tw2898799273351737075 : True := trivial
theorem tw4535202353715909497 : True := trivial
theorem tw14602371310598874265 : True := trivial
theorem tw891728015896245657 : True := trivial
theorem tw11311839740786433480 : True := trivial
theorem tw4469528001592588950 : True := trivial
theorem tw7805710644489276658 : True := trivial
theorem tw18147866477164195290 : True := trivial
theorem tw13745567978240707094 : True := trivial
theorem tw17643407537642782522 : True := trivial
theorem tw15006386270107403220 : True := trivial
theorem tw9000587939403219275 : True := trivial
theorem tw3607423109953395221 : True := trivial
theorem tw4754844320357163669 : True := trivial
theorem tw11140444741797152585 : True := trivial
theorem tw1244349654986905767 : True := trivial
theorem tw1990423077802227847 : True := trivial
theorem tw4886145182639996409 : True := trivial
theorem tw5341221774818407384 : True := trivial
theorem tw1657342274232573190 : True := trivial
theorem tw7788258630341002489 : True := trivial
theorem tw10868502552041830013 : True := trivial
theorem tw3196007758767005329 : True := trivial
theorem tw6399891820076476621 : True := trivial
theorem tw15551086765741744258 : True := trivial
theorem tw2655977041689683339 : True := trivial
theorem tw15120839709205497209 : True := trivial
theorem tw1648186363611839238 : True := trivial
theorem tw6931421323174075279 : True := trivial
theorem tw18266654973790559354 : True := trivial
theorem tw1349615758593568480 : True := trivial
theorem tw11968019691369112499 : True := trivial
theorem tw4356571286724071942 : True := trivial
theorem tw14615307238643495117 : True := trivial
theorem tw123163415496819512 : True := trivial
theorem tw6252093948633741413 : True := trivial
theorem tw2074204487196502864 : True := trivial
theorem tw12392522178355742252 : True := trivial
theorem tw12393544058345236315 : True := trivial
theorem tw5687972102142661339 : True := trivial
theorem tw10748677252223052987 : True := trivial
theorem tw12499152700506418419 : True := trivial
theorem tw7134511700000895955 : True := trivial
theorem tw6296556250245535398 : True := trivial
theorem tw13108565577029091903 : True := trivial
theorem tw4833482871181671020 : True := trivial
theorem tw17735229047064541462 : True := trivial
theorem tw8650359419181508046 : True := trivial
theorem tw7979184527984979773 : True := trivial
theorem tw7686561959614847162 : True := trivial
theorem tw1976606377888300624 : True := trivial
theorem tw16058088871789343665 : True := trivial
theorem tw12452771481055853627 : True := trivial
theorem tw10713157658433987409 : True := trivial
theorem tw13846719137962998006 : True := trivial
theorem tw17184017896794795152 : True := trivial
theorem tw17378566086943469213 : True := trivial
theorem tw11111411634156221087 : True := trivial
theorem tw17909712655449505134 : True := trivial
theorem tw13321942377504979524 : True := trivial
theorem tw692858294009567051 : True := trivial
theorem tw7557821169226524327 : True := trivial
theorem tw10210856826737612491 : True := trivial
theorem tw16172842541529029467 : True := trivial
theorem tw12161226361637433321 : True := trivial
theorem tw13183685339213594133 : True := trivial
theorem tw8161031985814089839 : True := trivial
theorem tw4736551137710501993 : True := trivial
theorem tw1987056932472017947 : True := trivial
theorem tw8300632732059421710 : True := trivial
theorem tw12261038901735368395 : True := trivial
theorem tw12206846099901990607 : True := trivial
theorem tw8063582378959277068 : True := trivial
theorem tw1347850361036271933 : True := trivial
theorem tw11558724885457035174 : True := trivial
theorem tw1166940788273453099 : True := trivial
theorem tw17663274323178716190 : True := trivial
theorem tw418914640868405543 : True := trivial
theorem tw300892001759217655 : True := trivial
theorem tw16290642998343269621 : True := trivial
theorem tw10982539710213731741 : True := trivial
theorem tw8866999334518800842 : True := trivial
theorem tw3899332477172798379 : True := trivial
theorem tw1372143589663232503 : True := trivial
theorem tw10878589357127574960 : True := trivial
theorem tw17435159879558144920 : True := trivial
theorem tw15530654956062779106 : True := trivial
theorem tw1374067593678744798 : True := trivial
theorem tw7479560345922734819 : True := trivial
theorem tw3618262920589560750 : True := trivial
theorem tw16860509321441046429 : True := trivial
theorem tw445998092436193249 : True := trivial
theorem tw328294693567406633 : True := trivial
theorem tw2063546866860976960 : True := trivial
theorem tw15126789234016624967 : True := trivial
theorem tw8182775647683530993 : True := trivial
theorem tw8827104804499878634 : True := trivial
theorem tw14081086480198433776 : True := trivial
theorem tw7135525045049449321 : True := trivial
theorem tw2523237578849360280 : True := trivial
theorem tw8308977783903587226 : True := trivial
theorem tw4307312595736919016 : True := trivial
theorem tw891577707065730958 : True := trivial
theorem tw6585159198389505683 : True := trivial
theorem tw14045484889086931906 : True := trivial
theorem tw4508324769674188734 : True := trivial
theorem tw888398171318117428 : True := trivial
theorem tw10763159011707690583 : True := trivial
theorem tw9095419709415265592 : True := trivial
theorem tw14754468860869780153 : True := trivial
theorem tw16454670559654032536 : True := trivial
theorem tw3530198369972504140 : True := trivial
theorem tw11288031295926819906 : True := trivial
theorem tw4860053720151012597 : True := trivial
theorem tw7800731647997752817 : True := trivial
theorem tw5986925452289766740 : True := trivial
theorem tw17412695050347051250 : True := trivial
theorem tw3664689816950240654 : True := trivial
theorem tw1437180339410875342 : True := trivial
theorem tw14686262651069301885 : True := trivial
theorem tw1000197957570739895 : True := trivial
theorem tw4891095299836491043 : True := trivial
theorem tw1056003134693481141 : True := trivial
theorem tw18344563397634262571 : True := trivial
theorem tw16002545696032853813 : True := trivial
theorem tw472281064756409825 : True := trivial
theorem tw4424450782724540478 : True := trivial
theorem tw4332752431393453151 : True := trivial
theorem tw376485780751384498 : True := trivial
theorem tw15605769418025558151 : True := trivial
theorem tw14911719967311434801 : True := trivial
theorem tw14686112861238311828 : True := trivial
theorem tw15170939023862601328 : True := trivial
theorem tw2137809542729407197 : True := trivial
theorem tw7935380959257554111 : True := trivial
theorem tw3108096474719917690 : True := trivial
theorem tw15671932069767209420 : True := trivial
theorem tw12287526100936335902 : True := trivial
theorem tw11619466720513387402 : True := trivial
theorem tw9310854984337721497 : True := trivial
theorem tw11834422579571371363 : True := trivial
theorem tw11638705993395773333 : True := trivial
theorem tw11204001824773740057 : True := trivial
theorem tw3530588493414100930 : True := trivial
theorem tw12708632100768020112 : True := trivial
theorem tw7840642893623336821 : True := trivial
theorem tw17917380301558748588 : True := trivial
theorem tw3139710270104418043 : True := trivial
theorem tw3563633320560461076 : True := trivial
theorem tw15027606499305797592 : True := trivial
theorem tw8165120370222988293 : True := trivial
theorem tw6189805440486998313 : True := trivial
theorem tw2868353323580009441 : True := trivial
theorem tw14703390357869611491 : True := trivial
theorem tw12053207461608686842 : True := trivial
theorem tw5059199574942033380 : True := trivial
theorem tw10625330303332023110 : True := trivial
theorem tw5423032734169748340 : True := trivial
theorem tw14631612212429314685 : True := trivial
theorem tw17412677309225859171 : True := trivial
theorem tw17466387697191166219 : True := trivial
theorem tw5757836061290132503 : True := trivial
theorem tw12844101092890972529 : True := trivial
theorem tw11131960493747893849 : True := trivial
theorem tw6927629505521635105 : True := trivial
theorem tw12426939814273353008 : True := trivial
theorem tw16390385007585193164 : True := trivial
theorem tw8294195570748034817 : True := trivial
theorem tw4709922061156555712 : True := trivial
theorem tw13398794313593801686 : True := trivial
theorem tw7643037731482111136 : True := trivial
theorem tw16885431132955898706 : True := trivial
theorem tw2176616038273980378 : True := trivial
theorem tw11436416746246559054 : True := trivial
theorem tw11440703683837116893 : True := trivial
theorem tw7387133225831835325 : True := trivial
theorem tw3930906336909304714 : True := trivial
theorem tw2698423254072811546 : True := trivial
theorem tw1972140448130539588 : True := trivial
theorem tw2789524582883275132 : True := trivial
theorem tw10246020929161462673 : True := trivial
theorem tw1347410655733418647 : True := trivial
theorem tw4899363566050470792 : True := trivial
theorem tw13169420097282690759 : True := trivial
theorem tw340738338804929740 : True := trivial
theorem tw9238623090410769144 : True := trivial
theorem tw17089123504846870861 : True := trivial
theorem tw7451040370979638137 : True := trivial
theorem tw1345775946952330709 : True := trivial
theorem tw2854446089080140715 : True := trivial
theorem tw8203297765165731492 : True := trivial
theorem tw15735212590128143483 : True := trivial
theorem tw16215223574799209742 : True := trivial
theorem tw15188823820234058450 : True := trivial
theorem tw11588799270088596297 : True := trivial
theorem tw6466960918157048881 : True := trivial
theorem tw5730830081212010763 : True := trivial
theorem tw15092751069055879347 : True := trivial
theorem tw12057408011357761150 : True := trivial
theorem tw650160877761852627 : True := trivial
theorem tw9128854909590486875 : True := trivial
theorem tw14150993347905178522 : True := trivial
theorem tw7095070432057450653 : True := trivial
theorem tw13974071063981137273 : True := trivial
theorem tw12068316283759503351 : True := trivial
theorem tw16392880973951729483 : True := trivial
theorem tw15079049566339921304 : True := trivial
theorem tw15773228690680314626 : True := trivial
theorem tw13932423623664290909 : True := trivial
theorem tw14467447198440103222 : True := trivial
theorem tw56208473327442275 : True := trivial
theorem tw7284107094423573620 : True := trivial
theorem tw12733253905442517896 : True := trivial
theorem tw5849489814813837877 : True := trivial
theorem tw7441649806490704544 : True := trivial
theorem tw11430806243678157240 : True := trivial
theorem tw13262119513057977834 : True := trivial
theorem tw12766944857068140939 : True := trivial
theorem tw12033904649289931209 : True := trivial
theorem tw15862470097384609392 : True := trivial
theorem tw16617694632390494364 : True := trivial
theorem tw2410233874593711946 : True := trivial
theorem tw15579869995332708015 : True := trivial
theorem tw16512762162095469622 : True := trivial
theorem tw17745408584165546171 : True := trivial
theorem tw213075463512346555 : True := trivial
theorem tw16587104937432030322 : True := trivial
theorem tw2097761068948364689 : True := trivial
theorem tw2808780363116920325 : True := trivial
theorem tw14037214155871563953 : True := trivial
theorem tw10762777237603479557 : True := trivial
theorem tw15441847316162898585 : True := trivial
theorem tw1085204847860543993 : True := trivial
theorem tw18418641792193739476 : True := trivial
theorem tw7309447151864405276 : True := trivial
theorem tw17933579543709194398 : True := trivial
theorem tw16845087766823791541 : True := trivial
theorem tw17952002877085456129 : True := trivial
theorem tw8174183024409321943 : True := trivial
theorem tw14172866442743010236 : True := trivial
theorem tw12712824035000045625 : True := trivial
theorem tw7552545670922245277 : True := trivial
theorem tw11408164146178782234 : True := trivial
theorem tw2727473967069858556 : True := trivial
theorem tw290163747020635754 : True := trivial
theorem tw18039821119071680863 : True := trivial
theorem tw13716371381742778994 : True := trivial
theorem tw10472717423782744242 : True := trivial
theorem tw10399050327781923178 : True := trivial
theorem tw15980470161266735448 : True := trivial
theorem tw8352697786798646781 : True := trivial
theorem tw12202385375045893721 : True := trivial
theorem tw16295298002395045986 : True := trivial
theorem tw2890383148835299752 : True := trivial
theorem tw13354333417377044603 : True := trivial
theorem tw20954000673593994 : True := trivial
theorem tw7936220644795960582 : True := trivial
theorem tw4265047627785049563 : True := trivial
theorem tw8507730884960248544 : True := trivial
theorem tw10909763489104404755 : True := trivial
theorem tw13402335449804877590 : True := trivial
theorem tw10688637766048549929 : True := trivial
theorem tw5460258878275643054 : True := trivial
theorem tw11551584784241117677 : True := trivial
theorem tw9586014364222554208 : True := trivial
theorem tw7797583387429292746 : True := trivial
theorem tw11793180424567799829 : True := trivial
theorem tw13529831120248236490 : True := trivial
theorem tw2072550812971218714 : True := trivial
theorem tw663482094630306118 : True := trivial
theorem tw11987400308017685647 : True := trivial
theorem tw15032114538938324795 : True := trivial
theorem tw3110291957692557415 : True := trivial
theorem tw9687494041497548669 : True := trivial
theorem tw6506624256268815351 : True := trivial
theorem tw9714289884130533670 : True := trivial
theorem tw17852127145270074543 : True := trivial
theorem tw13833728799514843852 : True := trivial
theorem tw1110375982096847091 : True := trivial
theorem tw1010571134186671977 : True := trivial
theorem tw8064192202700604841 : True := trivial
theorem tw282863239694088347 : True := trivial
theorem tw7407258025582235203 : True := trivial
theorem tw6764156848244325877 : True := trivial
theorem tw950088651562584905 : True := trivial
theorem tw6000607065957540964 : True := trivial
theorem tw15168451610658523959 : True := trivial
theorem tw8445662969995128030 : True := trivial
theorem tw4118575553445380894 : True := trivial
theorem tw12222373662098767375 : True := trivial
theorem tw17947094873906593816 : True := trivial
theorem tw5814073168516728447 : True := trivial
theorem tw10473259935920649409 : True := trivial
theorem tw17194399348753047268 : True := trivial
theorem tw3918807133711730060 : True := trivial
theorem tw9494700049817718513 : True := trivial
theorem tw3395296000476801968 : True := trivial
theorem tw3424708655818881196 : True := trivial
theorem tw6743461230040986685 : True := trivial
theorem tw15677885899412400214 : True := trivial
theorem tw10981641159829370150 : True := trivial
theorem tw15556813449799633686 : True := trivial
theorem tw5119210339781776697 : True := trivial
theorem tw13867027093041954274 : True := trivial
theorem tw2878040793158602211 : True := trivial
theorem tw8946610612254246471 : True := trivial
theorem tw2026216397579410100 : True := trivial
theorem tw5271581086523029054 : True := trivial
theorem tw730705266882521196 : True := trivial
theorem tw14881944785706400237 : True := trivial
theorem tw6812805624114122927 : True := trivial
theorem tw814094767579530873 : True := trivial
theorem tw7908905260718774634 : True := trivial
theorem tw12182424815669492300 : True := trivial
theorem tw6663401429037579835 : True := trivial
theorem tw16580335195179430294 : True := trivial
theorem tw2320168878320567796 : True := trivial
theorem tw7415078068041569382 : True := trivial
theorem tw4836808490825843972 : True := trivial
theorem tw6864747739636157873 : True := trivial
theorem tw14627302123257836811 : True := trivial
theorem tw4599153279446212161 : True := trivial
theorem tw3074005436128045036 : True := trivial
theorem tw5300126175577808588 : True := trivial
theorem tw9975656004255389260 : True := trivial
theorem tw11768491273280842249 : True := trivial
theorem tw4552497917859352750 : True := trivial
theorem tw15587702708794023965 : True := trivial
theorem tw17171881105111398741 : True := trivial
theorem tw2579280032214606423 : True := trivial
theorem tw16205575702490183181 : True := trivial
theorem tw13170227825349454011 : True := trivial
theorem tw13737551053887239336 : True := trivial
theorem tw18249444997426135660 : True := trivial
theorem tw7199722851970984416 : True := trivial
theorem tw481127388259352229 : True := trivial
theorem tw13377982893172437870 : True := trivial
theorem tw14309238446102652632 : True := trivial
theorem tw3410783118023298377 : True := trivial
theorem tw8465996805234772152 : True := trivial
theorem tw12293288597110352535 : True := trivial
theorem tw1889164477360335825 : True := trivial
theorem tw9878178638742597412 : True := trivial
theorem tw15536567791069735591 : True := trivial
theorem tw16405716694978608735 : True := trivial
theorem tw17221306533888720277 : True := trivial
theorem tw3506691866050675760 : True := trivial
theorem tw5291622294832853780 : True := trivial
theorem tw18305332579912165488 : True := trivial
theorem tw6877127177119003296 : True := trivial
theorem tw5272564078398859189 : True := trivial
theorem tw9072279564100271638 : True := trivial
theorem tw11650518390164081172 : True := trivial
theorem tw10275779247889399016 : True := trivial
theorem tw555354851097023039 : True := trivial
theorem tw15441744228146126247 : True := trivial
theorem tw8219282142795451800 : True := trivial
theorem tw5404300754741772074 : True := trivial
theorem tw8725875691815611263 : True := trivial
theorem tw6335099087892358745 : True := trivial
theorem tw833894866015895970 : True := trivial
theorem tw7704798561353155499 : True := trivial
theorem tw2923819060671721395 : True := trivial
theorem tw7382209000135611014 : True := trivial
theorem tw11485009621862609259 : True := trivial
theorem tw3716230565378000304 : True := trivial
theorem tw2503667663950543385 : True := trivial
theorem tw14894967310737896565 : True := trivial
theorem tw14234271576173513818 : True := trivial
theorem tw13069423222102440132 : True := trivial
theorem tw3274241587579377402 : True := trivial
theorem tw2606335725500101032 : True := trivial
theorem tw9498801692576797169 : True := trivial
theorem tw1150467802770848170 : True := trivial
theorem tw7972821429946421745 : True := trivial
theorem tw13339581111798010774 : True := trivial
theorem tw18424695679133674272 : True := trivial
theorem tw6258331624845812861 : True := trivial
theorem tw11316420490100374076 : True := trivial
theorem tw11633769121076474247 : True := trivial
theorem tw13794118916928072474 : True := trivial
theorem tw16350440594493371956 : True := trivial
theorem tw3492992412899497873 : True := trivial
theorem tw6445682328646380591 : True := trivial
theorem tw17992766922319850492 : True := trivial
theorem tw13561952586898308758 : True := trivial
theorem tw3866599583217356267 : True := trivial
theorem tw6376171485784830936 : True := trivial
theorem tw3032916391068391189 : True := trivial
theorem tw14552019304014773276 : True := trivial
theorem tw18075117863251931512 : True := trivial
theorem tw1284780063781308160 : True := trivial
theorem tw9681465836096565337 : True := trivial
theorem tw638403219806143881 : True := trivial
theorem tw9143949818283196052 : True := trivial
theorem tw8125069696625302188 : True := trivial
theorem tw3744494721675917930 : True := trivial
theorem tw15581944658468171564 : True := trivial
theorem tw11676078839130397539 : True := trivial
theorem tw648769055033512646 : True := trivial
theorem tw12606586842324485260 : True := trivial
theorem tw17989497246277646554 : True := trivial
theorem tw15436966810190729353 : True := trivial
theorem tw14946755696604459638 : True := trivial
theorem tw1990981284210990747 : True := trivial
theorem tw9288074247287745938 : True := trivial
theorem tw13441199603755317391 : True := trivial
theorem tw719934737020823734 : True := trivial
theorem tw5120442331270397552 : True := trivial
theorem tw6584655674734705488 : True := trivial
theorem tw2222470871087977670 : True := trivial
theorem tw9554931106385373869 : True := trivial
theorem tw12255623352867513890 : True := trivial
theorem tw18055639911054114060 : True := trivial
theorem tw18278487461207638608 : True := trivial
theorem tw15362067228144183050 : True := trivial
theorem tw12672111901326453938 : True := trivial
theorem tw6037033281548515813 : True := trivial
theorem tw1261208370663048145 : True := trivial
theorem tw14898098633789862667 : True := trivial
theorem tw9797126168414661675 : True := trivial
theorem tw15762590178146922251 : True := trivial
theorem tw18191143499833598432 : True := trivial
theorem tw317340571547434953 : True := trivial
theorem tw14255310865612564088 : True := trivial
theorem tw16927106536686988221 : True := trivial
theorem tw9987021757611459992 : True := trivial
theorem tw12749951184659635696 : True := trivial
theorem tw11820839391884002102 : True := trivial
theorem tw3859832734216627424 : True := trivial
theorem tw12053906470651745922 : True := trivial
theorem tw10231635689862068231 : True := trivial
theorem tw4002340543610758046 : True := trivial
theorem tw10738940457456258606 : True := trivial
theorem tw13064689950028529124 : True := trivial
theorem tw13747659454907824727 : True := trivial
theorem tw9514575912138536120 : True := trivial
theorem tw253307857145794486 : True := trivial
theorem tw11761716841368103427 : True := trivial
theorem tw3352281304593351457 : True := trivial
theorem tw18443108528713305348 : True := trivial
theorem tw15486773858075809994 : True := trivial
theorem tw3941771256899393415 : True := trivial
theorem tw13696209931038253591 : True := trivial
theorem tw753292138255647292 : True := trivial
theorem tw3269036323091714994 : True := trivial
theorem tw11308851755769452886 : True := trivial
theorem tw18440724519979890763 : True := trivial
theorem tw14707711277723178088 : True := trivial
theorem tw13933066012620827801 : True := trivial
theorem tw18156822311661862838 : True := trivial
theorem tw4769848336373795589 : True := trivial
theorem tw3881095538615577280 : True := trivial
theorem tw9447293291404637282 : True := trivial
theorem tw7650666231117256830 : True := trivial
theorem tw7451092611556320247 : True := trivial
theorem tw18168221415816217021 : True := trivial
theorem tw5938613161907394227 : True := trivial
theorem tw8935168133607809318 : True := trivial
theorem tw1517155374475976579 : True := trivial
theorem tw5334316339990731549 : True := trivial
theorem tw16962907885683712777 : True := trivial
theorem tw15668232441076327003 : True := trivial
theorem tw14487616671346570977 : True := trivial
theorem tw4581173209765855505 : True := trivial
theorem tw3495181899776299251 : True := trivial
theorem tw906043898917118196 : True := trivial
theorem tw16672919970742404246 : True := trivial
theorem tw1102480474179400373 : True := trivial
theorem tw5151945543782746608 : True := trivial
theorem tw16078873671811139193 : True := trivial
theorem tw12442257516360858269 : True := trivial
theorem tw9270681417493195281 : True := trivial
theorem tw10089751252188527220 : True := trivial
theorem tw17995866453107623112 : True := trivial
theorem tw1234838712060706564 : True := trivial
theorem tw9645690237301799398 : True := trivial
theorem tw3464851138125006284 : True := trivial
theorem tw5379685854426096735 : True := trivial
theorem tw16944574615060651310 : True := trivial
theorem tw2242418829555518465 : True := trivial
theorem tw11529091457845615963 : True := trivial
theorem tw5043403121731380672 : True := trivial
theorem tw7639781344515368804 : True := trivial
theorem tw1128147101828771980 : True := trivial
theorem tw15854727274023292844 : True := trivial
theorem tw4394330292173587604 : True := trivial
theorem tw5771995374186025718 : True := trivial
theorem tw12182387375861617579 : True := trivial
theorem tw17005930536513001609 : True := trivial
theorem tw13505738955180586128 : True := trivial
theorem tw4191551595843113351 : True := trivial
theorem tw4472099431274339286 : True := trivial
theorem tw4877281150686683785 : True := trivial
theorem tw7127924874716092109 : True := trivial
theorem tw4116209006581976152 : True := trivial
theorem tw16900495785758231071 : True := trivial
theorem tw10062966230011066337 : True := trivial
theorem tw1762537839156736226 : True := trivial
theorem tw14824685876613713462 : True := trivial
theorem tw3470261676708982255 : True := trivial
theorem tw3068459841858402767 : True := trivial
theorem tw12320724145469183723 : True := trivial
theorem tw10504356358259004839 : True := trivial
theorem tw8095319789270311278 : True := trivial
theorem tw13192071287059048610 : True := trivial
theorem tw8083203010390251565 : True := trivial
theorem tw15564475446021879832 : True := trivial
theorem tw17435709620422032296 : True := trivial
theorem tw16321371546368737023 : True := trivial
theorem tw4528126208553334817 : True := trivial
theorem tw5989969476413645181 : True := trivial
theorem tw10022631924663651687 : True := trivial
theorem tw15210094636985778634 : True := trivial
theorem tw13558358224665621961 : True := trivial
theorem tw3834289012471019331 : True := trivial
theorem tw8422593215916886553 : True := trivial
theorem tw1623283795624008635 : True := trivial
theorem tw11163012112008685127 : True := trivial
theorem tw16428338170876057917 : True := trivial
theorem tw10784193741685928080 : True := trivial
theorem tw16478254571920085765 : True := trivial
theorem tw7540734449543279342 : True := trivial
theorem tw9930136018822118152 : True := trivial
theorem tw3844894124101450081 : True := trivial
theorem tw14041255678859349624 : True := trivial
theorem tw8151382517462329129 : True := trivial
theorem tw4524931456290169067 : True := trivial
theorem tw2083292424461582275 : True := trivial
theorem tw18436866239520761011 : True := trivial
theorem tw627433746608572236 : True := trivial
theorem tw5505775998118214178 : True := trivial
theorem tw12191152353943389473 : True := trivial
theorem tw6376230772963941255 : True := trivial
theorem tw1655666396418232596 : True := trivial
theorem tw14431889848836632430 : True := trivial
theorem tw3222734254910291402 : True := trivial
theorem tw12425339609550049350 : True := trivial
theorem tw12185046048302333081 : True := trivial
theorem tw10432080796124550861 : True := trivial
theorem tw9738039833180539940 : True := trivial
theorem tw11070728610471293056 : True := trivial
theorem tw1490400072614287500 : True := trivial
theorem tw11835578165449475479 : True := trivial
theorem tw17496052173775397090 : True := trivial
theorem tw2089327389609433069 : True := trivial
theorem tw17986084238031044188 : True := trivial
theorem tw10090149550499732587 : True := trivial
theorem tw8871599207247374942 : True := trivial
theorem tw12574554071162102581 : True := trivial
theorem tw15312760104068873867 : True := trivial
theorem tw10156578781846367321 : True := trivial
theorem tw5329879491017684066 : True := trivial
theorem tw9762195143690982652 : True := trivial
theorem tw17493877667583133400 : True := trivial
theorem tw8710230745629805949 : True := trivial
theorem tw8959620367240936765 : True := trivial
theorem tw8531134085911822153 : True := trivial
theorem tw10714256735649478656 : True := trivial
theorem tw14927028297689501621 : True := trivial
theorem tw12398106571820889780 : True := trivial
theorem tw5305009448834948598 : True := trivial
theorem tw14801154146314876416 : True := trivial
theorem tw15254877033058998337 : True := trivial
theorem tw12973738441303235468 : True := trivial
theorem tw2938692817478999494 : True := trivial
theorem tw819413610585082036 : True := trivial
theorem tw6684404346728484522 : True := trivial
theorem tw3884334560466351696 : True := trivial
theorem tw2994405640886062444 : True := trivial
theorem tw1798826859475615793 : True := trivial
theorem tw16113427583942273951 : True := trivial
theorem tw2874335739992603670 : True := trivial
theorem tw3960059693044432898 : True := trivial
theorem tw16772221367563922680 : True := trivial
theorem tw2540534376474543106 : True := trivial
theorem tw516553206610213096 : True := trivial
theorem tw8356306918979565139 : True := trivial
theorem tw15447993904351440280 : True := trivial
theorem tw16196859512867555331 : True := trivial
theorem tw14203291866661774617 : True := trivial
theorem tw3360559515297509860 : True := trivial
theorem tw925678192170019470 : True := trivial
theorem tw15335339709041602520 : True := trivial
theorem tw430404400810953233 : True := trivial
theorem tw16621927019221052258 : True := trivial
theorem tw1978275524466519684 : True := trivial
theorem tw17068452567457017991 : True := trivial
theorem tw18395820689140424804 : True := trivial
theorem tw4368830447319784017 : True := trivial
theorem tw7832131068814370649 : True := trivial
theorem tw1815913307941308878 : True := trivial
theorem tw11051582091270262353 : True := trivial
theorem tw4599720273686087475 : True := trivial
theorem tw1693591411535245168 : True := trivial
theorem tw2516344344319453354 : True := trivial
theorem tw13998338139770577451 : True := trivial
theorem tw1575837271460935839 : True := trivial
theorem tw12824870361304420629 : True := trivial
theorem tw7191694656142586647 : True := trivial
theorem tw2382566927903583265 : True := trivial
theorem tw5277272964444424063 : True := trivial
theorem tw14495592943093126551 : True := trivial
theorem tw1618204018742855361 : True := trivial
theorem tw17318369030650897481 : True := trivial
theorem tw11287161469753268427 : True := trivial
theorem tw3213225760410066809 : True := trivial
theorem tw8473762744050608460 : True := trivial
theorem tw1118286085969835451 : True := trivial
theorem tw17743720362400331607 : True := trivial
theorem tw6811977235859470541 : True := trivial
theorem tw13056855072105655718 : True := trivial
theorem tw10621316899815083489 : True := trivial
theorem tw17680129456726265813 : True := trivial
theorem tw925174910993114744 : True := trivial
theorem tw8623982264738260614 : True := trivial
theorem tw9396297844505201803 : True := trivial
theorem tw4476261980383632554 : True := trivial
theorem tw743429563082392008 : True := trivial
theorem tw15599076993955036280 : True := trivial
theorem tw12875211417757979792 : True := trivial
theorem tw13573295431641082347 : True := trivial
theorem tw13934768167793833685 : True := trivial
theorem tw2316365659130496064 : True := trivial
theorem tw13858452754467621361 : True := trivial
theorem tw9433149668565368942 : True := trivial
theorem tw11177479189371204149 : True := trivial
theorem tw9577325726514456822 : True := trivial
theorem tw12407858622986164212 : True := trivial
theorem tw4009870670551240695 : True := trivial
theorem tw8940311046778128215 : True := trivial
theorem tw7590606446120809050 : True := trivial
theorem tw18037394565586363178 : True := trivial
theorem tw8613560255060066185 : True := trivial
theorem tw15477716503183812325 : True := trivial
theorem tw7564989112887623993 : True := trivial
theorem tw6349268526036567623 : True := trivial
theorem tw673863855631216125 : True := trivial
theorem tw3880639303316318083 : True := trivial
theorem tw15932890064216615220 : True := trivial
theorem tw3029845049817581237 : True := trivial
theorem tw2412603721177407994 : True := trivial
theorem tw8332627315415558352 : True := trivial
theorem tw2756084699401882698 : True := trivial
theorem tw9237662631700771099 : True := trivial
theorem tw15386100725682239129 : True := trivial
theorem tw16371693469918152431 : True := trivial
theorem tw4783462276007288628 : True := trivial
theorem tw7556711799269933523 : True := trivial
theorem tw4961682772891573928 : True := trivial
theorem tw14706235208734593888 : True := trivial
theorem tw10733190898170745182 : True := trivial
theorem tw14749207192717804078 : True := trivial
theorem tw1176058875184058245 : True := trivial
theorem tw458183317749300087 : True := trivial
theorem tw2910274239834749131 : True := trivial
theorem tw635431040432892344 : True := trivial
theorem tw14682944766888943956 : True := trivial
theorem tw15637404512490218537 : True := trivial
theorem tw9306883885262697055 : True := trivial
theorem tw17224664649722725033 : True := trivial
theorem tw7600391181883341116 : True := trivial
theorem tw14868945032480796749 : True := trivial
theorem tw14283453852336743495 : True := trivial
theorem tw2822717710642862418 : True := trivial
theorem tw4310244125777381397 : True := trivial
theorem tw4580261141631725659 : True := trivial
theorem tw2917840952158970904 : True := trivial
theorem tw13541473424478077334 : True := trivial
theorem tw14387190517011683629 : True := trivial
theorem tw1536827693527301 : True := trivial
theorem tw11123565522490181754 : True := trivial
theorem tw13948843507030969753 : True := trivial
theorem tw15977743087847614820 : True := trivial
theorem tw1111914798901960397 : True := trivial
theorem tw7390913113908448221 : True := trivial
theorem tw10670482568030398362 : True := trivial
theorem tw13198661046771097407 : True := trivial
theorem tw12483228553443966333 : True := trivial
theorem tw11357633721576001149 : True := trivial
theorem tw5357721553102430652 : True := trivial
theorem tw17112288138627808991 : True := trivial
theorem tw11762809911081681320 : True := trivial
theorem tw15993210078478965111 : True := trivial
theorem tw9297906861118369087 : True := trivial
theorem tw10743696809069604760 : True := trivial
theorem tw10614398576141811182 : True := trivial
theorem tw7938166890959873719 : True := trivial
theorem tw10762687416983239093 : True := trivial
theorem tw190607597479859336 : True := trivial
theorem tw4583893308875991179 : True := trivial
theorem tw1485264851125174862 : True := trivial
theorem tw7005002621991698191 : True := trivial
theorem tw17244739520623892130 : True := trivial
theorem tw16543405805311766177 : True := trivial
theorem tw4549804897467082411 : True := trivial
theorem tw10989530421622758235 : True := trivial
theorem tw11057711438492038287 : True := trivial
theorem tw9335280542980783168 : True := trivial
theorem tw17045704469263304943 : True := trivial
theorem tw4336221093856391192 : True := trivial
theorem tw11831721079317765252 : True := trivial
theorem tw14283648661443887184 : True := trivial
theorem tw15862765316635173480 : True := trivial
theorem tw10042578417247995280 : True := trivial
theorem tw15407566700729570380 : True := trivial
theorem tw7019648602906564021 : True := trivial
theorem tw3370250293125161042 : True := trivial
theorem tw1626344257510545811 : True := trivial
theorem tw13355386376099298931 : True := trivial
theorem tw3094594340028021315 : True := trivial
theorem tw4949692610871871216 : True := trivial
theorem tw8072685418135296777 : True := trivial
theorem tw5885497038770166999 : True := trivial
theorem tw587376521781545841 : True := trivial
theorem tw14887476138854204054 : True := trivial
theorem tw14578587299669022602 : True := trivial
theorem tw10722268724588780230 : True := trivial
theorem tw12879771064823473254 : True := trivial
theorem tw13341323029240926981 : True := trivial
theorem tw4226706071857141265 : True := trivial
theorem tw11912586376841495256 : True := trivial
theorem tw18347462137216409555 : True := trivial
theorem tw1298364891858610682 : True := trivial
theorem tw5033727839825875503 : True := trivial
theorem tw5763737078518672059 : True := trivial
theorem tw6724857638278073354 : True := trivial
theorem tw7377454874664816879 : True := trivial
theorem tw5672162869861383851 : True := trivial
theorem tw6647083549769692522 : True := trivial
theorem tw803625923587329266 : True := trivial
theorem tw2621360680502413241 : True := trivial
theorem tw124050663790641890 : True := trivial
theorem tw6175042595976677230 : True := trivial
theorem tw14906397844064241957 : True := trivial
theorem tw3497693790761953286 : True := trivial
theorem tw16179765187460286975 : True := trivial
theorem tw8848768946278630499 : True := trivial
theorem tw3872014397407909404 : True := trivial
theorem tw8509033396737114513 : True := trivial
theorem tw4427053654700508111 : True := trivial
theorem tw10859765791232310963 : True := trivial
theorem tw18206411559754478246 : True := trivial
theorem tw4788587897925747296 : True := trivial
theorem tw12694079309279400031 : True := trivial
theorem tw13904738583486143591 : True := trivial
theorem tw13192095092598883374 : True := trivial
theorem tw9499312383179992059 : True := trivial
theorem tw678907713668815746 : True := trivial
theorem tw57195879376386902 : True := trivial
theorem tw2730965938698438035 : True := trivial
theorem tw15983813601099293481 : True := trivial
theorem tw16131855501343013301 : True := trivial
theorem tw11244518044930208395 : True := trivial
theorem tw9860923634951895519 : True := trivial
theorem tw6928121357143997743 : True := trivial
theorem tw164034120390937451 : True := trivial
theorem tw13181202913815992772 : True := trivial
theorem tw17309819561269927879 : True := trivial
theorem tw15216185338425134099 : True := trivial
theorem tw15243626130403644340 : True := trivial
theorem tw1060986699057412470 : True := trivial
theorem tw6264392412789757976 : True := trivial
theorem tw2316890116091864600 : True := trivial
theorem tw11828947433300519550 : True := trivial
theorem tw1110637171485051685 : True := trivial
theorem tw1379825590537193287 : True := trivial
theorem tw15427485635386699638 : True := trivial
theorem tw15824625552263770737 : True := trivial
theorem tw8129249809819277500 : True := trivial
theorem tw16963086186540977949 : True := trivial
theorem tw17652667241188298502 : True := trivial
theorem tw8994506683137885887 : True := trivial
theorem tw5994289302271925119 : True := trivial
theorem tw6634064822947991349 : True := trivial
theorem tw11614046823698685127 : True := trivial
theorem tw14412784633763264215 : True := trivial
theorem tw16957707601753952332 : True := trivial
theorem tw3354219767123868134 : True := trivial
theorem tw9617266634720931510 : True := trivial
theorem tw1673594788923114491 : True := trivial
theorem tw1283723979447626618 : True := trivial
theorem tw4644003414852160251 : True := trivial
theorem tw17062926899927554400 : True := trivial
theorem tw7486184640709967279 : True := trivial
theorem tw5191523407861893146 : True := trivial
theorem tw5892895771522324721 : True := trivial
theorem tw694581567408480130 : True := trivial
theorem tw17315842644059184878 : True := trivial
theorem tw15221021457292549432 : True := trivial
theorem tw8989161072259331918 : True := trivial
theorem tw5403755313695989776 : True := trivial
theorem tw9338047025129819828 : True := trivial
theorem tw6072199574485338719 : True := trivial
theorem tw5025054773850694684 : True := trivial
theorem tw8043907989230944696 : True := trivial
theorem tw12085078227128462511 : True := trivial
theorem tw2398786477266052209 : True := trivial
theorem tw14917385688061440572 : True := trivial
theorem tw4247615211814837263 : True := trivial
theorem tw10349985248291830688 : True := trivial
theorem tw12848755237618013756 : True := trivial
theorem tw17671810425232893971 : True := trivial
theorem tw12486379162498875707 : True := trivial
theorem tw16492704555408573058 : True := trivial
theorem tw224627450557699997 : True := trivial
theorem tw14183688952731878787 : True := trivial
theorem tw9876738578644488642 : True := trivial
theorem tw16708330146692532472 : True := trivial
theorem tw8119407507321626029 : True := trivial
theorem tw1474198919022891327 : True := trivial
theorem tw17003671454148026858 : True := trivial
theorem tw165699656220734096 : True := trivial
theorem tw3428754314304115087 : True := trivial
theorem tw5379666453264727623 : True := trivial
theorem tw13992181809297387488 : True := trivial
theorem tw9663855386675931489 : True := trivial
theorem tw11025639414864116100 : True := trivial
theorem tw17157124187182786442 : True := trivial
theorem tw7147550562127757096 : True := trivial
theorem tw2599663312863811364 : True := trivial
theorem tw3876850603718026342 : True := trivial
theorem tw6463341067014828648 : True := trivial
theorem tw12823152146079056694 : True := trivial
theorem tw18344494087224582626 : True := trivial
theorem tw7048656261631254209 : True := trivial
theorem tw16520402812239675087 : True := trivial
theorem tw1935277307504456445 : True := trivial
theorem tw4300209650258665941 : True := trivial
theorem tw1949296483634655802 : True := trivial
theorem tw12884327543117232224 : True := trivial
theorem tw17942464968081853957 : True := trivial
theorem tw15168238367013958806 : True := trivial
theorem tw15921738976332666656 : True := trivial
theorem tw3914704011326863553 : True := trivial
theorem tw5607956050057334491 : True := trivial
theorem tw10802122235019215655 : True := trivial
theorem tw3237180577035594019 : True := trivial
theorem tw13965183947723001055 : True := trivial
theorem tw2432238256547182962 : True := trivial
theorem tw10156034829948666366 : True := trivial
theorem tw9797418075352646119 : True := trivial
theorem tw2849796890826070156 : True := trivial
theorem tw13665092726151113474 : True := trivial
theorem tw12504628608803854536 : True := trivial
theorem tw12702604443230975454 : True := trivial
theorem tw8147068532913405978 : True := trivial
theorem tw15515328871762209030 : True := trivial
theorem tw8819442691144100201 : True := trivial
theorem tw18075411275734442829 : True := trivial
theorem tw2409520358384994306 : True := trivial
theorem tw4853183738097998585 : True := trivial
theorem tw16577133055459064846 : True := trivial
theorem tw5990602449677221776 : True := trivial
theorem tw15124143752976462695 : True := trivial
theorem tw14060607693267889392 : True := trivial
theorem tw13893345532217074231 : True := trivial
theorem tw3312581874022435462 : True := trivial
theorem tw2460783337138417011 : True := trivial
theorem tw18053692365916096736 : True := trivial
theorem tw9042028455852728581 : True := trivial
theorem tw11621461183905298505 : True := trivial
theorem tw5021838523565636137 : True := trivial
theorem tw6642934038946987908 : True := trivial
theorem tw11836446731466568041 : True := trivial
theorem tw3236423282289724797 : True := trivial
theorem tw6630575960998350177 : True := trivial
theorem tw3975727444095808175 : True := trivial
theorem tw660578153811753282 : True := trivial
theorem tw13781803221730300010 : True := trivial
theorem tw14075250544267580197 : True := trivial
theorem tw13052298864609138084 : True := trivial
theorem tw3498318248456120893 : True := trivial
theorem tw1373623800461016654 : True := trivial
theorem tw6736277296657347716 : True := trivial
theorem tw2852513631323114280 : True := trivial
theorem tw427201233706412074 : True := trivial
theorem tw6956416172864912568 : True := trivial
theorem tw14986515633153963094 : True := trivial
theorem tw8879709056469020100 : True := trivial
theorem tw14411572211138965458 : True := trivial
theorem tw10869167953484321763 : True := trivial
theorem tw17856815302210695183 : True := trivial
theorem tw4618935039924175117 : True := trivial
theorem tw18166716135086303367 : True := trivial
theorem tw3722993933183844122 : True := trivial
theorem tw6625927256592266815 : True := trivial
theorem tw1867804551416667963 : True := trivial
theorem tw12297579553158812007 : True := trivial
theorem tw1055060119154613354 : True := trivial
theorem tw6274251100255930691 : True := trivial
theorem tw9745079529341984064 : True := trivial
theorem tw9954910747165191304 : True := trivial
theorem tw8575069358454324289 : True := trivial
theorem tw12585937851138786274 : True := trivial
theorem tw18248998443089103415 : True := trivial
theorem tw13191787809301626353 : True := trivial
theorem tw17976435100519663885 : True := trivial
theorem tw4814018779712366455 : True := trivial
theorem tw7732819563252665118 : True := trivial
theorem tw17209542533520128061 : True := trivial
theorem tw7162005648141500154 : True := trivial
theorem tw143603705536601426 : True := trivial
theorem tw18270386812457913026 : True := trivial
theorem tw7753832694057634123 : True := trivial
theorem tw13933104639814354788 : True := trivial
theorem tw3299746675600666474 : True := trivial
theorem tw16158792234535216128 : True := trivial
theorem tw11405590013420721624 : True := trivial
theorem tw16424218069606357809 : True := trivial
theorem tw8445117346915995115 : True := trivial
theorem tw207860688396294400 : True := trivial
theorem tw15312631221589643363 : True := trivial
theorem tw6297476372689057744 : True := trivial
theorem tw8632066996672299286 : True := trivial
theorem tw9281876980679474122 : True := trivial
theorem tw8678340943165185918 : True := trivial
theorem tw11663782013205251451 : True := trivial
theorem tw8120353633054718418 : True := trivial
theorem tw10792634494140278356 : True := trivial
theorem tw5076370679332399030 : True := trivial
theorem tw8081583545265140293 : True := trivial
theorem tw9507505233718051242 : True := trivial
theorem tw14660281224717936091 : True := trivial
theorem tw17337420195414814720 : True := trivial
theorem tw7340751811376346412 : True := trivial
theorem tw6754397451444213068 : True := trivial
theorem tw157563952223351432 : True := trivial
theorem tw5658390387511617506 : True := trivial
theorem tw16474810012248475087 : True := trivial
theorem tw12762128991287252930 : True := trivial
theorem tw17358995871509566130 : True := trivial
theorem tw7881197129547449517 : True := trivial
theorem tw4305458461470189283 : True := trivial
theorem tw6782099218221040179 : True := trivial
theorem tw15137981612534031773 : True := trivial
theorem tw4040614266427308012 : True := trivial
theorem tw235633053823005526 : True := trivial
theorem tw11543995336720252921 : True := trivial
theorem tw13795942225821347139 : True := trivial
theorem tw14686573915191089176 : True := trivial
theorem tw14227188051170335095 : True := trivial
theorem tw4461367637535966450 : True := trivial
theorem tw16518565623264330833 : True := trivial
theorem tw5223782594665665306 : True := trivial
theorem tw15555904557547439706 : True := trivial
theorem tw6521605165369799838 : True := trivial
theorem tw12735716448257269303 : True := trivial
theorem tw12617829498386949349 : True := trivial
theorem tw11576045600868714388 : True := trivial
theorem tw10830419868178177180 : True := trivial
theorem tw8023628858324481956 : True := trivial
theorem tw1573598026459528898 : True := trivial
theorem tw7751955216772760147 : True := trivial
theorem tw18024552895299032227 : True := trivial
theorem tw5657169473451763567 : True := trivial
theorem tw7631329952386684866 : True := trivial
theorem tw212709360256871929 : True := trivial
theorem tw15587648386771177850 : True := trivial
theorem tw10370752185205185008 : True := trivial
theorem tw3938249656264381728 : True := trivial
theorem tw14414663798732411682 : True := trivial
theorem tw11667570784867940070 : True := trivial
theorem tw17926206268192380894 : True := trivial
theorem tw12564744271161490757 : True := trivial
theorem tw8125181908052387697 : True := trivial
theorem tw17303135987148531890 : True := trivial
theorem tw15792032980712389815 : True := trivial
theorem tw14384963445650280263 : True := trivial
theorem tw11519593438051385746 : True := trivial
theorem tw7021070107568511876 : True := trivial
theorem tw14195210759157689711 : True := trivial
theorem tw4081986667915258734 : True := trivial
theorem tw734272716539133012 : True := trivial
theorem tw15593947817364178185 : True := trivial
theorem tw278519073678550862 : True := trivial
theorem tw9047433576073926333 : True := trivial
theorem tw14648287623557960919 : True := trivial
theorem tw8215833450884822442 : True := trivial
theorem tw18408617284376871724 : True := trivial
theorem tw16146921714900791655 : True := trivial
theorem tw1267732866843021019 : True := trivial
theorem tw17800663005039944969 : True := trivial
theorem tw3526190895235711518 : True := trivial
theorem tw2320837875070666804 : True := trivial
theorem tw10666034871475282102 : True := trivial
theorem tw14935718372116002715 : True := trivial
theorem tw627379605784284990 : True := trivial
theorem tw5349654252354229416 : True := trivial
theorem tw16031922949388596292 : True := trivial
theorem tw16575122890174226908 : True := trivial
theorem tw8530533305128063537 : True := trivial
theorem tw11375726316790892032 : True := trivial
theorem tw6558566434178433068 : True := trivial
theorem tw10742058705440374605 : True := trivial
theorem tw8473637628685416909 : True := trivial
theorem tw15166816550809542116 : True := trivial
theorem tw376885185735771149 : True := trivial
theorem tw8097067064819338942 : True := trivial
theorem tw11084950285201510381 : True := trivial
theorem tw17876816268932622790 : True := trivial
theorem tw14157921614504407628 : True := trivial
theorem tw18200383768193878447 : True := trivial
theorem tw9284306371560600664 : True := trivial
theorem tw17963598536728150610 : True := trivial
theorem tw14850519600364521467 : True := trivial
theorem tw9931020582080325231 : True := trivial
theorem tw2574037455095279874 : True := trivial
theorem tw16756902955535393578 : True := trivial
theorem tw15693586781628170883 : True := trivial
theorem tw16357737785664936711 : True := trivial
theorem tw10436933877205002278 : True := trivial
theorem tw1492770794456043554 : True := trivial
theorem tw6124477683343431174 : True := trivial
theorem tw11506736004595623582 : True := trivial
theorem tw7613363046880194011 : True := trivial
theorem tw9849472275077195223 : True := trivial
theorem tw11597185920810873978 : True := trivial
theorem tw6467188737530407546 : True := trivial
theorem tw9970159218168326427 : True := trivial
theorem tw11826246416508617631 : True := trivial
theorem tw3796564761860267031 : True := trivial
theorem tw12899080367161618196 : True := trivial
theorem tw13753157540072413079 : True := trivial
theorem tw9520224583786422384 : True := trivial
theorem tw11709520132629815716 : True := trivial
theorem tw5372618825611979449 : True := trivial
theorem tw17870273132051010785 : True := trivial
theorem tw14381564234172021690 : True := trivial
theorem tw8763045114725274853 : True := trivial
theorem tw2148190184121432071 : True := trivial
theorem tw3264868908794869334 : True := trivial
theorem tw9441680389670848594 : True := trivial
theorem tw856499462560927944 : True := trivial
theorem tw12009708652884275285 : True := trivial
theorem tw14971639423593114847 : True := trivial
theorem tw4308120085056218187 : True := trivial
theorem tw15738914222832873129 : True := trivial
theorem tw14527311059924941534 : True := trivial
theorem tw7688368650878118635 : True := trivial
theorem tw11193386560912098188 : True := trivial
theorem tw6816651224863639123 : True := trivial
theorem tw4604846126326368651 : True := trivial
theorem tw2503052307024481920 : True := trivial
theorem tw9804117161592652596 : True := trivial
theorem tw9609244652590834799 : True := trivial
theorem tw9692453502525983816 : True := trivial
theorem tw14565869723485623808 : True := trivial
theorem tw12489304160635881882 : True := trivial
theorem tw13072183800923643585 : True := trivial
theorem tw3692847944156111502 : True := trivial
theorem tw2116969192388601250 : True := trivial
theorem tw1965730157289120966 : True := trivial
theorem tw12854736106968214038 : True := trivial
theorem tw10477114939313216747 : True := trivial
theorem tw18306259716547951183 : True := trivial
theorem tw13060649354678140884 : True := trivial
theorem tw1135131748039996819 : True := trivial
theorem tw15222776598541473467 : True := trivial
theorem tw16189908304017147012 : True := trivial
theorem tw18230289055380747358 : True := trivial
theorem tw13347953635194620518 : True := trivial
theorem tw14729170372177870618 : True := trivial
theorem tw3221476744777234770 : True := trivial
theorem tw18218701104895628814 : True := trivial
theorem tw8554323694956827180 : True := trivial
theorem tw13071013786206321607 : True := trivial
theorem tw8442201218347143600 : True := trivial
theorem tw622631470926942850 : True := trivial
theorem tw14059743909575950649 : True := trivial
theorem tw1003143885291348938 : True := trivial
theorem tw2902755729025181076 : True := trivial
theorem tw1051041151868306621 : True := trivial
theorem tw14220543932499397341 : True := trivial
theorem tw2400447430403510977 : True := trivial
theorem tw9754678902832367896 : True := trivial
theorem tw17885689891707677222 : True := trivial
theorem tw8562819814388949721 : True := trivial
theorem tw12158045681914618045 : True := trivial
theorem tw3853562815337554264 : True := trivial
theorem tw3875380493843233507 : True := trivial
theorem tw13584362393924848184 : True := trivial
theorem tw9947267054579749049 : True := trivial
theorem tw2741965009008559117 : True := trivial
theorem tw5252399628734173157 : True := trivial
theorem tw266963869446466763 : True := trivial
theorem tw238016005013303559 : True := trivial
theorem tw1377363097486453913 : True := trivial
theorem tw15351865003354520343 : True := trivial
theorem tw11811033248043335857 : True := trivial
theorem tw13454167635597065427 : True := trivial
theorem tw13633626375067626578 : True := trivial
theorem tw5170944323421131796 : True := trivial
theorem tw3652594639974163760 : True := trivial
theorem tw7413526116918839984 : True := trivial
theorem tw6218085327784098248 : True := trivial
theorem tw6726969870448266796 : True := trivial
theorem tw16652295711012998632 : True := trivial
theorem tw4528192550493336708 : True := trivial
theorem tw15189555001518793800 : True := trivial
theorem tw4787430249716659989 : True := trivial
theorem tw17833857756372399395 : True := trivial
theorem tw16956091216892773985 : True := trivial
theorem tw1202535860644336030 : True := trivial
theorem tw9108075226430276364 : True := trivial
theorem tw5553178942769612680 : True := trivial
theorem tw9380805497185302400 : True := trivial
theorem tw8284616382230055854 : True := trivial
theorem tw13572882619850993890 : True := trivial
theorem tw17725299746269945408 : True := trivial
theorem tw3033472772732719420 : True := trivial
theorem tw10427662261172400919 : True := trivial
theorem tw1132981655822888110 : True := trivial
theorem tw17781471020867701198 : True := trivial
theorem tw676102385598853124 : True := trivial
theorem tw5712276845370050351 : True := trivial
theorem tw14895490122913105214 : True := trivial
theorem tw14498269582527661523 : True := trivial
theorem tw17311879448021261921 : True := trivial
theorem tw9780537776548137819 : True := trivial
theorem tw10970462282998059146 : True := trivial
theorem tw8367859380666727303 : True := trivial
theorem tw16304167223672673872 : True := trivial
theorem tw7360723527052571755 : True := trivial
theorem tw6471940885756737920 : True := trivial
theorem tw1750990839523872500 : True := trivial
theorem tw8794969410006882687 : True := trivial
theorem tw9104649617818822798 : True := trivial
theorem tw593872329900597977 : True := trivial
theorem tw18142968348024537517 : True := trivial
theorem tw11736412913079479080 : True := trivial
theorem tw985972478428451058 : True := trivial
theorem tw15905846504923857121 : True := trivial
theorem tw9725864814106330786 : True := trivial
theorem tw4100463987051347772 : True := trivial
theorem tw4346483793944331221 : True := trivial
theorem tw11875196574918460130 : True := trivial
theorem tw8388952012593213970 : True := trivial
theorem tw7591273275020513406 : True := trivial
theorem tw3092266324609428470 : True := trivial
theorem tw12465371561437325960 : True := trivial
theorem tw15099070922844316997 : True := trivial
theorem tw12007932178923968304 : True := trivial
theorem tw15997409158697018036 : True := trivial
theorem tw16718016409418193562 : True := trivial
theorem tw7093000378750448326 : True := trivial
theorem tw10317676193007102122 : True := trivial
theorem tw13323671206355788060 : True := trivial
theorem tw3397706134853483400 : True := trivial
theorem tw2434846967209478438 : True := trivial
theorem tw16795513120662858112 : True := trivial
theorem tw1231438216968327684 : True := trivial
theorem tw5211782579165807236 : True := trivial
theorem tw4587623732577858883 : True := trivial
theorem tw5427790634725248677 : True := trivial
theorem tw16411709897977360283 : True := trivial
theorem tw14190406556538314635 : True := trivial
theorem tw7975665987672715080 : True := trivial
theorem tw7385336170031760676 : True := trivial
theorem tw9024590270838127475 : True := trivial
theorem tw3026585798872005240 : True := trivial
theorem tw2028966170908905035 : True := trivial
theorem tw4771143343309054002 : True := trivial
theorem tw12914213524877602954 : True := trivial
theorem tw12438461737142728497 : True := trivial
theorem tw12311631530918107948 : True := trivial
theorem tw8384670163994546320 : True := trivial
theorem tw9566201802497905835 : True := trivial
theorem tw14013376205982351554 : True := trivial
theorem tw10330026490661417820 : True := trivial
theorem tw4527585161582911708 : True := trivial
theorem tw4158444599445769469 : True := trivial
theorem tw226789408056729260 : True := trivial
theorem tw9247246209753851665 : True := trivial
theorem tw9036529145974261093 : True := trivial
theorem tw8983289937901100252 : True := trivial
theorem tw12355544846945152478 : True := trivial
theorem tw6586488755446634664 : True := trivial
theorem tw3445312392560290145 : True := trivial
theorem tw8635789871195202820 : True := trivial
theorem tw16010954850995267791 : True := trivial
theorem tw3446713829142149477 : True := trivial
theorem tw7530710771149073710 : True := trivial
theorem tw16268254492589715582 : True := trivial
theorem tw6112686989872672293 : True := trivial
theorem tw17410647696647885358 : True := trivial
theorem tw1096499484681650527 : True := trivial
theorem tw15502207220093641517 : True := trivial
theorem tw14107055349956361016 : True := trivial
theorem tw10271012441315715192 : True := trivial
theorem tw12108543637756823753 : True := trivial
theorem tw3294935154586334006 : True := trivial
theorem tw131421671038205626 : True := trivial
theorem tw7692151620583957021 : True := trivial
theorem tw12880691141101519134 : True := trivial
theorem tw13393838391339718621 : True := trivial
theorem tw4297428776485013628 : True := trivial
theorem tw4437947634094942015 : True := trivial
theorem tw13269591715693179101 : True := trivial
theorem tw16442973661974043081 : True := trivial
theorem tw5071887426705280003 : True := trivial
theorem tw3050940104641896542 : True := trivial
theorem tw14009065158911584486 : True := trivial
theorem tw9172068211373677737 : True := trivial
theorem tw11452353253832358647 : True := trivial
theorem tw11826321460745577031 : True := trivial
theorem tw12539807793114787000 : True := trivial
theorem tw8951969789214247184 : True := trivial
theorem tw13839383451432705984 : True := trivial
theorem tw4198195902554089003 : True := trivial
theorem tw15933927669649836915 : True := trivial
theorem tw17836728463558487299 : True := trivial
theorem tw7051586273813348958 : True := trivial
theorem tw1917347216605056403 : True := trivial
theorem tw6051901832446122013 : True := trivial
theorem tw9834048321398983934 : True := trivial
theorem tw14938308160773878767 : True := trivial
theorem tw8339822827700580536 : True := trivial
theorem tw1156804864895723772 : True := trivial
theorem tw14161708363738207353 : True := trivial
theorem tw2083107526057419244 : True := trivial
theorem tw14287033475916463406 : True := trivial
theorem tw6948788623560422090 : True := trivial
theorem tw8763557900923805056 : True := trivial
theorem tw6293531710675193473 : True := trivial
theorem tw11575778403066754584 : True := trivial
theorem tw17728469571265764103 : True := trivial
theorem tw10468472214969162872 : True := trivial
theorem tw7125776619604895830 : True := trivial
theorem tw11594121948441523933 : True := trivial
theorem tw17398171963807131611 : True := trivial
theorem tw14231886273404381522 : True := trivial
theorem tw13467175656999524761 : True := trivial
theorem tw17035727290215961322 : True := trivial
theorem tw1120801896460557365 : True := trivial
theorem tw9662374992501821529 : True := trivial
theorem tw3647307208712690271 : True := trivial
theorem tw3593698548552259665 : True := trivial
theorem tw7182515825167047938 : True := trivial
theorem tw14579812797776900635 : True := trivial
theorem tw545389473096119133 : True := trivial
theorem tw6790699231655059190 : True := trivial
theorem tw6908502770205404631 : True := trivial
theorem tw14744993468554337398 : True := trivial
theorem tw12761767203859260557 : True := trivial
theorem tw1686836221045531648 : True := trivial
theorem tw12764988280898431629 : True := trivial
theorem tw13924654558992552986 : True := trivial
theorem tw2102313505623032985 : True := trivial
theorem tw7145161774096140610 : True := trivial
theorem tw1191515943035762173 : True := trivial
theorem tw9752344642798159695 : True := trivial
theorem tw3217976892854879299 : True := trivial
theorem tw4198614172399713428 : True := trivial
theorem tw8656355782060182441 : True := trivial
theorem tw5529591941069372230 : True := trivial
theorem tw16009256881680587210 : True := trivial
theorem tw8476117861325258838 : True := trivial
theorem tw15644586830282057876 : True := trivial
theorem tw13449150005386443617 : True := trivial
theorem tw1670934666882656404 : True := trivial
theorem tw2467682225504958703 : True := trivial
theorem tw3982680644846877304 : True := trivial
theorem tw15343621090070276893 : True := trivial
theorem tw11674482100746843754 : True := trivial
theorem tw1356662243163830326 : True := trivial
theorem tw11508196863702028154 : True := trivial
theorem tw11816176437971037643 : True := trivial
theorem tw16466714778243422285 : True := trivial
theorem tw7145168214408943984 : True := trivial
theorem tw10046517204482851424 : True := trivial
theorem tw2590568087869859362 : True := trivial
theorem tw9401622928721232601 : True := trivial
theorem tw449287045317912475 : True := trivial
theorem tw16516125691721031019 : True := trivial
theorem tw4026773125290780237 : True := trivial
theorem tw7545171444326444160 : True := trivial
theorem tw10564457530499756112 : True := trivial
theorem tw18013580132152656288 : True := trivial
theorem tw13489352411462390107 : True := trivial
theorem tw6118267533512095464 : True := trivial
theorem tw12613541559154803580 : True := trivial
theorem tw12730189114540137239 : True := trivial
theorem tw10845328650773837925 : True := trivial
theorem tw10853477689768857227 : True := trivial
theorem tw10536509140524891718 : True := trivial
theorem tw9519586248845430893 : True := trivial
theorem tw13826965060686553816 : True := trivial
theorem tw4488199049627698741 : True := trivial
theorem tw1530949966705777975 : True := trivial
theorem tw2711257873058274752 : True := trivial
end PySem.W.Fast
/-! the objects that are read off a heap, one walk along it -/
namespace Hr
open PySem PySem.W
def keepObj (o : Obj) : Option Obj := match some o with
  | some ⟨_, _, .freed, _⟩ => none
  | o => o
noncomputable def rises (as : List Nat) : Nat → Bool := @List.rec Nat (fun _ => Nat → Bool) (fun _ => true) (fun a _ ih i => @Bool.rec (fun _ => Bool) false (ih (Nat.add a 1)) (Nat.ble i a)) as
noncomputable def along (l : List Obj) : Nat → List Nat → List (Option Obj) := @List.rec Obj (fun _ => Nat → List Nat → List (Option Obj)) (fun _ as => as.map fun _ => none)
  (fun o _ ih i as => @List.rec Nat (fun _ => List (Option Obj)) [] (fun a r _ => @Bool.rec (fun _ => List (Option Obj)) (ih (Nat.add i 1) (a :: r)) (keepObj o :: ih (Nat.add i 1) r) (Nat.beq a i)) as) l
theorem rises_cons {a : Nat} {as : List Nat} {i : Nat} (h : rises (a :: as) i = true) : i ≤ a ∧ rises as (a + 1) = true := by
  have h : @Bool.rec (fun _ => Bool) false (rises as (Nat.add a 1)) (Nat.ble i a) = true := h
  cases e : Nat.ble i a with
  | false => rw [e] at h; exact Bool.noConfusion (h : false = true)
  | true => rw [e] at h; exact ⟨Nat.le_of_ble_eq_true e, h⟩
theorem rises_le {as : List Nat} {i j : Nat} (h : rises as j = true) (hij : i ≤ j) : rises as i = true := by
  cases as with
  | nil => rfl
  | cons a as =>
    obtain ⟨h1, h2⟩ := rises_cons h
    show @Bool.rec (fun _ => Bool) false (rises as (Nat.add a 1)) (Nat.ble i a) = true
    rw [Nat.ble_eq_true_of_le (Nat.le_trans hij h1)]
    exact h2
theorem rises_all {as : List Nat} : ∀ {i : Nat}, rises as i = true → ∀ a ∈ as, i ≤ a := by
  induction as with
  | nil => exact fun _ a h => by cases h
  | cons b as ih =>
    intro i h a ha
    obtain ⟨h1, h2⟩ := rises_cons h
    rcases List.mem_cons.mp ha with rfl | q
    · exact h1
    · exact Nat.le_trans h1 (Nat.le_trans (Nat.le_succ b) (ih h2 a q))
theorem along_eq : ∀ (l : List Obj) (i : Nat) (as : List Nat), rises as i = true → along l i as = as.map fun a => match l[a - i]? with
    | some ⟨_, _, .freed, _⟩ => none
    | o => o
  | [], i, as, _ => List.map_congr_left fun a _ => rfl
  | o :: l, i, [], _ => rfl
  | o :: l, i, a :: as, h => by
    obtain ⟨h1, h2⟩ := rises_cons h
    show @Bool.rec (fun _ => List (Option Obj)) (along l (i + 1) (a :: as)) (keepObj o :: along l (i + 1) as) (Nat.beq a i) = _
    have tl : ∀ b, i + 1 ≤ b → (o :: l)[b - i]? = l[b - (i + 1)]? := fun b hb => by
      rw [show b - i = b - (i + 1) + 1 by omega, List.getElem?_cons_succ]
    cases e : Nat.beq a i with
    | false =>
      have ne : a ≠ i := Nat.ne_of_beq_eq_false e
      have ha : i + 1 ≤ a := by omega
      have hr : rises (a :: as) (i + 1) = true := by
        show @Bool.rec (fun _ => Bool) false (rises as (Nat.add a 1)) (Nat.ble (i + 1) a) = true
        rw [Nat.ble_eq_true_of_le ha]
        exact h2
      show along l (i + 1) (a :: as) = _
      rw [along_eq l (i + 1) (a :: as) hr]
      refine List.map_congr_left fun b hb => ?_
      rw [tl b (rises_all hr b hb)]
    | true =>
      have ea : a = i := Nat.eq_of_beq_eq_true e
      subst ea
      show keepObj o :: along l (a + 1) as = _
      rw [along_eq l (a + 1) as h2, List.map_cons, Nat.sub_self]
      refine congr (congrArg List.cons rfl) (List.map_congr_left fun b hb => ?_)
      rw [tl b (rises_all h2 b hb)]
noncomputable def readOff (as : List Nat) (h : Heap) : List (Option Obj) := @Bool.rec (fun _ => List (Option Obj)) (as.map h.get?) (along h.objs.toList 0 as) (rises as 0)
theorem readOff_eq (as : List Nat) (h : Heap) : as.map h.get? = readOff as h := by
  unfold readOff
  cases e : rises as 0 with
  | false => rfl
  | true =>
    show _ = along h.objs.toList 0 as
    rw [along_eq _ _ _ e]
    refine List.map_congr_left fun a _ => ?_
    unfold Heap.get?
    rw [Nat.sub_zero, Array.getElem?_toList]
    rcases h.objs[a]? with _ | ⟨_, _, d, _⟩
    · rfl
    · cases d <;> rfl
/-- what is known of the heap, read off in one walk -/
noncomputable def hookR (K : Params → Frag) (as : List Addr) (e : ∀ P, as = (K P).map (·.1)) : Hook :=
  ⟨List (Option Obj), fun s => readOff as s.heap, fun w => (K w.params).map fun p => some p.2, InK K, fun w s h => InK.of e w s ((readOff_eq as s.heap).trans h), InK.keeps⟩
theorem kin {K : Params → Frag} {as : List Addr} {e : ∀ P, as = (K P).map (·.1)} {w : World} {h : Heap} (Y : (hookR K as e).says w h) : (K w.params).In h := Y
end Hr
section
open PySem PySem.W PyProof.Rows
local macro_rules | `(tactic| o_head (kHook $k $a $p)) => `(tactic| o_head (Hr.hookR $k $a $p))
set_option maxRecDepth 100000 in
set_option maxHeartbeats 0 in
open_top theHead for PySem.Challenge.rw_allonge_k38_deeds_written_and_read
end
namespace Gd
open PySem L2

/-! ### data heaps -/
def Sb (G H : Hp) : Prop := ∀ a o, G a = some o → H a = some o
theorem Sb.refl (H : Hp) : Sb H H := fun _ _ h => h
theorem Sb.trans {A B C : Hp} (x : Sb A B) (y : Sb B C) : Sb A C := fun a o h => y a o (x a o h)
theorem Sb.new {G : Hp} {p : Addr} {o : HO} (h : G p = none) : Sb G (upd G p o) := fun a u e => by
  rw [upd_ne (ne_of_none e h)]; exact e
theorem Sb.both {G H : Hp} {p : Addr} {o : HO} (s : Sb G H) : Sb (upd G p o) (upd H p o) := fun a u e => by
  by_cases h : a = p
  · subst h; rw [upd_same] at e ⊢; exact e
  · rw [upd_ne h] at e ⊢; exact s a u e
theorem Sb.add {G H : Hp} {p : Addr} {o : HO} (s : Sb G H) (h : H p = some o) : Sb (upd G p o) H := fun a u e => by
  by_cases q : a = p
  · subst q; rw [upd_same] at e; rw [h]; exact e
  · rw [upd_ne q] at e; exact s a u e
theorem Sb.mut {G H : Hp} {p : Addr} {o : HO} (s : Sb G H) (h : G p = none) : Sb G (upd H p o) := fun a u e => by
  rw [upd_ne (ne_of_none e h)]; exact s a u e
theorem Sb.none {G H : Hp} {p : Addr} (s : Sb G H) (h : H p = none) : G p = none := by
  cases q : G p with
  | none => rfl
  | some o => rw [s p o q] at h; cases h

mutual
inductive Dx (G : Hp) : V → PyData → Prop
  | non : Dx G .non .none
  | bl (b : Bool) : Dx G (.bl b) (.bool b)
  | int (i : Int) : Dx G (.int i) (.int i)
  | str (x : Str) : Dx G (.str x) (.str x)
  | lst {a : Addr} {xs : List V} {ds : List PyData} : G a = some (.lst xs) → Dxs G xs ds → Dx G (.ref a) (.list ds)
  | tup {a : Addr} {xs : List V} {ds : List PyData} : G a = some (.tup xs) → Dxs G xs ds → Dx G (.ref a) (.tuple ds)
  | dct {a : Addr} {m : List (Str × Int)} : G a = some (.dK (m.map fun q => (Sum.inr q.1, V.int q.2))) → Dx G (.ref a) (.dict (m.map fun q => (.str q.1, .int q.2)))
inductive Dxs (G : Hp) : List V → List PyData → Prop
  | nil : Dxs G [] []
  | cons {v : V} {vs : List V} {d : PyData} {ds : List PyData} : Dx G v d → Dxs G vs ds → Dxs G (v :: vs) (d :: ds)
end
mutual
theorem Dx.mono {G H : Hp} (s : Sb G H) : ∀ {v : V} {d : PyData}, Dx G v d → Dx H v d
  | _, _, .non => .non
  | _, _, .bl b => .bl b
  | _, _, .int i => .int i
  | _, _, .str x => .str x
  | _, _, .lst h a => .lst (s _ _ h) (Dxs.mono s a)
  | _, _, .tup h a => .tup (s _ _ h) (Dxs.mono s a)
  | _, _, .dct h => .dct (s _ _ h)
theorem Dxs.mono {G H : Hp} (s : Sb G H) : ∀ {vs : List V} {ds : List PyData}, Dxs G vs ds → Dxs H vs ds
  | _, _, .nil => .nil
  | _, _, .cons h t => .cons (Dx.mono s h) (Dxs.mono s t)
end
mutual
theorem Dx.dp {K : PySem.W.Frag} {G : Hp} : ∀ {v : V} {d : PyData}, Dx G v d → d.canLay0 = true → Dp K G v d
  | _, _, .non, _ => .non
  | _, _, .bl b, _ => .bl b
  | _, _, .int i, _ => .int i
  | _, _, .str x, _ => .str x
  | _, _, .lst h a, c => .lst (Or.inl (Or.inl h)) (Dxs.dp a (by rw [PyData.canLay0] at c; exact c))
  | _, _, .tup h a, c => .tup (Or.inl (Or.inl h)) (Dxs.dp a (by rw [PyData.canLay0] at c; exact c))
  | _, _, .dct _, c => nomatch c
theorem Dxs.dp {K : PySem.W.Frag} {G : Hp} : ∀ {vs : List V} {ds : List PyData}, Dxs G vs ds → PyData.canLayAll0 ds = true → DpAll K G vs ds
  | _, _, .nil, _ => .nil
  | _, _, .cons h t, c => .cons (Dx.dp h (by rw [PyData.canLayAll0, Bool.and_eq_true] at c; exact c.1)) (Dxs.dp t (by rw [PyData.canLayAll0, Bool.and_eq_true] at c; exact c.2))
end
theorem Dx.int_eq {G : Hp} {v : V} {i : Int} (h : Dx G v (.int i)) : v = .int i := by cases h; rfl
theorem Dx.bl_eq {G : Hp} {v : V} {b : Bool} (h : Dx G v (.bool b)) : v = .bl b := by cases h; rfl
theorem Dx.str_eq {G : Hp} {v : V} {z : Str} (h : Dx G v (.str z)) : v = .str z := by cases h; rfl
theorem Dx.non_eq {G : Hp} {v : V} (h : Dx G v .none) : v = .non := by cases h; rfl
theorem Dx.lst_eq {G : Hp} {v : V} {ds : List PyData} (h : Dx G v (.list ds)) : ∃ a xs, v = .ref a ∧ G a = some (.lst xs) ∧ Dxs G xs ds := by
  cases h with | lst h a => exact ⟨_, _, rfl, h, a⟩
theorem Dx.tup_eq {G : Hp} {v : V} {ds : List PyData} (h : Dx G v (.tuple ds)) : ∃ a xs, v = .ref a ∧ G a = some (.tup xs) ∧ Dxs G xs ds := by
  cases h with | tup h a => exact ⟨_, _, rfl, h, a⟩
theorem Dxs.len {G : Hp} : ∀ {vs : List V} {ds : List PyData}, Dxs G vs ds → vs.length = ds.length
  | _, _, .nil => rfl
  | _, _, .cons _ t => congrArg (· + 1) (Dxs.len t)
theorem Dxs.get {G : Hp} : ∀ {vs : List V} {ds : List PyData} {i : Nat} {d : PyData}, Dxs G vs ds → ds[i]? = some d → ∃ v, vs[i]? = some v ∧ Dx G v d
  | _, _, 0, _, .cons h _, e => by cases e; exact ⟨_, rfl, h⟩
  | _, _, i + 1, _, .cons _ t, e => Dxs.get (i := i) t e
theorem Dxs.getV {G : Hp} : ∀ {vs : List V} {ds : List PyData} {i : Nat} {v : V}, Dxs G vs ds → vs[i]? = some v → ∃ d, ds[i]? = some d ∧ Dx G v d
  | _, _, 0, _, .cons h _, e => by cases e; exact ⟨_, rfl, h⟩
  | _, _, i + 1, _, .cons _ t, e => Dxs.getV (i := i) t e
theorem Dxs.app {G : Hp} : ∀ {vs ws : List V} {ds es : List PyData}, Dxs G vs ds → Dxs G ws es → Dxs G (vs ++ ws) (ds ++ es)
  | _, _, _, _, .nil, t => t
  | _, _, _, _, .cons h t, u => .cons h (Dxs.app t u)
theorem Dxs.one {G : Hp} {v : V} {d : PyData} (h : Dx G v d) : Dxs G [v] [d] := .cons h .nil
theorem Dxs.take {G : Hp} : ∀ {vs : List V} {ds : List PyData} (n : Nat), Dxs G vs ds → Dxs G (vs.take n) (ds.take n)
  | _, _, 0, _ => .nil
  | _, _, _ + 1, .nil => .nil
  | _, _, n + 1, .cons h t => .cons h (Dxs.take n t)
theorem Dxs.drop {G : Hp} : ∀ {vs : List V} {ds : List PyData} (n : Nat), Dxs G vs ds → Dxs G (vs.drop n) (ds.drop n)
  | _, _, 0, h => h
  | _, _, _ + 1, .nil => .nil
  | _, _, n + 1, .cons _ t => Dxs.drop n t
theorem Dxs.ints {G : Hp} : ∀ (ns : List Int), Dxs G (ns.map V.int) (ns.map PyData.int)
  | [] => .nil
  | n :: r => .cons (.int n) (Dxs.ints r)
theorem Dxs.ints_eq {G : Hp} : ∀ {vs : List V} {ns : List Int}, Dxs G vs (ns.map PyData.int) → vs = ns.map V.int
  | _, [], .nil => rfl
  | _, n :: r, .cons h t => by rw [Dx.int_eq h, Dxs.ints_eq t]; rfl
theorem Dxs.bls_eq {G : Hp} : ∀ {vs : List V} {bs : List Bool}, Dxs G vs (bs.map PyData.bool) → vs = bs.map V.bl
  | _, [], .nil => rfl
  | _, n :: r, .cons h t => by rw [Dx.bl_eq h, Dxs.bls_eq t]; rfl
theorem Dxs.strs_eq {G : Hp} : ∀ {vs : List V} {zs : List Str}, Dxs G vs (zs.map PyData.str) → vs = zs.map V.str
  | _, [], .nil => rfl
  | _, n :: r, .cons h t => by rw [Dx.str_eq h, Dxs.strs_eq t]; rfl

/-! ### growing: G within H, M may change -/
structure Gr (M : List Addr) (G H G' H' : Hp) : Prop where
  g : Sb G G'
  s : Sb G' H'
  h : ∀ a o, a ∉ M → H a = some o → H' a = some o
  t : ∀ a o, H a = some o → ∃ o', H' a = some o'
  n : ∀ a o, H a = some o → G a = none → G' a = none
theorem Gr.refl {M : List Addr} {G H : Hp} (s : Sb G H) : Gr M G H G H := ⟨Sb.refl G, s, fun _ _ _ h => h, fun _ o h => ⟨o, h⟩, fun _ _ _ h => h⟩
theorem Gr.trans {M : List Addr} {G H G1 H1 G2 H2 : Hp} (x : Gr M G H G1 H1) (y : Gr M G1 H1 G2 H2) : Gr M G H G2 H2 :=
  ⟨x.g.trans y.g, y.s, fun a o m e => y.h a o m (x.h a o m e), fun a o e => by obtain ⟨o', e'⟩ := x.t a o e; exact y.t a o' e',
   fun a o e e0 => by obtain ⟨o', e'⟩ := x.t a o e; exact y.n a o' e' (x.n a o e e0)⟩
theorem Gr.mono {M N : List Addr} {G H G' H' : Hp} (x : Gr M G H G' H') (h : ∀ a ∈ M, a ∈ N) : Gr N G H G' H' :=
  ⟨x.g, x.s, fun a o m e => x.h a o (fun z => m (h a z)) e, x.t, x.n⟩
theorem Gr.any {N : List Addr} {G H G' H' : Hp} (x : Gr [] G H G' H') : Gr N G H G' H' := x.mono fun _ z => nomatch z
theorem Gr.free {M : List Addr} {G H G' H' : Hp} (x : Gr M G H G' H') {p : Addr} (h : H' p = none) : H p = none := by
  cases q : H p with
  | none => rfl
  | some o => obtain ⟨o', e⟩ := x.t p o q; rw [e] at h; cases h
/-- a new object that is data at once -/
theorem Gr.data {M : List Addr} {G H G' H' : Hp} (x : Gr M G H G' H') {p : Addr} {o : HO} (h : H' p = none) : Gr M G H (upd G' p o) (upd H' p o) :=
  ⟨x.g.trans (Sb.new (x.s.none h)), x.s.both, fun a u m e => by rw [upd_ne (ne_of_none (x.h a u m e) h)]; exact x.h a u m e,
   fun a u e => by obtain ⟨o', e'⟩ := x.t a u e; exact ⟨o', by rw [upd_ne (ne_of_none e' h)]; exact e'⟩,
   fun a u e e0 => by obtain ⟨o', e'⟩ := x.t a u e; rw [upd_ne (ne_of_none e' h)]; exact x.n a u e e0⟩
/-- a new object that is not data yet -/
theorem Gr.own {M : List Addr} {G H G' H' : Hp} (x : Gr M G H G' H') {p : Addr} {o : HO} (h : H' p = none) : Gr M G H G' (upd H' p o) :=
  ⟨x.g, x.s.mut (x.s.none h), fun a u m e => by rw [upd_ne (ne_of_none (x.h a u m e) h)]; exact x.h a u m e,
   fun a u e => by obtain ⟨o', e'⟩ := x.t a u e; exact ⟨o', by rw [upd_ne (ne_of_none e' h)]; exact e'⟩, x.n⟩
/-- an own object becomes data -/
theorem Gr.freeze {M : List Addr} {G H G' H' : Hp} (x : Gr M G H G' H') {p : Addr} {o : HO} (h : H' p = some o) (hn : G' p = none) (h0 : H p = none) : Gr M G H (upd G' p o) H' :=
  ⟨x.g.trans (Sb.new hn), x.s.add h, x.h, x.t, fun a u e e0 => by
    have ne : a ≠ p := fun q => by subst q; rw [h0] at e; cases e
    rw [upd_ne ne]; exact x.n a u e e0⟩
/-- an own object is written -/
theorem Gr.write {M : List Addr} {G H G' H' : Hp} (x : Gr M G H G' H') {p : Addr} {o : HO} (hm : p ∈ M ∨ H p = none) (hn : G' p = none) : Gr M G H G' (upd H' p o) :=
  ⟨x.g, x.s.mut hn, fun a u m e => by
    have ne : a ≠ p := fun q => by
      subst q
      rcases hm with hm | hm
      · exact m hm
      · rw [hm] at e; cases e
    rw [upd_ne ne]; exact x.h a u m e,
   fun a u e => by
    by_cases ne : a = p
    · subst ne; exact ⟨o, upd_same⟩
    · obtain ⟨o', e'⟩ := x.t a u e; exact ⟨o', by rw [upd_ne ne]; exact e'⟩, x.n⟩
/-- data for a while: what was frozen is own again, what was made of it is forgotten -/
theorem Gr.thaw {M : List Addr} {G H G2 H2 : Hp} {p : Addr} {o : HO} (x : Gr M (upd G p o) H G2 H2) (hn : G p = none) : Gr M G H G H2 :=
  ⟨Sb.refl G, ((Sb.new hn).trans x.g).trans x.s, x.h, x.t, fun _ _ _ e => e⟩
/-- what was made within is forgotten from M -/
theorem Gr.drop {M : List Addr} {p : Addr} {G H G' H' : Hp} (x : Gr (p :: M) G H G' H') (h : H p = none) : Gr M G H G' H' :=
  ⟨x.g, x.s, fun a o m e => x.h a o (fun z => by
    rcases List.mem_cons.mp z with z | z
    · subst z; rw [h] at e; cases e
    · exact m z) e, x.t, x.n⟩
theorem Gr.ne {M : List Addr} {G H G' H' : Hp} (x : Gr M G H G' H') {p : Addr} {o : HO} (h : H p = some o) (hn : G p = none) : G' p = none := x.n p o h hn

/-! ### what evaluates to what -/
def EvP (te : TE) (σ : L2.St) (G H : Hp) (P : PyData → Prop) : Prop := ∀ G1 H1, Gr [] G H G1 H1 → ∀ Q : VK, (∀ v d G2 H2, Gr [] G1 H1 G2 H2 → P d → Dx G2 v d → Q v H2) → te σ H1 Q
def EvD (te : TE) (σ : L2.St) (G H : Hp) (d : PyData) : Prop := ∀ G1 H1, Gr [] G H G1 H1 → ∀ Q : VK, (∀ v G2 H2, Gr [] G1 H1 G2 H2 → Dx G2 v d → Q v H2) → te σ H1 Q
/-- a new list of its own -/
def EvM (te : TE) (σ : L2.St) (G H : Hp) (ds : List PyData) : Prop := ∀ G1 H1, Gr [] G H G1 H1 → ∀ Q : VK, (∀ p xs G2 H2, Gr [] G1 H1 G2 H2 → H1 p = none → G2 p = none → H2 p = some (.lst xs) → Dxs G2 xs ds → Q (.ref p) H2) → te σ H1 Q
def EvMP (te : TE) (σ : L2.St) (G H : Hp) (P : List PyData → Prop) : Prop := ∀ G1 H1, Gr [] G H G1 H1 → ∀ Q : VK, (∀ p xs ds G2 H2, Gr [] G1 H1 G2 H2 → H1 p = none → G2 p = none → H2 p = some (.lst xs) → P ds → Dxs G2 xs ds → Q (.ref p) H2) → te σ H1 Q
def EvT (tt : TT) (σ : L2.St) (G H : Hp) (b : Bool) : Prop := ∀ G1 H1, Gr [] G H G1 H1 → ∀ Q : Bool → Hp → Prop, (∀ G2 H2, Gr [] G1 H1 G2 H2 → Q b H2) → tt σ H1 Q
def EvA (ta : TA) (σ : L2.St) (G H : Hp) (ds : List PyData) : Prop := ∀ G1 H1, Gr [] G H G1 H1 → ∀ Q : List V → Hp → Prop, (∀ vs G2 H2, Gr [] G1 H1 G2 H2 → Dxs G2 vs ds → Q vs H2) → ta σ H1 Q
def EvO (to : TO) (σ : L2.St) (G H : Hp) (o : Option Int) : Prop := ∀ G1 H1, Gr [] G H G1 H1 → ∀ Q : Option Int → Hp → Prop, (∀ G2 H2, Gr [] G1 H1 G2 H2 → Q o H2) → to σ H1 Q
/-- the same of operations on values -/
def RD (r : R2) (d1 d2 d : PyData) : Prop := ∀ G1 H1 x y, Sb G1 H1 → Dx G1 x d1 → Dx G1 y d2 → ∀ Q : VK, (∀ v G2 H2, Gr [] G1 H1 G2 H2 → Dx G2 v d → Q v H2) → r x y H1 Q
def RM (r : R2) (d1 d2 : PyData) (ds : List PyData) : Prop := ∀ G1 H1 x y, Sb G1 H1 → Dx G1 x d1 → Dx G1 y d2 → ∀ Q : VK, (∀ p xs G2 H2, Gr [] G1 H1 G2 H2 → H1 p = none → G2 p = none → H2 p = some (.lst xs) → Dxs G2 xs ds → Q (.ref p) H2) → r x y H1 Q
def CD (r : List V → Hp → VK → Prop) (ds : List PyData) (d : PyData) : Prop := ∀ G1 H1 vs, Sb G1 H1 → Dxs G1 vs ds → ∀ Q : VK, (∀ v G2 H2, Gr [] G1 H1 G2 H2 → Dx G2 v d → Q v H2) → r vs H1 Q
def CM (r : List V → Hp → VK → Prop) (ds : List PyData) (es : List PyData) : Prop := ∀ G1 H1 vs, Sb G1 H1 → Dxs G1 vs ds → ∀ Q : VK, (∀ p xs G2 H2, Gr [] G1 H1 G2 H2 → H1 p = none → G2 p = none → H2 p = some (.lst xs) → Dxs G2 xs es → Q (.ref p) H2) → r vs H1 Q
section
variable {K : PySem.W.Frag} {σ : L2.St} {G G' H H' : Hp} {ta tb tc te : TE} {tt tu : TT} {d d1 d2 d3 : PyData} {ds es : List PyData} {r r' : R2} {b c : Bool}
theorem EvD.p {P : PyData → Prop} (h : EvD te σ G H d) (p : P d) : EvP te σ G H P := fun G1 H1 a Q q => h G1 H1 a Q fun v G2 H2 g x => q v d G2 H2 g p x
theorem EvD.mono (h : EvD te σ G H d) (s : Gr [] G H G' H') : EvD te σ G' H' d := fun G1 H1 a Q q => h G1 H1 (s.trans a) Q q
theorem EvM.mono (h : EvM te σ G H ds) (s : Gr [] G H G' H') : EvM te σ G' H' ds := fun G1 H1 a Q q => h G1 H1 (s.trans a) Q q
theorem EvT.mono (h : EvT tt σ G H b) (s : Gr [] G H G' H') : EvT tt σ G' H' b := fun G1 H1 a Q q => h G1 H1 (s.trans a) Q q
theorem EvM.dat (h : EvM te σ G H ds) : EvD te σ G H (.list ds) := fun G1 H1 a Q q => h G1 H1 a Q fun p xs G2 H2 g h0 hn h2 x =>
  q (.ref p) _ H2 (g.freeze h2 hn h0) (.lst upd_same (x.mono (Sb.new hn)))
theorem ev_is (h : EvD te σ G H d) (e : d = d1) : EvD te σ G H d1 := e ▸ h
theorem evt_is (h : EvT tt σ G H b) (e : b = c) : EvT tt σ G H c := e ▸ h
theorem evm_is (h : EvM te σ G H ds) (e : ds = es) : EvM te σ G H es := e ▸ h
theorem ev_var {i : Nat} {v : V} (h : σ[i]? = some (some v)) (x : Dx G v d) : EvD (tVar i) σ G H d := fun G1 _ a _ q => ⟨v, h, q v G1 _ (.refl a.s) (x.mono a.g)⟩
theorem ev_int {i : Int} : EvD (tC (.int i)) σ G H (.int i) := fun G1 _ a _ q => q _ G1 _ (.refl a.s) (.int i)
theorem ev_bl {x : Bool} : EvD (tC (.bl x)) σ G H (.bool x) := fun G1 _ a _ q => q _ G1 _ (.refl a.s) (.bl x)
theorem ev_str {x : Str} : EvD (tC (.str x)) σ G H (.str x) := fun G1 _ a _ q => q _ G1 _ (.refl a.s) (.str x)
theorem ev_non : EvD (tC .non) σ G H .none := fun G1 _ a _ q => q _ G1 _ (.refl a.s) .non
theorem ev_op (ha : EvD ta σ G H d1) (hb : EvD tb σ G H d2) (hr : RD r d1 d2 d) : EvD (tOp r ta tb) σ G H d := fun G1 H1 a Q q =>
  ha G1 H1 a _ fun v G2 H2 g x => hb G2 H2 (a.trans g) _ fun u G3 H3 g3 y => hr G3 H3 v u g3.s (x.mono g3.g) y Q fun w G4 H4 g4 z => q w G4 H4 (g.trans (g3.trans g4)) z
theorem ev_opM (ha : EvD ta σ G H d1) (hb : EvD tb σ G H d2) (hr : RM r d1 d2 ds) : EvM (tOp r ta tb) σ G H ds := fun G1 H1 a Q q =>
  ha G1 H1 a _ fun v G2 H2 g x => hb G2 H2 (a.trans g) _ fun u G3 H3 g3 y => hr G3 H3 v u g3.s (x.mono g3.g) y Q fun p xs G4 H4 g4 h0 hn h4 z =>
    q p xs G4 H4 (g.trans (g3.trans g4)) ((g.trans g3).free h0) hn h4 z
theorem ev_chain {b1 b2 : Bool} (ha : EvD ta σ G H d1) (hb : EvD tb σ G H d2) (hr : RD r d1 d2 (.bool b1)) (hc : b1 = true → EvD tc σ G H d3) (hr' : b1 = true → RD r' d2 d3 (.bool b2)) : EvD (tChain r r' ta tb tc) σ G H (.bool (b1 && b2)) := fun G1 H1 a Q q =>
  ha G1 H1 a _ fun v G2 H2 g x => hb G2 H2 (a.trans g) _ fun u G3 H3 g3 y => hr G3 H3 v u g3.s (x.mono g3.g) y _ fun w G4 H4 g4 z => by
    refine ⟨b1, z.bl_eq, ?_⟩
    cases b1 with
    | true =>
      refine iteT (hc rfl G4 H4 (a.trans (g.trans (g3.trans g4))) _ fun t G5 H5 g5 zz => ?_)
      exact hr' rfl G5 H5 u t g5.s (y.mono (g4.g.trans g5.g)) zz Q fun w G6 H6 g6 z6 => q w G6 H6 (g.trans (g3.trans (g4.trans (g5.trans g6)))) z6
    | false => exact iteF (q _ G4 H4 (g.trans (g3.trans g4)) (.bl false))
theorem ev_un {f : V → Hp → VK → Prop} (ha : EvD ta σ G H d1) (hr : ∀ G1 H1 x, Sb G1 H1 → Dx G1 x d1 → ∀ Q : VK, (∀ v G2 H2, Gr [] G1 H1 G2 H2 → Dx G2 v d → Q v H2) → f x H1 Q) : EvD (tUn f ta) σ G H d := fun G1 H1 a Q q =>
  ha G1 H1 a _ fun v G2 H2 g x => hr G2 H2 v g.s x Q fun w G4 H4 g4 z => q w G4 H4 (g.trans g4) z
theorem ev_neg {i : Int} (ha : EvD ta σ G H (.int i)) : EvD (tUn (rU fun i => .int (-i)) ta) σ G H (.int (-i)) := ev_un ha fun G1 _ _ s x _ q => ⟨i, x.int_eq, q _ G1 _ (.refl s) (.int _)⟩
theorem ev_if (h : EvT tt σ G H b) (h1 : b = true → EvD ta σ G H d) (h2 : b = false → EvD tb σ G H d) : EvD (tIf tt ta tb) σ G H d := fun G1 H1 a Q q => h G1 H1 a _ fun G2 H2 g => by
  cases b with
  | true => exact iteT (h1 rfl G2 H2 (a.trans g) Q fun v G3 H3 g3 x => q v G3 H3 (g.trans g3) x)
  | false => exact iteF (h2 rfl G2 H2 (a.trans g) Q fun v G3 H3 g3 x => q v G3 H3 (g.trans g3) x)
/-! tests -/
theorem et_test (h : EvD te σ G H (.bool b)) : EvT (tTest te) σ G H b := fun G1 H1 a Q q => h G1 H1 a _ fun v G2 H2 g x => ⟨b, x.bl_eq, q G2 H2 g⟩
theorem et_B (h : EvD te σ G H (.bool b)) : EvT (tB te) σ G H b := fun G1 H1 a Q q => h G1 H1 a _ fun v G2 H2 g x => ⟨b, x.bl_eq, q G2 H2 g⟩
theorem et_and (h : EvT tt σ G H b) (h1 : b = true → EvT tu σ G H c) : EvT (tAnd tt tu) σ G H (b && c) := fun G1 H1 a Q q => h G1 H1 a _ fun G2 H2 g => by
  cases b with
  | true => exact iteT (h1 rfl G2 H2 (a.trans g) Q fun G3 H3 g3 => q G3 H3 (g.trans g3))
  | false => exact iteF (q G2 H2 g)
theorem et_or (h : EvT tt σ G H b) (h1 : b = false → EvT tu σ G H c) : EvT (tOr tt tu) σ G H (b || c) := fun G1 H1 a Q q => h G1 H1 a _ fun G2 H2 g => by
  cases b with
  | false => exact iteF (h1 rfl G2 H2 (a.trans g) Q fun G3 H3 g3 => q G3 H3 (g.trans g3))
  | true => exact iteT (q G2 H2 g)
theorem et_not (h : EvT tt σ G H b) : EvT (tNot tt) σ G H (!b) := fun G1 H1 a _ q => h G1 H1 a _ fun G2 H2 g => q G2 H2 g
theorem et_yes : EvT tYes σ G H true := fun G1 H1 a _ q => q G1 H1 (.refl a.s)
theorem ev_andV (h : EvD ta σ G H (.bool b)) (h1 : b = true → EvD tb σ G H (.bool c)) : EvD (tAndV ta tb) σ G H (.bool (b && c)) := fun G1 H1 a Q q => h G1 H1 a _ fun v G2 H2 g x => ⟨b, x.bl_eq, by
  cases b with
  | true => exact iteT (h1 rfl G2 H2 (a.trans g) Q fun v G3 H3 g3 x => q v G3 H3 (g.trans g3) x)
  | false => exact iteF (q _ G2 H2 g (.bl false))⟩
theorem ev_orV (h : EvD ta σ G H (.bool b)) (h1 : b = false → EvD tb σ G H (.bool c)) : EvD (tOrV ta tb) σ G H (.bool (b || c)) := fun G1 H1 a Q q => h G1 H1 a _ fun v G2 H2 g x => ⟨b, x.bl_eq, by
  cases b with
  | false => exact iteF (h1 rfl G2 H2 (a.trans g) Q fun v G3 H3 g3 x => q v G3 H3 (g.trans g3) x)
  | true => exact iteT (q _ G2 H2 g (.bl true))⟩
theorem ev_notV (h : EvD ta σ G H (.bool b)) : EvD (tNotV ta) σ G H (.bool (!b)) := fun G1 H1 a _ q => h G1 H1 a _ fun v G2 H2 g x => ⟨b, x.bl_eq, q _ G2 H2 g (.bl _)⟩
def isNone : PyData → Bool
  | .none => true
  | _ => false
theorem ev_isN (h : EvD ta σ G H d) : EvD (tIsN ta) σ G H (.bool (isNone d)) := fun G1 H1 a _ q => h G1 H1 a _ fun v G2 H2 g x => by
  have e : decide (v = V.non) = isNone d := by cases x <;> rfl
  show _
  rw [e]; exact q _ G2 H2 g (.bl _)
theorem ev_notN (h : EvD ta σ G H d) : EvD (tNotN ta) σ G H (.bool (!isNone d)) := fun G1 H1 a _ q => h G1 H1 a _ fun v G2 H2 g x => by
  have e : decide (v = V.non) = isNone d := by cases x <;> rfl
  show _
  rw [e]; exact q _ G2 H2 g (.bl _)
/-! arguments -/
theorem ea_nil : EvA tNil σ G H [] := fun G1 H1 a _ q => q [] G1 H1 (.refl a.s) .nil
theorem ea_cons {tr : TA} (h : EvD te σ G H d) (hr : EvA tr σ G H ds) : EvA (tCons te tr) σ G H (d :: ds) := fun G1 H1 a _ q =>
  h G1 H1 a _ fun v G2 H2 g x => hr G2 H2 (a.trans g) _ fun vs G3 H3 g3 xs => q (v :: vs) G3 H3 (g.trans g3) (.cons (x.mono g3.g) xs)
theorem ea_is {t : TA} (h : EvA t σ G H ds) (e : ds = es) : EvA t σ G H es := e ▸ h
theorem ev_tup {t : TA} (h : EvA t σ G H ds) (hl : ds.length ≤ 100000) : EvD (tTup t) σ G H (.tuple ds) := fun G1 H1 a _ q =>
  h G1 H1 a _ fun vs G2 H2 g xs => ⟨Evl.sz_of (by rw [xs.len]; exact hl), fun p hp => q (.ref p) _ _ (g.data hp) (.tup upd_same (xs.mono (Sb.new (g.s.none hp))))⟩
theorem ev_lst {t : TA} (h : EvA t σ G H ds) (hl : ds.length ≤ 100000) : EvM (tLst t) σ G H ds := fun G1 H1 a _ q =>
  h G1 H1 a _ fun vs G2 H2 g xs => ⟨Evl.sz_of (by rw [xs.len]; exact hl), fun p hp => q p vs G2 _ (g.own hp) (g.free hp) (g.s.none hp) upd_same xs⟩
theorem ev_cb {f : List V → Hp → VK → Prop} {t : TA} (h : EvA t σ G H ds) (hr : CD f ds d) : EvD (tCB f t) σ G H d := fun G1 H1 a Q q =>
  h G1 H1 a _ fun vs G2 H2 g xs => hr G2 H2 vs g.s xs Q fun v G3 H3 g3 x => q v G3 H3 (g.trans g3) x
theorem ev_cbM {f : List V → Hp → VK → Prop} {t : TA} (h : EvA t σ G H ds) (hr : CM f ds es) : EvM (tCB f t) σ G H es := fun G1 H1 a Q q =>
  h G1 H1 a _ fun vs G2 H2 g xs => hr G2 H2 vs g.s xs Q fun p ys G3 H3 g3 h0 hn h3 x => q p ys G3 H3 (g.trans g3) (g.free h0) hn h3 x
theorem eo_none : EvO tNoPart σ G H none := fun G1 H1 a _ q => q G1 H1 (.refl a.s)
theorem eo_some {i : Int} (h : EvD te σ G H (.int i)) : EvO (tPart te) σ G H (some i) := fun G1 H1 a _ q => h G1 H1 a _ fun v G2 H2 g x => ⟨i, x.int_eq, q G2 H2 g⟩
/-- an own list read: len(xs), xs[i] -/
theorem ev_lenO {l : Addr} {xs : List V} {i : Nat} (h : σ[i]? = some (some (.ref l))) (hl : H l = some (.lst xs)) : EvD (tCB (fun xs H Q => ∃ p ys, xs = [.ref p] ∧ (SqL K H p ys ∨ SqT K H p ys) ∧ Q (.int ys.length) H) (tCons (tVar i) tNil)) σ G H (.int xs.length) := fun G1 H1 a Q q =>
  ⟨.ref l, h, l, xs, rfl, Or.inl (Or.inl (Or.inl (a.h l _ (by simp) hl))), q _ G1 H1 (.refl a.s) (.int _)⟩
theorem ev_ixO {l : Addr} {xs : List V} {i : Nat} {k : Int} (h : σ[i]? = some (some (.ref l))) (hl : H l = some (.lst xs)) (hx : Dxs G xs ds) (hk : EvD ta σ G H (.int k)) (e : atI ds k = some d) : EvD (tOp (rIxL K) (tVar i) ta) σ G H d := fun G1 H1 a Q q =>
  ⟨.ref l, h, hk G1 H1 a _ fun v G2 H2 g x => by
    have hl2 := (a.trans g).h l _ (by simp) hl
    have dxs := hx.mono (a.trans g).g
    obtain ⟨j, hj⟩ : ∃ j, ixN ds.length k = some j := by
      unfold atI at e
      cases q : ixN ds.length k with
      | none => rw [q] at e; cases e
      | some j => exact ⟨j, rfl⟩
    unfold atI at e
    rw [hj] at e
    obtain ⟨u, hu, du⟩ := dxs.get (i := j) e
    refine ⟨l, xs, k, u, rfl, x.int_eq, Or.inl (Or.inl hl2), ?_, q u G2 H2 g du⟩
    unfold atI
    rw [dxs.len, hj]
    exact hu⟩
theorem ev_sumO {l : Addr} {xs : List V} {ns : List Int} {i : Nat} (h : σ[i]? = some (some (.ref l))) (hl : H l = some (.lst xs)) (hx : Dxs G xs (ns.map .int)) : EvD (tCB (rSum K) (tCons (tVar i) tNil)) σ G H (.int ns.sum) := fun G1 H1 a Q q =>
  ⟨.ref l, h, l, ns, rfl, by rw [← hx.ints_eq]; exact Or.inl (Or.inl (a.h l _ (by simp) hl)), q _ G1 H1 (.refl a.s) (.int _)⟩
end

/-! ### operations -/
section
variable {K : PySem.W.Frag} {d e : PyData} {ds es : List PyData} {i j : Int}
theorem rd_I0 {g : Int → Int → V} {d : PyData} (h : ∀ G, Dx G (g i j) d) : RD (rI0 g) (.int i) (.int j) d := fun G1 _ _ _ s x y _ q => ⟨i, j, x.int_eq, y.int_eq, q _ G1 _ (.refl s) (h G1)⟩
theorem rd_I {C : Int → Int → Prop} {g : Int → Int → V} {d : PyData} (hc : C i j) (h : ∀ G, Dx G (g i j) d) : RD (rI C g) (.int i) (.int j) d := fun G1 _ _ _ s x y _ q => ⟨i, j, x.int_eq, y.int_eq, hc, q _ G1 _ (.refl s) (h G1)⟩
theorem rd_add : RD (rI0 fun i j => .int (i + j)) (.int i) (.int j) (.int (i + j)) := rd_I0 fun _ => .int _
theorem rd_sub : RD (rI0 fun i j => .int (i - j)) (.int i) (.int j) (.int (i - j)) := rd_I0 fun _ => .int _
theorem rd_mul (h : CMul i j) : RD (rI CMul fun i j => .int (i * j)) (.int i) (.int j) (.int (i * j)) := rd_I h fun _ => .int _
theorem rd_mod (h : 0 < j) : RD (rI (fun _ j => 0 < j) fun i j => .int (i % j)) (.int i) (.int j) (.int (i % j)) := rd_I (C := fun _ j => 0 < j) h fun _ => .int _
theorem rd_fdiv (h : CDiv i j) : RD (rI CDiv fun i j => .int (i / j)) (.int i) (.int j) (.int (i / j)) := rd_I h fun _ => .int _
theorem rd_pow (h : CPow i j) : RD (rI CPow fun i j => .int (i ^ j.toNat)) (.int i) (.int j) (.int (i ^ j.toNat)) := rd_I h fun _ => .int _
theorem rd_lt : RD (rI0 fun i j => .bl (decide (i < j))) (.int i) (.int j) (.bool (decide (i < j))) := rd_I0 fun _ => .bl _
theorem rd_le : RD (rI0 fun i j => .bl (decide (i ≤ j))) (.int i) (.int j) (.bool (decide (i ≤ j))) := rd_I0 fun _ => .bl _
theorem rd_gt : RD (rI0 fun i j => .bl (decide (j < i))) (.int i) (.int j) (.bool (decide (j < i))) := rd_I0 fun _ => .bl _
theorem rd_ge : RD (rI0 fun i j => .bl (decide (j ≤ i))) (.int i) (.int j) (.bool (decide (j ≤ i))) := rd_I0 fun _ => .bl _
theorem rd_eqI : RD rEq (.int i) (.int j) (.bool (decide (i = j))) := fun G1 _ x y s hx hy _ q => by
  rw [hx.int_eq, hy.int_eq]
  refine ⟨rfl, ?_⟩
  have e : decide (V.int i = V.int j) = decide (i = j) := decide_eq_decide.mpr ⟨fun h => V.int.inj h, fun h => congrArg _ h⟩
  rw [e]; exact q _ G1 _ (.refl s) (.bl _)
theorem rd_neI : RD rNe (.int i) (.int j) (.bool (!decide (i = j))) := fun G1 _ x y s hx hy _ q => by
  rw [hx.int_eq, hy.int_eq]
  refine ⟨rfl, ?_⟩
  have e : decide (V.int i = V.int j) = decide (i = j) := decide_eq_decide.mpr ⟨fun h => V.int.inj h, fun h => congrArg _ h⟩
  rw [e]; exact q _ G1 _ (.refl s) (.bl _)
theorem rd_eqS {y z : Str} : RD rEq (.str y) (.str z) (.bool (decide (y = z))) := fun G1 _ u v s hx hy _ q => by
  rw [hx.str_eq, hy.str_eq]
  refine ⟨rfl, ?_⟩
  have e : decide (V.str y = V.str z) = decide (y = z) := decide_eq_decide.mpr ⟨fun h => V.str.inj h, fun h => congrArg _ h⟩
  rw [e]; exact q _ G1 _ (.refl s) (.bl _)
theorem rd_neS {y z : Str} : RD rNe (.str y) (.str z) (.bool (!decide (y = z))) := fun G1 _ u v s hx hy _ q => by
  rw [hx.str_eq, hy.str_eq]
  refine ⟨rfl, ?_⟩
  have e : decide (V.str y = V.str z) = decide (y = z) := decide_eq_decide.mpr ⟨fun h => V.str.inj h, fun h => congrArg _ h⟩
  rw [e]; exact q _ G1 _ (.refl s) (.bl _)
theorem rd_eqB {y z : Bool} : RD rEq (.bool y) (.bool z) (.bool (decide (y = z))) := fun G1 _ u v s hx hy _ q => by
  rw [hx.bl_eq, hy.bl_eq]
  refine ⟨rfl, ?_⟩
  have e : decide (V.bl y = V.bl z) = decide (y = z) := decide_eq_decide.mpr ⟨fun h => V.bl.inj h, fun h => congrArg _ h⟩
  rw [e]; exact q _ G1 _ (.refl s) (.bl _)
theorem rd_neB {y z : Bool} : RD rNe (.bool y) (.bool z) (.bool (!decide (y = z))) := fun G1 _ u v s hx hy _ q => by
  rw [hx.bl_eq, hy.bl_eq]
  refine ⟨rfl, ?_⟩
  have e : decide (V.bl y = V.bl z) = decide (y = z) := decide_eq_decide.mpr ⟨fun h => V.bl.inj h, fun h => congrArg _ h⟩
  rw [e]; exact q _ G1 _ (.refl s) (.bl _)
theorem rd_eqD (h1 : SeqAt.shaped d = true) (h2 : SeqAt.shaped e = true) : RD (rEqD K) d e (.bool (PyData.eqv d e)) := fun G1 _ _ _ s x y _ q =>
  ⟨d, e, (x.mono s).dp (SeqAt.canLay_of_shaped h1), (y.mono s).dp (SeqAt.canLay_of_shaped h2), h1, h2, q _ G1 _ (.refl s) (.bl _)⟩
theorem rd_neD (h1 : SeqAt.shaped d = true) (h2 : SeqAt.shaped e = true) : RD (rNeD K) d e (.bool (!PyData.eqv d e)) := fun G1 _ _ _ s x y _ q =>
  ⟨d, e, (x.mono s).dp (SeqAt.canLay_of_shaped h1), (y.mono s).dp (SeqAt.canLay_of_shaped h2), h1, h2, q _ G1 _ (.refl s) (.bl _)⟩
theorem atI_dx {G : Hp} {xs : List V} (h : Dxs G xs ds) (e : atI ds i = some d) : ∃ v, atI xs i = some v ∧ Dx G v d := by
  unfold atI at e ⊢
  rw [h.len]
  cases q : ixN ds.length i with
  | none => rw [q] at e; cases e
  | some j => rw [q] at e; exact h.get e
theorem rd_ixL (h : atI ds i = some d) : RD (rIxL K) (.list ds) (.int i) d := fun G1 H1 x y s hx hy Q q => by
  obtain ⟨a, xs, rfl, hl, ha⟩ := hx.lst_eq
  obtain ⟨v, hv, dv⟩ := atI_dx ha h
  exact ⟨a, xs, i, v, rfl, hy.int_eq, Or.inl (Or.inl (s _ _ hl)), hv, q v G1 H1 (.refl s) dv⟩
theorem rd_ixT (h : atI ds i = some d) : RD (rIxT K) (.tuple ds) (.int i) d := fun G1 H1 x y s hx hy Q q => by
  obtain ⟨a, xs, rfl, hl, ha⟩ := hx.tup_eq
  obtain ⟨v, hv, dv⟩ := atI_dx ha h
  exact ⟨a, xs, i, v, rfl, hy.int_eq, Or.inl (Or.inl (s _ _ hl)), hv, q v G1 H1 (.refl s) dv⟩
theorem rd_ixS {z : Str} {c : Nat} (hl : z.length ≤ 100000) (h : atI z.cps.toList i = some c) : RD rIxS (.str z) (.int i) (.str ⟨#[c]⟩) := fun G1 H1 x y s hx hy Q q =>
  ⟨z, i, c, hx.str_eq, hy.int_eq, Evl.sz_of hl, h, q _ G1 H1 (.refl s) (.str _)⟩
theorem rd_cat (hl : ds.length + es.length ≤ 100000) : RM rCat (.list ds) (.list es) (ds ++ es) := fun G1 H1 x y s hx hy Q q => by
  obtain ⟨a, xs, rfl, ha, dxs⟩ := hx.lst_eq
  obtain ⟨b, ys, rfl, hb, dys⟩ := hy.lst_eq
  exact ⟨a, b, xs, ys, rfl, rfl, s _ _ ha, s _ _ hb, Evl.sz_of (by rw [dxs.len, dys.len]; exact hl), fun p hp => q p _ G1 _ ((Gr.refl s).own hp) hp (s.none hp) upd_same (dxs.app dys)⟩
theorem dxs_rep {G : Hp} {xs : List V} (h : Dxs G xs ds) : ∀ n : Nat, Dxs G (List.replicate n xs).flatten (List.replicate n ds).flatten
  | 0 => .nil
  | n + 1 => by rw [List.replicate_succ, List.replicate_succ, List.flatten_cons, List.flatten_cons]; exact h.app (dxs_rep h n)
theorem rd_rep (h1 : -(2 ^ 63) ≤ i) (h2 : i < 2 ^ 63) (hl : ds.length * i.toNat ≤ 100000) : RM rRep (.list ds) (.int i) (List.replicate i.toNat ds).flatten := fun G1 H1 x y s hx hy Q q => by
  obtain ⟨a, xs, rfl, ha, dxs⟩ := hx.lst_eq
  exact ⟨a, i, xs, rfl, hy.int_eq, s _ _ ha, h1, h2, Evl.sz_of (by rw [dxs.len]; exact hl), fun p hp => q p _ G1 _ ((Gr.refl s).own hp) hp (s.none hp) upd_same (dxs_rep dxs _)⟩
theorem rd_addS {y z : Str} (h : y.length + z.length ≤ 100000) : RD (fun x y H Q => ∃ i j, x = .str i ∧ y = .str j ∧ i.length + j.length ≤ sizeLine ∧ Q (.str (i ++ j)) H) (.str y) (.str z) (.str (y ++ z)) := fun G1 _ _ _ s hx hy _ q =>
  ⟨y, z, hx.str_eq, hy.str_eq, Evl.sz_of h, q _ G1 _ (.refl s) (.str _)⟩
def cutD (xs : List PyData) (lo hi : Option Int) : List PyData := (xs.drop (HT.sIx xs.length 0 lo)).take (HT.sIx xs.length xs.length hi - HT.sIx xs.length 0 lo)
theorem ev_sl {σ : L2.St} {G H : Hp} {te : TE} {tl th : TO} {lo hi : Option Int} (h : EvD te σ G H (.list ds)) (h1 : EvO tl σ G H lo) (h2 : EvO th σ G H hi) : EvM (tSl (rSlL K) te tl th) σ G H (cutD ds lo hi) := fun G1 H1 a Q q =>
  h G1 H1 a _ fun v G2 H2 g x => h1 G2 H2 (a.trans g) _ fun G3 H3 g3 => h2 G3 H3 (a.trans (g.trans g3)) _ fun G4 H4 g4 => by
    obtain ⟨p, xs, rfl, hp, dxs⟩ := (x.mono (g3.g.trans g4.g)).lst_eq
    have gg := g.trans (g3.trans g4)
    refine ⟨p, xs, rfl, Or.inl (Or.inl (gg.s _ _ hp)), fun l hl => q l _ G4 _ (gg.own hl) (gg.free hl) (gg.s.none hl) upd_same ?_⟩
    unfold cutV cutD
    rw [dxs.len]
    exact (dxs.drop _).take _
theorem ev_slS {σ : L2.St} {G H : Hp} {te : TE} {tl th : TO} {lo hi : Option Int} {z : Str} (h : EvD te σ G H (.str z)) (h1 : EvO tl σ G H lo) (h2 : EvO th σ G H hi) (hz : z.length ≤ 100000) : EvD (tSl rSlS te tl th) σ G H (.str (cutS z lo hi)) := fun G1 H1 a Q q =>
  h G1 H1 a _ fun v G2 H2 g x => h1 G2 H2 (a.trans g) _ fun G3 H3 g3 => h2 G3 H3 (a.trans (g.trans g3)) _ fun G4 H4 g4 =>
    ⟨z, x.str_eq, Evl.sz_of hz, q _ G4 H4 (g.trans (g3.trans g4)) (.str _)⟩
/-! builtin calls -/
theorem cd_lenL : CD (fun xs H Q => ∃ p ys, xs = [.ref p] ∧ (SqL K H p ys ∨ SqT K H p ys) ∧ Q (.int ys.length) H) [.list ds] (.int ds.length) := fun G1 H1 vs s h Q q => by
  cases h with | cons h t => cases t with | nil =>
    obtain ⟨a, xs, rfl, ha, dxs⟩ := h.lst_eq
    refine ⟨a, xs, rfl, Or.inl (Or.inl (Or.inl (s _ _ ha))), ?_⟩
    rw [dxs.len]; exact q _ G1 H1 (.refl s) (.int _)
theorem cd_lenT : CD (fun xs H Q => ∃ p ys, xs = [.ref p] ∧ (SqL K H p ys ∨ SqT K H p ys) ∧ Q (.int ys.length) H) [.tuple ds] (.int ds.length) := fun G1 H1 vs s h Q q => by
  cases h with | cons h t => cases t with | nil =>
    obtain ⟨a, xs, rfl, ha, dxs⟩ := h.tup_eq
    refine ⟨a, xs, rfl, Or.inr (Or.inl (Or.inl (s _ _ ha))), ?_⟩
    rw [dxs.len]; exact q _ G1 H1 (.refl s) (.int _)
theorem cd_lenS {z : Str} (hz : z.length ≤ 100000) : CD (fun xs H Q => ∃ z, xs = [.str z] ∧ z.length ≤ sizeLine ∧ Q (.int z.length) H) [.str z] (.int z.length) := fun G1 H1 vs s h Q q => by
  cases h with | cons h t => cases t with | nil =>
    exact ⟨z, by rw [h.str_eq], Evl.sz_of hz, q _ G1 H1 (.refl s) (.int _)⟩
theorem cd_abs : CD (fun xs H Q => ∃ i, xs = [.int i] ∧ Q (.int (if i < 0 then -i else i)) H) [.int i] (.int (if i < 0 then -i else i)) := fun G1 H1 vs s h Q q => by
  cases h with | cons h t => cases t with | nil => exact ⟨i, by rw [h.int_eq], q _ G1 H1 (.refl s) (.int _)⟩
theorem cd_intB {b : Bool} : CD (fun xs H Q => (∃ i, xs = [.int i] ∧ Q (.int i) H) ∨ ∃ k, xs = [.bl k] ∧ Q (.int (if k then 1 else 0)) H) [.bool b] (.int (if b then 1 else 0)) := fun G1 H1 vs s h Q q => by
  cases h with | cons h t => cases t with | nil => exact Or.inr ⟨b, by rw [h.bl_eq], q _ G1 H1 (.refl s) (.int _)⟩
theorem cd_max2 : CD (fun xs H Q => ∃ i j, xs = [.int i, .int j] ∧ Q (.int (if j > i then j else i)) H) [.int i, .int j] (.int (if j > i then j else i)) := fun G1 H1 vs s h Q q => by
  cases h with | cons h t => cases t with | cons h2 t => cases t with | nil => exact ⟨i, j, by rw [h.int_eq, h2.int_eq], q _ G1 H1 (.refl s) (.int _)⟩
theorem cd_sum {ns : List Int} : CD (rSum K) [.list (ns.map .int)] (.int ns.sum) := fun G1 H1 vs s h Q q => by
  cases h with | cons h t => cases t with | nil =>
    obtain ⟨a, xs, rfl, ha, dxs⟩ := h.lst_eq
    rw [dxs.ints_eq] at ha
    exact ⟨a, ns, rfl, Or.inl (Or.inl (s _ _ ha)), q _ G1 H1 (.refl s) (.int _)⟩
theorem cd_all {bs : List Bool} : CD (rAll K) [.list (bs.map .bool)] (.bool (bs.all id)) := fun G1 H1 vs s h Q q => by
  cases h with | cons h t => cases t with | nil =>
    obtain ⟨a, xs, rfl, ha, dxs⟩ := h.lst_eq
    rw [dxs.bls_eq] at ha
    exact ⟨a, bs, rfl, Or.inl (Or.inl (s _ _ ha)), q _ G1 H1 (.refl s) (.bl _)⟩
theorem cd_listL : CM (fun xs H Q => ∃ p ys, xs = [.ref p] ∧ (SqL K H p ys ∨ SqT K H p ys) ∧ ∀ l, H l = none → Q (.ref l) (upd H l (.lst ys))) [.list ds] ds := fun G1 H1 vs s h Q q => by
  cases h with | cons h t => cases t with | nil =>
    obtain ⟨a, xs, rfl, ha, dxs⟩ := h.lst_eq
    exact ⟨a, xs, rfl, Or.inl (Or.inl (Or.inl (s _ _ ha))), fun l hl => q l xs G1 _ ((Gr.refl s).own hl) hl (s.none hl) upd_same dxs⟩
theorem cd_listT : CM (fun xs H Q => ∃ p ys, xs = [.ref p] ∧ (SqL K H p ys ∨ SqT K H p ys) ∧ ∀ l, H l = none → Q (.ref l) (upd H l (.lst ys))) [.tuple ds] ds := fun G1 H1 vs s h Q q => by
  cases h with | cons h t => cases t with | nil =>
    obtain ⟨a, xs, rfl, ha, dxs⟩ := h.tup_eq
    exact ⟨a, xs, rfl, Or.inr (Or.inl (Or.inl (s _ _ ha))), fun l hl => q l xs G1 _ ((Gr.refl s).own hl) hl (s.none hl) upd_same dxs⟩
end

/-! ### the promises of defs -/
/-- a value made of the arguments' data; nothing that stood changes -/
def SpD {α : Type} (args : α → List PyData) (pre : α → Prop) (f : α → PyData) : Sp := fun vs H Q _ => ∃ G x, Sb G H ∧ Dxs G vs (args x) ∧ pre x ∧ ∀ v G' H', Gr [] G H G' H' → Dx G' v (f x) → Q v H'
/-- the same, a new list of its own -/
def SpM {α : Type} (args : α → List PyData) (pre : α → Prop) (f : α → List PyData) : Sp := fun vs H Q _ => ∃ G x, Sb G H ∧ Dxs G vs (args x) ∧ pre x ∧ ∀ p xs G' H', Gr [] G H G' H' → H p = none → G' p = none → H' p = some (.lst xs) → Dxs G' xs (f x) → Q (.ref p) H'
section
variable {σ : L2.St} {G H : Hp} {ds : List PyData} {E : XK} {t : TA} {α : Type} {args : α → List PyData} {pre : α → Prop} {f : α → PyData} {fl : α → List PyData}
theorem ev_call (x : α) (h : EvA t σ G H (args x)) (hp : pre x) : EvD (tCall (SpD args pre f) [] E t) σ G H (f x) := fun G1 H1 a Q q =>
  h G1 H1 a _ fun vs G2 H2 g xs => ⟨G2, x, g.s, by rw [List.append_nil]; exact xs, hp, fun v G3 H3 g3 z => q v G3 H3 (g.trans g3) z⟩
theorem ev_callM (x : α) (h : EvA t σ G H (args x)) (hp : pre x) : EvM (tCall (SpM args pre fl) [] E t) σ G H (fl x) := fun G1 H1 a Q q =>
  h G1 H1 a _ fun vs G2 H2 g xs => ⟨G2, x, g.s, by rw [List.append_nil]; exact xs, hp, fun p ys G3 H3 g3 h0 hn h3 z => q p ys G3 H3 (g.trans g3) (g.free h0) hn h3 z⟩
theorem ev_callE {d : PyData} (x : α) (h : EvA t σ G H (args x)) (hp : pre x) (e : f x = d) : EvD (tCall (SpD args pre f) [] E t) σ G H d := e ▸ ev_call x h hp
theorem ev_callME {es : List PyData} (x : α) (h : EvA t σ G H (args x)) (hp : pre x) (e : fl x = es) : EvM (tCall (SpM args pre fl) [] E t) σ G H es := e ▸ ev_callM x h hp
end
theorem dxs1 {G : Hp} {vs : List V} {a : PyData} (h : Dxs G vs [a]) : ∃ x, vs = [x] ∧ Dx G x a := by
  cases h with | cons h t => cases t with | nil => exact ⟨_, rfl, h⟩
theorem dxs2 {G : Hp} {vs : List V} {a b : PyData} (h : Dxs G vs [a, b]) : ∃ x y, vs = [x, y] ∧ Dx G x a ∧ Dx G y b := by
  cases h with | cons h t => obtain ⟨y, rfl, hy⟩ := dxs1 t; exact ⟨_, y, rfl, h, hy⟩
theorem dxs3 {G : Hp} {vs : List V} {a b c : PyData} (h : Dxs G vs [a, b, c]) : ∃ x y z, vs = [x, y, z] ∧ Dx G x a ∧ Dx G y b ∧ Dx G z c := by
  cases h with | cons h t => obtain ⟨y, z, rfl, hy, hz⟩ := dxs2 t; exact ⟨_, y, z, rfl, h, hy, hz⟩
theorem dxs4 {G : Hp} {vs : List V} {a b c d : PyData} (h : Dxs G vs [a, b, c, d]) : ∃ x y z w, vs = [x, y, z, w] ∧ Dx G x a ∧ Dx G y b ∧ Dx G z c ∧ Dx G w d := by
  cases h with | cons h t => obtain ⟨y, z, w, rfl, hy, hz, hw⟩ := dxs3 t; exact ⟨_, y, z, w, rfl, h, hy, hz, hw⟩
theorem dxs5 {G : Hp} {vs : List V} {a b c d e : PyData} (h : Dxs G vs [a, b, c, d, e]) : ∃ x y z w u, vs = [x, y, z, w, u] ∧ Dx G x a ∧ Dx G y b ∧ Dx G z c ∧ Dx G w d ∧ Dx G u e := by
  cases h with | cons h t => obtain ⟨y, z, w, u, rfl, hy, hz, hw, hu⟩ := dxs4 t; exact ⟨_, y, z, w, u, rfl, h, hy, hz, hw, hu⟩

/-! ### statements -/
section
variable {K : PySem.W.Frag} {σ : L2.St} {G H : Hp} {ta tb te : TE} {tt : TT} {d : PyData} {ds : List PyData} {b : Bool} {D : Ends} {tu tw tz : TS} {i : Nat}
theorem s_asg (h : EvD te σ G H d) (s : Sb G H) (k : ∀ v G1 H1, Gr [] G H G1 H1 → Dx G1 v d → D.nx (σ.set i (some v)) H1) : tAsg te (gName i) D σ H := h G H (.refl s) _ k
theorem s_asgP {P : PyData → Prop} (h : EvP te σ G H P) (s : Sb G H) (k : ∀ v d G1 H1, Gr [] G H G1 H1 → P d → Dx G1 v d → D.nx (σ.set i (some v)) H1) : tAsg te (gName i) D σ H := h G H (.refl s) _ k
theorem s_asgM (h : EvM te σ G H ds) (s : Sb G H) (k : ∀ p xs G1 H1, Gr [] G H G1 H1 → H p = none → G1 p = none → H1 p = some (.lst xs) → Dxs G1 xs ds → D.nx (σ.set i (some (.ref p))) H1) : tAsg te (gName i) D σ H := h G H (.refl s) _ k
theorem s_ret (h : EvD te σ G H d) (s : Sb G H) (k : ∀ v G1 H1, Gr [] G H G1 H1 → Dx G1 v d → D.rt v H1) : tRet te D σ H := h G H (.refl s) _ k
theorem s_retM (h : EvM te σ G H ds) (s : Sb G H) (k : ∀ p xs G1 H1, Gr [] G H G1 H1 → H p = none → G1 p = none → H1 p = some (.lst xs) → Dxs G1 xs ds → D.rt (.ref p) H1) : tRet te D σ H := h G H (.refl s) _ k
theorem s_if (h : EvT tt σ G H b) (s : Sb G H) (h1 : b = true → ∀ G1 H1, Gr [] G H G1 H1 → tu D σ H1) (h2 : b = false → ∀ G1 H1, Gr [] G H G1 H1 → tw D σ H1) : tIfS tt tu tw D σ H := h G H (.refl s) _ fun G1 H1 g => by
  cases b with
  | true => exact iteT (h1 rfl G1 H1 g)
  | false => exact iteF (h2 rfl G1 H1 g)
theorem s_drop (h : EvD te σ G H d) (s : Sb G H) (k : ∀ G1 H1, Gr [] G H G1 H1 → D.nx σ H1) : tDrop te D σ H := h G H (.refl s) _ fun _ G1 H1 g _ => k G1 H1 g
/-- xs.append(e), xs an own list -/
theorem s_app {l : Addr} {xs : List V} (hv : σ[i]? = some (some (.ref l))) (hl : H l = some (.lst xs)) (hn : G l = none) (h : EvD te σ G H d) (s : Sb G H) (hz : xs.length < 100000)
    (k : ∀ v G1 H1, Gr [] G H G1 H1 → Dx G1 v d → Gr [l] G H G1 (upd H1 l (.lst (xs ++ [v]))) → G1 l = none → D.nx σ (upd H1 l (.lst (xs ++ [v])))) :
    tDrop (tBM K "list" rAppend (tVar i) (tCons te tNil)) D σ H :=
  ⟨.ref l, hv, Or.inl ⟨rfl, xs, Or.inl (Or.inl hl)⟩, h G H (.refl s) _ fun v G1 H1 g x =>
    ⟨l, xs, v, rfl, rfl, g.h l _ (by simp) hl, Evl.sz_lt hz, k v G1 H1 g x (g.any.write (Or.inl (by simp)) (g.n l _ hl hn)) (g.n l _ hl hn)⟩⟩
/-! sequences -/
theorem q_asg (h : EvD te σ G H d) (s : Sb G H) (k : ∀ v G1 H1, Gr [] G H G1 H1 → Dx G1 v d → tz D (σ.set i (some v)) H1) : tSeq (tAsg te (gName i)) tz D σ H := s_asg (D := { D with nx := tz D }) h s k
theorem q_asgP {P : PyData → Prop} (h : EvP te σ G H P) (s : Sb G H) (k : ∀ v d G1 H1, Gr [] G H G1 H1 → P d → Dx G1 v d → tz D (σ.set i (some v)) H1) : tSeq (tAsg te (gName i)) tz D σ H := s_asgP (D := { D with nx := tz D }) h s k
theorem q_asgM (h : EvM te σ G H ds) (s : Sb G H) (k : ∀ p xs G1 H1, Gr [] G H G1 H1 → H p = none → G1 p = none → H1 p = some (.lst xs) → Dxs G1 xs ds → tz D (σ.set i (some (.ref p))) H1) : tSeq (tAsg te (gName i)) tz D σ H := s_asgM (D := { D with nx := tz D }) h s k
theorem q_if (h : EvT tt σ G H b) (s : Sb G H) (h1 : b = true → ∀ G1 H1, Gr [] G H G1 H1 → tu { D with nx := tz D } σ H1) (h2 : b = false → ∀ G1 H1, Gr [] G H G1 H1 → tw { D with nx := tz D } σ H1) : tSeq (tIfS tt tu tw) tz D σ H := s_if (D := { D with nx := tz D }) h s h1 h2
theorem q_when (h : EvT tt σ G H b) (s : Sb G H) (h1 : b = true → ∀ G1 H1, Gr [] G H G1 H1 → tu { D with nx := tz D } σ H1) (h2 : b = false → ∀ G1 H1, Gr [] G H G1 H1 → tz D σ H1) : tSeq (tIfS tt tu tNext) tz D σ H := s_if (D := { D with nx := tz D }) h s h1 h2
theorem q_drop (h : EvD te σ G H d) (s : Sb G H) (k : ∀ G1 H1, Gr [] G H G1 H1 → tz D σ H1) : tSeq (tDrop te) tz D σ H := s_drop (D := { D with nx := tz D }) h s k
theorem q_app {l : Addr} {xs : List V} (hv : σ[i]? = some (some (.ref l))) (hl : H l = some (.lst xs)) (hn : G l = none) (h : EvD te σ G H d) (s : Sb G H) (hz : xs.length < 100000)
    (k : ∀ v G1 H1, Gr [] G H G1 H1 → Dx G1 v d → Gr [l] G H G1 (upd H1 l (.lst (xs ++ [v]))) → G1 l = none → tz D σ (upd H1 l (.lst (xs ++ [v])))) :
    tSeq (tDrop (tBM K "list" rAppend (tVar i) (tCons te tNil))) tz D σ H := s_app (D := { D with nx := tz D }) hv hl hn h s hz k
/-! loops: I, a word of the turn, the slots, the data heap and the heap -/
def Nx (M : List Addr) (G H : Hp) (I : Nat → L2.St → Hp → Hp → Prop) (n : Nat) : L2.St → Hp → Prop := fun σ' H' => ∃ G', Gr M G H G' H' ∧ I n σ' G' H'
theorem s_forL {tl : TE} {g : TG} (M : List Addr) (I : Nat → L2.St → Hp → Hp → Prop) (h : EvD tl σ G H (.list ds)) (s : Sb G H) (h0 : ∀ G1 H1, Gr [] G H G1 H1 → I 0 σ G1 H1)
    (hs : ∀ G1 H1, Gr [] G H G1 H1 → ∀ n d v σ' G' H', ds[n]? = some d → Dx G' v d → Gr M G1 H1 G' H' → I n σ' G' H' → g v σ' H' fun σ2 H2 => tu { D with nx := Nx M G1 H1 I (n + 1), ct := Nx M G1 H1 I (n + 1), bk := D.nx } σ2 H2)
    (hd : ∀ σ' G' H', Gr M G H G' H' → I ds.length σ' G' H' → D.nx σ' H') : tFor (iList K tl) g tu D σ H :=
  h G H (.refl s) _ fun v G1 H1 g1 x => by
    obtain ⟨a, xs, rfl, ha, dxs⟩ := x.lst_eq
    refine ⟨a, rfl, ⟨xs, Or.inl (Or.inl (g1.s _ _ ha))⟩, for_list (xs := xs) (Nx M G1 H1 I) ⟨G1, .refl g1.s, h0 G1 H1 g1⟩ (fun n σ' H' _ p => ?_) (fun n x σ' H' hx p => ?_) (fun σ' H' p => ?_)⟩
    · obtain ⟨G', g', _⟩ := p
      exact Or.inl (Or.inl (g'.s _ _ (g'.g _ _ ha)))
    · obtain ⟨G', g', w⟩ := p
      obtain ⟨d, hd1, hd2⟩ := dxs.getV hx
      exact hs G1 H1 g1 n d x σ' G' H' hd1 (hd2.mono g'.g) g' w
    · obtain ⟨G', g', w⟩ := p
      rw [dxs.len] at w
      exact hd σ' G' H' (g1.any.trans g') w
theorem s_forT {tl : TE} {g : TG} (M : List Addr) (I : Nat → L2.St → Hp → Hp → Prop) (h : EvD tl σ G H (.tuple ds)) (s : Sb G H) (h0 : ∀ G1 H1, Gr [] G H G1 H1 → I 0 σ G1 H1)
    (hs : ∀ G1 H1, Gr [] G H G1 H1 → ∀ n d v σ' G' H', ds[n]? = some d → Dx G' v d → Gr M G1 H1 G' H' → I n σ' G' H' → g v σ' H' fun σ2 H2 => tu { D with nx := Nx M G1 H1 I (n + 1), ct := Nx M G1 H1 I (n + 1), bk := D.nx } σ2 H2)
    (hd : ∀ σ' G' H', Gr M G H G' H' → I ds.length σ' G' H' → D.nx σ' H') : tFor (iTup K tl) g tu D σ H :=
  h G H (.refl s) _ fun v G1 H1 g1 x => by
    obtain ⟨a, xs, rfl, ha, dxs⟩ := x.tup_eq
    refine ⟨a, rfl, ⟨xs, Or.inl (Or.inl (g1.s _ _ ha))⟩, for_tup (xs := xs) (Nx M G1 H1 I) ⟨G1, .refl g1.s, h0 G1 H1 g1⟩ (fun n σ' H' _ p => ?_) (fun n x σ' H' hx p => ?_) (fun σ' H' p => ?_)⟩
    · obtain ⟨G', g', _⟩ := p
      exact Or.inl (Or.inl (g'.s _ _ (g'.g _ _ ha)))
    · obtain ⟨G', g', w⟩ := p
      obtain ⟨d, hd1, hd2⟩ := dxs.getV hx
      exact hs G1 H1 g1 n d x σ' G' H' hd1 (hd2.mono g'.g) g' w
    · obtain ⟨G', g', w⟩ := p
      rw [dxs.len] at w
      exact hd σ' G' H' (g1.any.trans g') w
/-- for i in range(m) -/
theorem s_forR {t : TA} {j : Nat} {m : Int} (M : List Addr) (I : Nat → L2.St → Hp → Hp → Prop) (h : EvA t σ G H [.int m]) (hm : 0 ≤ m ∧ m ≤ 100000) (s : Sb G H) (h0 : ∀ G1 H1, Gr [] G H G1 H1 → I 0 σ G1 H1)
    (hs : ∀ G1 H1, Gr [] G H G1 H1 → ∀ (n : Nat) σ' G' H', (n : Int) < m → Gr M G1 H1 G' H' → I n σ' G' H' → tu { D with nx := Nx M G1 H1 I (n + 1), ct := Nx M G1 H1 I (n + 1), bk := D.nx } (σ'.set j (some (.int (n : Int)))) H')
    (hd : ∀ σ' G' H', Gr M G H G' H' → I m.toNat σ' G' H' → D.nx σ' H') : tFor (iRng1 t) (gName j) tu D σ H :=
  h G H (.refl s) _ fun vs G1 H1 g1 x => by
    obtain ⟨v, rfl, hv⟩ := dxs1 x
    refine ⟨m, by rw [hv.int_eq], by omega, by omega, for_range (lo := 0) (n := m.toNat) (Nx M G1 H1 I) ⟨G1, .refl g1.s, h0 G1 H1 g1⟩ (fun n σ' H' hn p => ?_) (fun σ' H' p => ?_)⟩
    · obtain ⟨G', g', w⟩ := p
      have e0 : (0 : Int) + (n : Int) = (n : Int) := Int.zero_add _
      show tu _ (σ'.set j (some (.int ((0 : Int) + (n : Int))))) H'
      rw [e0]
      exact hs G1 H1 g1 n σ' G' H' (by omega) g' w
    · obtain ⟨G', g', w⟩ := p
      exact hd σ' G' H' (g1.any.trans g') w
theorem q_forL {tl : TE} {g : TG} (M : List Addr) (I : Nat → L2.St → Hp → Hp → Prop) (h : EvD tl σ G H (.list ds)) (s : Sb G H) (h0 : ∀ G1 H1, Gr [] G H G1 H1 → I 0 σ G1 H1)
    (hs : ∀ G1 H1, Gr [] G H G1 H1 → ∀ n d v σ' G' H', ds[n]? = some d → Dx G' v d → Gr M G1 H1 G' H' → I n σ' G' H' → g v σ' H' fun σ2 H2 => tu { D with nx := Nx M G1 H1 I (n + 1), ct := Nx M G1 H1 I (n + 1), bk := tz D } σ2 H2)
    (hd : ∀ σ' G' H', Gr M G H G' H' → I ds.length σ' G' H' → tz D σ' H') : tSeq (tFor (iList K tl) g tu) tz D σ H := s_forL (D := { D with nx := tz D }) M I h s h0 hs hd
theorem q_forT {tl : TE} {g : TG} (M : List Addr) (I : Nat → L2.St → Hp → Hp → Prop) (h : EvD tl σ G H (.tuple ds)) (s : Sb G H) (h0 : ∀ G1 H1, Gr [] G H G1 H1 → I 0 σ G1 H1)
    (hs : ∀ G1 H1, Gr [] G H G1 H1 → ∀ n d v σ' G' H', ds[n]? = some d → Dx G' v d → Gr M G1 H1 G' H' → I n σ' G' H' → g v σ' H' fun σ2 H2 => tu { D with nx := Nx M G1 H1 I (n + 1), ct := Nx M G1 H1 I (n + 1), bk := tz D } σ2 H2)
    (hd : ∀ σ' G' H', Gr M G H G' H' → I ds.length σ' G' H' → tz D σ' H') : tSeq (tFor (iTup K tl) g tu) tz D σ H := s_forT (D := { D with nx := tz D }) M I h s h0 hs hd
theorem q_forR {t : TA} {j : Nat} {m : Int} (M : List Addr) (I : Nat → L2.St → Hp → Hp → Prop) (h : EvA t σ G H [.int m]) (hm : 0 ≤ m ∧ m ≤ 100000) (s : Sb G H) (h0 : ∀ G1 H1, Gr [] G H G1 H1 → I 0 σ G1 H1)
    (hs : ∀ G1 H1, Gr [] G H G1 H1 → ∀ (n : Nat) σ' G' H', (n : Int) < m → Gr M G1 H1 G' H' → I n σ' G' H' → tu { D with nx := Nx M G1 H1 I (n + 1), ct := Nx M G1 H1 I (n + 1), bk := tz D } (σ'.set j (some (.int (n : Int)))) H')
    (hd : ∀ σ' G' H', Gr M G H G' H' → I m.toNat σ' G' H' → tz D σ' H') : tSeq (tFor (iRng1 t) (gName j) tu) tz D σ H := s_forR (D := { D with nx := tz D }) M I h hm s h0 hs hd
end

/-! ### comprehensions -/
def given {β : Type} (n : Nat) (f : Nat → Bool) (v : Nat → β) : List β := ((List.range n).filter f).map v
theorem given_yes {β : Type} {n : Nat} {f : Nat → Bool} {v : Nat → β} (h : f n = true) : given (n + 1) f v = given n f v ++ [v n] := by
  unfold given
  rw [List.range_succ, List.filter_append, List.map_append, List.filter_cons, if_pos h] <;> rfl
theorem given_no {β : Type} {n : Nat} {f : Nat → Bool} {v : Nat → β} (h : f n = false) : given (n + 1) f v = given n f v := by
  unfold given
  rw [List.range_succ, List.filter_append, List.map_append, List.filter_cons, if_neg (by rw [h]; decide)]
  show _ ++ [] = _
  rw [List.append_nil]
theorem given_len {β : Type} (n : Nat) (f : Nat → Bool) (v : Nat → β) : (given n f v).length ≤ n := by
  unfold given
  rw [List.length_map]
  have h := List.length_filter_le f (List.range n)
  rw [List.length_range] at h
  exact h
section
variable {K : PySem.W.Frag} {σ : L2.St} {G H : Hp} {ta tb te : TE} {tt : TT} {d : PyData} {ds : List PyData}
/-- while the new list at l is being filled -/
def Cw (G H : Hp) (f : Nat → Bool) (v : Nat → PyData) (l : Addr) (i : Nat) (H' : Hp) : Prop := ∃ G' xs, Gr [] G H G' H' ∧ G' l = none ∧ H' l = some (.lst xs) ∧ Dxs G' xs (given i f v)
theorem cw_turn {H' : Hp} {f : Nat → Bool} {v : Nat → PyData} {l : Addr} {i : Nat} {σ2 : L2.St} (hl : H l = none) (p : Cw G H f v l i H') (hi : i < 50000)
    (ht : EvT tt σ2 G H (f i)) (he : f i = true → EvD te σ2 G H (v i)) :
    tt σ2 H' fun b H3 => if b = true then te σ2 H3 fun y H4 => ∃ acc, H4 l = some (.lst acc) ∧ acc.length < sizeLine ∧ Cw G H f v l (i + 1) (upd H4 l (.lst (acc ++ [y]))) else Cw G H f v l (i + 1) H3 := by
  obtain ⟨G', xs, g, hn', hx, dx⟩ := p
  refine ht G' H' g _ fun G3 H3 g3 => ?_
  cases hf : f i with
  | true =>
    refine iteT (he hf G3 H3 (g.trans g3) _ fun y G4 H4 g4 hy => ?_)
    have g34 := g3.trans g4
    refine ⟨xs, g34.h l _ (by simp) hx, Evl.sz_lt (by rw [dx.len]; have := given_len i f v; omega), G4, xs ++ [y], ?_, g34.n l _ hx hn', upd_same, ?_⟩
    · exact (g.trans g34).write (Or.inr hl) (g34.n l _ hx hn')
    · rw [given_yes hf]
      exact (dx.mono g34.g).app (Dxs.one hy)
  | false =>
    refine iteF ⟨G3, xs, g.trans g3, g3.n l _ hx hn', g3.h l _ (by simp) hx, ?_⟩
    rw [given_no hf]
    exact dx.mono g3.g
/-- [e for j in range(m) if t] -/
theorem ev_lcR {t : TA} {j : Nat} {vs : List Nat} {m : Int} (f : Nat → Bool) (v : Nat → PyData) (h : EvA t σ G H [.int m]) (hm : 0 ≤ m ∧ m ≤ 40000) (hw : ∀ x, wipe ((wipe σ vs).set j (some x)) vs = wipe σ vs)
    (ht : ∀ (i : Nat), (i : Int) < m → EvT tt ((wipe σ vs).set j (some (.int (i : Int)))) G H (f i)) (he : ∀ (i : Nat), (i : Int) < m → f i = true → EvD te ((wipe σ vs).set j (some (.int (i : Int)))) G H (v i)) :
    EvM (tLc (iRng1 t) (gName j) tt te vs) σ G H (given m.toNat f v) := fun G0 H0 a Q q => h G0 H0 a _ fun us G1 H1 g1 x => by
  obtain ⟨u, rfl, hu⟩ := dxs1 x
  have gg := a.trans g1
  refine ⟨m, by rw [hu.int_eq], by omega, by omega, fun l hl => lc_range (lo := 0) (n := m.toNat) (Cw G1 H1 f v l) ⟨G1, [], (Gr.refl g1.s).own hl, g1.s.none hl, upd_same, by exact .nil⟩ (fun i H' hi p => ?_) (fun H' p => ?_)⟩
  · have e0 : (0 : Int) + (i : Int) = (i : Int) := Int.zero_add _
    show wipe ((wipe σ vs).set j (some (.int ((0 : Int) + (i : Int))))) vs = wipe σ vs ∧ tt ((wipe σ vs).set j (some (.int ((0 : Int) + (i : Int))))) H' _
    rw [e0]
    exact ⟨hw _, cw_turn hl p (by omega) ((ht i (by omega)).mono gg) (fun hf => (he i (by omega) hf).mono gg)⟩
  · obtain ⟨G', xs, k1, k2, k3, k4⟩ := p
    exact q l xs G' H' (g1.trans k1) (g1.free hl) k2 k3 k4
/-- [e for x in xs if t], the target any -/
theorem ev_lcL {tl : TE} {g : TG} {vs : List Nat} (f : Nat → Bool) (v : Nat → PyData) (h : EvD tl σ G H (.list ds)) (hz : ds.length ≤ 40000)
    (ht : ∀ (i : Nat) (d : PyData) (x : V) G1 H1 H' (Q : L2.St → Hp → Prop), Gr [] G H G1 H1 → ds[i]? = some d → Dx G1 x d → Sb G1 H' → (∀ σ2, wipe σ2 vs = wipe σ vs → EvT tt σ2 G1 H1 (f i) → (f i = true → EvD te σ2 G1 H1 (v i)) → Q σ2 H') → g x (wipe σ vs) H' Q) :
    EvM (tLc (iList K tl) g tt te vs) σ G H (given ds.length f v) := fun G0 H0 a Q q => h G0 H0 a _ fun u G1 H1 g1 x => by
  obtain ⟨p, xs, rfl, hp, dxs⟩ := x.lst_eq
  refine ⟨p, rfl, ⟨xs, Or.inl (Or.inl (g1.s _ _ hp))⟩, fun l hl => lc_list (xs := xs) (Cw G1 H1 f v l) ⟨G1, [], (Gr.refl g1.s).own hl, g1.s.none hl, upd_same, by exact .nil⟩ (fun i H' _ w => ?_) (fun i x H' hx w => ?_) (fun H' w => ?_)⟩
  · obtain ⟨G', ys, gg, _, _⟩ := w
    exact Or.inl (Or.inl (gg.s _ _ (gg.g _ _ hp)))
  · obtain ⟨d, hd1, hd2⟩ := dxs.getV hx
    have hi : i < ds.length := (List.getElem?_eq_some_iff.mp hd1).1
    have w0 := w
    obtain ⟨G', ys, gg, _, _⟩ := w0
    refine ht i d x G1 H1 H' _ (a.trans g1) hd1 hd2 (gg.g.trans gg.s) fun σ2 hw h1 h2 => ⟨hw, ?_⟩
    exact cw_turn hl w (by omega) h1 h2
  · rw [dxs.len] at w
    obtain ⟨G', xs, k1, k2, k3, k4⟩ := w
    exact q l xs G' H' (g1.trans k1) (g1.free hl) k2 k3 k4
theorem ev_lcT {tl : TE} {g : TG} {vs : List Nat} (f : Nat → Bool) (v : Nat → PyData) (h : EvD tl σ G H (.tuple ds)) (hz : ds.length ≤ 40000)
    (ht : ∀ (i : Nat) (d : PyData) (x : V) G1 H1 H' (Q : L2.St → Hp → Prop), Gr [] G H G1 H1 → ds[i]? = some d → Dx G1 x d → Sb G1 H' → (∀ σ2, wipe σ2 vs = wipe σ vs → EvT tt σ2 G1 H1 (f i) → (f i = true → EvD te σ2 G1 H1 (v i)) → Q σ2 H') → g x (wipe σ vs) H' Q) :
    EvM (tLc (iTup K tl) g tt te vs) σ G H (given ds.length f v) := fun G0 H0 a Q q => h G0 H0 a _ fun u G1 H1 g1 x => by
  obtain ⟨p, xs, rfl, hp, dxs⟩ := x.tup_eq
  refine ⟨p, rfl, ⟨xs, Or.inl (Or.inl (g1.s _ _ hp))⟩, fun l hl => lc_tup (xs := xs) (Cw G1 H1 f v l) ⟨G1, [], (Gr.refl g1.s).own hl, g1.s.none hl, upd_same, by exact .nil⟩ (fun i H' _ w => ?_) (fun i x H' hx w => ?_) (fun H' w => ?_)⟩
  · obtain ⟨G', ys, gg, _, _⟩ := w
    exact Or.inl (Or.inl (gg.s _ _ (gg.g _ _ hp)))
  · obtain ⟨d, hd1, hd2⟩ := dxs.getV hx
    have hi : i < ds.length := (List.getElem?_eq_some_iff.mp hd1).1
    have w0 := w
    obtain ⟨G', ys, gg, _, _⟩ := w0
    refine ht i d x G1 H1 H' _ (a.trans g1) hd1 hd2 (gg.g.trans gg.s) fun σ2 hw h1 h2 => ⟨hw, ?_⟩
    exact cw_turn hl w (by omega) h1 h2
  · rw [dxs.len] at w
    obtain ⟨G', xs, k1, k2, k3, k4⟩ := w
    exact q l xs G' H' (g1.trans k1) (g1.free hl) k2 k3 k4
/-- .. the target a name -/
theorem ev_lcLn {tl : TE} {j : Nat} {vs : List Nat} (f : Nat → Bool) (v : Nat → PyData) (h : EvD tl σ G H (.list ds)) (hz : ds.length ≤ 40000) (hw : ∀ x, wipe ((wipe σ vs).set j (some x)) vs = wipe σ vs)
    (ht : ∀ (i : Nat) (d : PyData) (x : V) G1 H1, Gr [] G H G1 H1 → ds[i]? = some d → Dx G1 x d → EvT tt ((wipe σ vs).set j (some x)) G1 H1 (f i)) (he : ∀ (i : Nat) (d : PyData) (x : V) G1 H1, Gr [] G H G1 H1 → ds[i]? = some d → Dx G1 x d → f i = true → EvD te ((wipe σ vs).set j (some x)) G1 H1 (v i)) :
    EvM (tLc (iList K tl) (gName j) tt te vs) σ G H (given ds.length f v) := ev_lcL f v h hz fun i d x G1 H1 H' Q s hd hx _ q => q _ (hw x) (ht i d x G1 H1 s hd hx) (he i d x G1 H1 s hd hx)
theorem ev_lcTn {tl : TE} {j : Nat} {vs : List Nat} (f : Nat → Bool) (v : Nat → PyData) (h : EvD tl σ G H (.tuple ds)) (hz : ds.length ≤ 40000) (hw : ∀ x, wipe ((wipe σ vs).set j (some x)) vs = wipe σ vs)
    (ht : ∀ (i : Nat) (d : PyData) (x : V) G1 H1, Gr [] G H G1 H1 → ds[i]? = some d → Dx G1 x d → EvT tt ((wipe σ vs).set j (some x)) G1 H1 (f i)) (he : ∀ (i : Nat) (d : PyData) (x : V) G1 H1, Gr [] G H G1 H1 → ds[i]? = some d → Dx G1 x d → f i = true → EvD te ((wipe σ vs).set j (some x)) G1 H1 (v i)) :
    EvM (tLc (iTup K tl) (gName j) tt te vs) σ G H (given ds.length f v) := ev_lcT f v h hz fun i d x G1 H1 H' Q s hd hx _ q => q _ (hw x) (ht i d x G1 H1 s hd hx) (he i d x G1 H1 s hd hx)
end

/-! ### names of the built-ins -/
structure Bi (mg : Str → Option Value) : Prop where
  len : mg "len" = none
  range : mg "range" = none
  abs : mg "abs" = none
  int_ : mg "int" = none
  sum : mg "sum" = none
  isinstance : mg "isinstance" = none
  tuple : mg "tuple" = none
  list : mg "list" = none
  all : mg "all" = none
  bool : mg "bool" = none
  max : mg "max" = none
  enumerate : mg "enumerate" = none
  sorted : mg "sorted" = none
  str_ : mg "str" = none
/-! ### lists beside the data -/
theorem sq_gr {K : PySem.W.Frag} {M : List Addr} {G H G' H' : Hp} {a : Addr} {xs : List V} (g : Gr M G H G' H') (hm : a ∉ M) (h : SqL K H a xs) : SqL K H' a xs := by
  rcases h with (h | ⟨o, h⟩) | h
  · exact Or.inl (Or.inl (g.h a _ hm h))
  · exact Or.inl (Or.inr ⟨o, g.h a _ hm h⟩)
  · exact Or.inr h
theorem rd_fdivW {i j : Int} (h : CDivW i j) : RD (rI CDivW fun i j => .int (i / j)) (.int i) (.int j) (.int (i / j)) := rd_I h fun _ => .int _
theorem atI_int {ns : List Int} {i : Int} (h0 : 0 ≤ i) (h : i < ns.length) : atI (ns.map PyData.int) i = some (.int (ns.getD i.toNat 0)) := by
  obtain ⟨k, rfl⟩ : ∃ k : Nat, i = (k : Int) := ⟨i.toNat, by omega⟩
  have hk : k < ns.length := by omega
  refine atI_nat ?_
  rw [List.getElem?_map, List.getElem?_eq_getElem hk]
  show some (PyData.int ns[k]) = some (PyData.int (ns.getD k 0))
  rw [List.getD_eq_getElem?_getD, List.getElem?_eq_getElem hk]
  rfl

/-! ### one own list at l, seen from (B, C) where it was not yet written so -/
structure Ow (B C G H : Hp) (l : Addr) (xs : List V) : Prop where
  g : Gr [l] B C G H
  hl : H l = some (.lst xs)
  hn : G l = none
theorem Ow.s {B C G H : Hp} {l : Addr} {xs : List V} (o : Ow B C G H l xs) : Sb G H := o.g.s
theorem Ow.mk0 {B C G H : Hp} {l : Addr} {xs : List V} (g : Gr [] B C G H) (hl : H l = some (.lst xs)) (hn : G l = none) : Ow B C G H l xs := ⟨g.any, hl, hn⟩
theorem Ow.step {B C G H G' H' : Hp} {l : Addr} {xs : List V} (o : Ow B C G H l xs) (g : Gr [] G H G' H') : Ow B C G' H' l xs := ⟨o.g.trans g.any, g.h l _ (by simp) o.hl, g.n l _ o.hl o.hn⟩
theorem Ow.put {B C G H G' H' : Hp} {l : Addr} {xs : List V} (o : Ow B C G H l xs) (g : Gr [] G H G' H') (ys : List V) : Ow B C G' (upd H' l (.lst ys)) l ys :=
  ⟨(o.g.trans g.any).write (Or.inl (by simp)) (o.step g).hn, upd_same, (o.step g).hn⟩
/-- a list that is read stays while l is written -/
theorem Ow.sq {K : PySem.W.Frag} {B C G H : Hp} {l a : Addr} {xs ys : List V} (o : Ow B C G H l xs) (h0 : C l = none) (h : SqL K C a ys) : SqL K H a ys := sq_gr (o.g.drop h0) (by simp) h
theorem q_app' {K : PySem.W.Frag} {σ : L2.St} {B C G H : Hp} {te : TE} {d : PyData} {D : Ends} {tz : TS} {i : Nat} {l : Addr} {xs : List V} (o : Ow B C G H l xs) (hv : σ[i]? = some (some (.ref l))) (h : EvD te σ G H d) (hz : xs.length < 100000)
    (k : ∀ v G1 H1, Dx G1 v d → Gr [] G H G1 H1 → Ow B C G1 (upd H1 l (.lst (xs ++ [v]))) l (xs ++ [v]) → tz D σ (upd H1 l (.lst (xs ++ [v])))) :
    tSeq (tDrop (tBM K "list" rAppend (tVar i) (tCons te tNil))) tz D σ H := q_app hv o.hl o.hn h o.s hz fun v G1 H1 g x _ _ => k v G1 H1 x g (o.put g _)
theorem s_app' {K : PySem.W.Frag} {σ : L2.St} {B C G H : Hp} {te : TE} {d : PyData} {D : Ends} {i : Nat} {l : Addr} {xs : List V} (o : Ow B C G H l xs) (hv : σ[i]? = some (some (.ref l))) (h : EvD te σ G H d) (hz : xs.length < 100000)
    (k : ∀ v G1 H1, Dx G1 v d → Gr [] G H G1 H1 → Ow B C G1 (upd H1 l (.lst (xs ++ [v]))) l (xs ++ [v]) → D.nx σ (upd H1 l (.lst (xs ++ [v])))) :
    tDrop (tBM K "list" rAppend (tVar i) (tCons te tNil)) D σ H := s_app hv o.hl o.hn h o.s hz fun v G1 H1 g x _ _ => k v G1 H1 x g (o.put g _)

/-! ### isinstance -/
def tyN : PyData → String
  | .none => "NoneType"
  | .bool _ => "bool"
  | .int _ => "int"
  | .str _ => "str"
  | .list _ => "list"
  | .tuple _ => "tuple"
  | .dict _ => "dict"
theorem dx_ty {K : PySem.W.Frag} {G H : Hp} {v : V} {d : PyData} (s : Sb G H) (x : Dx G v d) : TyX K H v (.type (tyN d)) := by
  cases x with
  | non => exact .base .non
  | bl b => exact .base (.bl b)
  | int i => exact .base (.int i)
  | str z => exact .base (.str z)
  | lst h _ => exact .base (.lst (s _ _ h))
  | tup h _ => exact .base (.tup (s _ _ h))
  | dct h => exact .base (.dK (s _ _ h))
section
variable {K : PySem.W.Frag} {σ : L2.St} {G H : Hp} {ta : TE} {d : PyData}
theorem ev_isi {T : String} {b : Bool} (h : EvD ta σ G H d) (hb : kitB (tyN d) T = some b) : EvD (tCB (rIsi K) (tCons ta (tCons (tC (.ty T)) tNil))) σ G H (.bool b) := fun G1 H1 a Q q =>
  h G1 H1 a _ fun v G2 H2 g x => ⟨v, .ty T, .type (tyN d), .type T, b, rfl, .ty T, dx_ty g.s x, kit_ty hb, q _ G2 H2 g (.bl _)⟩
theorem ev_isiT2 {T U : String} {b c : Bool} (h : EvD ta σ G H d) (hb : kitB (tyN d) T = some b) (hc : kitB (tyN d) U = some c) :
    EvD (tCB (rIsiT K) (tCons ta (tCons (tTup (tCons (tC (.ty T)) (tCons (tC (.ty U)) tNil))) tNil))) σ G H (.bool (b || c)) := fun G1 H1 a Q q =>
  h G1 H1 a _ fun v G2 H2 g x => ⟨by show 2 ≤ sizeLine; decide, fun p hp => ⟨v, p, [.ty T, .ty U], .type (tyN d), [.type T, .type U], b || c, rfl, upd_same, .cons (.ty T) (.cons (.ty U) .nil),
    dx_ty (Sb.new hp) (x.mono g.s), kitAny_cons (kit_ty hb) (fun e => kitAny_cons (kit_ty hc) (fun e2 => by rw [e, e2]; rfl) (fun e2 => by rw [e, e2]; rfl)) (fun e => by rw [e]; rfl),
    q _ G2 _ (g.own hp) (.bl _)⟩⟩
end
theorem kit_NoneType_bool : kitB "NoneType" "bool" = some false := by decide +kernel
theorem kit_NoneType_int : kitB "NoneType" "int" = some false := by decide +kernel
theorem kit_NoneType_str : kitB "NoneType" "str" = some false := by decide +kernel
theorem kit_NoneType_list : kitB "NoneType" "list" = some false := by decide +kernel
theorem kit_NoneType_tuple : kitB "NoneType" "tuple" = some false := by decide +kernel
theorem kit_bool_bool : kitB "bool" "bool" = some true := by decide +kernel
theorem kit_bool_int : kitB "bool" "int" = some true := by decide +kernel
theorem kit_bool_str : kitB "bool" "str" = some false := by decide +kernel
theorem kit_bool_list : kitB "bool" "list" = some false := by decide +kernel
theorem kit_bool_tuple : kitB "bool" "tuple" = some false := by decide +kernel
theorem kit_int_bool : kitB "int" "bool" = some false := by decide +kernel
theorem kit_int_int : kitB "int" "int" = some true := by decide +kernel
theorem kit_int_str : kitB "int" "str" = some false := by decide +kernel
theorem kit_int_list : kitB "int" "list" = some false := by decide +kernel
theorem kit_int_tuple : kitB "int" "tuple" = some false := by decide +kernel
theorem kit_str_bool : kitB "str" "bool" = some false := by decide +kernel
theorem kit_str_int : kitB "str" "int" = some false := by decide +kernel
theorem kit_str_str : kitB "str" "str" = some true := by decide +kernel
theorem kit_str_list : kitB "str" "list" = some false := by decide +kernel
theorem kit_str_tuple : kitB "str" "tuple" = some false := by decide +kernel
theorem kit_list_bool : kitB "list" "bool" = some false := by decide +kernel
theorem kit_list_int : kitB "list" "int" = some false := by decide +kernel
theorem kit_list_str : kitB "list" "str" = some false := by decide +kernel
theorem kit_list_list : kitB "list" "list" = some true := by decide +kernel
theorem kit_list_tuple : kitB "list" "tuple" = some false := by decide +kernel
theorem kit_tuple_bool : kitB "tuple" "bool" = some false := by decide +kernel
theorem kit_tuple_int : kitB "tuple" "int" = some false := by decide +kernel
theorem kit_tuple_str : kitB "tuple" "str" = some false := by decide +kernel
theorem kit_tuple_list : kitB "tuple" "list" = some false := by decide +kernel
theorem kit_tuple_tuple : kitB "tuple" "tuple" = some true := by decide +kernel
/-! ### texts -/
theorem rd_leS {y z : Str} : RD (fun x y H Q => ∃ i j, x = .str i ∧ y = .str j ∧ Q (.bl (!decide (j.cps.toList < i.cps.toList))) H) (.str y) (.str z) (.bool (!decide (z.cps.toList < y.cps.toList))) := fun G1 _ _ _ s hx hy _ q =>
  ⟨y, z, hx.str_eq, hy.str_eq, q _ G1 _ (.refl s) (.bl _)⟩
theorem rd_ltS {y z : Str} : RD (fun x y H Q => ∃ i j, x = .str i ∧ y = .str j ∧ Q (.bl (decide (i.cps.toList < j.cps.toList))) H) (.str y) (.str z) (.bool (decide (y.cps.toList < z.cps.toList))) := fun G1 _ _ _ s hx hy _ q =>
  ⟨y, z, hx.str_eq, hy.str_eq, q _ G1 _ (.refl s) (.bl _)⟩
theorem rd_InC {c : Nat} {z : Str} : RD (fun x y H Q => ∃ (c : Nat) (z : Str), x = .str ⟨#[c]⟩ ∧ y = .str z ∧ Q (.bl (decide (c ∈ z.cps.toList))) H) (.str ⟨#[c]⟩) (.str z) (.bool (decide (c ∈ z.cps.toList))) := fun G1 _ _ _ s hx hy _ q =>
  ⟨c, z, hx.str_eq, hy.str_eq, q _ G1 _ (.refl s) (.bl _)⟩
def repS (z : Str) (n : Int) : Str := if (n == 1 || z.length == 0) = true then z else ⟨(List.replicate n.toNat z.cps).foldl (· ++ ·) #[]⟩
theorem rep_size (a : Array Nat) : ∀ (k : Nat) (acc : Array Nat), ((List.replicate k a).foldl (· ++ ·) acc).size = acc.size + k * a.size
  | 0, acc => by simp
  | k + 1, acc => by
    rw [List.replicate_succ, List.foldl_cons, rep_size a k, Array.size_append, Nat.succ_mul]; omega
theorem repS_len {z : Str} {n : Int} (h : 1 ≤ n) : (repS z n).length = z.length * n.toNat := by
  unfold repS
  split
  · rename_i h2
    rw [Bool.or_eq_true] at h2
    rcases h2 with h2 | h2
    · have e : n = 1 := by simpa using h2
      subst e; simp
    · have e : z.length = 0 := by simpa using h2
      rw [e]; simp
  · show ((List.replicate n.toNat z.cps).foldl (· ++ ·) #[]).size = z.cps.size * n.toNat
    rw [rep_size]; simp [Nat.mul_comm]
theorem repS_mem {z : Str} {n : Int} {P : Nat → Prop} (h : ∀ c ∈ z.cps.toList, P c) : ∀ c ∈ (repS z n).cps.toList, P c := by
  have go : ∀ (k : Nat) (acc : Array Nat), (∀ c ∈ acc.toList, P c) → ∀ c ∈ ((List.replicate k z.cps).foldl (· ++ ·) acc).toList, P c := by
    intro k
    induction k with
    | zero => intro acc ha c hc; exact ha c hc
    | succ k ih =>
      intro acc ha c hc
      rw [List.replicate_succ, List.foldl_cons] at hc
      refine ih _ (fun c hc => ?_) c hc
      rw [Array.toList_append] at hc
      rcases List.mem_append.mp hc with h1 | h1
      · exact ha c h1
      · exact h c h1
  unfold repS
  split
  · exact h
  · exact go _ _ (by simp)
def rRepS : R2 := fun x y H Q => ∃ (z : Str) (n : Int), x = .str z ∧ y = .int n ∧ (1 ≤ n ∧ n ≤ 1000 ∧ z.length ≤ 1000) ∧ Q (.str (repS z n)) H
theorem op_repS {X : Cx} : OpR X (binaryOp .Mult) rRepS := by
  intro pins s σ H x y v u Q I rx ry h
  obtain ⟨z, n, rfl, rfl, ⟨h1, h2, h3⟩, q⟩ := h
  obtain ⟨t, rfl⟩ := rx
  obtain ⟨t', rfl⟩ := ry
  have e1 : decide (n < -(2 ^ 63 : Int)) = false := decide_eq_false (by omega)
  have e2 : decide (n ≥ (2 ^ 63 : Int)) = false := decide_eq_false (by omega)
  have hm : z.length * n.toNat ≤ 1000 * 1000 := Nat.mul_le_mul h3 (by omega)
  refine PySem.P.mul_str (by rw [e1, e2]; rfl) (fun _ _ => ?_) (fun _ _ => ?_) ?_
  · have h4 : (2 ^ 63 - 1 : Int) / n ≥ 1000 := by
      refine Int.le_ediv_of_mul_le (by omega) ?_
      have : (1000 : Int) * n ≤ 1000 * 1000 := by omega
      omega
    omega
  · unfold PySem.Builtin.Str.tooLong
    exact decide_eq_false (by have : (sizeLine : Nat) ≥ 1000000 := by decide
                              omega)
  · rw [if_neg (by omega)]
    by_cases e : (n == 1 || z.length == 0) = true
    · rw [if_pos e]
      have er : repS z n = z := if_pos e
      rw [er] at q
      exact ⟨.str z, H, I, ⟨_, rfl⟩, q⟩
    · rw [if_neg e]
      have eq : repS z n = ⟨(List.replicate n.toNat z.cps).foldl (· ++ ·) #[]⟩ := if_neg e
      rw [eq] at q
      have el := repS_len (z := z) h1
      rw [eq] at el
      exact ⟨by rw [el]; exact Nat.le_trans hm (by decide), .str _, H, I.tok _, ⟨_, rfl⟩, q⟩
theorem rd_repS {z : Str} {n : Int} (h : 1 ≤ n ∧ n ≤ 1000 ∧ z.length ≤ 1000) : RD rRepS (.str z) (.int n) (.str (repS z n)) := fun G1 _ _ _ s hx hy _ q =>
  ⟨z, n, hx.str_eq, hy.int_eq, h, q _ G1 _ (.refl s) (.str _)⟩
/-- a text walked by a comprehension -/
theorem lc_str {z : Str} {g : TG} {tt : TT} {te : TE} {vs : List Nat} {σ : L2.St} {H1 : Hp} {D : Addr} {Qd : Hp → Prop} (Pv : Nat → Hp → Prop) (h0 : Pv 0 (upd H1 D (.lst [])))
    (hs : ∀ i c H, z.cps[i]? = some c → Pv i H → g (.str ⟨#[c]⟩) (wipe σ vs) H fun σ2 H2 => wipe σ2 vs = wipe σ vs ∧ tt σ2 H2 fun b H3 =>
      if b = true then te σ2 H3 fun y H4 => ∃ acc, H4 D = some (.lst acc) ∧ acc.length < sizeLine ∧ Pv (i + 1) (upd H4 D (.lst (acc ++ [y]))) else Pv (i + 1) H3) (hd : ∀ H, Pv z.cps.size H → Qd H) :
    ∃ W : Nat → Nat → Hp → Prop, (∃ m, W 0 m (upd H1 D (.lst []))) ∧ ∀ i m H, W i m H →
      ((Its z).stop i H ∧ Qd H) ∨ ((Its z).go i H ∧ ∃ Nx : Hp → Prop, (∀ H', Nx H' → ∃ m', m' < m ∧ W (i + 1) m' H') ∧ ∀ x H', (Its z).yld i H x H' → g x (wipe σ vs) H' fun σ2 H2 => wipe σ2 vs = wipe σ vs ∧ tt σ2 H2 fun b H3 =>
        if b = true then te σ2 H3 fun y H4 => ∃ acc, H4 D = some (.lst acc) ∧ acc.length < sizeLine ∧ Nx (upd H4 D (.lst (acc ++ [y]))) else Nx H3) := by
  refine ⟨fun i m H => m = z.cps.size - i ∧ i ≤ z.cps.size ∧ Pv i H, ⟨z.cps.size, by simp, Nat.zero_le _, h0⟩, ?_⟩
  rintro i m H ⟨rfl, hi, p⟩
  by_cases hlt : i < z.cps.size
  · refine Or.inr ⟨hlt, Pv (i + 1), fun H' p' => ⟨z.cps.size - (i + 1), by omega, rfl, hlt, p'⟩, fun x H' y => ?_⟩
    obtain ⟨rfl, c, hc, rfl⟩ := y
    exact hs i c _ hc p
  · have e : i = z.cps.size := by omega
    subst e
    exact Or.inl ⟨Nat.le_refl _, hd H p⟩
section
variable {K : PySem.W.Frag} {σ : L2.St} {G H : Hp} {ta te : TE} {tt : TT} {d : PyData}
theorem ev_lcS {tl : TE} {z : Str} {j : Nat} {vs : List Nat} (f : Nat → Bool) (v : Nat → PyData) (h : EvD tl σ G H (.str z)) (hz : z.length ≤ 40000) (hw : ∀ x, wipe ((wipe σ vs).set j (some x)) vs = wipe σ vs)
    (ht : ∀ (i : Nat) (c : Nat), z.cps[i]? = some c → EvT tt ((wipe σ vs).set j (some (.str ⟨#[c]⟩))) G H (f i)) (he : ∀ (i : Nat) (c : Nat), z.cps[i]? = some c → f i = true → EvD te ((wipe σ vs).set j (some (.str ⟨#[c]⟩))) G H (v i)) :
    EvM (tLc (iStr tl) (gName j) tt te vs) σ G H (given z.length f v) := fun G0 H0 a Q q => h G0 H0 a _ fun u G1 H1 g1 x => by
  have hz' : z.cps.size ≤ 40000 := hz
  have gg := a.trans g1
  refine ⟨z, x.str_eq, fun l hl => lc_str (z := z) (Cw G1 H1 f v l) ⟨G1, [], (Gr.refl g1.s).own hl, g1.s.none hl, upd_same, by exact .nil⟩ (fun i c H' hc p => ?_) (fun H' p => ?_)⟩
  · have hi : i < z.cps.size := (Array.getElem?_eq_some_iff.mp hc).1
    exact ⟨hw _, cw_turn hl p (by omega) ((ht i c hc).mono gg) (fun hf => (he i c hc hf).mono gg)⟩
  · obtain ⟨G', xs, k1, k2, k3, k4⟩ := p
    exact q l xs G' H' (g1.trans k1) (g1.free hl) k2 k3 k4
end
theorem cd_all' {K : PySem.W.Frag} {ds : List PyData} {bs : List Bool} (h : ds = bs.map .bool) : CD (rAll K) [.list ds] (.bool (bs.all id)) := by rw [h]; exact cd_all
/-! promises whose value is one of several -/
def SpR {α : Type} (args : α → List PyData) (pre : α → Prop) (R : α → PyData → Prop) : Sp := fun vs H Q _ => ∃ G x, Sb G H ∧ Dxs G vs (args x) ∧ pre x ∧ ∀ v d G' H', Gr [] G H G' H' → R x d → Dx G' v d → Q v H'
theorem ev_callR {σ : L2.St} {G H : Hp} {E : XK} {t : TA} {α : Type} {args : α → List PyData} {pre : α → Prop} {R : α → PyData → Prop} (x : α) (h : EvA t σ G H (args x)) (hp : pre x) : EvP (tCall (SpR args pre R) [] E t) σ G H (R x) := fun G1 H1 a Q q =>
  h G1 H1 a _ fun vs G2 H2 g xs => ⟨G2, x, g.s, by rw [List.append_nil]; exact xs, hp, fun v d G3 H3 g3 r z => q v d G3 H3 (g.trans g3) r z⟩

/-! ### the rules with the written part said -/
section
variable {X : Cx} {K : PySem.W.Frag}
theorem ix_listK (h : X.K = K := by rfl) : IxR X (rIxL K) := by subst h; exact ix_list
theorem ix_tupK (h : X.K = K := by rfl) : IxR X (rIxT K) := by subst h; exact ix_tup
theorem ix_seqK (h : X.K = K := by rfl) : IxR X (rIx K) := by subst h; exact ix_seq
theorem op_eqDK (hu : X.A.units + 64 < cLine) (h : X.K = K := by rfl) : OpR X (compareOp .Eq) (rEqD K) := by subst h; exact op_eqD hu
theorem op_neDK (hu : X.A.units + 64 < cLine) (h : X.K = K := by rfl) : OpR X (compareOp .NotEq) (rNeD K) := by subst h; exact op_neD hu
theorem op_inK (h : X.K = K := by rfl) : OpR X (compareOp .In) (rIn K false) := by subst h; exact op_in_seq
theorem op_ninK (h : X.K = K := by rfl) : OpR X (compareOp .NotIn) (rIn K true) := by subst h; exact op_notIn_seq
theorem sl_listK (h : X.K = K := by rfl) : SlR X (rSlL K) := by subst h; exact sl_list
theorem cr_sumK (hc : X.calm = true) (h : X.K = K := by rfl) : CallR X (.builtin "sum") (rSum K) := by subst h; exact cr_sum hc
theorem cr_allK (hc : X.calm = true) (h : X.K = K := by rfl) : CallR X (.builtin "all") (rAll K) := by subst h; exact cr_all hc
theorem call_lenK (h : X.K = K := by rfl) : CallR X (.builtin "len") (fun xs H Q => ∃ p ys, xs = [.ref p] ∧ (SqL K H p ys ∨ SqT K H p ys) ∧ Q (.int ys.length) H) := by subst h; exact call_len_seq
theorem call_listK (h : X.K = K := by rfl) : CallR X (.type "list") (fun xs H Q => ∃ p ys, xs = [.ref p] ∧ (SqL K H p ys ∨ SqT K H p ys) ∧ ∀ l, H l = none → Q (.ref l) (upd H l (.lst ys))) := by subst h; exact call_list_of
theorem call_isiKK (h : X.K = K := by rfl) : CallR X (.builtin "isinstance") (rIsi K) := by subst h; exact call_isi
theorem call_isiTK (h : X.K = K := by rfl) : CallR X (.builtin "isinstance") (rIsiT K) := by subst h; exact call_isiT
end
theorem rd_isN {d : PyData} : RD (fun x y H Q => y = .non ∧ Q (.bl (decide (x = .non))) H) d .none (.bool (isNone d)) := fun G1 _ x y s hx hy _ q => by
  have e : decide (x = V.non) = isNone d := by cases hx <;> rfl
  refine ⟨hy.non_eq, ?_⟩
  rw [e]; exact q _ G1 _ (.refl s) (.bl _)
theorem rd_notN {d : PyData} : RD (fun x y H Q => y = .non ∧ Q (.bl (!decide (x = .non))) H) d .none (.bool (!isNone d)) := fun G1 _ x y s hx hy _ q => by
  have e : decide (x = V.non) = isNone d := by cases hx <;> rfl
  refine ⟨hy.non_eq, ?_⟩
  rw [e]; exact q _ G1 _ (.refl s) (.bl _)

/-! ### enumerate, targets that are tuples -/
section
variable {K : PySem.W.Frag} {σ : L2.St} {G H : Hp} {tz tu : TS} {D : Ends}
theorem g_nn {i j : Nat} {v : V} {d1 d2 : PyData} {Q : L2.St → Hp → Prop} (x : Dx G v (.tuple [d1, d2])) (s : Sb G H) (k : ∀ v1 v2, Dx G v1 d1 → Dx G v2 d2 → Q ((σ.set i (some v1)).set j (some v2)) H) : gTup K 2 (gCons (gName i) (gCons (gName j) gNil)) v σ H Q := by
  obtain ⟨a, xs, rfl, ha, dxs⟩ := x.tup_eq
  obtain ⟨v1, v2, rfl, h1, h2⟩ := dxs2 dxs
  exact ⟨a, [v1, v2], rfl, Or.inl (Or.inl (s _ _ ha)), rfl, v1, [v2], rfl, v2, [], rfl, rfl, k v1 v2 h1 h2⟩
theorem g_n_nn {i j l : Nat} {v : V} {d1 d2 d3 : PyData} {Q : L2.St → Hp → Prop} (x : Dx G v (.tuple [d1, .tuple [d2, d3]])) (s : Sb G H) (k : ∀ v1 v2 v3, Dx G v1 d1 → Dx G v2 d2 → Dx G v3 d3 → Q (((σ.set i (some v1)).set j (some v2)).set l (some v3)) H) :
    gTup K 2 (gCons (gName i) (gCons (gTup K 2 (gCons (gName j) (gCons (gName l) gNil))) gNil)) v σ H Q := by
  obtain ⟨a, xs, rfl, ha, dxs⟩ := x.tup_eq
  obtain ⟨v1, v2, rfl, h1, h2⟩ := dxs2 dxs
  obtain ⟨b, ys, rfl, hb, dys⟩ := h2.tup_eq
  obtain ⟨w1, w2, rfl, k1, k2⟩ := dxs2 dys
  exact ⟨a, [v1, .ref b], rfl, Or.inl (Or.inl (s _ _ ha)), rfl, v1, [.ref b], rfl, .ref b, [], rfl, ⟨b, [w1, w2], rfl, Or.inl (Or.inl (s _ _ hb)), rfl, w1, [w2], rfl, w2, [], rfl, rfl, rfl, k v1 w1 w2 h1 k1 k2⟩⟩
theorem for_enum {a : Addr} {xs : List V} {g : TG} {tb : TS} {D : Ends} {σ : L2.St} {H : Hp} (Pv : Nat → L2.St → Hp → Prop) (h0 : Pv 0 σ H) (hl : ∀ i σ H, i ≤ xs.length → Pv i σ H → SqL K H a xs)
    (hs : ∀ i x σ H T, xs[i]? = some x → Pv i σ H → H T = none → g (.ref T) σ (upd H T (.tup [.int (i : Nat), x])) fun σ2 H2 => tb { D with nx := Pv (i + 1), ct := Pv (i + 1), bk := D.nx } σ2 H2) (hd : ∀ σ H, Pv xs.length σ H → D.nx σ H) :
    ∃ W : Nat → Nat → L2.St → Hp → Prop, (∃ m, W 0 m σ H) ∧ ∀ i m σ H, W i m σ H →
      ((Ite K a).stop i H ∧ D.nx σ H) ∨ ((Ite K a).go i H ∧ ∃ N : L2.St → Hp → Prop, (∀ σ' H', N σ' H' → ∃ m', m' < m ∧ W (i + 1) m' σ' H') ∧ ∀ x H', (Ite K a).yld i H x H' → g x σ H' fun σ2 H2 => tb { D with nx := N, ct := N, bk := D.nx } σ2 H2) := by
  refine ⟨fun i m σ H => m = xs.length - i ∧ i ≤ xs.length ∧ Pv i σ H, ⟨xs.length, by simp, Nat.zero_le _, h0⟩, ?_⟩
  rintro i m σ H ⟨rfl, hi, p⟩
  have q := hl i σ H hi p
  by_cases hlt : i < xs.length
  · refine Or.inr ⟨⟨xs, xs[i], q, by simp [hlt]⟩, Pv (i + 1), fun σ' H' p' => ⟨xs.length - (i + 1), by omega, rfl, hlt, p'⟩, fun x H' y => ?_⟩
    obtain ⟨T, u, rfl, hT, rfl, hu⟩ := y
    exact hs i u σ H T (hu xs q) p hT
  · have e : i = xs.length := by omega
    subst e
    exact Or.inl ⟨⟨xs, q, Nat.le_refl _⟩, hd σ H p⟩
theorem s_forE {t : TA} {g : TG} {ds : List PyData} (M : List Addr) (I : Nat → L2.St → Hp → Hp → Prop) (h : EvA t σ G H [.list ds]) (s : Sb G H) (h0 : ∀ G1 H1, Gr [] G H G1 H1 → I 0 σ G1 H1)
    (hs : ∀ G1 H1, Gr [] G H G1 H1 → ∀ (n : Nat) d v σ' G' H' G2 H2, ds[n]? = some d → Gr M G1 H1 G' H' → I n σ' G' H' → Gr [] G' H' G2 H2 → Dx G2 v (.tuple [.int (n : Int), d]) → g v σ' H2 fun σ2 H3 => tu { D with nx := Nx M G1 H1 I (n + 1), ct := Nx M G1 H1 I (n + 1), bk := D.nx } σ2 H3)
    (hd : ∀ σ' G' H', Gr M G H G' H' → I ds.length σ' G' H' → D.nx σ' H') : tFor (iEnum K t) g tu D σ H :=
  h G H (.refl s) _ fun vs G1 H1 g1 x => by
    obtain ⟨v, rfl, hv⟩ := dxs1 x
    obtain ⟨a, xs, rfl, ha, dxs⟩ := hv.lst_eq
    refine ⟨a, xs, rfl, Or.inl (Or.inl (g1.s _ _ ha)), for_enum (xs := xs) (Nx M G1 H1 I) ⟨G1, .refl g1.s, h0 G1 H1 g1⟩ (fun n σ' H' _ p => ?_) (fun n x σ' H' T hx p hT => ?_) (fun σ' H' p => ?_)⟩
    · obtain ⟨G', g', _⟩ := p
      exact Or.inl (Or.inl (g'.s _ _ (g'.g _ _ ha)))
    · obtain ⟨G', g', w⟩ := p
      obtain ⟨d, hd1, hd2⟩ := dxs.getV hx
      have hn := g'.s.none hT
      refine hs G1 H1 g1 n d (.ref T) σ' G' H' (upd G' T (.tup [.int (n : Nat), x])) _ hd1 g' w ((Gr.refl g'.s).data hT) (.tup upd_same (.cons (.int _) (.cons ?_ .nil)))
      exact (hd2.mono g'.g).mono (Sb.new hn)
    · obtain ⟨G', g', w⟩ := p
      rw [dxs.len] at w
      exact hd σ' G' H' (g1.any.trans g') w
theorem q_forE {t : TA} {g : TG} {ds : List PyData} (M : List Addr) (I : Nat → L2.St → Hp → Hp → Prop) (h : EvA t σ G H [.list ds]) (s : Sb G H) (h0 : ∀ G1 H1, Gr [] G H G1 H1 → I 0 σ G1 H1)
    (hs : ∀ G1 H1, Gr [] G H G1 H1 → ∀ (n : Nat) d v σ' G' H' G2 H2, ds[n]? = some d → Gr M G1 H1 G' H' → I n σ' G' H' → Gr [] G' H' G2 H2 → Dx G2 v (.tuple [.int (n : Int), d]) → g v σ' H2 fun σ2 H3 => tu { D with nx := Nx M G1 H1 I (n + 1), ct := Nx M G1 H1 I (n + 1), bk := tz D } σ2 H3)
    (hd : ∀ σ' G' H', Gr M G H G' H' → I ds.length σ' G' H' → tz D σ' H') : tSeq (tFor (iEnum K t) g tu) tz D σ H := s_forE (D := { D with nx := tz D }) M I h s h0 hs hd
end

/-! ### several own objects become data at once -/
open Classical in
noncomputable def addAll (S : Addr → Prop) (G H : Hp) : Hp := fun a => if S a then H a else G a
theorem addAll_in {S : Addr → Prop} {G H : Hp} {a : Addr} (h : S a) : addAll S G H a = H a := if_pos h
theorem addAll_out {S : Addr → Prop} {G H : Hp} {a : Addr} (h : ¬ S a) : addAll S G H a = G a := if_neg h
theorem Sb.addAll {S : Addr → Prop} {G H : Hp} (h : ∀ a, S a → G a = Option.none) : Sb G (addAll S G H) := fun a o e => by
  by_cases q : S a
  · rw [h a q] at e; cases e
  · rw [addAll_out q]; exact e
theorem Gr.freezeAll {M : List Addr} {G H G' H' : Hp} (x : Gr M G H G' H') (S : Addr → Prop) (hn : ∀ a, S a → G' a = none) (h0 : ∀ a, S a → H a = none) : Gr M G H (addAll S G' H') H' :=
  ⟨x.g.trans (Sb.addAll hn), fun a o e => by
    by_cases q : S a
    · rw [addAll_in q] at e; exact e
    · rw [addAll_out q] at e; exact x.s a o e, x.h, x.t, fun a u e e0 => by
    by_cases q : S a
    · rw [h0 a q] at e; cases e
    · rw [addAll_out q]; exact x.n a u e e0⟩
/-- data for a while, several objects -/
theorem Gr.thawAll {M : List Addr} {S : Addr → Prop} {G H G2 H2 : Hp} (x : Gr M (addAll S G H) H G2 H2) (hn : ∀ a, S a → G a = none) : Gr M G H G H2 :=
  ⟨Sb.refl G, ((Sb.addAll hn).trans x.g).trans x.s, x.h, x.t, fun _ _ _ e => e⟩
section
variable {K : PySem.W.Frag} {σ : L2.St} {G H : Hp}
theorem ea_star {te : TE} {tr : TA} {ds es : List PyData} (h : EvD te σ G H (.list ds)) (hr : EvA tr σ G H es) : EvA (StX.tStar K te tr) σ G H (ds ++ es) := fun G1 H1 a _ q =>
  h G1 H1 a _ fun v G2 H2 g x => by
    obtain ⟨p, xs, rfl, hp, dxs⟩ := x.lst_eq
    exact ⟨p, xs, rfl, Or.inr (Or.inl (Or.inl (g.s _ _ hp))), hr G2 H2 (a.trans g) _ fun vs G3 H3 g3 ys => q _ G3 H3 (g.trans g3) ((dxs.mono g3.g).app ys)⟩
theorem inV_str {z : Str} : ∀ zs : List Str, inV (.str z) (zs.map V.str) = decide (z ∈ zs)
  | [] => by simp [inV]
  | y :: ys => by
    have ih := inV_str (z := z) ys
    unfold inV at ih ⊢
    rw [List.map_cons, List.any_cons, ih]
    have e : eqV (V.str y) (V.str z) = decide (y = z) := by
      show (y == z) = decide (y = z)
      rfl
    rw [e]
    by_cases h : y = z
    · subst h; simp
    · simp [h, Ne.symm h]
      first
        | done
        | (intro h2; exact absurd h2.symm h)
theorem all_flat : ∀ zs : List Str, (zs.map V.str).all flatV = true
  | [] => rfl
  | y :: ys => by rw [List.map_cons, List.all_cons, all_flat ys]; rfl
theorem rd_InL {z : Str} {zs : List Str} : RD (rIn K false) (.str z) (.list (zs.map .str)) (.bool (decide (z ∈ zs))) := fun G1 H1 x y s hx hy Q q => by
  obtain ⟨a, xs, rfl, ha, dxs⟩ := hy.lst_eq
  rw [dxs.strs_eq] at ha
  rw [hx.str_eq]
  refine ⟨a, _, rfl, Or.inl (Or.inl (Or.inl (s _ _ ha))), rfl, all_flat zs, ?_⟩
  show Q (.bl (inV (.str z) (zs.map V.str))) H1
  rw [inV_str]; exact q _ G1 H1 (.refl s) (.bl _)
end

section
variable {K : PySem.W.Frag} {σ : L2.St} {B C G H : Hp} {te tb : TE} {ds es : List PyData} {D : Ends} {tz : TS} {i : Nat} {l : Addr} {xs : List V}
theorem et_truL (h : EvD te σ G H (.list ds)) : EvT (fun σ H Q => te σ H fun x H' => ∃ k, TruV K x H' k ∧ Q k H') σ G H (!ds.isEmpty) := fun G1 H1 a Q q =>
  h G1 H1 a _ fun v G2 H2 g x => by
    obtain ⟨p, xs, rfl, hp, dxs⟩ := x.lst_eq
    refine ⟨!ds.isEmpty, Or.inl ⟨xs, Or.inl (Or.inl (g.s _ _ hp)), ?_⟩, q G2 H2 g⟩
    have := dxs.len
    cases xs <;> cases ds <;> first | rfl | cases this
/-- xs.append(e), e a new list that stays own -/
theorem s_appM (o : Ow B C G H l xs) (hv : σ[i]? = some (some (.ref l))) (h : EvM te σ G H ds) (hz : xs.length < 100000)
    (k : ∀ q ys G1 H1, Gr [] G H G1 H1 → H q = none → G1 q = none → H1 q = some (.lst ys) → Dxs G1 ys ds → Ow B C G1 (upd H1 l (.lst (xs ++ [.ref q]))) l (xs ++ [.ref q]) → D.nx σ (upd H1 l (.lst (xs ++ [.ref q])))) :
    tDrop (tBM K "list" rAppend (tVar i) (tCons te tNil)) D σ H :=
  ⟨.ref l, hv, Or.inl ⟨rfl, xs, Or.inl (Or.inl o.hl)⟩, h G H (.refl o.s) _ fun q ys G1 H1 g h0 hn h1 hx =>
    ⟨l, xs, .ref q, rfl, rfl, g.h l _ (by simp) o.hl, Evl.sz_lt hz, k q ys G1 H1 g h0 hn h1 hx (o.put g _)⟩⟩
theorem s_retLM (h : EvM te σ G H ds) (s : Sb G H) (k : ∀ q ys G1 H1 l, Gr [] G H G1 H1 → H q = none → G1 q = none → H1 q = some (.lst ys) → Dxs G1 ys ds → H1 l = none → D.rt (.ref l) (upd H1 l (.lst [.ref q]))) : tRet (tLst (tCons te tNil)) D σ H :=
  h G H (.refl s) _ fun q ys G1 H1 g q0 qn hq hx => ⟨by show 1 ≤ sizeLine; decide, fun l hl => k q ys G1 H1 l g q0 qn hq hx hl⟩
/-- own list + list -/
theorem ev_catO (h : σ[i]? = some (some (.ref l))) (hl : H l = some (.lst xs)) (hx : Dxs G xs ds) (hb : EvD tb σ G H (.list es)) (hz : ds.length + es.length ≤ 100000) : EvM (tOp rCat (tVar i) tb) σ G H (ds ++ es) := fun G1 H1 a Q q =>
  ⟨.ref l, h, hb G1 H1 a _ fun v G2 H2 g x => by
    obtain ⟨p, ys, rfl, hp, dys⟩ := x.lst_eq
    have dxs := hx.mono (a.trans g).g
    exact ⟨l, p, xs, ys, rfl, rfl, (a.trans g).h l _ (by simp) hl, g.s _ _ hp, Evl.sz_of (by rw [dxs.len, dys.len]; exact hz), fun r hr => q r _ G2 _ (g.own hr) (g.free hr) (g.s.none hr) upd_same (dxs.app dys)⟩⟩
end
theorem paired_app {α β : Type} {F : α → β → Prop} : ∀ {a c : List α} {b d : List β}, Paired F a b → Paired F c d → Paired F (a ++ c) (b ++ d)
  | _, _, _, _, .nil, t => t
  | _, _, _, _, .cons h t, u => .cons h (paired_app t u)
theorem paired_mono {α β : Type} {F E : α → β → Prop} (h : ∀ a b, F a b → E a b) : ∀ {a : List α} {b : List β}, Paired F a b → Paired E a b
  | _, _, .nil => .nil
  | _, _, .cons r t => .cons (h _ _ r) (paired_mono h t)
theorem given_list {α β : Type} (L : List α) (d : α) (φ : α → Bool) (ψ : α → β) : given L.length (fun i => φ (L.getD i d)) (fun i => ψ (L.getD i d)) = (L.filter φ).map ψ := by
  have e : (List.range L.length).map (fun i => L.getD i d) = L := by
    apply List.ext_getElem
    · simp
    · intro i h1 h2
      simp only [List.getElem_map, List.getElem_range]
      rw [List.getD_eq_getElem?_getD, List.getElem?_eq_getElem h2]; rfl
  have e2 : L.filter φ = ((List.range L.length).filter (φ ∘ fun i => L.getD i d)).map (fun i => L.getD i d) := by
    conv => lhs; rw [← e]
    rw [List.filter_map]
  unfold given
  rw [e2, List.map_map]
  rfl

section
variable {K : PySem.W.Frag} {σ : L2.St} {G H : Hp} {tz tu : TS} {D : Ends} {ds : List PyData}
/-- over a list that a name holds -/
theorem q_forV {g : TG} {i : Nat} {v : V} (M : List Addr) (I : Nat → L2.St → Hp → Hp → Prop) (hv : σ[i]? = some (some v)) (x : Dx G v (.list ds)) (s : Sb G H) (h0 : I 0 σ G H)
    (hs : ∀ n d v σ' G' H', ds[n]? = some d → Dx G' v d → Gr M G H G' H' → I n σ' G' H' → g v σ' H' fun σ2 H2 => tu { D with nx := Nx M G H I (n + 1), ct := Nx M G H I (n + 1), bk := tz D } σ2 H2)
    (hd : ∀ σ' G' H', Gr M G H G' H' → I ds.length σ' G' H' → tz D σ' H') : tSeq (tFor (iList K (tVar i)) g tu) tz D σ H := by
  obtain ⟨a, xs, rfl, ha, dxs⟩ := x.lst_eq
  refine ⟨.ref a, hv, a, rfl, ⟨xs, Or.inl (Or.inl (s _ _ ha))⟩, for_list (xs := xs) (Nx M G H I) ⟨G, .refl s, h0⟩ (fun n σ' H' _ p => ?_) (fun n x σ' H' hx p => ?_) (fun σ' H' p => ?_)⟩
  · obtain ⟨G', g', _⟩ := p
    exact Or.inl (Or.inl (g'.s _ _ (g'.g _ _ ha)))
  · obtain ⟨G', g', w⟩ := p
    obtain ⟨d, hd1, hd2⟩ := dxs.getV hx
    exact hs n d x σ' G' H' hd1 (hd2.mono g'.g) g' w
  · obtain ⟨G', g', w⟩ := p
    rw [dxs.len] at w
    exact hd σ' G' H' g' w
end

section
variable {K : PySem.W.Frag} {σ : L2.St} {B C G H : Hp} {te : TE} {ds : List PyData} {D : Ends} {tz : TS} {i : Nat} {l : Addr} {xs : List V}
theorem q_appM (o : Ow B C G H l xs) (hv : σ[i]? = some (some (.ref l))) (h : EvM te σ G H ds) (hz : xs.length < 100000)
    (k : ∀ q ys G1 H1, Gr [] G H G1 H1 → H q = none → G1 q = none → H1 q = some (.lst ys) → Dxs G1 ys ds → Ow B C G1 (upd H1 l (.lst (xs ++ [.ref q]))) l (xs ++ [.ref q]) → tz D σ (upd H1 l (.lst (xs ++ [.ref q])))) :
    tSeq (tDrop (tBM K "list" rAppend (tVar i) (tCons te tNil))) tz D σ H := s_appM (D := { D with nx := tz D }) o hv h hz k
/-- xs[0].append(c), xs an own list of own lists -/
theorem q_app0 {q : Addr} {rest ys : List V} {c : V} (hv : σ[i]? = some (some (.ref l))) (hl : H l = some (.lst (.ref q :: rest))) (hq : H q = some (.lst ys)) (hz : ys.length < 100000)
    (k : tz D σ (upd H q (.lst (ys ++ [c])))) : tSeq (tDrop (tBM K "list" rAppend (tOp (rIxL K) (tVar i) (tC (.int 0))) (tCons (tC c) tNil))) tz D σ H :=
  ⟨.ref l, hv, l, _, 0, .ref q, rfl, rfl, Or.inl (Or.inl hl), atI_nat (j := 0) rfl, Or.inl ⟨rfl, _, Or.inl (Or.inl hq)⟩, q, ys, c, rfl, rfl, hq, Evl.sz_lt hz, k⟩
end
end Gd

namespace Gd
open PySem PySem.Spec PyProof.Rows L2
/-! ### sum(d.values()), list(d.values()): the view is made for the call alone and is never tracked -/
theorem preSum_take (is : List Int) : ∀ n, n ≤ is.length → preSum (fun i => is.getD i 0) n = (is.take n).sum
  | 0, _ => by simp [preSum]
  | n + 1, h => by
    show preSum (fun i => is.getD i 0) n + is.getD n 0 = _
    rw [preSum_take is n (by omega), List.take_add_one, List.sum_append, List.getD_eq_getElem?_getD, List.getElem?_eq_getElem (by omega : n < is.length)]
    simp
/-- v, a view of the dict at a, which holds kvs -/
structure Vw (X : Cx) (s : Shared) (v a : Addr) (kvs : List (Key × V)) (vs : List (Key × Value)) (ep : Nat) : Prop where
  view : s.heap.IsValuesView v a
  dat : s.heap.DictAt (mixKind X.prog X.w) a vs ep
  kv : KV kvs vs
  sz : kvs.length ≤ sizeLine
def tVals (td : TE) (R : List (Key × V) → Hp → Prop) : L2.St → Hp → Prop := fun σ H => td σ H fun x H1 => ∃ (a : Addr) (kvs : List (Key × V)), x = V.ref a ∧ Rd H1 a (.dK kvs) ∧ R kvs H1
def tSumVals (td : TE) : TE := fun σ H Q => tVals td (fun kvs H1 => ∃ is : List Int, kvs.map (·.2) = is.map V.int ∧ Q (.int is.sum) H1) σ H
def tListVals (td : TE) : TE := fun σ H Q => tVals td (fun kvs H1 => ∀ p, H1 p = none → Q (.ref p) (upd H1 p (.lst (kvs.map (·.2))))) σ H
section
variable {X : Cx} {o : Expr} {p pos apos mpos : Pos} {td : TE} {pins : List (Addr × Obj)} {σ : L2.St} {H : Hp} {s : Shared}
/-- the view as an argument -/
theorem vals_arg {R : List (Key × V) → Hp → Prop} {Q : Value → Shared → Prop} (hd : PE X o td) (hbase : attributeBase o "values" X.env (eval o X.env) = eval o X.env) (hline : (apos.endLine == mpos.line) = true)
    (I : Inv X pins σ H s) (h : tVals td R σ H) (k : ∀ s1 H1 v a kvs vs ep, Inv X pins σ H1 s1 → R kvs H1 → Vw X s1 v a kvs vs ep → Q (.ref v) s1) :
    wpAny (model X.prog X.w) X.A (eval (.Call (.Attribute o "values" apos) [] [] mpos) X.env) Q X.xe s := by
  refine wpAny_Call_method0_late hbase hline (wpAny_mono (hd.run pins s σ H _ I h) (fun u s1 hu => ?_) fun _ _ e => e)
  obtain ⟨x, H1, I1, rx, a, kvs, rfl, ha, q⟩ := hu
  cases (show u = Value.ref a from rx)
  obtain ⟨hz, hsys, vs, rel, dof⟩ := dk_rd I1.hok ha
  obtain ⟨ep, dat⟩ := dof.dictAt
  obtain ⟨ob, es, ho, ex, _⟩ := id dat
  have old : ∀ b u, s1.heap.get? b = some u → (s1.heap.push { cls := .type "dict_values", data := .fields #[.ref a] }).get? b = some u := fun b u e => Heap.get?_push_of_some _ e
  have made := k { s1 with heap := s1.heap.push { cls := .type "dict_values", data := .fields #[.ref a] } } H1 s1.heap.objs.size a kvs vs ep (I1.kept (t' := s1.toks) old) q ⟨⟨_, Heap.get?_push_size _ rfl, rfl, rfl⟩, dat.keep old, rel, hz⟩
  exact ⟨"dict", "dict.values", F.plainAttrs_dict, F.slot_dict_values, F.type_dict_values, ⟨ob, ho, ex.1⟩, fun b e => ⟨ob, by cases e; exact ho, ex.2.1⟩,
    Calls.callWith_builtin rfl (PySem.evalArgs_none (call_meetsIn F.slot_dict_values ⟨ob, ho, ex.1⟩ F.entry_dict_values (F.args_dict_values_1 _) (meets_dict_values (mixKind X.prog X.w) a hsys) ⟨⟨vs, dof⟩, made⟩))⟩
theorem Vw.int {v a : Addr} {kvs : List (Key × V)} {vs : List (Key × Value)} {ep : Nat} (x : Vw X s v a kvs vs ep) {is : List Int} (hv : kvs.map (·.2) = is.map V.int) (i : Nat) (u : Value) (h : ∃ k, vs[i]? = some (k, u)) : ∃ t, u = Value.int (is.getD i 0) t := by
  obtain ⟨k, hk⟩ := h
  obtain ⟨y, h1, h2⟩ := KV.at' x.kv hk
  have e1 : (is.map V.int)[i]? = some y := by rw [← hv, List.getElem?_map, h1]; rfl
  rw [List.getElem?_map] at e1
  cases e2 : is[i]? with
  | none => rw [e2] at e1; cases e1
  | some j =>
    rw [e2] at e1
    cases e1
    obtain ⟨t, e3⟩ := h2
    exact ⟨t, by rw [e3, List.getD_eq_getElem?_getD, e2]; rfl⟩
/-- the sum of a view -/
theorem Vw.sum {v a : Addr} {kvs : List (Key × V)} {vs : List (Key × Value)} {ep : Nat} (x : Vw X s v a kvs vs ep) (hc : X.calm = true) (I : Inv X pins σ H s) {is : List Int} (hv : kvs.map (·.2) = is.map V.int) {Q : VK} (q : Q (.int is.sum) H) :
    wpAny (model X.prog X.w) X.A (call (.builtin "sum") [.ref v]) (EP X pins σ Q) X.xe s := by
  have ha := x.dat.lt_size
  refine call_sum_walkAnyS (wpAny_pyIter_values x.view x.dat ⟨_, _, _, _, vs.length, _, _, fun i => is.getD i 0, rfl,
    (Walks.dictValues (knd := mixKind X.prog X.w) (A := X.A.in1) (I.ok.hd hc) s.heap.objs.size a (Nat.ne_of_lt ha) vs ep).toS, ⟨⟨_, Heap.get?_push_size _ rfl, rfl, rfl⟩, x.dat.push _⟩, ?_, x.int hv, ?_⟩)
  · intro b hb
    have hs : b ≤ s.heap.objs.size := by
      rcases List.mem_cons.mp hb with e | hb
      · exact Nat.le_of_eq e
      · rw [List.mem_singleton.mp hb]; exact Nat.le_of_lt ha
    simpa [Heap.size_push] using Nat.lt_succ_of_le hs
  · intro s' t' mv
    have n : vs.length = is.length := by rw [← x.kv.length, ← List.length_map (as := is) (f := V.int), ← hv, List.length_map]
    have e : preSum (fun i => is.getD i 0) vs.length = is.sum := by rw [n, preSum_take is _ (Nat.le_refl _), List.take_length]
    rw [Moved.eq_with mv, e]
    refine ⟨.int is.sum, H, I.kept (t' := s'.toks) fun b u e => mv.heap b u (fun hb => ?_) (Heap.get?_push_of_some _ e), ⟨t', rfl⟩, q⟩
    rw [List.mem_singleton.mp hb] at e
    exact absurd (Heap.lt_size e) (Nat.lt_irrefl _)
theorem pe_sumVals (hc : X.calm = true) (hg : Gl X "sum") (hm : X.mg "sum" = none) (hd : PE X o td) (hbase : attributeBase o "values" X.env (eval o X.env) = eval o X.env := by rfl) (hline : (apos.endLine == mpos.line) = true := by rfl)
    (hse : starEach [Expr.Call (.Attribute o "values" apos) [] [] mpos] X.env = [(false, eval (Expr.Call (.Attribute o "values" apos) [] [] mpos) X.env)] := by rfl) :
    PE X (.Call (.Name "sum" p) [.Call (.Attribute o "values" apos) [] [] mpos] [] pos) (tSumVals td) := ⟨fun pins s σ H Q I h => by
  refine wpAny_Call_Name_kw (ld_blt I hg hm (u := .builtin "sum") (by decide +kernel) ?_ (by decide +kernel) (by decide +kernel))
  rw [hse]
  exact PySem.callWith_builtin1 (vals_arg hd hbase hline I h fun s1 H1 v a kvs vs ep I1 ⟨is, hv, q⟩ x => x.sum hc I1 hv q)⟩
theorem vals_at : ∀ {kvs : List (Key × V)} {vs : List (Key × Value)} {us : List Value}, KV kvs vs → us.length = vs.length → (∀ (j : Nat) (v : Value), us[j]? = some v → ∃ k, vs[j]? = some (k, v)) → Vals (kvs.map (·.2)) us := by
  intro kvs vs us r
  unfold KV at r
  induction r generalizing us with
  | nil => intro hl _; cases us with
    | nil => exact .nil
    | cons _ _ => cases hl
  | cons h t ih =>
    intro hl hv
    cases us with
    | nil => cases hl
    | cons u us =>
      obtain ⟨k, e⟩ := hv 0 u rfl
      refine .cons ?_ (ih (by simpa using hl) fun j v e => ?_)
      · have e1 := Option.some.inj e
        have e2 : _ = u := congrArg Prod.snd e1
        rw [← e2]; exact h.2
      · obtain ⟨k, e⟩ := hv (j + 1) v (by simpa using e)
        exact ⟨k, by simpa using e⟩
/-- the list of a view -/
theorem Vw.list {v a : Addr} {kvs : List (Key × V)} {vs : List (Key × Value)} {ep : Nat} (x : Vw X s v a kvs vs ep) (hc : X.calm = true) (I : Inv X pins σ H s) {Q : VK} (q : ∀ p, H p = none → Q (.ref p) (upd H p (.lst (kvs.map (·.2))))) :
    wpAny (model X.prog X.w) X.A (call (.type "list") [.ref v]) (EP X pins σ Q) X.xe s :=
  PySem.W.kdl_call PySem.W.kdl_values (I.ok.hd hc) ⟨x.view, x.dat⟩ (by rw [← x.kv.length]; exact x.sz) fun h' tk acc c' hk hD hacc =>
    ⟨.ref _, upd H _ (.lst (kvs.map (·.2))), I.laid (t' := tk) hk (Nat.le_refl _)
      (show ObjOk X.prog X.w _ _ _ (.lst (kvs.map (·.2))) from ⟨by rw [List.length_map]; exact x.sz, acc.toList, c', vals_at x.kv (by rw [Array.length_toList]; exact hacc.1) fun j u e => hacc.2 j u (by rw [← Array.getElem?_toList]; exact e), by rw [Array.toArray_toList]; exact hD⟩),
      rfl, q _ (I.hok.fresh (Nat.le_refl _))⟩
theorem pe_listVals (hc : X.calm = true) (hg : Gl X "list") (hm : X.mg "list" = none) (hd : PE X o td) (hbase : attributeBase o "values" X.env (eval o X.env) = eval o X.env := by rfl) (hline : (apos.endLine == mpos.line) = true := by rfl)
    (hse : starEach [Expr.Call (.Attribute o "values" apos) [] [] mpos] X.env = [(false, eval (Expr.Call (.Attribute o "values" apos) [] [] mpos) X.env)] := by rfl) :
    PE X (.Call (.Name "list" p) [.Call (.Attribute o "values" apos) [] [] mpos] [] pos) (tListVals td) := ⟨fun pins s σ H Q I h => by
  refine wpAny_Call_Name_kw (ld_blt I hg hm (u := .type "list") (by first | rfl | decide +kernel) ?_ (by decide +kernel) (by decide +kernel))
  rw [hse]
  exact PySem.callWith_type1 (vals_arg hd hbase hline I h fun s1 H1 v a kvs vs ep I1 q x => x.list hc I1 q)⟩
end
end Gd

namespace Gd
open PySem PySem.Spec PyProof.Rows L2
/-! ### for (a, b), c in d.items(), the keys of d tuples -/
section
variable {X : Cx} {pins : List (Addr × Obj)} {σ : L2.St} {H : Hp} {st : Shared} {d : Addr} {o : Obj}
theorem lockedT {kvs : List (List Key × V)} (I : L2.Inv X pins σ H st) (h : H d = some (.frz o (.dT kvs))) : (d == sysModules) = false ∧ st.heap.get? d = some o ∧ o.ExactDict ∧
    ∃ (es : Array DictEntry) (ep : Nat), o.data = .dict es ep ∧ es.size = kvs.length ∧ ∀ (i : Nat) (k : List Key) (v : V), kvs[i]? = some (k, v) → ∃ (en : DictEntry) (q : Addr), es[i]? = some en ∧ en.key = .ref q ∧ H q = some (.tup (k.map kV)) ∧ RelV v en.val := by
  have hk := I.hok d _ h
  obtain ⟨h1, _, h2, xs, pr, o', es, ep, h3, h4, h5, h6, _⟩ := hk
  rw [h1] at h3
  obtain rfl := Option.some.inj h3
  have n1 : es.size = xs.length := size_of_entries h6
  have n2 : kvs.length = xs.length := Paired.length pr
  refine ⟨h2, h1, h4, es, ep, h5, n1.trans n2.symm, fun i k v e => ?_⟩
  obtain ⟨b, hb, _, e2, e3⟩ := paired_get pr e
  have q := entry_at h6 i
  rw [hb] at q
  exact ⟨_, b.2.1, q, rfl, e2, e3⟩
end
def Itit (d : Addr) (o : Obj) (kvs : List (List Key × V)) : It where
  go := fun i H => H d = some (.frz o (.dT kvs)) ∧ i < kvs.length
  yld := fun i H x H' => ∃ (T q : Addr) (k : List Key) (v : V), kvs[i]? = some (k, v) ∧ H q = some (.tup (k.map kV)) ∧ x = .ref T ∧ H T = none ∧ H' = upd H T (.tup [.ref q, v])
  stop := fun i H => H d = some (.frz o (.dT kvs)) ∧ kvs.length ≤ i
section
variable {P : Program} {w : World} {K : PySem.W.Frag} {d : Addr} {o : Obj} {es : Array DictEntry} {ep : Nat}
theorem turn_itemsT {kvs : List (List Key × V)} {elts : List Expr} {kk : Nat} {tpos : Pos} (it : Addr) (hod : o.data = .dict es ep) :
    Turn P w K (.Tuple elts kk tpos) (Itit d o kvs) [it] it (fun i h => ∃ ok ov, PySem.IsItemIter h it d i kvs.length ep ok ov) := by
  constructor
  case mem => simp
  case obj =>
    intro i h hst b hb
    obtain rfl : b = it := by simpa using hb
    obtain ⟨ok, ov, e⟩ := hst
    exact ⟨_, e, fun v z => nomatch z⟩
  case keep =>
    intro i h h' hst k
    obtain ⟨ok, ov, e⟩ := hst
    exact ⟨ok, ov, k it (by simp) _ e⟩
  case item =>
    intro X hP hw hK hc i pins st σ H E I hf hst hg
    subst hP hw hK
    obtain ⟨hd, hi⟩ := hg
    obtain ⟨_, hgd, hx, es', ep', hdt, hsz, ent⟩ := lockedT I hd
    obtain ⟨rfl, rfl⟩ := dict_ep hod hdt
    have hkv : kvs[i]? = some (kvs[i].1, kvs[i].2) := List.getElem?_eq_getElem hi
    obtain ⟨en, q, hen, hkey, hq, rv⟩ := ent i _ _ hkv
    obtain ⟨ok, ov, he⟩ := hst
    rw [← hsz] at he
    have hlt : it < st.heap.objs.size := Heap.lt_size he
    have his : i < es'.size := by rw [hsz]; exact hi
    have hei : es'[i] = en := (Array.getElem?_eq_some_iff.mp hen).2
    refine DT.nextI he ⟨o, hgd, hx, hod⟩ his fun h1 ho1 hT1 hz1 hk1 => ?_
    refine ⟨_, rfl, wpAny_letOwnedTupleGo_items (s := { st with heap := h1 }) ho1 fun h2 he2 sb => ?_⟩
    have hT2 := (sb.2 _ (Nat.ne_of_gt hlt)).trans hT1
    rw [hei] at hT2
    have new : ObjOk X.prog X.w (upd H st.heap.objs.size (.tup [.ref q, kvs[i].2])) h2 st.heap.objs.size (.tup [.ref q, kvs[i].2]) :=
      ⟨by show 2 ≤ sizeLine; decide, [en.key, en.val], .cons (show RelV (.ref q) en.key by rw [hkey]; rfl) (.cons rv .nil), ⟨_, hT2, rfl, _, rfl⟩⟩
    have I2 := I.turnedNew (t' := st.toks) (ch := [it]) (fun b ob hb e => (sb.2 b (by simpa using hb)).trans (hk1 b ob (by simpa using hb) e)) hf (Nat.le_refl _) new
    refine ⟨.ref st.heap.objs.size, _, I2, rfl, ⟨_, q, _, _, hkv, hq, rfl, I.hok.fresh (Nat.le_refl _), rfl⟩, ⟨es'[i].key, es'[i].val, ?_⟩, fun b hb => ?_⟩
    · rw [← hsz]; exact he2
    · obtain rfl : b = it := by simpa using hb
      rw [upd_ne (Nat.ne_of_lt hlt)]
      exact (hf _ (by simp)).1
  case done =>
    intro X hP hw hK hc i pins st σ H E I hf hst hg
    subst hP hw hK
    obtain ⟨hd, hi⟩ := hg
    obtain ⟨f0, f1, f2, f3, f4, f5⟩ := hf it (by simp)
    obtain ⟨_, hgd, hx, es', ep', hdt, hsz, ent⟩ := lockedT I hd
    obtain ⟨rfl, rfl⟩ := dict_ep hod hdt
    obtain ⟨ok, ov, he⟩ := hst
    rw [← hsz] at he
    exact DT.endI (I.ok.hd hc) he ⟨o, hgd, hx, hod⟩ (by omega) fun h1 eb => ⟨rfl, I.turned (t' := st.toks) (fun b ob hb e => eb b ob hb e) f0 f1 f3 f4 f5⟩
  case self =>
    intro A i st Q E hst h
    obtain ⟨_, _, e⟩ := hst
    exact PySem.W.kcp_self e h
end
def iItemsT (td : TE) : TI := fun σ H R => td σ H fun x H1 => ∃ (d : Addr) (o : Obj) (kvs : List (List Key × V)), x = .ref d ∧ H1 d = some (.frz o (.dT kvs)) ∧ R (Itit d o kvs) H1
section
variable {X : Cx} {e : Expr} {td : TE} {apos cpos : Pos}
theorem pi_itemsT {elts : List Expr} {kk : Nat} {tpos : Pos} (he : PE X e td) (hbase : attributeBase e "items" X.env (eval e X.env) = eval e X.env := by rfl) (hline : (apos.endLine == cpos.line) = true := by rfl) :
    PI X (.Tuple elts kk tpos) (.Call (.Attribute e "items" apos) [] [] cpos) (iItemsT td) := ⟨fun pins st σ H R I h => by
  refine wpAny_Call_method (T := "dict") (id := "dict.items") hbase rfl hline F.plainAttrs_dict F.slot_dict_items F.type_dict_items (thn (he.run pins st σ H _ I h) fun u s1 hu => ?_)
  obtain ⟨x, H1, I1, rx, d, o, kvs, ex, hd, q⟩ := hu
  subst ex
  obtain rfl : u = Value.ref d := rx
  obtain ⟨hs, hgd, hx, es, ep, hdt, hsz, ent⟩ := lockedT I1 hd
  have hr : DT.Raw s1.heap d es ep := ⟨o, hgd, hx, hdt⟩
  refine ⟨hr.typeIs, fun b eb => ⟨o, by cases eb; exact hgd, hx.2.1⟩, ?_⟩
  have I2 := I1.kept (h' := s1.heap.push { cls := .type "dict_items", data := .fields #[.ref d] }) (t' := s1.toks) fun b ob z => Heap.get?_push_of_some _ z
  have fin : wpAny (model X.prog X.w) X.A (pyIter (.ref s1.heap.objs.size)) (PIE X pins σ (.Tuple elts kk tpos) R) X.xe { s1 with heap := s1.heap.push { cls := .type "dict_items", data := .fields #[.ref d] } } := by
    refine DT.iterI (d := d) (es := es) (ep := ep) ⟨_, Heap.get?_push_size _ rfl, rfl, rfl⟩ (hr.push _) (pi_one (tk := s1.toks) I2 _ (turn_itemsT _ hdt) ⟨.none, .none, ?_⟩ q)
    rw [← hsz]
    exact Heap.get?_push_size _ rfl
  show wpAny _ _ (callWith cpos (.builtin "dict.items") [.ref d] [] []) _ X.xe s1
  exact Calls.callWith_builtin rfl (PySem.evalArgs_none (DT.callItems hs hr fin))⟩
theorem walk_itemsT {d : Addr} {o : Obj} {kvs : List (List Key × V)} : Walk (Itit d o kvs) kvs.length (fun H => H d = some (.frz o (.dT kvs)))
    (fun i H x H' => ∃ (T q : Addr) (k : List Key) (v : V), kvs[i]? = some (k, v) ∧ H q = some (.tup (k.map kV)) ∧ x = .ref T ∧ H T = none ∧ H' = upd H T (.tup [.ref q, v])) where
  goes := fun _ _ hi q => ⟨q, hi⟩
  stops := fun _ q => ⟨q, Nat.le_refl _⟩
  yields := fun _ _ _ _ _ _ y => y
end
/-! ### sorted(xs), xs a list of (text, text, number) -/
abbrev Tri := Str × Str × Int
def triK (t : Tri) : List (Int ⊕ List Nat) := [.inr t.1.cps.toList, .inr t.2.1.cps.toList, .inl t.2.2]
def lt3 (t u : Tri) : Bool := lexLt itemOrd (triK t) (triK u)
def TriAt (H : Hp) (x : V) (t : Tri) : Prop := ∃ a, x = .ref a ∧ H a = some (.tup [.str t.1, .str t.2.1, .int t.2.2])
def sh3 : Nat → Bool := fun i => decide (i < 2)
theorem raw3 {X : Cx} {pins : List (Addr × Obj)} {σ : L2.St} {H : Hp} {st : Shared} (I : L2.Inv X pins σ H st) {a : Addr} {t : Tri} (h : H a = some (.tup [.str t.1, .str t.2.1, .int t.2.2])) :
    (∃ f, TupOf st.heap sh3 (.ref a) f) ∧ G.tupKeyC st.heap sh3 (.ref a) = some (triK t) := by
  obtain ⟨_, its, r, o, ho, hc, n, hd⟩ := I.hok _ _ h
  obtain ⟨v1, r1⟩ : ∃ v, its[0]? = some v := by cases r; exact ⟨_, rfl⟩
  cases r with
  | cons k1 r =>
    cases r with
    | cons k2 r =>
      cases r with
      | cons k3 r =>
        cases r
        obtain ⟨t1, rfl⟩ := k1
        obtain ⟨t2, rfl⟩ := k2
        obtain ⟨t3, rfl⟩ := k3
        refine ⟨⟨_, a, o, _, n, rfl, ho, hc, hd, rfl, fun e => (by cases e), fun _ => ⟨_, _, rfl⟩⟩, ?_⟩
        unfold G.tupKeyC
        have e1 : G.isTupObj st.heap (.ref a) = true := by simp [G.isTupObj, ho, hc]
        rw [if_pos e1]
        simp [tupKey, ho, hd, tupItems, sh3, triK]
def r3 (K : PySem.W.Frag) : List V → Hp → VK → Prop := fun vs H Q => ∃ (a : Addr) (xs : List V), vs = [.ref a] ∧ SqL K H a xs ∧ (∀ x ∈ xs, ∃ t, TriAt H x t) ∧
  ∀ ys p, ys.Perm xs → ys.Pairwise (fun u v => ∀ t t', TriAt H u t → TriAt H v t' → lt3 t' t = false) → H p = none → Q (.ref p) (upd H p (.lst ys))
theorem tups3 {h : Heap} : ∀ {vs : List Value}, (∀ v ∈ vs, ∃ f, TupOf h sh3 v f) → ∃ fs, TupsOf h sh3 vs fs
  | [], _ => ⟨[], .nil⟩
  | v :: vs, k => by
    obtain ⟨f, hf⟩ := k v List.mem_cons_self
    obtain ⟨fs, hfs⟩ := tups3 fun u hu => k u (List.mem_cons_of_mem _ hu)
    exact ⟨f :: fs, .cons hf hfs⟩
theorem cr_sort3 {X : Cx} : CallR X (.builtin "sorted") (r3 X.K) := fun pins st σ H vs us Q I r h => by
  obtain ⟨a, xs, rfl, hs, hx, q⟩ := h
  obtain ⟨its, rv, hl, hz⟩ := I.list hs
  obtain ⟨u, rfl, ru⟩ := vals1 r
  obtain rfl : u = Value.ref a := ru
  obtain ⟨e1, e2⟩ := refs_back rv fun x m => by
    obtain ⟨t, b, e, _⟩ := hx x m
    exact ⟨b, e⟩
  have key : ∀ v ∈ its, ∃ (t : Tri) (b : Addr), v = .ref b ∧ H b = some (.tup [.str t.1, .str t.2.1, .int t.2.2]) := fun v hv => by
    obtain ⟨b, rfl⟩ := e2 v hv
    obtain ⟨t, b', e, hb⟩ := hx (V.ref b) (by rw [e1]; exact List.mem_map.mpr ⟨_, hv, rfl⟩)
    cases e
    exact ⟨t, b, rfl, hb⟩
  obtain ⟨fs, hfs⟩ := tups3 (h := st.heap) (vs := its) fun v hv => by
    obtain ⟨t, b, rfl, hb⟩ := key v hv
    exact (raw3 I hb).1
  refine G.sorted_tups (shape := sh3) (fs := fs) hl.isList hfs (fun v hv => ?_) (by rw [← rv.length]; exact hz) fun st' a1 a2 _ => ?_
  · obtain ⟨t, b, rfl, hb⟩ := key v hv
    exact ⟨_, (raw3 I hb).2⟩
  · have hp : (arrOf st').toList.Perm (its.zip its) := by rw [← pairsOf_toList]; exact Array.perm_iff_toList_perm.mp a1
    have same : ∀ z ∈ (arrOf st').toList, z.1 = z.2 ∧ z.1 ∈ its := fun z hz' => mem_zip_self (hp.mem_iff.mp hz')
    have ho : (((arrOf st').map (·.2)).toList).Perm its := by
      rw [Array.toList_map]
      have := hp.map Prod.snd
      rw [List.map_snd_zip (Nat.le_refl _)] at this
      exact this
    obtain ⟨ep, he'⟩ := PyProof.Rows.sortedAll_at st.heap its ((arrOf st').map (·.2))
    have h3 : ∀ u ∈ ((arrOf st').map (·.2)).toList, ∃ a, u = Value.ref a := fun u hu => e2 u (ho.mem_iff.mp hu)
    have hperm : (((arrOf st').map (·.2)).toList.map backV).Perm xs := by rw [e1]; exact ho.map backV
    refine ⟨.ref _, upd H (st.heap.objs.size + 1) (.lst (((arrOf st').map (·.2)).toList.map backV)), I.laid (t' := st.toks) (fun _ _ => PyProof.Rows.sortedAll_old) (Nat.le_succ _) ⟨by rw [hperm.length_eq]; exact hz, _, ep, vals_back h3, he'⟩, rfl, q _ _ hperm ?_ (I.hok.fresh (Nat.le_succ _))⟩
    rw [List.pairwise_map, Array.toList_map, List.pairwise_map, List.pairwise_iff_getElem]
    intro i j hi hj hij t t' ht ht'
    have hsz : (arrOf st').size = (pairsOf its).size := a1.size_eq
    have hi' : i < (arrOf st').size := by simpa using hi
    have hj' : j < (arrOf st').size := by simpa using hj
    have hk := a2 i j (Nat.le_of_lt hij) (by rw [← hsz]; exact hj')
    have kk : ∀ (m : Nat) (hm : m < (arrOf st').size) (y : Tri), TriAt H (backV ((arrOf st').toList[m]'(by simpa using hm)).2) y → KK (G.tupKindC st.heap sh3) (arrOf st') m = triK y := fun m hm y hy => by
      have hmem : (arrOf st').toList[m]'(by simpa using hm) ∈ (arrOf st').toList := List.getElem_mem _
      obtain ⟨s1, s2⟩ := same _ hmem
      obtain ⟨y', b, eb, hb⟩ := key _ s2
      obtain ⟨b2, ey, hb2⟩ := hy
      rw [← s1, eb] at ey
      cases ey
      rw [hb] at hb2
      have ety : y' = y := by
        obtain ⟨p1, p2, p3⟩ := y
        obtain ⟨r1, r2, r3'⟩ := y'
        simp only [Option.some.injEq, HO.tup.injEq, List.cons.injEq, V.str.injEq, V.int.injEq, and_true] at hb2
        obtain ⟨q1, q2, q3⟩ := hb2
        rw [q1, q2, q3]
      subst ety
      unfold KK
      rw [Array.getElem?_eq_getElem hm]
      show (G.tupKeyC st.heap sh3 ((arrOf st')[m]).1).getD [] = triK y'
      have e5 : ((arrOf st')[m]).1 = Value.ref b := eb
      rw [e5, (raw3 I hb).2]; rfl
    rw [kk i hi' t ht, kk j hj' t' ht'] at hk
    exact hk
theorem cr_sort3K {X : Cx} {K : PySem.W.Frag} (h : X.K = K := by rfl) : CallR X (.builtin "sorted") (r3 K) := by subst h; exact cr_sort3
end Gd

namespace Gd
open PySem L2
/-- an exception that has a dict: the dict stands in the heap -/
def Xd (o : Option Addr) (H : Hp) : Prop := ∀ d, o = some d → ∃ fs, H d = some (.xd fs)
theorem Xd.step {o : Option Addr} {G H G' H' : Hp} (x : Xd o H) (g : Gr [] G H G' H') : Xd o H' := fun d e => by
  obtain ⟨fs, h⟩ := x d e
  exact ⟨fs, g.h d _ (by intro z; cases z) h⟩
theorem Xd.sb {o : Option Addr} {H H' : Hp} (x : Xd o H) (s : Sb H H') : Xd o H' := fun d e => by
  obtain ⟨fs, h⟩ := x d e
  exact ⟨fs, s d _ h⟩
/-- a refusal may be let out from here -/
def Lets (E : XK) (c : Value) (H : Hp) : Prop := ∀ o H', Sb H H' → Xd o H' → E c o H'
theorem Lets.sb {E : XK} {c : Value} {H H' : Hp} (x : Lets E c H) (s : Sb H H') : Lets E c H' := fun o H2 s2 y => x o H2 (s.trans s2) y
/-- what the program says of a refusal's class -/
structure ExX (K : PySem.W.Frag) (mg : Str → Option Value) (n : Str) (C fI : Addr) : Prop where
  T : OexC K C
  g : mg n = some (.ref C)
  i : PySem.W.findIn K (.ref C) "__init__" = some (some (.ref fI))
  ti : PySem.W.typeIn K (.ref fI) = some (.type "function")
  w : PySem.W.findIn K (.ref C) "word" = some none
abbrev spWord (K : PySem.W.Frag) (C : Addr) : Sp := fun vs H Q _ => ∃ (a : Addr) (y z : V), vs = [.ref a, y] ∧ OexC K C ∧ PySem.W.findIn K (.ref C) "word" = some none ∧ H a = some (exo a C none) ∧
  ∀ dx z, H dx = none → dx ≠ a → Q .non (upd (upd H dx (exd dx [("word", z)])) a (exo a C (some dx)))
section
variable {X : Cx} {C fI : Addr} {fd : FuncData} {x : Str} {e : Expr} {t : TA} {p pos : Pos}
def tClo (t : TA) : TA := fun σ H Q => ∃ R, t σ H R ∧ ∀ vs H1, R vs H1 → Q vs H1
theorem pa_clo {es : List Expr} (h : PA X es t) : PA X es (tClo t) := ⟨fun pos pins s σ H Q I q => by
  obtain ⟨R, hR, hi⟩ := q
  exact thn (h.run pos pins s σ H R I hR) fun us s1 ⟨vs, H1, I1, r, q⟩ => ⟨vs, H1, I1, r, hi vs H1 q⟩⟩
theorem tMkO_word {σ : L2.St} {H : Hp} {Q : XK} (T : OexC X.K C) (hw : PySem.W.findIn X.K (.ref C) "word" = some none) (h : t σ H fun vs H1 => vs.length = 1 ∧ Lets Q (.ref C) H1) : tMkO C (spWord X.K C) [] (tClo t) σ H Q := by
  refine ⟨_, h, fun vs H1 ⟨hl, q⟩ => ?_⟩
  match vs, hl with
  | [y], _ =>
    refine ⟨by show 1 ≤ 1000; omega, fun a ha => ⟨a, y, y, rfl, T, hw, upd_same, fun dx z hd hne => ⟨rfl, dx, _, upd_same, (upd_ne hne).trans upd_same, ?_, ?_⟩⟩⟩
    · rwa [upd_ne hne] at hd
    · have hd1 : H1 dx = none := by rwa [upd_ne hne] at hd
      refine q _ _ (fun b u e => ?_) (fun d e => ?_)
      · have h1 : b ≠ dx := fun z => by rw [z, hd1] at e; cases e
        have h2 : b ≠ a := fun z => by rw [z, ha] at e; cases e
        rw [upd_ne h1, del_ne h2, upd_ne h2, upd_ne h1, upd_ne h2]
        exact e
      · cases e
        exact ⟨_, upd_same⟩
theorem pmk_wA (T : ExX X.K X.mg x C fI) (F : FnOk X.prog X.w X.K X.mg X.base CX0 1 fI fd ["self", "why"] (spWord X.K C)) (b : Binds X.K fd ["self", "why"] []) (hr : Room 2 X.A) (hg : Gl X x) (ha : PA X [e] t) (hdb : (x == ("__debug__" : Str)) = false := by decide)
    (he : starEach [e] X.env = (false, eval e X.env) :: starEach [] X.env := by rfl) (hpl : (backTo pos (starEach [] X.env)).any (·.1) = false := by rfl) :
    PMk X (.Call (.Name x p) [e] [] pos) (fun σ H Q => t σ H fun vs H1 => vs.length = 1 ∧ Lets Q (.ref C) H1) := fun pins s σ H Q I h =>
  pmk_oex T.T T.i T.ti F hr b .nil pass0 hg T.g (pa_clo ha) hdb he hpl pins s σ H Q I (tMkO_word T.T T.w h)
theorem pmk_wS {m : Str} {j : Nat} {p2 : Pos} (T : ExX X.K X.mg x C fI) (F : FnOk X.prog X.w X.K X.mg X.base CX0 1 fI fd ["self", "why"] (spWord X.K C)) (b : Binds X.K fd ["self", "why"] []) (hr : Room 2 X.A) (hg : Gl X x) (hdb : (x == ("__debug__" : Str)) = false := by decide)
    (he : starEach [.Constant (.str m) j p2] X.env = (false, eval (.Constant (.str m) j p2) X.env) :: starEach [] X.env := by rfl) (hpl : (backTo pos (starEach [] X.env)).any (·.1) = false := by rfl) :
    PMk X (.Call (.Name x p) [.Constant (.str m) j p2] [] pos) (fun _ H Q => Lets Q (.ref C) H) := fun pins s σ H Q I h =>
  pmk_wA (t := tCons (tC (.str m)) tNil) T F b hr hg (pa_cons pe_str pa_nil) hdb he hpl pins s σ H Q I ⟨rfl, h⟩
end
/-- isinstance(e, c) of a caught refusal -/
def rIsE (K : PySem.W.Frag) (D a : Addr) (dd : Option Addr) : List V → Hp → VK → Prop := fun xs H Q => ∃ (c : V) (cv : Value) (b : Bool), xs = [.ref a, c] ∧ (∀ u, RelV c u → u = cv) ∧ PySem.W.kitOne K (.ref D) cv = some b ∧ Xd dd H ∧ Q (.bl b) H
theorem call_isD {X : Cx} {a D : Addr} {dd : Option Addr} {oe : Obj} {pn : List (Addr × Obj)} (C : ExcC X.K D) (hz : Zc (.ref D) dd oe) (hf : ∃ vs, oe.data = .fields vs) : CallR (X.suite a ((a, oe) :: pn)) (.builtin "isinstance") (rIsE X.K D a dd) := by
  intro pins s σ H xs us Q I r h
  obtain ⟨c, cv, b, rfl, hcv, e, hx, q⟩ := h
  cases r with
  | cons rx rr =>
    cases rr with
    | cons rt rr =>
      cases rr
      cases rx
      have ec := hcv _ rt
      subst ec
      obtain ⟨hget, _⟩ := I.pin (a, oe) (List.mem_append.mpr (.inl List.mem_cons_self))
      obtain ⟨vs, hv⟩ := hf
      obtain ⟨oc, od, oda, osl⟩ := oe
      obtain ⟨h1, h2⟩ := hz
      dsimp only at h1 h2 hv
      subst h1 hv
      have hcl : (PySem.W.clsIn X.K D).isSome = true := by
        obtain ⟨cd, hc, _⟩ := PySem.W.any_some C.hd
        rw [hc]; rfl
      cases od with
      | none =>
        have J : PySem.W.InstAt s.heap a ⟨.ref D, none, .fields vs, osl⟩ D none := ⟨hget, rfl, rfl, trivial⟩
        exact PySem.W.kia_one (PySem.W.handS_kitx_exc C.hg C.hk C.hs C.hd C.ha C.hn C.ht C.hm) I.kIn J e (fun z => nomatch z) fun tk => ⟨.bl b, H, I.kept (t' := tk) fun _ _ z => z, rfl, q⟩
      | some d =>
        obtain ⟨fs, hd⟩ := hx d h2.symm
        obtain ⟨mA, ⟨o, es, ep, e1, e2, e3⟩, _⟩ := I.hok d _ hd
        have J : PySem.W.InstAt s.heap a ⟨.ref D, some d, .fields vs, osl⟩ D (some o) := ⟨hget, rfl, rfl, e1⟩
        exact PySem.W.kia_one (PySem.W.kitx_exc hcl C.hg C.hk C.hs C.ha C.hn C.ht C.hm) I.kIn J e (fun z => nomatch z) fun tk => ⟨.bl b, H, I.kept (t' := tk) fun _ _ z => z, rfl, q⟩
theorem ev_isE {K : PySem.W.Frag} {D a C : Addr} {dd : Option Addr} {i : Nat} {b : Bool} {σ : L2.St} {G H : Hp} (hx : Xd dd H) (hv : σ[i]? = some (some (.ref a))) (hk : PySem.W.kitOne K (.ref D) (.ref C) = some b) : EvD (tCB (rIsE K D a dd) (tCons (tVar i) (tCons (tC (.ref C)) tNil))) σ G H (.bool b) := fun G1 H1 ga Q q =>
  ⟨.ref a, hv, .ref C, .ref C, b, rfl, fun u h => h, hk, hx.step ga, q _ G1 H1 (.refl ga.s) (.bl b)⟩

/-! ### match on a tuple whose head is a word -/
section
variable {X : Cx}
def setAll : List Nat → List V → L2.St → L2.St
  | i :: is, v :: vs, σ => setAll is vs (σ.set i (some v))
  | _, _, σ => σ
inductive Caps (X : Cx) : List Pattern → List Nat → Prop
  | nil : Caps X [] []
  | cons {n : Str} {i : Nat} {p : Pos} {ps : List Pattern} {is : List Nat} (hi : X.N[i]? = some n) (hl : X.env.scope.names.lookup n = some .local) (r : Caps X ps is) : Caps X (.MatchAs none (some n) p :: ps) (i :: is)
theorem Caps.len {ps : List Pattern} {is : List Nat} (h : Caps X ps is) : ps.length = is.length := by
  induction h with
  | nil => rfl
  | cons _ _ _ ih => exact congrArg (· + 1) ih
theorem Caps.star {ps : List Pattern} {is : List Nat} (h : Caps X ps is) : ps.findIdx? (·.isStar) = none := by
  induction h with
  | nil => rfl
  | cons _ _ _ ih =>
    rw [List.findIdx?_cons, ih]
    rfl
def tCases : List (Str × List Nat × TS) → Str → List V → TS
  | [], _, _ => fun D σ H => D.nx σ H
  | (w, is, t) :: cs, z, xs => fun D σ H => if z = w ∧ xs.length = is.length then t D (setAll is xs σ) H else tCases cs z xs D σ H
theorem tc_hit {w z : Str} {is : List Nat} {t : TS} {cs : List (Str × List Nat × TS)} {xs : List V} {D : Ends} {σ : L2.St} {H : Hp} (h1 : z = w) (h2 : xs.length = is.length) (h : t D (setAll is xs σ) H) : tCases ((w, is, t) :: cs) z xs D σ H := by
  unfold tCases; rw [if_pos ⟨h1, h2⟩]; exact h
theorem tc_miss {w z : Str} {is : List Nat} {t : TS} {cs : List (Str × List Nat × TS)} {xs : List V} {D : Ends} {σ : L2.St} {H : Hp} (h1 : ¬ z = w) (h : tCases cs z xs D σ H) : tCases ((w, is, t) :: cs) z xs D σ H := by
  unfold tCases; rw [if_neg fun q => h1 q.1]; exact h
structure PM (X : Cx) (cases : List MatchCase) (cs : List (Str × List Nat × TS)) : Prop where
  run : ∀ (pins : List (Addr × Obj)) (s : Shared) (σ : L2.St) (H : Hp) (D : Ends) (first : Bool) (q : Addr) (z : Str) (xs : List V), Inv X pins σ H s → H q = some (.tup (.str z :: xs)) → tCases cs z xs D σ H →
    wpAny (model X.prog X.w) X.A (matchCases cases X.env (.ref q) first) (SP X pins D) X.xe s
theorem pm_nil : PM X [] [] := ⟨fun pins s σ H D first q z xs I hq h => wpAny_matchCases_nil ⟨σ, H, I, h⟩⟩
theorem caps_each {ps : List Pattern} {is : List Nat} (h : Caps X ps is) : ∀ {us : List Value} {s : Shared} {Q : Option (List (Str × Value)) → Shared → Prop} {M : Model} {A : Around} {E : Value → Shared → Prop}, us.length = is.length →
    (∀ bs : List (Str × Value), bs.map (·.2) = us → (∀ (j : Nat) (n : Str), (bs[j]?).map (·.1) = some n → ∃ i, is[j]? = some i ∧ X.N[i]? = some n ∧ X.env.scope.names.lookup n = some .local) → Q (some bs) s) → wpAny M A (matchEach ps X.env us) Q E s := by
  induction h with
  | nil =>
    intro us s Q M A E hl hq
    have : us = [] := List.length_eq_zero_iff.mp hl
    subst this
    exact wpAny_matchEach_nil (hq [] rfl fun j n e => by simp at e)
  | @cons n i p ps is hi hn r ih =>
    intro us s Q M A E hl hq
    match us, hl with
    | u :: us, hl =>
      refine wpAny_matchEach_cons (wpAny_matchPattern_Capture ?_)
      refine ih (by simpa using hl) fun bs e f => ?_
      refine hq ((n, u) :: bs) (by rw [List.map_cons, e]) fun j m e2 => ?_
      match j, e2 with
      | 0, e2 => cases e2; exact ⟨i, rfl, hi, hn⟩
      | j + 1, e2 => exact f j m e2
theorem caps_store {s : Shared} {pins : List (Addr × Obj)} {H : Hp} {M : Model} {A : Around} {E : Value → Shared → Prop} (hN : X.N.Nodup) : ∀ {bs : List (Str × Value)} {is : List Nat} {xs : List V} {σ : L2.St} {s : Shared} {Q : Unit → Shared → Prop}, Inv X pins σ H s → bs.length = is.length → Vals xs (bs.map (·.2)) →
    (∀ (j : Nat) (n : Str), (bs[j]?).map (·.1) = some n → ∃ i, is[j]? = some i ∧ X.N[i]? = some n ∧ X.env.scope.names.lookup n = some .local) →
    (∀ s', Inv X pins (setAll is xs σ) H s' → Q () s') → wpAny M A (assignInOrder (bs.map fun (n, _) => bindName X.env n) (bs.map (·.2))) Q E s
  | [], is, xs, σ, s, Q, I, hl, r, f, k => by
    have hi : is = [] := List.length_eq_zero_iff.mp hl.symm
    subst hi
    exact PyProof.Rows.assignInOrder_nil (k s I)
  | (n, u) :: bs, is, xs, σ, s, Q, I, hl, r, f, k => by
    match is, hl with
    | i :: is, hl =>
      cases r with
      | @cons x _ xs' _ rx rr =>
        obtain ⟨i', e1, hi, hn⟩ := f 0 n rfl
        cases e1
        refine PyProof.Rows.assignInOrder_cons (wpAny_bindName (store_ok I hN hi (.inl hn) rx (fun s2 I2 => ?_) (.inr hn)))
        exact caps_store (s := s2) hN I2 (by simpa using hl) rr (fun j m e => f (j + 1) m e) k
theorem pm_cons {w : Str} {j : Nat} {p1 p2 pos : Pos} {ps : List Pattern} {is : List Nat} {body : List Stmt} {t : TS} {cases_ : List MatchCase} {cs : List (Str × List Nat × TS)} (hc : X.calm = true) (hN : X.N.Nodup) (c : Caps X ps is) (b : PSs X body t) (r : PM X cases_ cs) :
    PM X (⟨.MatchSequence (.MatchValue (.Constant (.str w) j p1) p2 :: ps) pos, none, body⟩ :: cases_) ((w, is, t) :: cs) := ⟨fun pins s σ H D first q z xs I hq h => by
  obtain ⟨hsz, its, hv, hT⟩ := I.hok q _ hq
  have hlen : (V.str z :: xs).length = its.length := Paired.length hv
  have hsz2 : its.toArray.size ≤ sizeLine := by
    show its.length ≤ _
    rw [← hlen]; exact hsz
  have hfit : (its.toArray.size : Int) < 2 ^ 63 := by
    rw [sizeLine_eq] at hsz2
    omega
  have hst : (Pattern.MatchValue (.Constant (.str w) j p1) p2 :: ps).findIdx? (·.isStar) = none := by
    rw [List.findIdx?_cons, c.star]
    rfl
  refine wpAny_matchCases_cons ?_
  by_cases hl : xs.length = is.length
  · have hsize : its.toArray.size = (Pattern.MatchValue (.Constant (.str w) j p1) p2 :: ps).length := by
      show its.length = _
      rw [← hlen, List.length_cons, List.length_cons, c.len, hl]
    refine PyProof.Rows.matchSeq_tuple_hit hT hfit hsize ?_ hst rfl
    rw [← hsize]
    refine PyProof.Rows.unpackItems_tuple (I.ok.hd hc) hT fun h' hx' => ?_
    have I2 : Inv X pins σ H ⟨h', s.gens, s.drawn, s.toks + 1 + 1, s.os⟩ := I.kept (h' := h') (t' := s.toks + 1 + 1) fun b o e => hx' b o (Nat.ne_of_lt (Heap.lt_size e)) e
    cases hv with
    | @cons _ u0 _ us r0 rr =>
      refine wpAny_matchEach_cons (wpAny_matchPattern_Value ?_)
      refine thn (pe_str.run pins _ σ H (fun v H' => v = .str w ∧ H' = H) I2 ⟨rfl, rfl⟩) fun uw s3 ⟨v, H3, I3, rv, ev, eH⟩ => ?_
      subst ev eH
      refine thn (op_eq pins s3 σ H3 (.str z) (.str w) u0 uw (fun v H' => v = .bl (decide (V.str z = V.str w)) ∧ H' = H3) I3 r0 rv ⟨rfl, rfl, rfl⟩) fun ub s4 ⟨vb, H4, I4, rb, eb, eH⟩ => ?_
      subst eb eH
      obtain rfl : ub = Value.bool (decide (V.str z = V.str w)) := rb
      refine wpAny_truthy_bool ?_
      by_cases hz : z = w
      · have hb : decide (V.str z = V.str w) = true := decide_eq_true (by rw [hz])
        rw [hb, if_pos rfl]
        have hus : us.length = is.length := by
          have : xs.length = us.length := Paired.length rr
          omega
        refine caps_each c hus fun bs e f => ?_
        have hbl : bs.length = is.length := by
          rw [← hus, ← e, List.length_map]
        show wpAny _ _ (assignInOrder (bs.map fun (n, _) => bindName X.env n) (bs.map (·.2))) _ _ _
        refine caps_store (s := s4) hN I4 hbl (by rw [e]; exact rr) f fun s5 I5 => ?_
        unfold tCases at h
        rw [if_pos ⟨hz, hl⟩] at h
        exact b.run pins s5 _ H4 D I5 h
      · have hb : decide (V.str z = V.str w) = false := decide_eq_false fun q => hz (by cases q; rfl)
        rw [hb, if_neg Bool.false_ne_true]
        unfold tCases at h
        rw [if_neg fun q => hz q.1] at h
        exact r.run pins s4 σ H4 D false q z xs I4 hq h
  · refine PyProof.Rows.matchSeq_tuple_miss hT hfit (fun e => hl ?_) ?_ hst rfl
    · have e2 : its.length = ps.length + 1 := e
      rw [← hlen, List.length_cons, c.len] at e2
      omega
    · unfold tCases at h
      rw [if_neg fun q => hl q.2] at h
      exact r.run pins _ σ H D false q z xs (I.tok _) hq h⟩
def tMatch (te : TE) (cs : List (Str × List Nat × TS)) : TS := fun D σ H => te σ H fun v H1 => ∃ q z xs, v = .ref q ∧ H1 q = some (.tup (.str z :: xs)) ∧ tCases cs z xs D σ H1
theorem ps_match {e : Expr} {te : TE} {pos : Pos} {cases_ : List MatchCase} {cs : List (Str × List Nat × TS)} (he : PE X e te) (r : PM X cases_ cs) : PS X (.Match e cases_ pos) (tMatch te cs) := ⟨fun pins s σ H D I h => by
  refine wpAny_Match (thn (he.run pins s σ H _ I h) fun u s1 ⟨v, H1, I1, rv, q, z, xs, ev, hq, h1⟩ => ?_)
  subst ev
  obtain rfl : u = Value.ref q := rv
  exact r.run pins s1 σ H1 D true q z xs I1 hq h1⟩
end
end Gd
namespace Gd
open PySem L2
theorem cls_mro {K : PySem.W.Frag} {C N cH : Addr} {nm q : Str} {bs sub : List Value} {sn : List Str} {ab : Bool} {col : Option Bool} {dd : Option Addr} {k0 k1 k2 k3 k5 : Option Value} (h : K.lookup C = some (PySem.excClassObj nm q C N bs [.ref cH, .type "ValueError", .type "Exception", .type "BaseException", .type "object"] true sn sub ab col dd k0 k1 k2 k3 k5 "ValueError.__new__")) :
    ∃ cd, PySem.W.clsIn K C = some cd ∧ cd.mro = [.ref C, .ref cH, .type "ValueError", .type "Exception", .type "BaseException", .type "object"] := by
  unfold PySem.W.clsIn
  rw [h]
  exact ⟨_, rfl, rfl⟩
end Gd

namespace My
open PySem L2 Gd
def top (i : Nat) : Stmt := PySem.Challenge.pw_allonge_k38_deeds_written_and_read.main.body.getD i (.Pass ⟨0, 0, 0, 0⟩)
abbrev s_is_name : Stmt := top 5
abbrev N_is_name : List Str := ["word", "sign"]
theorem sc_is_name : FnScope N_is_name ["word"] (defScope s_is_name) := ⟨rfl, rfl, rfl, by decide +kernel, rfl, by decide +kernel, by decide +kernel⟩
abbrev s_is_number : Stmt := top 9
abbrev N_is_number : List Str := ["word", "sign"]
theorem sc_is_number : FnScope N_is_number ["word"] (defScope s_is_number) := ⟨rfl, rfl, rfl, by decide +kernel, rfl, by decide +kernel, by decide +kernel⟩
abbrev s_read_part : Stmt := top 10
abbrev N_read_part : List Str := ["kind", "word"]
theorem sc_read_part : FnScope N_read_part ["kind", "word"] (defScope s_read_part) := ⟨rfl, rfl, rfl, by decide +kernel, rfl, by decide +kernel, by decide +kernel⟩
abbrev s_part_word : Stmt := top 11
abbrev N_part_word : List Str := ["part"]
theorem sc_part_word : FnScope N_part_word ["part"] (defScope s_part_word) := ⟨rfl, rfl, rfl, by decide +kernel, rfl, by decide +kernel, by decide +kernel⟩
abbrev s_deed_line : Stmt := top 12
abbrev N_deed_line : List Str := ["deed", "word", "parts", "part"]
theorem sc_deed_line : FnScope N_deed_line ["deed"] (defScope s_deed_line) := ⟨rfl, rfl, rfl, by decide +kernel, rfl, by decide +kernel, by decide +kernel⟩
abbrev s_read_deed : Stmt := top 13
abbrev N_read_deed : List Str := ["line", "word", "words", "parts", "kind", "part", "name"]
theorem sc_read_deed : FnScope N_read_deed ["line"] (defScope s_read_deed) := ⟨rfl, rfl, rfl, by decide +kernel, rfl, by decide +kernel, by decide +kernel⟩
abbrev s_Lfeed : Stmt := top 15
abbrev N_Lfeed : List Str := ["_law_script", "_law_feed_here", "_law_cell", "_law_left", "_law_turn", "_law_seed"]
theorem sc_Lfeed : FnScope N_Lfeed ["_law_script"] (defScope s_Lfeed) := ⟨rfl, rfl, rfl, by decide +kernel, rfl, by decide +kernel, by decide +kernel⟩
abbrev s_Lname : Stmt := top 16
abbrev N_Lname : List Str := ["_law_pick", "_law_k", "_law_sign", "_law_at", "_law_words", "_law_some"]
theorem sc_Lname : FnScope N_Lname ["_law_pick", "_law_k"] (defScope s_Lname) := ⟨rfl, rfl, rfl, by decide +kernel, rfl, by decide +kernel, by decide +kernel⟩
abbrev s_Lsame : Stmt := top 17
abbrev N_Lsame : List Str := ["_law_found", "_law_due", "_law_k"]
theorem sc_Lsame : FnScope N_Lsame ["_law_found", "_law_due"] (defScope s_Lsame) := ⟨rfl, rfl, rfl, by decide +kernel, rfl, by decide +kernel, by decide +kernel⟩
abbrev s_Lline : Stmt := top 18
abbrev N_Lline : List Str := ["_law_deed", "_law_words", "_law_part"]
theorem sc_Lline : FnScope N_Lline ["_law_deed"] (defScope s_Lline) := ⟨rfl, rfl, rfl, by decide +kernel, rfl, by decide +kernel, by decide +kernel⟩
abbrev s_Lnumber : Stmt := top 19
abbrev N_Lnumber : List Str := ["_law_feed_here", "_law_at"]
theorem sc_Lnumber : FnScope N_Lnumber ["_law_feed_here", "_law_at"] (defScope s_Lnumber) := ⟨rfl, rfl, rfl, by decide +kernel, rfl, by decide +kernel, by decide +kernel⟩
abbrev s_Lwritten_deed : Stmt := top 20
abbrev N_Lwritten_deed : List Str := ["_law_feed_here", "_law_at", "_law_shapes", "_law_more", "_law_words", "_law_word", "_law_k", "_law_parts", "_law_kind"]
theorem sc_Lwritten_deed : FnScope N_Lwritten_deed ["_law_feed_here", "_law_at"] (defScope s_Lwritten_deed) := ⟨rfl, rfl, rfl, by decide +kernel, rfl, by decide +kernel, by decide +kernel⟩
abbrev s_Law : Stmt := top 21
abbrev N_Law : List Str := ["_law_script", "_law_feed_here", "_law_k", "_law_deed", "_law_line_here"]
theorem sc_Law : FnScope N_Law ["_law_script"] (defScope s_Law) := ⟨rfl, rfl, rfl, by decide +kernel, rfl, by decide +kernel, by decide +kernel⟩
abbrev s_XBadLine : Stmt := inClass (top 2) 0
abbrev N_XBadLine : List Str := ["self", "at"]
theorem sc_XBadLine : FnScope N_XBadLine ["self", "at"] (defScope s_XBadLine) := ⟨rfl, rfl, rfl, by decide +kernel, rfl, by decide +kernel, by decide +kernel⟩
structure Ad where
  a_is_name : Addr
  d_is_name : FuncData
  a_is_number : Addr
  d_is_number : FuncData
  a_read_part : Addr
  d_read_part : FuncData
  a_part_word : Addr
  d_part_word : FuncData
  a_deed_line : Addr
  d_deed_line : FuncData
  a_read_deed : Addr
  d_read_deed : FuncData
  a_Lfeed : Addr
  d_Lfeed : FuncData
  a_Lname : Addr
  d_Lname : FuncData
  a_Lsame : Addr
  d_Lsame : FuncData
  a_Lline : Addr
  d_Lline : FuncData
  a_Lnumber : Addr
  d_Lnumber : FuncData
  a_Lwritten_deed : Addr
  d_Lwritten_deed : FuncData
  a_Law : Addr
  d_Law : FuncData
  t_LONGEST_NAME : Tok
  t_MOST_FIGURES : Tok
structure Txt (K : PySem.W.Frag) (mg : Str → Option Value) (A : Ad) : Prop where
  b : Bi mg
  xset : mg "set" = none
  xzip : mg "zip" = none
  xany : mg "any" = none
  xmin : mg "min" = none
  g_LONGEST_NAME : mg "LONGEST_NAME" = some (.int 8 A.t_LONGEST_NAME)
  g_MOST_FIGURES : mg "MOST_FIGURES" = some (.int 30 A.t_MOST_FIGURES)
  m_is_name : mg "is_name" = some (.ref A.a_is_name)
  F_is_name : Fun K "is_name" "is_name" s_is_name A.a_is_name A.d_is_name
  b_is_name : Binds K A.d_is_name ["word"] []
  m_is_number : mg "is_number" = some (.ref A.a_is_number)
  F_is_number : Fun K "is_number" "is_number" s_is_number A.a_is_number A.d_is_number
  b_is_number : Binds K A.d_is_number ["word"] []
  m_read_part : mg "read_part" = some (.ref A.a_read_part)
  F_read_part : Fun K "read_part" "read_part" s_read_part A.a_read_part A.d_read_part
  b_read_part : Binds K A.d_read_part ["kind", "word"] []
  m_part_word : mg "part_word" = some (.ref A.a_part_word)
  F_part_word : Fun K "part_word" "part_word" s_part_word A.a_part_word A.d_part_word
  b_part_word : Binds K A.d_part_word ["part"] []
  m_deed_line : mg "deed_line" = some (.ref A.a_deed_line)
  F_deed_line : Fun K "deed_line" "deed_line" s_deed_line A.a_deed_line A.d_deed_line
  b_deed_line : Binds K A.d_deed_line ["deed"] []
  m_read_deed : mg "read_deed" = some (.ref A.a_read_deed)
  F_read_deed : Fun K "read_deed" "read_deed" s_read_deed A.a_read_deed A.d_read_deed
  b_read_deed : Binds K A.d_read_deed ["line"] []
  m_Lfeed : mg "_law_feed" = some (.ref A.a_Lfeed)
  F_Lfeed : Fun K "_law_feed" "_law_feed" s_Lfeed A.a_Lfeed A.d_Lfeed
  b_Lfeed : Binds K A.d_Lfeed ["_law_script"] []
  m_Lname : mg "_law_name" = some (.ref A.a_Lname)
  F_Lname : Fun K "_law_name" "_law_name" s_Lname A.a_Lname A.d_Lname
  b_Lname : Binds K A.d_Lname ["_law_pick", "_law_k"] []
  m_Lsame : mg "_law_same" = some (.ref A.a_Lsame)
  F_Lsame : Fun K "_law_same" "_law_same" s_Lsame A.a_Lsame A.d_Lsame
  b_Lsame : Binds K A.d_Lsame ["_law_found", "_law_due"] []
  m_Lline : mg "_law_line" = some (.ref A.a_Lline)
  F_Lline : Fun K "_law_line" "_law_line" s_Lline A.a_Lline A.d_Lline
  b_Lline : Binds K A.d_Lline ["_law_deed"] []
  m_Lnumber : mg "_law_number" = some (.ref A.a_Lnumber)
  F_Lnumber : Fun K "_law_number" "_law_number" s_Lnumber A.a_Lnumber A.d_Lnumber
  b_Lnumber : Binds K A.d_Lnumber ["_law_feed_here", "_law_at"] []
  m_Lwritten_deed : mg "_law_written_deed" = some (.ref A.a_Lwritten_deed)
  F_Lwritten_deed : Fun K "_law_written_deed" "_law_written_deed" s_Lwritten_deed A.a_Lwritten_deed A.d_Lwritten_deed
  b_Lwritten_deed : Binds K A.d_Lwritten_deed ["_law_feed_here", "_law_at"] []
  m_Law : mg "law" = some (.ref A.a_Law)
  F_Law : Fun K "law" "law" s_Law A.a_Law A.d_Law
  b_Law : Binds K A.d_Law ["_law_script"] []
abbrev veTl : List Value := [.type "ValueError", .type "Exception", .type "BaseException", .type "object"]
inductive Kd | BadLine
deriving DecidableEq
structure Bd where
  cH : Addr
  c_BadLine : Addr
  a_XBadLine : Addr
  d_XBadLine : FuncData
def Bd.cls (B : Bd) : Kd → Addr
  | .BadLine => B.c_BadLine
structure ExT (K : PySem.W.Frag) (mg : Str → Option Value) (n : Str) (C cH fI : Addr) : Prop where
  x : ExX K mg n C fI
  e : PySem.W.exmOne K (.ref C) (.ref cH) = some true
  i : ExcC K C
  ml : ∃ cd, PySem.W.clsIn K C = some cd ∧ cd.mro = [.ref C, .ref cH, .type "ValueError", .type "Exception", .type "BaseException", .type "object"]
structure Ux (K : PySem.W.Frag) (mg : Str → Option Value) (B : Bd) : Prop where
  gH : mg "HallError" = some (.ref B.cH)
  x_BadLine : ExT K mg "BadLine" B.c_BadLine B.cH B.a_XBadLine
  F_XBadLine : Fun K "__init__" "BadLine.__init__" s_XBadLine B.a_XBadLine B.d_XBadLine
  b_XBadLine : Binds K B.d_XBadLine ["self", "at"] []
  xat : PySem.W.findIn K (.ref B.c_BadLine) "at" = some none
  nd : [B.cH, B.c_BadLine].Nodup
def Kd.ix : Kd → Nat
  | .BadLine => 0
def Kd.of : Nat → Kd
  | _ => .BadLine
theorem Kd.of_ix (k : Kd) : Kd.of k.ix = k := by cases k <;> rfl
theorem Bd.at_ix (B : Bd) (k : Kd) : ([B.cH, B.c_BadLine] : List Addr)[k.ix + 1]? = some (B.cls k) := by cases k <;> rfl
theorem Ux.inj {K : PySem.W.Frag} {mg : Str → Option Value} {B : Bd} (U : Ux K mg B) {k j : Kd} (h : B.cls k = B.cls j) : k = j := by
  cases k; cases j; rfl
theorem Ux.neH {K : PySem.W.Frag} {mg : Str → Option Value} {B : Bd} (U : Ux K mg B) (k : Kd) : B.cls k ≠ B.cH := fun h => by
  have e1 := B.at_ix k
  have e2 : ([B.cH, B.c_BadLine] : List Addr)[0]? = some B.cH := rfl
  rw [h] at e1
  have := (List.getElem?_inj (List.getElem?_eq_some_iff.mp e1).1 U.nd).mp (e1.trans e2.symm)
  all_goals omega
theorem Ux.ml {K : PySem.W.Frag} {mg : Str → Option Value} {B : Bd} (U : Ux K mg B) (k : Kd) : (∃ cd, PySem.W.clsIn K (B.cls k) = some cd ∧ cd.mro = [.ref (B.cls k), .ref B.cH, .type "ValueError", .type "Exception", .type "BaseException", .type "object"]) ∧ PySem.W.typeIn K (.ref (B.cls k)) = some (.type "type") := by
  cases k
  · exact ⟨U.x_BadLine.ml, U.x_BadLine.x.T.tyC⟩
theorem Ux.kit {K : PySem.W.Frag} {mg : Str → Option Value} {B : Bd} (U : Ux K mg B) (k j : Kd) : PySem.W.kitOne K (.ref (B.cls k)) (.ref (B.cls j)) = some (decide (k = j)) := by
  unfold PySem.W.kitOne
  by_cases h : k = j
  · subst h
    rw [if_pos (beq_self_eq_true _), decide_eq_true rfl]
  · have ne : (Value.ref (B.cls k) == Value.ref (B.cls j)) = false := beq_eq_false_iff_ne.mpr fun e => h (U.inj (Value.ref.inj e))
    have ne1 : (Value.ref (B.cls j) == Value.ref (B.cls k)) = false := beq_eq_false_iff_ne.mpr fun e => h (U.inj (Value.ref.inj e)).symm
    have ne2 : (Value.ref (B.cls j) == Value.ref B.cH) = false := beq_eq_false_iff_ne.mpr fun e => U.neH j (Value.ref.inj e)
    obtain ⟨⟨cd, h1, h2⟩, h3⟩ := U.ml k
    obtain ⟨⟨cd', h1', h2'⟩, h3'⟩ := U.ml j
    rw [ne, if_neg Bool.false_ne_true, decide_eq_false h]
    show (if ((PySem.W.clsIn K (B.cls j)).isSome && PySem.W.typeIn K (.ref (B.cls j)) == some (.type "type")) = true then PySem.W.mroIn K (B.cls k) (.ref (B.cls j)) else none) = some false
    have e1 : ((PySem.W.clsIn K (B.cls j)).isSome && PySem.W.typeIn K (.ref (B.cls j)) == some (.type "type")) = true := by rw [h1', h3']; rfl
    rw [if_pos e1]
    unfold PySem.W.mroIn
    rw [h1, Option.bind_some, h2]
    show some (List.contains _ _) = some false
    congr 1
    rw [List.contains_cons, List.contains_cons, ne1, ne2]
    rfl
theorem Ux.hall {K : PySem.W.Frag} {mg : Str → Option Value} {B : Bd} (U : Ux K mg B) (k : Kd) : PySem.W.exmOne K (.ref (B.cls k)) (.ref B.cH) = some true := by
  cases k
  · exact U.x_BadLine.e
theorem Ux.excC {K : PySem.W.Frag} {mg : Str → Option Value} {B : Bd} (U : Ux K mg B) (k : Kd) : ExcC K (B.cls k) := by
  cases k
  · exact U.x_BadLine.i
abbrev spLine (K : PySem.W.Frag) (C : Addr) : Sp := fun vs H Q _ => ∃ (a : Addr) (y : V), vs = [.ref a, y] ∧ OexC K C ∧ PySem.W.findIn K (.ref C) "word" = some none ∧ PySem.W.findIn K (.ref C) "at" = some none ∧ H a = some (exo a C none) ∧
  ∀ dx, H dx = none → dx ≠ a → Q .non (upd (upd (upd H dx (exd dx [("word", .str "BadLine")])) a (exo a C (some dx))) dx (exd dx [("at", y), ("word", .str "BadLine")]))
theorem okx_BadLine {P : Program} {w : World} {K : PySem.W.Frag} {mg : Str → Option Value} {base : Heap} {B : Bd} (U : Ux K mg B) : FnOk P w K mg base CX0 1 B.a_XBadLine B.d_XBadLine ["self", "at"] (spLine K B.c_BadLine) := by
  refine U.F_XBadLine.ok sc_XBadLine (fun vs H Q E h => by obtain ⟨_, _, rfl, _⟩ := h; rfl) (fun cdv A' outer s H vs Q E hr h => ?_)
  obtain ⟨a, y, rfl, T, hw, hat, ha, kQ⟩ := h
  exact ⟨_, pss_cons (ps_ost (pv 0) pe_str) (pss_one (ps_ost (pv 0) (pv 1))), _, rfl, a, B.c_BadLine, rfl, T, hw, Or.inl ⟨ha, fun dx hd hne => ⟨_, rfl, _, rfl, a, B.c_BadLine, rfl, T, hat, Or.inr ⟨dx, _, upd_same, (upd_ne hne).trans upd_same, by decide, kQ dx hd hne⟩⟩⟩⟩

-- feed3.txt
section

local macro_rules | `(tactic| walk_at "arith") => `(tactic| first | omega | decide | (unfold CMul; omega) | (unfold CDiv; omega) | (unfold CPow; decide) | (refine ⟨?_, ?_⟩ <;> omega) | (simp; done) | (simp; omega))
local macro_rules | `(tactic| walk_at "wide") => `(tactic| exact ⟨by decide, by decide +kernel⟩)
section
variable {P : Program} {w : World} {K : PySem.W.Frag} {mg : Str → Option Value} {base : Heap} {A : Ad}
structure FeedOk (fs : List Int) : Prop where
  lo : 270 ≤ fs.length
  hi : fs.length ≤ 400
  el : ∀ x ∈ fs, 0 ≤ x ∧ x < 55440
def spFeed (K : PySem.W.Frag) : Sp := fun vs H Q _ => ∃ (G : Hp) (a : Addr) (ns : List Int), vs = [.ref a] ∧ Sb G H ∧ SqL K H a (ns.map V.int) ∧ ns.length ≤ 63 ∧
  ∀ p (fs : List Int) G' H', FeedOk fs → Gr [] G H G' H' → H p = none → G' p = none → H' p = some (.lst (fs.map V.int)) → Q (.ref p) H'
theorem ints_app {fs : List Int} {z : Int} : fs.map V.int ++ [V.int z] = (fs ++ [z]).map V.int := by simp
theorem el_app {fs : List Int} {z : Int} (h : ∀ x ∈ fs, 0 ≤ x ∧ x < 55440) (hz : 0 ≤ z ∧ z < 55440) : ∀ x ∈ fs ++ [z], 0 ≤ x ∧ x < 55440 := fun x hx => by
  rcases List.mem_append.mp hx with h1 | h1
  · exact h x h1
  · rw [List.mem_singleton.mp h1]; exact hz
theorem mod_ok (z : Int) : 0 ≤ z % 55440 ∧ z % 55440 < 55440 := ⟨Int.emod_nonneg _ (by decide), Int.emod_lt_of_pos _ (by decide)⟩
theorem abs_nn (z : Int) : 0 ≤ (if z < 0 then -z else z) := by split <;> omega
theorem ok_Lfeed (T : Txt K mg A) : FnOk P w K mg base CX0 1 A.a_Lfeed A.d_Lfeed ["_law_script"] (spFeed K) := by
  refine T.F_Lfeed.ok sc_Lfeed (fun vs H Q E h => ?_) (fun cdv A' outer s H vs Q E hr h => ?_)
  · obtain ⟨G, a, ns, rfl, _⟩ := h
    rfl
  · obtain ⟨G, a, ns, rfl, s0, hS, hlen, k⟩ := h
    refine ⟨_, (pss_cons (ps_set (i := 1) sc_Lfeed.nd rfl (Or.inl rfl) (pe_lst pa_nil))
      (pss_cons (ps_for PassesOwn.never rfl (pi_list (pv 0)) (pg_name (i := 2) sc_Lfeed.nd rfl (Or.inl rfl))
      (pss_one (ps_if (pt_cmpR op_lt (pe_callB (call_lenK (K := K)) (by rfl) T.b.len (by decide +kernel) (pa_cons (pv 1) pa_nil)) pe_int (nomark _))
      (pss_cons (ps_set (i := 3) sc_Lfeed.nd rfl (Or.inl rfl) (pe_callB call_abs (by rfl) T.b.abs (by decide +kernel) (pa_cons (pv 2) pa_nil)))
      (pss_one (ps_if (pt_cmpR op_ge (pv 3) (pe_op op_pow pe_int pe_int) (nomark _))
      (pss_one (ps_for PassesOwn.never rfl (pi_range1 (by rfl) T.b.range (pa_cons pe_int pa_nil)) (pg_name (i := 4) sc_Lfeed.nd rfl (Or.inl rfl))
      (pss_one (ps_if (pt_cmpR op_gt (pv 3) pe_int (nomark _))
      (pss_cons (ps_expr (pe_bm PySem.F.plainAttrs_list PySem.F.slot_list_append PySem.F.type_list_append mt_append (pv 1) (pa_cons (pe_op op_mod (pv 3) pe_int) pa_nil)))
      (pss_one (ps_set (i := 3) sc_Lfeed.nd rfl (Or.inl rfl) (pe_op op_fdivW (pv 3) pe_int))))
      pss_nil))))
      (pss_cons (ps_set (i := 5) sc_Lfeed.nd rfl (Or.inl rfl) (pe_op op_mod (pe_op op_add (pe_op op_mul (pe_op op_add (pe_op op_mul pe_int (pv 3)) (pe_callTy call_int1 (by rfl) T.b.int_ (by decide +kernel) (pa_cons (pe_cmpR op_lt (pv 2) pe_int (nomark _)) pa_nil))) pe_int) pe_int) pe_int))
      (pss_one (ps_for PassesOwn.never rfl (pi_range1 (by rfl) T.b.range (pa_cons pe_int pa_nil)) (pg_name (i := 4) sc_Lfeed.nd rfl (Or.inl rfl))
      (pss_cons (ps_set (i := 5) sc_Lfeed.nd rfl (Or.inl rfl) (pe_op op_mod (pe_op op_add (pe_op op_mul (pv 5) pe_int) pe_int) pe_int))
      (pss_one (ps_expr (pe_bm PySem.F.plainAttrs_list PySem.F.slot_list_append PySem.F.type_list_append mt_append (pv 1) (pa_cons (pe_op op_mod (pe_op op_fdiv (pv 5) pe_int) pe_int) pa_nil)))))))))))
      pss_nil)))
      (pss_cons (ps_set (i := 5) sc_Lfeed.nd rfl (Or.inl rfl) (pe_op op_add (pe_op op_add pe_int (pe_callB (call_lenK (K := K)) (by rfl) T.b.len (by decide +kernel) (pa_cons (pv 1) pa_nil))) (pe_callB (cr_sumK (K := K) rfl) (by rfl) T.b.sum (by decide +kernel) (pa_cons (pv 1) pa_nil))))
      (pss_cons (ps_for PassesOwn.never rfl (pi_range1 (by rfl) T.b.range (pa_cons pe_int pa_nil)) (pg_name (i := 4) sc_Lfeed.nd rfl (Or.inl rfl))
      (pss_one (ps_if (pt_cmpR op_lt (pe_callB (call_lenK (K := K)) (by rfl) T.b.len (by decide +kernel) (pa_cons (pv 1) pa_nil)) pe_int (nomark _))
      (pss_cons (ps_set (i := 5) sc_Lfeed.nd rfl (Or.inl rfl) (pe_op op_mod (pe_op op_add (pe_op op_mul (pv 5) pe_int) pe_int) pe_int))
      (pss_one (ps_expr (pe_bm PySem.F.plainAttrs_list PySem.F.slot_list_append PySem.F.type_list_append mt_append (pv 1) (pa_cons (pe_op op_mod (pe_op op_fdiv (pv 5) pe_int) pe_int) pa_nil)))))
      pss_nil)))
      (pss_one (ps_ret (pv 1))))))), ?_⟩
    refine q_asgM (ev_lst ea_nil (by walk_at "arith")) s0 fun l xs G1 H1 g1 h0 hn hl hx => ?_
    cases hx
    have hS1 : SqL K H1 a (ns.map V.int) := sq_gr g1 (by simp) hS
    have o1 : Ow G H G1 H1 l ([] : List V) := Ow.mk0 g1 hl hn
    refine ⟨_, rfl, a, rfl, ⟨_, hS1⟩, for_list (K := K) (a := a) (xs := ns.map V.int) (fun i σ' H' => ∃ (fs : List Int) (v2 v3 v4 v5 : Option V) (G' : Hp), σ' = [some (.ref a), some (.ref l), v2, v3, v4, v5] ∧ Ow G H G' H' l (fs.map V.int) ∧ fs.length ≤ 329 ∧ ∀ x ∈ fs, 0 ≤ x ∧ x < 55440)
      ⟨[], none, none, none, none, G1, rfl, o1, by simp, by simp⟩ (fun i σ' H' _ p => ?_) (fun i x σ' H' hx p => ?_) (fun σ' H' p => ?_)⟩
    · obtain ⟨fs, v2, v3, v4, v5, G', rfl, o, _⟩ := p
      exact o.sq h0 hS
    · obtain ⟨fs, v2, v3, v4, v5, G', rfl, hl_feed_here, hf, he⟩ := p
      obtain ⟨z, rfl⟩ : ∃ z, x = V.int z := by
        rw [List.getElem?_map] at hx
        cases e : ns[i]? with
        | none => rw [e] at hx; cases hx
        | some u => rw [e] at hx; exact ⟨u, (Option.some.inj hx).symm⟩
      have h_cell : ∀ G, Dx G (.int z) (.int z) := fun _ => .int z
      refine s_if (et_test (ev_op (ev_lenO rfl hl_feed_here.hl) ev_int rd_lt)) hl_feed_here.s (fun hb G2 H2 g2 => ?_) (fun hb G2 H2 g2 => ?_)
      · have hb := of_decide_eq_true hb
        rw [List.length_map] at hb
        replace hl_feed_here := hl_feed_here.step g2
        refine q_asg ((fun h_cell => (ev_cb (ea_cons (ev_var rfl h_cell) ea_nil) cd_abs)) (h_cell _)) hl_feed_here.s fun v G3 H3 g3 hv => ?_
        obtain rfl := hv.int_eq
        replace hl_feed_here := hl_feed_here.step g3
        have hz0 := abs_nn z
        generalize (if z < 0 then -z else z) = y at hz0 ⊢
        have h_left : ∀ G, Dx G (.int y) (.int y) := fun _ => .int y
        refine s_if ((fun h_left => (et_test (ev_op (ev_var rfl h_left) (ev_op ev_int ev_int (rd_pow (by walk_at "arith"))) rd_ge))) (h_left _)) hl_feed_here.s (fun hy G4 H4 g4 => ?_) (fun hy G4 H4 g4 => ?_)
        · replace hl_feed_here := hl_feed_here.step g4
          refine s_forR [l] (fun n σ' G' H' => ∃ (gs : List Int) (y : Int) (v4 : Option V), σ' = [some (.ref a), some (.ref l), some (.int z), some (.int y), v4, v5] ∧ Ow G H G' H' l (gs.map V.int) ∧ gs.length ≤ fs.length + n ∧ ∀ x ∈ gs, 0 ≤ x ∧ x < 55440)
            (ea_cons ev_int ea_nil) (by omega) hl_feed_here.s (fun G5 H5 g5 => ⟨fs, y, v4, rfl, hl_feed_here.step g5, by omega, he⟩) (fun G5 H5 g5 n σ' G' H' hn2 gg p => ?_) (fun σ' G' H' gg p => ?_)
          · obtain ⟨gs, y, v4, rfl, hl_feed_here, hg, he⟩ := p
            have h_left : ∀ G, Dx G (.int y) (.int y) := fun _ => .int y
            refine s_if ((fun h_left => (et_test (ev_op (ev_var rfl h_left) ev_int rd_gt))) (h_left _)) hl_feed_here.s (fun hy G6 H6 g6 => ?_) (fun hy G6 H6 g6 => ?_)
            · replace hl_feed_here' := hl_feed_here.step g6
              refine q_app' hl_feed_here' rfl ((fun h_left => (ev_op (ev_var rfl h_left) ev_int (rd_mod (by walk_at "arith")))) (h_left _)) (by rw [List.length_map]; omega) fun v G7 H7 hv g7 o7 => ?_
              obtain rfl := hv.int_eq
              rw [ints_app] at o7 ⊢
              refine s_asg ((fun h_left => (ev_op (ev_var rfl h_left) ev_int (rd_fdivW (by walk_at "wide")))) (h_left _)) o7.s fun v G8 H8 g8 hv => ?_
              obtain rfl := hv.int_eq
              refine ⟨G8, ?_, _, _, _, rfl, o7.step g8, by rw [List.length_append, List.length_singleton]; omega, el_app he (mod_ok y)⟩
              exact ((((gg.trans g6.any).trans g7.any).write (Or.inl (by simp)) o7.hn)).trans g8.any
            · exact ⟨G6, gg.trans g6.any, gs, y, _, rfl, hl_feed_here.step g6, by omega, he⟩
          · obtain ⟨gs, y, v4, rfl, o, hg, he⟩ := p
            exact ⟨gs, _, _, _, _, G', rfl, o, by have : (60 : Int).toNat = 60 := rfl; omega, he⟩
        · replace hl_feed_here := hl_feed_here.step g4
          have hy := of_decide_eq_false hy
          have hy1 : y < 1000000000000000000 := by
            have e : ((10 : Int) ^ (18 : Int).toNat) = 1000000000000000000 := by decide
            rw [e] at hy; omega
          refine q_asg ((fun h_left h_cell => (ev_op (ev_op (ev_op (ev_op (ev_op ev_int (ev_var rfl h_left) (rd_mul (by walk_at "arith"))) (ev_cb (ea_cons (ev_op (ev_var rfl h_cell) ev_int rd_lt) ea_nil) cd_intB) rd_add) ev_int (rd_mul (by walk_at "arith"))) ev_int rd_add) ev_int (rd_mod (by walk_at "arith")))) (h_left _) (h_cell _)) hl_feed_here.s fun v G5 H5 g5 hv => ?_
          obtain rfl := hv.int_eq
          replace hl_feed_here := hl_feed_here.step g5
          have hs0 : ∀ u : Int, 0 ≤ u % 2147483629 ∧ u % 2147483629 < 2147483647 := fun u => ⟨by omega, by omega⟩
          have hs1 := hs0 ((2 * y + (if decide (z < 0) then 1 else 0)) * 69621 + 11)
          generalize ((2 * y + (if decide (z < 0) then 1 else 0)) * 69621 + 11) % 2147483629 = sd at hs1 ⊢
          refine s_forR [l] (fun n σ' G' H' => ∃ (gs : List Int) (sd : Int) (v4 : Option V), σ' = [some (.ref a), some (.ref l), some (.int z), some (.int y), v4, some (.int sd)] ∧ (0 ≤ sd ∧ sd < 2147483647) ∧ Ow G H G' H' l (gs.map V.int) ∧ gs.length ≤ fs.length + n ∧ ∀ x ∈ gs, 0 ≤ x ∧ x < 55440)
            (ea_cons ev_int ea_nil) (by omega) hl_feed_here.s (fun G6 H6 g6 => ⟨fs, sd, v4, rfl, hs1, hl_feed_here.step g6, by omega, he⟩) (fun G6 H6 g6 n σ' G' H' hn2 gg p => ?_) (fun σ' G' H' gg p => ?_)
          · obtain ⟨gs, sd, v4, rfl, hs1, hl_feed_here, hg, he⟩ := p
            have h_seed : ∀ G, Dx G (.int sd) (.int sd) := fun _ => .int sd
            refine q_asg ((fun h_seed => (ev_op (ev_op (ev_op (ev_var rfl h_seed) ev_int (rd_mul (by walk_at "arith"))) ev_int rd_add) ev_int (rd_mod (by walk_at "arith")))) (h_seed _)) hl_feed_here.s fun v G7 H7 g7 hv => ?_
            obtain rfl := hv.int_eq
            have hl_feed_here' := hl_feed_here.step g7
            have hs2 : 0 ≤ (sd * 48271 + 7919) % 2147483647 ∧ (sd * 48271 + 7919) % 2147483647 < 2147483647 := by omega
            generalize (sd * 48271 + 7919) % 2147483647 = sd2 at hs2 ⊢
            have h_seed : ∀ G, Dx G (.int sd2) (.int sd2) := fun _ => .int sd2
            refine s_app' hl_feed_here' rfl ((fun h_seed => (ev_op (ev_op (ev_var rfl h_seed) ev_int (rd_fdiv (by walk_at "arith"))) ev_int (rd_mod (by walk_at "arith")))) (h_seed _)) (by rw [List.length_map]; omega) fun v G8 H8 hv g8 o8 => ?_
            obtain rfl := hv.int_eq
            rw [ints_app] at o8 ⊢
            refine ⟨G8, ?_, _, _, _, rfl, hs2, o8, by rw [List.length_append, List.length_singleton]; omega, el_app he (mod_ok _)⟩
            exact (((gg.trans g7.any).trans g8.any).write (Or.inl (by simp)) o8.hn)
          · obtain ⟨gs, sd, v4, rfl, _, o, hg, he⟩ := p
            exact ⟨gs, _, _, _, _, G', rfl, o, by have : (6 : Int).toNat = 6 := rfl; omega, he⟩
      · exact ⟨fs, _, _, _, _, G2, rfl, hl_feed_here.step g2, hf, he⟩
    · obtain ⟨fs, v2, v3, v4, v5, G', rfl, hl_feed_here, hf, he⟩ := p
      refine q_asg (ev_op (ev_op ev_int (ev_lenO rfl hl_feed_here.hl) rd_add) (ev_sumO rfl hl_feed_here.hl (Dxs.ints _)) rd_add) hl_feed_here.s fun v G2 H2 g2 hv => ?_
      obtain rfl := hv.int_eq
      replace hl_feed_here := hl_feed_here.step g2
      have hsum : ∀ fs : List Int, (∀ x ∈ fs, 0 ≤ x ∧ x < 55440) → 0 ≤ fs.sum ∧ fs.sum ≤ 55440 * (fs.length : Int) := by
        intro fs
        induction fs with
        | nil => intro _; simp
        | cons x r ih =>
          intro h
          have h1 := h x (by simp)
          have h2 := ih fun y hy => h y (by simp [hy])
          rw [List.sum_cons, List.length_cons]
          omega
      have hs1 := hsum fs he
      rw [List.length_map]
      have hs2 : 0 ≤ 271 + (fs.length : Int) + fs.sum ∧ 271 + (fs.length : Int) + fs.sum < 2147483647 := by omega
      generalize 271 + (fs.length : Int) + fs.sum = sd at hs2 ⊢
      refine q_forR [l] (fun n σ' G' H' => ∃ (gs : List Int) (sd : Int) (v4 : Option V), σ' = [some (.ref a), some (.ref l), v2, v3, v4, some (.int sd)] ∧ (0 ≤ sd ∧ sd < 2147483647) ∧ Ow G H G' H' l (gs.map V.int) ∧ (n ≤ gs.length ∧ gs.length ≤ 329) ∧ ∀ x ∈ gs, 0 ≤ x ∧ x < 55440)
        (ea_cons ev_int ea_nil) (by omega) hl_feed_here.s (fun G6 H6 g6 => ⟨fs, sd, v4, rfl, hs2, hl_feed_here.step g6, by omega, he⟩) (fun G6 H6 g6 n σ' G' H' hn2 gg p => ?_) (fun σ' G' H' gg p => ?_)
      · obtain ⟨gs, sd, v4, rfl, hs1, hl_feed_here, hg, he⟩ := p
        refine s_if (et_test (ev_op (ev_lenO rfl hl_feed_here.hl) ev_int rd_lt)) hl_feed_here.s (fun hb G7 H7 g7 => ?_) (fun hb G7 H7 g7 => ?_)
        · have hb := of_decide_eq_true hb
          rw [List.length_map] at hb
          have h_seed : ∀ G, Dx G (.int sd) (.int sd) := fun _ => .int sd
          have o7 := hl_feed_here.step g7
          refine q_asg ((fun h_seed => (ev_op (ev_op (ev_op (ev_var rfl h_seed) ev_int (rd_mul (by walk_at "arith"))) ev_int rd_add) ev_int (rd_mod (by walk_at "arith")))) (h_seed _)) o7.s fun v G8 H8 g8 hv => ?_
          obtain rfl := hv.int_eq
          have hs3 : 0 ≤ (sd * 48271 + 12345) % 2147483629 ∧ (sd * 48271 + 12345) % 2147483629 < 2147483647 := by omega
          generalize (sd * 48271 + 12345) % 2147483629 = sd2 at hs3 ⊢
          have h_seed : ∀ G, Dx G (.int sd2) (.int sd2) := fun _ => .int sd2
          refine s_app' (o7.step g8) rfl ((fun h_seed => (ev_op (ev_op (ev_var rfl h_seed) ev_int (rd_fdiv (by walk_at "arith"))) ev_int (rd_mod (by walk_at "arith")))) (h_seed _)) (by rw [List.length_map]; omega) fun v G9 H9 hv g9 o9 => ?_
          obtain rfl := hv.int_eq
          rw [ints_app] at o9 ⊢
          refine ⟨G9, ?_, _, _, _, rfl, hs3, o9, by rw [List.length_append, List.length_singleton]; omega, el_app he (mod_ok _)⟩
          exact ((((gg.trans g7.any).trans g8.any).trans g9.any).write (Or.inl (by simp)) o9.hn)
        · have hb := of_decide_eq_false hb
          rw [List.length_map] at hb
          exact ⟨G7, gg.trans g7.any, gs, sd, _, rfl, hs1, hl_feed_here.step g7, by omega, he⟩
      · obtain ⟨gs, sd, v4, rfl, _, o, hg, he⟩ := p
        refine ⟨.ref l, rfl, k l gs G' H' ⟨by have : (270 : Int).toNat = 270 := rfl; omega, by omega, he⟩ (o.g.drop h0) h0 o.hn o.hl⟩
theorem q_feed {K : PySem.W.Frag} {E : XK} {σ : L2.St} {H : Hp} {tz : TS} {D : Ends} {i j : Nat} {a : Addr} {ns : List Int} (hv : σ[i]? = some (some (.ref a))) (hS : SqL K H a (ns.map V.int)) (hlen : ns.length ≤ 63)
    (k : ∀ l fs G1 H1, FeedOk fs → Gr [] (fun _ => none) H G1 H1 → Dx G1 (.ref l) (.list (fs.map .int)) → tz D (σ.set j (some (.ref l))) H1) : tSeq (tAsg (tCall (spFeed K) [] E (tCons (tVar i) tNil)) (gName j)) tz D σ H :=
  ⟨.ref a, hv, (fun _ => none), a, ns, rfl, (fun _ _ e => nomatch e), hS, hlen, fun l fs _ H1 hok g1 h0 hn hl => k l fs _ H1 hok (g1.freeze hl hn h0) (.lst upd_same (Dxs.ints fs))⟩

end
end

-- rows3.txt
section

local macro_rules | `(tactic| walk_at "arith") => `(tactic| first | omega | decide | (unfold CMul; omega) | (unfold CDiv; omega) | (unfold CPow; decide) | (refine ⟨?_, ?_⟩ <;> omega) | (simp; done) | (simp; omega))
local macro_rules | `(tactic| walk_at "wide") => `(tactic| exact ⟨by decide, by decide +kernel⟩)
section
variable {P : Program} {w : World} {K : PySem.W.Frag} {mg : Str → Option Value} {base : Heap} {A : Ad}
/-! ### the mathematics of names and rows -/
theorem given_map {β : Type} (n : Nat) (v : Nat → β) : given n (fun _ => true) v = (List.range n).map v := by
  unfold given
  rw [List.filter_eq_self.mpr (fun _ _ => rfl)]
abbrev alpha : Str := "abcdefghijklmnopqrstuvwxyz"
abbrev mistral : Str := "mistral"
def words : List Str := ["ask", "bound", "in", "fair", "free", "none", "house", "a", "paid"]
def Sm (z : Str) : Prop := ∀ c ∈ z.cps.toList, c < 128
theorem Sm.ok {z : Str} (h : Sm z) : PyData.strOk z = true := by
  unfold PyData.strOk
  rw [Array.all_eq_true]
  intro i hi
  have := h z.cps[i] (by simp)
  exact decide_eq_true (by omega)
theorem Sm.app {y z : Str} (h : Sm y) (k : Sm z) : Sm (y ++ z) := fun c hc => by
  have e : (y ++ z).cps.toList = y.cps.toList ++ z.cps.toList := Array.toList_append
  rw [e] at hc
  rcases List.mem_append.mp hc with q | q
  · exact h c q
  · exact k c q
theorem Sm.cut {z : Str} {lo hi : Option Int} (h : Sm z) : Sm (cutS z lo hi) := fun c hc => by
  unfold cutS at hc
  exact h c (List.mem_of_mem_drop (List.mem_of_mem_take hc))
theorem atI_sign {z : Str} {i : Int} (h0 : 0 ≤ i) (h : i < z.length) : atI z.cps.toList i = some (z.cps.toList.getD i.toNat 0) := by
  obtain ⟨k, rfl⟩ : ∃ k : Nat, i = (k : Int) := ⟨i.toNat, by omega⟩
  have hk : k < z.cps.toList.length := by
    have : z.cps.toList.length = z.length := rfl
    omega
  refine atI_nat ?_
  show z.cps.toList[k]? = some (z.cps.toList.getD k 0)
  rw [List.getD_eq_getElem?_getD, List.getElem?_eq_getElem hk]; rfl
theorem atI_strs {zs : List Str} {i : Int} (h0 : 0 ≤ i) (h : i < zs.length) : atI (zs.map PyData.str) i = some (.str (zs.getD i.toNat default)) := by
  obtain ⟨k, rfl⟩ : ∃ k : Nat, i = (k : Int) := ⟨i.toNat, by omega⟩
  have hk : k < zs.length := by omega
  refine atI_nat ?_
  rw [List.getElem?_map, List.getElem?_eq_getElem hk]
  show some (PyData.str zs[k]) = some (PyData.str (zs.getD k default))
  rw [List.getD_eq_getElem?_getD, List.getElem?_eq_getElem hk]; rfl
theorem getD_of {α : Type} {xs : List α} {i : Nat} {d : α} {P : α → Prop} (h : ∀ x ∈ xs, P x) (hi : i < xs.length) : P (xs.getD i d) := by
  rw [List.getD_eq_getElem?_getD, List.getElem?_eq_getElem hi]
  exact h _ (List.getElem_mem hi)
def nmSign (p k : Int) : Str := ⟨#[alpha.cps.toList.getD ((p / 32 + 11 * k) % 26).toNat 0]⟩
def nmL (p k : Int) : List Str := [nmSign p k, cutS mistral none (some (p / 4 % 8)) ++ nmSign p k ++ cutS mistral (some (p / 4 % 8)) none, repS (nmSign p k) (1 + (p / 4 % 8 + 3 * k) % 8), words.getD ((p / 4 % 8 + k) % 9).toNat default]
def nm (p k : Int) : Str := (nmL p k).getD (p % 4).toNat default
theorem alpha_eq : alpha.cps.toList = [97, 98, 99, 100, 101, 102, 103, 104, 105, 106, 107, 108, 109, 110, 111, 112, 113, 114, 115, 116, 117, 118, 119, 120, 121, 122] := by decide +kernel
theorem alpha_len : alpha.cps.toList.length = 26 := by rw [alpha_eq]; rfl
theorem mistral_len : mistral.length = 7 := by decide +kernel
theorem cutS_len (z : Str) (lo hi : Option Int) : (cutS z lo hi).length ≤ z.length := by
  unfold cutS
  show ((z.cps.toList.drop _).take _).length ≤ z.cps.toList.length
  rw [List.length_take, List.length_drop]
  omega
theorem cut2_len (z : Str) (n : Nat) (h : n ≤ z.length) : (cutS z none (some (n : Int))).length + (cutS z (some (n : Int)) none).length = z.length := by
  unfold cutS
  show ((z.cps.toList.drop _).take _).length + ((z.cps.toList.drop _).take _).length = z.cps.toList.length
  have hz : z.cps.toList.length = z.length := rfl
  rw [HT.sIx_nat, HT.sIx_nat, HT.sIx_none, HT.sIx_none, List.length_take, List.length_drop, List.length_take, List.length_drop]
  omega
theorem nmSign_sm (p k : Int) : Sm (nmSign p k) := fun c hc => by
  have e : (nmSign p k).cps.toList = [alpha.cps.toList.getD ((p / 32 + 11 * k) % 26).toNat 0] := rfl
  rw [e, List.mem_singleton] at hc
  rw [hc]
  have go : ∀ c ∈ alpha.cps.toList, c < 128 := by rw [alpha_eq]; decide
  exact getD_of go (by rw [alpha_len]; omega)
theorem words_ok : ∀ z ∈ words, (z.length ≤ 8 ∧ z ≠ "nobody") ∧ z.cps.toList.all (fun c => decide (c < 128)) = true := by decide +kernel
theorem nobody_len : ("nobody" : Str).length = 6 := by decide +kernel
theorem nobody_cps : ("nobody" : Str).cps.toList = [110, 111, 98, 111, 100, 121] := by decide +kernel
structure NmOk (z : Str) : Prop where
  sm : Sm z
  len : z.length ≤ 8
  ne : z ≠ "nobody"
theorem nm_ok (p k : Int) : NmOk (nm p k) := by
  have hm : Sm mistral := by
    have : ∀ c ∈ mistral.cps.toList, c < 128 := by decide +kernel
    exact this
  have h1 : (nmSign p k).length = 1 := rfl
  have a0 : 0 ≤ p / 4 % 8 ∧ p / 4 % 8 < 8 := by omega
  refine getD_of (xs := nmL p k) (fun z hz => ?_) (by show (p % 4).toNat < 4; omega)
  unfold nmL at hz
  simp only [List.mem_cons, List.not_mem_nil, or_false] at hz
  rcases hz with rfl | rfl | rfl | rfl
  · exact ⟨nmSign_sm p k, by omega, fun e => by rw [e, nobody_len] at h1; cases h1⟩
  · obtain ⟨n, hn⟩ : ∃ n : Nat, p / 4 % 8 = (n : Int) := ⟨(p / 4 % 8).toNat, by omega⟩
    have hl : (cutS mistral none (some (p / 4 % 8)) ++ nmSign p k ++ cutS mistral (some (p / 4 % 8)) none).length = 8 := by
      have e : (cutS mistral none (some (p / 4 % 8)) ++ nmSign p k ++ cutS mistral (some (p / 4 % 8)) none).length = (cutS mistral none (some (p / 4 % 8))).length + (nmSign p k).length + (cutS mistral (some (p / 4 % 8)) none).length := by
        show ((cutS mistral none (some (p / 4 % 8))).cps ++ (nmSign p k).cps ++ (cutS mistral (some (p / 4 % 8)) none).cps).size = _
        rw [Array.size_append, Array.size_append]
        rfl
      have c2 := cut2_len mistral n (by rw [mistral_len]; omega)
      rw [mistral_len] at c2
      rw [e, h1, hn]
      omega
    exact ⟨(hm.cut.app (nmSign_sm p k)).app hm.cut, by omega, fun e => by rw [e, nobody_len] at hl; cases hl⟩
  · refine ⟨repS_mem (P := fun c => c < 128) (nmSign_sm p k), ?_, fun e => ?_⟩
    · rw [repS_len (by omega), h1]; omega
    · have hc : ∀ c ∈ (repS (nmSign p k) (1 + (p / 4 % 8 + 3 * k) % 8)).cps.toList, c = alpha.cps.toList.getD ((p / 32 + 11 * k) % 26).toNat 0 := repS_mem (P := fun c => c = alpha.cps.toList.getD ((p / 32 + 11 * k) % 26).toNat 0) (fun c hc => List.mem_singleton.mp hc)
      rw [e, nobody_cps] at hc
      have q1 := hc 110 (by simp)
      have q2 := hc 111 (by simp)
      omega
  · refine getD_of (P := NmOk) (fun z hz => ?_) (by show ((p / 4 % 8 + k) % 9).toNat < 9; omega)
    obtain ⟨⟨w1, w2⟩, w3⟩ := words_ok z hz
    exact ⟨fun c hc => of_decide_eq_true (List.all_eq_true.mp w3 c hc), w1, w2⟩
abbrev Rw := List (Str × Bool)
def encP (p : Str × Bool) : PyData := .tuple [.str p.1, .bool p.2]
def encR (r : Rw) : List PyData := r.map encP
def nth (fs : List Int) (i : Int) : Int := fs.getD i.toNat 0
def rowAt (fs : List Int) (k : Nat) : Str × Bool := (nm (nth fs 2) (nth fs (4 + k) % (1 + nth fs 0 % 9)), decide (0 < nth fs (13 + k) % 4))
def rowM (fs : List Int) : Rw := (List.range (2 + nth fs 3 % 7).toNat).map (rowAt fs)
theorem nth_ok {fs : List Int} (h : FeedOk fs) {i : Int} (h0 : 0 ≤ i) (hi : i < 270) : 0 ≤ nth fs i ∧ nth fs i < 55440 := getD_of (P := fun x => 0 ≤ x ∧ x < 55440) h.el (by have := h.lo; omega)
structure RowOk (r : Rw) : Prop where
  lo : 2 ≤ r.length
  hi : r.length ≤ 8
  nm : ∀ p ∈ r, NmOk p.1
theorem rowM_ok {fs : List Int} : RowOk (rowM fs) := by
  have hl : (rowM fs).length = (2 + nth fs 3 % 7).toNat := by unfold rowM; rw [List.length_map, List.length_range]
  refine ⟨by rw [hl]; omega, by rw [hl]; omega, fun p hp => ?_⟩
  unfold rowM at hp
  obtain ⟨k, _, rfl⟩ := List.mem_map.mp hp
  exact nm_ok _ _
theorem atI_feed {fs : List Int} (h : FeedOk fs) {i : Int} (h0 : 0 ≤ i) (hi : i < 270) : atI (fs.map PyData.int) i = some (.int (nth fs i)) := atI_int h0 (by have := h.lo; omega)
theorem atI_row {r : Rw} {i : Nat} {p : Str × Bool} (h : r[i]? = some p) : atI (encR r) (i : Int) = some (encP p) := atI_nat (by unfold encR; rw [List.getElem?_map, h]; rfl)
theorem encR_get {r : Rw} {i : Nat} {d : PyData} (h : (encR r)[i]? = some d) : ∃ p, r[i]? = some p ∧ d = encP p := by
  unfold encR at h
  rw [List.getElem?_map] at h
  cases e : r[i]? with
  | none => rw [e] at h; cases h
  | some p => rw [e] at h; exact ⟨p, rfl, (Option.some.inj h).symm⟩
theorem shaped_p {p : Str × Bool} (h : NmOk p.1) : SeqAt.shaped (encP p) = true := by
  have hc : PyData.strOk p.1 = true := h.sm.ok
  unfold SeqAt.shaped encP
  simp [PyData.canLay0, PyData.canLayAll0, hc, PyData.depth, PyData.depthAll]
theorem eqv_p {p q : Str × Bool} : PyData.eqv (encP p) (encP q) = (decide (p.1 = q.1) && decide (p.2 = q.2)) := by
  unfold encP
  obtain ⟨a, b⟩ := p
  obtain ⟨c, d⟩ := q
  cases b <;> cases d <;> simp [PyData.eqv, PyData.eqvAll] <;> rfl
theorem canLay_row {r : Rw} (h : ∀ p ∈ r, NmOk p.1) : PyData.canLayAll0 (encR r) = true := by
  induction r with
  | nil => rfl
  | cons p r ih =>
    have h1 : PyData.strOk p.1 = true := (h p (by simp)).sm.ok
    have h2 := ih fun q hq => h q (by simp [hq])
    show PyData.canLayAll0 (encP p :: encR r) = true
    rw [PyData.canLayAll0, h2]
    unfold encP
    simp [PyData.canLay0, PyData.canLayAll0, h1]
theorem depth_row {r : Rw} : PyData.depthAll (encR r) ≤ 4 := by
  induction r with
  | nil => show PyData.depthAll [] ≤ 4; unfold PyData.depthAll; omega
  | cons p r ih =>
    show PyData.depthAll (encP p :: encR r) ≤ 4
    unfold encP
    simp only [PyData.depthAll, PyData.depth]
    omega
theorem shaped_row {r : Rw} (h : ∀ p ∈ r, NmOk p.1) : SeqAt.shaped (.list (encR r)) = true := by
  unfold SeqAt.shaped
  have h1 := canLay_row h
  have h2 := depth_row (r := r)
  rw [Bool.and_eq_true]
  refine ⟨by rw [PyData.canLay0]; exact h1, decide_eq_true ?_⟩
  unfold PyData.depth
  omega
theorem eqv_row {r : Rw} (h : ∀ p ∈ r, NmOk p.1) : PyData.eqv (.list (encR r)) (.list (encR r)) = true := SeqAt.eqv_refl _ (by rw [PyData.canLay0]; exact canLay_row h)
def reachM (r : Rw) (h : Str) : Nat := r.findIdx fun p => p.2 && decide (p.1 = h)
theorem reachM_at {r : Rw} {h : Str} {n : Nat} {p : Str × Bool} (hp : r[n]? = some p) (h1 : ∀ j q, j < n → r[j]? = some q → (q.2 && decide (q.1 = h)) = false) (h2 : (p.2 && decide (p.1 = h)) = true) : reachM r h = n := by
  have hn : n < r.length := (List.getElem?_eq_some_iff.mp hp).1
  unfold reachM
  rw [List.findIdx_eq hn]
  refine ⟨?_, fun j hj => ?_⟩
  · have e : r[n] = p := (List.getElem?_eq_some_iff.mp hp).2
    rw [e]; exact h2
  · exact h1 j _ hj (List.getElem?_eq_getElem (by omega))
theorem reachM_end {r : Rw} {h : Str} (h1 : ∀ j q, j < r.length → r[j]? = some q → (q.2 && decide (q.1 = h)) = false) : reachM r h = r.length := by
  unfold reachM
  rw [List.findIdx_eq_length]
  intro x hx
  obtain ⟨j, hj, rfl⟩ := List.getElem_of_mem hx
  exact h1 j _ hj (List.getElem?_eq_getElem hj)
theorem reachM_le (r : Rw) (h : Str) : reachM r h ≤ r.length := List.findIdx_le_length
local macro_rules | `(tactic| walk_at "at") => `(tactic| first | exact atI_feed ‹FeedOk _› (by omega) (by omega) | exact atI_sign (by omega) (by first | omega | (refine Int.lt_of_lt_of_le (Int.emod_lt_of_pos _ (by decide)) (by decide +kernel))))
local macro_rules | `(tactic| walk_at "arith") => `(tactic| first | omega | decide | (unfold CMul; omega) | (unfold CDiv; omega) | (unfold CPow; decide) | (refine ⟨?_, ?_⟩ <;> omega) | decide +kernel | (simp; done) | (simp; omega))

end
end

-- lk38n.txt
section

local macro_rules | `(tactic| walk_at "arith") => `(tactic| first | omega | decide | (unfold CMul; omega) | (unfold CDiv; omega) | (unfold CPow; decide) | (refine ⟨?_, ?_⟩ <;> omega) | (simp; done) | (simp; omega))
local macro_rules | `(tactic| walk_at "wide") => `(tactic| exact ⟨by decide, by decide +kernel⟩)
section
variable {P : Program} {w : World} {K : PySem.W.Frag} {mg : Str → Option Value} {base : Heap} {A : Ad}
def isName (z : Str) : Bool := decide (1 ≤ (z.length : Int)) && decide ((z.length : Int) ≤ 8) && ((List.range z.length).map fun i => decide ((z.cps[i]?.getD 0) ∈ alpha.cps.toList)).all id
def low (c : Nat) : Bool := !decide ((⟨#[c]⟩ : Str).cps.toList < ("a" : Str).cps.toList) && !decide (("z" : Str).cps.toList < (⟨#[c]⟩ : Str).cps.toList)
theorem low_eq (c : Nat) : low c = decide (c ∈ alpha.cps.toList) := by
  have ha : ("a" : Str).cps.toList = [97] := by decide +kernel
  have hz : ("z" : Str).cps.toList = [122] := by decide +kernel
  unfold low
  rw [ha, hz, alpha_eq]
  have e1 : decide ((⟨#[c]⟩ : Str).cps.toList < [97]) = decide (c < 97) := decide_eq_decide.mpr (by simp [List.cons_lt_cons_iff])
  have e2 : decide ([122] < (⟨#[c]⟩ : Str).cps.toList) = decide (122 < c) := decide_eq_decide.mpr (by simp [List.cons_lt_cons_iff])
  rw [e1, e2]
  by_cases h : c < 128
  · have go : ∀ c : Nat, c < 128 → (!decide (c < 97) && !decide (122 < c)) = decide (c ∈ [97, 98, 99, 100, 101, 102, 103, 104, 105, 106, 107, 108, 109, 110, 111, 112, 113, 114, 115, 116, 117, 118, 119, 120, 121, 122]) := by decide +kernel
    exact go c h
  · have h1 : decide (122 < c) = true := decide_eq_true (by omega)
    have h2 : c ∉ [97, 98, 99, 100, 101, 102, 103, 104, 105, 106, 107, 108, 109, 110, 111, 112, 113, 114, 115, 116, 117, 118, 119, 120, 121, 122] := by
      simp only [List.mem_cons, List.not_mem_nil, or_false]
      omega
    rw [h1, decide_eq_false h2, Bool.not_true, Bool.and_false]
abbrev spIsName : Sp := SpD (α := Str) (fun z => [.str z]) (fun z => z.length ≤ 100) (fun z => .bool (isName z))
theorem isName_bools {z : Str} (b : Nat → Bool) (hb : ∀ i, i < z.length → b i = decide ((z.cps[i]?.getD 0) ∈ alpha.cps.toList)) : ((List.range z.length).map b).all id = ((List.range z.length).map fun i => decide ((z.cps[i]?.getD 0) ∈ alpha.cps.toList)).all id := by
  congr 1
  exact List.map_congr_left fun i hi => hb i (List.mem_range.mp hi)
theorem ok_is_name (T : Txt K mg A) : FnOk P w K mg base CX0 1 A.a_is_name A.d_is_name ["word"] spIsName := by
  refine T.F_is_name.ok sc_is_name (fun vs H Q E h => ?_) (fun cdv A' outer s H vs Q E hr h => ?_)
  · obtain ⟨G, x, _, hx, _⟩ := h
    exact hx.len
  · obtain ⟨G, z, s0, hx, hz, k⟩ := h
    obtain ⟨v0, rfl, h_word⟩ := dxs1 hx
    refine ⟨_, (pss_cons (ps_if (pt_not (pt_chain op_le op_le pe_int (pe_callB call_len_str (by rfl) T.b.len (by decide +kernel) (pa_cons (pv 0) pa_nil)) (pe_glob (v := .int 8) (by rfl) T.g_LONGEST_NAME ⟨_, rfl⟩)))
      (pss_one (ps_ret pe_bl))
      pss_nil)
      (pss_one (ps_ret (pe_callB (cr_allK (K := K) rfl) (by rfl) T.b.all (by decide +kernel) (pa_cons (pe_lc (own := [("sign", 1)]) (g := gName 1) rfl sc_is_name.nd (pi_str (pv 0)) (blkOk_by (own := [("sign", 1)]) (N := N_is_name) (sc := defScope s_is_name) (by decide +kernel)) (fun _ _ _ _ _ => (pg_name (i := 1) sc_is_name.nd rfl (Or.inl rfl))) (fun _ _ _ _ _ => pts_nil) (fun _ _ _ _ _ => by exact (pe_chain op_le_str op_le_str pe_str (pv 1) pe_str))) pa_nil))))), ?_⟩
    refine q_when (et_not (et_test (ev_chain ev_int (ev_cb (ea_cons (ev_var rfl h_word) ea_nil) (cd_lenS (by walk_at "arith"))) rd_le (fun _ => ev_int) (fun _ => rd_le)))) s0 (fun hb G1 H1 g1 => ?_) (fun hb G1 H1 g1 => ?_)
    · refine s_ret ev_bl g1.s fun v G2 H2 g2 hv => k v G2 H2 (g1.trans g2) ?_
      have e : isName z = false := by
        unfold isName
        rw [Bool.not_eq_true'] at hb
        rw [hb, Bool.false_and]
      show Dx G2 v (.bool (isName z))
      rw [e]; exact hv
    · have h_word := h_word.mono g1.g
      refine s_ret (ev_cb (ea_cons (ev_lcS (fun _ => true) (fun i => .bool (low (z.cps[i]?.getD 0))) (ev_var rfl h_word) (by omega) (fun _ => rfl) (fun i c hc => et_yes)
        (fun i c hc hf => ev_is ((fun h_sign => (ev_chain ev_str (ev_var rfl h_sign) rd_leS (fun _ => ev_str) (fun _ => rd_leS))) (Dx.str ⟨#[c]⟩)) (by rw [hc]; rfl))).dat ea_nil) (cd_all' (bs := (List.range z.length).map fun i => low (z.cps[i]?.getD 0)) (by rw [given_map, List.map_map]; rfl))) g1.s fun v G2 H2 g2 hv => k v G2 H2 (g1.trans g2) ?_
      have e : isName z = ((List.range z.length).map fun i => low (z.cps[i]?.getD 0)).all id := by
        unfold isName
        rw [Bool.not_eq_false'] at hb
        rw [hb, Bool.true_and, isName_bools _ fun i _ => low_eq _]
      show Dx G2 v (.bool (isName z))
      rw [e]; exact hv
local macro_rules | `(tactic| walk_at "at") => `(tactic| first | exact atI_feed ‹FeedOk _› (by omega) (by omega) | exact atI_sign (by omega) (by first | omega | (refine Int.lt_of_lt_of_le (Int.emod_lt_of_pos _ (by decide)) (by decide +kernel))))
local macro_rules | `(tactic| walk_at "pre") => `(tactic| first | trivial | omega)
abbrev spName : Sp := SpD (α := Int × Int) (fun x => [.int x.1, .int x.2]) (fun x => (0 ≤ x.1 ∧ x.1 < 55440) ∧ 0 ≤ x.2 ∧ x.2 < 100) (fun x => .str (nm x.1 x.2))
theorem ok_Lname (T : Txt K mg A) : FnOk P w K mg base CX0 1 A.a_Lname A.d_Lname ["_law_pick", "_law_k"] spName := by
  refine T.F_Lname.ok sc_Lname (fun vs H Q E h => ?_) (fun cdv A' outer s H vs Q E hr h => ?_)
  · obtain ⟨G, x, _, hx, _⟩ := h
    exact hx.len
  · obtain ⟨G, ⟨p, j⟩, s0, hx, ⟨hp, hj⟩, k⟩ := h
    obtain ⟨v0, v1, rfl, h_pick, h_k⟩ := dxs2 hx
    obtain rfl := h_pick.int_eq
    obtain rfl := h_k.int_eq
    have ip : ∀ G, Dx G (.int p) (.int p) := fun _ => .int _
    have ik : ∀ G, Dx G (.int j) (.int j) := fun _ => .int _
    simp only at hp hj
    refine ⟨_, (pss_cons (ps_set (i := 2) sc_Lname.nd rfl (Or.inl rfl) (pe_ix ix_str pe_str (pe_op op_mod (pe_op op_add (pe_op op_fdiv (pv 0) pe_int) (pe_op op_mul pe_int (pv 1))) pe_int) (fun _ _ => rfl)))
      (pss_cons (ps_set (i := 3) sc_Lname.nd rfl (Or.inl rfl) (pe_op op_mod (pe_op op_fdiv (pv 0) pe_int) pe_int))
      (pss_cons (ps_set (i := 4) sc_Lname.nd rfl (Or.inl rfl) (pe_lst (pa_cons pe_str (pa_cons pe_str (pa_cons pe_str (pa_cons pe_str (pa_cons pe_str (pa_cons pe_str (pa_cons pe_str (pa_cons pe_str (pa_cons pe_str pa_nil)))))))))))
      (pss_cons (ps_set (i := 5) sc_Lname.nd rfl (Or.inl rfl) (pe_lst (pa_cons (pv 2) (pa_cons (pe_op op_add_str (pe_op op_add_str (pe_slice sl_str pe_str po_none (po_some (pv 3))) (pv 2)) (pe_slice sl_str pe_str (po_some (pv 3)) po_none)) (pa_cons (pe_op op_repS (pv 2) (pe_op op_add pe_int (pe_op op_mod (pe_op op_add (pv 3) (pe_op op_mul pe_int (pv 1))) pe_int))) pa_nil)))))
      (pss_one (ps_ret (pe_ix (ix_listK (K := K)) (pe_op op_cat (pv 5) (pe_lst (pa_cons (pe_ix (ix_listK (K := K)) (pv 4) (pe_op op_mod (pe_op op_add (pv 3) (pv 1)) pe_int) (fun _ _ => rfl)) pa_nil))) (pe_op op_mod (pv 0) pe_int) (fun _ _ => rfl)))))))), ?_⟩
    refine q_asg (ev_op ev_str ((fun h_pick h_k => (ev_op (ev_op (ev_op (ev_var rfl h_pick) ev_int (rd_fdiv (by walk_at "arith"))) (ev_op ev_int (ev_var rfl h_k) (rd_mul (by walk_at "arith"))) rd_add) ev_int (rd_mod (by walk_at "arith")))) (ip _) (ik _)) (rd_ixS (z := alpha) (c := alpha.cps.toList.getD ((p / 32 + 11 * j) % 26).toNat 0) (by decide +kernel) (by walk_at "at"))) s0 fun v G1 H1 g1 hv => ?_
    obtain rfl := hv.str_eq
    refine q_asg ((fun h_pick => (ev_op (ev_op (ev_var rfl h_pick) ev_int (rd_fdiv (by walk_at "arith"))) ev_int (rd_mod (by walk_at "arith")))) (ip _)) g1.s fun v G2 H2 g2 hv => ?_
    obtain rfl := hv.int_eq
    refine q_asg ((ev_lst (ea_cons ev_str (ea_cons ev_str (ea_cons ev_str (ea_cons ev_str (ea_cons ev_str (ea_cons ev_str (ea_cons ev_str (ea_cons ev_str (ea_cons ev_str ea_nil))))))))) (by walk_at "arith"))).dat g2.s fun vw G3 H3 g3 h_words => ?_
    have sg : ∀ G, Dx G (.str (nmSign p j)) (.str (nmSign p j)) := fun _ => .str _
    have ia : ∀ G, Dx G (.int (p / 4 % 8)) (.int (p / 4 % 8)) := fun _ => .int _
    have l1 : (nmSign p j).length = 1 := rfl
    have c1 := cutS_len mistral none (some (p / 4 % 8))
    have c2 := cutS_len mistral (some (p / 4 % 8)) none
    rw [mistral_len] at c1 c2
    have c3 : (cutS mistral none (some (p / 4 % 8)) ++ nmSign p j).length = (cutS mistral none (some (p / 4 % 8))).length + 1 := by
      show ((cutS mistral none (some (p / 4 % 8))).cps ++ (nmSign p j).cps).size = _
      rw [Array.size_append]; rfl
    refine q_asg (ev_lst (ea_cons (ev_var rfl (sg _)) (ea_cons (ev_op (ev_op (ev_slS (z := mistral) ev_str eo_none (eo_some (ev_var rfl (ia _))) (by decide +kernel)) (ev_var rfl (sg _)) (rd_addS (by omega))) (ev_slS (z := mistral) ev_str (eo_some (ev_var rfl (ia _))) eo_none (by decide +kernel)) (rd_addS (by omega)))
      (ea_cons (ev_op (ev_var rfl (sg _)) ((fun h_k h_at => (ev_op ev_int (ev_op (ev_op (ev_var rfl h_at) (ev_op ev_int (ev_var rfl h_k) (rd_mul (by walk_at "arith"))) rd_add) ev_int (rd_mod (by walk_at "arith"))) rd_add)) (ik _) (ia _)) (rd_repS (by omega))) ea_nil))) (by show 3 ≤ 100000; decide)).dat g3.s fun vs G4 H4 g4 h_some => ?_
    have h_words := h_words.mono g4.g
    refine s_ret (ev_op (ev_opM (ev_var rfl h_some) (ev_lst (ea_cons (ev_op (ev_var rfl h_words) ((fun h_k h_at => (ev_op (ev_op (ev_var rfl h_at) (ev_var rfl h_k) rd_add) ev_int (rd_mod (by walk_at "arith")))) (ik _) (ia _)) (rd_ixL (atI_strs (zs := words) (by omega) (by show _ < (9 : Int); omega)))) ea_nil) (by show 1 ≤ 100000; decide)).dat (rd_cat (by show 3 + 1 ≤ 100000; decide))).dat
      ((fun h_pick => (ev_op (ev_var rfl h_pick) ev_int (rd_mod (by walk_at "arith")))) (ip _)) (rd_ixL (atI_strs (zs := nmL p j) (by omega) (by show _ < (4 : Int); omega)))) g4.s fun v G5 H5 g5 hv => k v G5 H5 (g1.trans (g2.trans (g3.trans (g4.trans g5)))) hv
/-! a name that the law draws is one -/
theorem sign_low (p k : Int) : ∀ c ∈ (nmSign p k).cps.toList, c ∈ alpha.cps.toList := fun c hc => by
  have e : (nmSign p k).cps.toList = [alpha.cps.toList.getD ((p / 32 + 11 * k) % 26).toNat 0] := rfl
  rw [e, List.mem_singleton] at hc
  rw [hc]
  exact getD_of (P := fun c => c ∈ alpha.cps.toList) (fun x hx => hx) (by rw [alpha_len]; omega)
theorem mem_app {y z : Str} {Q : Nat → Prop} (h : ∀ c ∈ y.cps.toList, Q c) (k : ∀ c ∈ z.cps.toList, Q c) : ∀ c ∈ (y ++ z).cps.toList, Q c := fun c hc => by
  have e : (y ++ z).cps.toList = y.cps.toList ++ z.cps.toList := Array.toList_append
  rw [e] at hc
  rcases List.mem_append.mp hc with q | q
  · exact h c q
  · exact k c q
theorem mem_cut {z : Str} {lo hi : Option Int} {Q : Nat → Prop} (h : ∀ c ∈ z.cps.toList, Q c) : ∀ c ∈ (cutS z lo hi).cps.toList, Q c := fun c hc => by
  unfold cutS at hc
  exact h c (List.mem_of_mem_drop (List.mem_of_mem_take hc))
theorem name_of {z : Str} (h1 : 1 ≤ z.length) (h8 : z.length ≤ 8) (hc : ∀ c ∈ z.cps.toList, c ∈ alpha.cps.toList) : isName z = true := by
  unfold isName
  rw [decide_eq_true (by omega : (1 : Int) ≤ (z.length : Int)), decide_eq_true (by omega : (z.length : Int) ≤ 8)]
  refine (Bool.and_eq_true _ _).mpr ⟨rfl, List.all_eq_true.mpr fun b hb => ?_⟩
  obtain ⟨i, hi, rfl⟩ := List.mem_map.mp hb
  have hi2 : i < z.cps.size := List.mem_range.mp hi
  refine decide_eq_true (hc _ ?_)
  rw [Array.getElem?_eq_getElem hi2]
  show z.cps[i] ∈ _
  exact Array.getElem_mem_toList hi2
theorem words_name : ∀ z ∈ words, isName z = true := by decide +kernel
theorem nm_name (p k : Int) : isName (nm p k) = true := by
  have hm : ∀ c ∈ mistral.cps.toList, c ∈ alpha.cps.toList := by decide +kernel
  have h1 : (nmSign p k).length = 1 := rfl
  have a0 : 0 ≤ p / 4 % 8 ∧ p / 4 % 8 < 8 := by omega
  refine getD_of (xs := nmL p k) (P := fun z => isName z = true) (fun z hz => ?_) (by show (p % 4).toNat < 4; omega)
  unfold nmL at hz
  simp only [List.mem_cons, List.not_mem_nil, or_false] at hz
  rcases hz with rfl | rfl | rfl | rfl
  · exact name_of (by omega) (by omega) (sign_low p k)
  · obtain ⟨n, hn⟩ : ∃ n : Nat, p / 4 % 8 = (n : Int) := ⟨(p / 4 % 8).toNat, by omega⟩
    have hl : (cutS mistral none (some (p / 4 % 8)) ++ nmSign p k ++ cutS mistral (some (p / 4 % 8)) none).length = 8 := by
      have e : (cutS mistral none (some (p / 4 % 8)) ++ nmSign p k ++ cutS mistral (some (p / 4 % 8)) none).length = (cutS mistral none (some (p / 4 % 8))).length + (nmSign p k).length + (cutS mistral (some (p / 4 % 8)) none).length := by
        show ((cutS mistral none (some (p / 4 % 8))).cps ++ (nmSign p k).cps ++ (cutS mistral (some (p / 4 % 8)) none).cps).size = _
        rw [Array.size_append, Array.size_append]
        rfl
      have c2 := cut2_len mistral n (by rw [mistral_len]; omega)
      rw [mistral_len] at c2
      rw [e, h1, hn]
      omega
    exact name_of (by omega) (by omega) (mem_app (mem_app (mem_cut hm) (sign_low p k)) (mem_cut hm))
  · have hl : (repS (nmSign p k) (1 + (p / 4 % 8 + 3 * k) % 8)).length = 1 * (1 + (p / 4 % 8 + 3 * k) % 8).toNat := by rw [repS_len (by omega), h1]
    exact name_of (by omega) (by omega) (repS_mem (P := fun c => c ∈ alpha.cps.toList) (sign_low p k))
  · exact getD_of (P := fun z => isName z = true) words_name (by show ((p / 4 % 8 + k) % 9).toNat < 9; omega)
section
variable {X : Cx} {K : PySem.W.Frag} {σ : L2.St} {G H : Hp} {te : TE} {ds : List PyData}
abbrev rTupO (K : PySem.W.Frag) : List V → Hp → VK → Prop := fun xs H Q => ∃ p ys, xs = [.ref p] ∧ ((SqL K H p ys ∧ ∀ l, H l = none → Q (.ref l) (upd H l (.tup ys))) ∨ (SqT K H p ys ∧ Q (.ref p) H))
theorem call_tupleK (h : X.K = K := by rfl) : CallR X (.type "tuple") (rTupO K) := by subst h; exact call_tuple_of
theorem ev_tupleL (h : EvD te σ G H (.list ds)) : EvD (tCB (rTupO K) (tCons te tNil)) σ G H (.tuple ds) := fun G1 H1 a Q q => h G1 H1 a _ fun v G2 H2 g x => by
  obtain ⟨p, xs, rfl, hp, dxs⟩ := x.lst_eq
  refine ⟨p, xs, rfl, Or.inl ⟨Or.inl (Or.inl (g.s _ _ hp)), fun l hl => ?_⟩⟩
  exact q (.ref l) _ _ ((g.own hl).freeze upd_same (g.s.none hl) (g.free hl)) (.tup upd_same (dxs.mono (Sb.new (g.s.none hl))))
end
section
variable {K : PySem.W.Frag} {σ : L2.St} {G H : Hp} {ta tb : TE}
theorem rd_InTS {z : Str} {zs : List Str} : RD (rIn K false) (.str z) (.tuple (zs.map .str)) (.bool (decide (z ∈ zs))) := fun G1 H1 x y s hx hy Q q => by
  obtain ⟨a, xs, rfl, ha, dxs⟩ := hy.tup_eq
  rw [dxs.strs_eq] at ha
  rw [hx.str_eq]
  refine ⟨a, _, rfl, Or.inr (Or.inl (Or.inl (s _ _ ha))), rfl, all_flat zs, ?_⟩
  show Q (.bl (inV (.str z) (zs.map V.str))) H1
  rw [inV_str]; exact q _ G1 H1 (.refl s) (.bl _)
theorem ev_inT2 {z a b : Str} (h : EvD ta σ G H (.str z)) : EvD (tOp (rIn K false) ta (tTup (tCons (tC (.str a)) (tCons (tC (.str b)) tNil)))) σ G H (.bool (decide (z ∈ [a, b]))) :=
  ev_op h (ev_tup (ea_cons ev_str (ea_cons ev_str ea_nil)) (by show 2 ≤ 100000; decide)) (rd_InTS (zs := [a, b]))
end
theorem dxs_strs {G : Hp} : ∀ zs : List Str, Dxs G (zs.map V.str) (zs.map PyData.str)
  | [] => .nil
  | z :: r => .cons (.str z) (dxs_strs r)
/-! ### names in order -/
def leS (a b : Str) : Bool := !decide (b.cps.toList < a.cps.toList)
theorem leS_iff {a b : Str} : leS a b = true ↔ a.cps.toList ≤ b.cps.toList := by
  unfold leS
  rw [Bool.not_eq_true', decide_eq_false_iff_not]
  exact List.not_lt
def srt (l : List Str) : List Str := l.mergeSort leS
theorem srt_perm (l : List Str) : (srt l).Perm l := List.mergeSort_perm l _
theorem srt_pw (l : List Str) : (srt l).Pairwise (fun a b => a.cps.toList ≤ b.cps.toList) := by
  refine List.Pairwise.imp (fun {a b} h => leS_iff.mp h) (List.pairwise_mergeSort (le := leS) (fun a b c h1 h2 => leS_iff.mpr (List.le_trans (leS_iff.mp h1) (leS_iff.mp h2))) (fun a b => ?_) l)
  rw [Bool.or_eq_true, leS_iff, leS_iff]
  exact List.le_total _ _
theorem rises_pw : ∀ (l : List Str) (p : Str), PyProof.Rows.risingS p l = true → (∀ y ∈ l, p.cps.toList ≤ y.cps.toList) ∧ l.Pairwise (fun a b => a.cps.toList ≤ b.cps.toList)
  | [], _, _ => ⟨fun _ h => (by cases h), List.Pairwise.nil⟩
  | x :: r, p, h => by
    unfold PyProof.Rows.risingS at h
    rw [Bool.and_eq_true] at h
    obtain ⟨h1, h2⟩ := h
    rw [PyProof.Rows.ltCps_eq] at h1
    have h3 : p.cps.toList ≤ x.cps.toList := by
      have : ¬ x.cps.toList < p.cps.toList := by simpa using h1
      exact List.not_lt.mp this
    obtain ⟨a, b⟩ := rises_pw r x h2
    refine ⟨fun y hy => ?_, List.Pairwise.cons a b⟩
    rcases List.mem_cons.mp hy with e | hy
    · subst e; exact h3
    · exact List.le_trans h3 (a y hy)
theorem sorted_pw {l : List Str} (h : PyProof.Rows.sortedS l = true) : l.Pairwise (fun a b => a.cps.toList ≤ b.cps.toList) := by
  cases l with
  | nil => exact List.Pairwise.nil
  | cons x r => obtain ⟨a, b⟩ := rises_pw r x h; exact List.Pairwise.cons a b
theorem cps_inj {a b : Str} (e : a.cps.toList = b.cps.toList) : a = b := by
  obtain ⟨⟨x⟩⟩ := a
  obtain ⟨⟨y⟩⟩ := b
  simp only at e
  rw [e]
theorem srt_of {l m : List Str} (h1 : l.Perm m) (s1 : PyProof.Rows.sortedS l = true) : l = srt m :=
  List.Perm.eq_of_pairwise (le := fun a b : Str => a.cps.toList ≤ b.cps.toList) (fun a b _ _ h h' => cps_inj (List.le_antisymm h h')) (sorted_pw s1) (srt_pw m) (h1.trans (srt_perm m).symm)
theorem mem_srt {l : List Str} {z : Str} : z ∈ srt l ↔ z ∈ l := (srt_perm l).mem_iff
theorem len_srt (l : List Str) : (srt l).length = l.length := (srt_perm l).length_eq
theorem cr_sortedSK {X : Cx} {K : PySem.W.Frag} (h : X.K = K := by rfl) : CallR X (.builtin "sorted") (rSortedS K) := by subst h; exact cr_sortedS
theorem sb_of {G H G' H' : Hp} (g : Gr [] G H G' H') : Sb H H' := fun a o e => g.h a o (by simp) e
theorem hu1 {k : Nat} {A : Around} (hr : Room k A) : A.units + 1 < cLine := Nat.lt_of_le_of_lt (by omega) hr.units
section
variable {σ : L2.St} {G H : Hp} {te : TE} {i : Nat} {v : V}
def EvV (te : TE) (σ : L2.St) (G H : Hp) (v : V) : Prop := ∀ G1 H1, Gr [] G H G1 H1 → ∀ Q : VK, (∀ G2 H2, Gr [] G1 H1 G2 H2 → Q v H2) → te σ H1 Q
theorem evv_var (h : σ[i]? = some (some v)) : EvV (tVar i) σ G H v := fun G1 _ a _ q => ⟨v, h, q G1 _ (.refl a.s)⟩
end
theorem nxI {D : Ends} {σ : L2.St} {H : Hp} (h : D.nx σ H) : tNext D σ H := h
theorem retI {D : Ends} {σ : L2.St} {H : Hp} {te : TE} (h : te σ H D.rt) : tRet te D σ H := h
theorem seqI {D : Ends} {σ : L2.St} {H : Hp} {t u : TS} (h : t { D with nx := u D } σ H) : tSeq t u D σ H := h

end
end

-- lzm.txt
section

local macro_rules | `(tactic| walk_at "arith") => `(tactic| first | omega | decide | (unfold CMul; omega) | (unfold CDiv; omega) | (unfold CPow; decide) | (refine ⟨?_, ?_⟩ <;> omega) | (simp; done) | (simp; omega))
local macro_rules | `(tactic| walk_at "wide") => `(tactic| exact ⟨by decide, by decide +kernel⟩)
section
variable {P : Program} {w : World} {K : PySem.W.Frag} {mg : Str → Option Value} {base : Heap} {A : Ad}
/-! ### zip(a tuple, a list), both of one length -/
section
open PySem.Spec PyProof.Rows
def Itx (K : PySem.W.Frag) (a b : Addr) : It where
  go := fun i H => ∃ (xs ys : List V) (x y : V), (SqT K H a xs ∧ SqL K H b ys) ∧ xs[i]? = some x ∧ ys[i]? = some y
  yld := fun i H v H' => ∃ T x y, v = .ref T ∧ H T = none ∧ H' = upd H T (.tup [x, y]) ∧ (∀ xs, SqT K H a xs → xs[i]? = some x) ∧ ∀ ys, SqL K H b ys → ys[i]? = some y
  stop := fun i H => ∃ xs ys : List V, (SqT K H a xs ∧ SqL K H b ys) ∧ xs.length = i ∧ ys.length = i
def fpx (n : Nat) : List Nat := [n + 4, n + 2, n + 3, n, n + 1]
theorem mem_fpx {n c : Nat} : c ∈ fpx n ↔ c = n + 4 ∨ c = n + 2 ∨ c = n + 3 ∨ c = n ∨ c = n + 1 := by simp [fpx]
theorem apx {n a b : Nat} (ha : a < n) (hb : b < n) : ZipSep2 (n + 4) (n + 2) (n + 3) n (n + 1) [n, a] [n + 1, b] := by
  constructor
  all_goals first
    | exact List.mem_cons_self
    | (intro h; have h1 : @Eq Nat _ _ := h; omega)
    | (intro h
       rcases List.mem_cons.mp h with h | h
       · have h1 : @Eq Nat _ _ := h; omega
       · have h1 : @Eq Nat _ _ := List.mem_singleton.mp h; omega)
abbrev Tnx (n a b : Nat) (i : Nat) (h : Heap) : Prop := IsZip h (n + 4) (n + 2) (n + 3) .none ∧ IsTupOf2 h (n + 2) (.ref n) (.ref (n + 1)) ∧ (∃ x y, IsTupOf2 h (n + 3) x y) ∧ h.IsTupleIter n a i ∧ h.IsListIter (n + 1) b i
theorem turn_x {P : Program} {w : World} {K : PySem.W.Frag} {elts : List Expr} {kk : Nat} {tpos : Pos} {n a b : Nat} (ha : a < n) (hb : b < n) : Turn P w K (.Tuple elts kk tpos) (Itx K a b) (fpx n) (n + 4) (Tnx n a b) where
  mem := mem_fpx.mpr (Or.inl rfl)
  obj := fun i h ⟨hz, hTI, ⟨x, y, hTO⟩, ⟨o1, e1, _, d1⟩, ⟨o2, e2, _, d2⟩⟩ c hc => by
    rcases mem_fpx.mp hc with rfl | rfl | rfl | rfl | rfl
    · exact ⟨_, hz, nofun⟩
    · exact ⟨_, hTI, nofun⟩
    · exact ⟨_, hTO, nofun⟩
    · exact ⟨o1, e1, fun v q => by rw [d1] at q; cases q⟩
    · exact ⟨o2, e2, fun v q => by rw [d2] at q; cases q⟩
  keep := fun i h h' ⟨hz, hTI, ⟨x, y, hTO⟩, h1, h2⟩ k => ⟨k (n + 4) (mem_fpx.mpr (Or.inl rfl)) _ hz, k (n + 2) (mem_fpx.mpr (Or.inr (Or.inl rfl))) _ hTI, ⟨x, y, k (n + 3) (mem_fpx.mpr (Or.inr (Or.inr (Or.inl rfl)))) _ hTO⟩, h1.at fun o q => k n (mem_fpx.mpr (Or.inr (Or.inr (Or.inr (Or.inl rfl))))) o q, h2.at fun o q => k (n + 1) (mem_fpx.mpr (Or.inr (Or.inr (Or.inr (Or.inr rfl))))) o q⟩
  item := by
    intro X hP hw hK hc i pins s σ H E I hf st hg
    subst hP hw hK
    obtain ⟨hz, hTI, ⟨x0, y0, hTO⟩, h1, h2⟩ := st
    obtain ⟨xs, ys, x, y, ⟨hqx, hqy⟩, hx, hy⟩ := hg
    obtain ⟨its, rv, p, _⟩ := I.tuple hqx
    obtain ⟨jts, rw', p2, _⟩ := I.list hqy
    obtain ⟨u, hu, ru⟩ := rv.get hx
    obtain ⟨u2, hu2, ru2⟩ := rw'.get hy
    have hz4 : n + 4 < s.heap.objs.size := Heap.lt_size hz
    have hh : X.A.handled = none := I.ok.hd hc
    refine wpAny_pyNext_zipD2_item (apx ha hb) (Draws.tuple (A := X.A.in1) hh n a (Nat.ne_of_lt ha) its.toArray) (Draws.list (A := X.A.in1) hh (n + 1) b (Nat.ne_of_lt (Nat.lt_succ_of_lt hb)) jts.toArray) hz hTI hTO ⟨h1, p⟩ ⟨h2, p2.isList⟩
      (by have := (List.getElem?_eq_some_iff.mp hu).1; simpa using this) (by have := (List.getElem?_eq_some_iff.mp hu2).1; simpa using this) fun v v2 h' tk hv hv2 z' TO' t1 t2 hT hsz hk => ?_
    have hv : its.toArray[i]? = some v := hv
    have hv2 : jts.toArray[i]? = some v2 := hv2
    obtain rfl : v = u := by
      rw [List.getElem?_toArray, hu] at hv; exact (Option.some.inj hv).symm
    obtain rfl : v2 = u2 := by
      rw [List.getElem?_toArray, hu2] at hv2; exact (Option.some.inj hv2).symm
    have up : ∀ (c : Nat) o, c ∉ fpx n → s.heap.get? c = some o → h'.get? c = some o := fun c o hn q => hk c o (fun e => hn (mem_fpx.mpr (Or.inl e))) (fun e => hn (mem_fpx.mpr (Or.inr (Or.inr (Or.inl e))))) (fun e => hn (mem_fpx.mpr (Or.inr (Or.inr (Or.inr (Or.inl e)))))) (fun e => hn (mem_fpx.mpr (Or.inr (Or.inr (Or.inr (Or.inr e)))))) q
    refine ⟨_, rfl, wpAny_letOwnedTupleGo_zip (s := { s with heap := h', toks := tk }) z' fun h'' z'' sb => ?_⟩
    have hT2 : h''.get? s.heap.objs.size = some { cls := .type "tuple", data := .seq #[v, v2] } := (sb.2 _ (Nat.ne_of_gt hz4)).trans hT
    have I1 : Inv X pins σ (upd H s.heap.objs.size (.tup [x, y])) { s with heap := h'', toks := tk } :=
      I.turnedNew (t' := tk) (ch := fpx n) (fun c o hn q => (sb.2 c (fun e => hn (mem_fpx.mpr (Or.inl e)))).trans (up c o hn q)) hf (Nat.le_refl _)
        ⟨by show 2 ≤ sizeLine; decide, [v, v2], .cons ru (.cons ru2 .nil), ⟨_, hT2, rfl, _, rfl⟩⟩
    refine ⟨.ref s.heap.objs.size, _, I1, rfl, ⟨_, x, y, rfl, I.hok.fresh (Nat.le_refl _), rfl, fun l hl => by rw [I.tuple_inj hl hqx]; exact hx, fun l hl => by rw [I.list_inj hl hqy]; exact hy⟩,
      ⟨z'', (sb.2 (n + 2) (by intro h; have h1 : @Eq Nat _ _ := h; omega)).trans (hk (n + 2) _ (by intro h; have h1 : @Eq Nat _ _ := h; omega) (by intro h; have h1 : @Eq Nat _ _ := h; omega) (by intro h; have h1 : @Eq Nat _ _ := h; omega) (by intro h; have h1 : @Eq Nat _ _ := h; omega) hTI), ⟨v, v2, (sb.2 (n + 3) (by intro h; have h1 : @Eq Nat _ _ := h; omega)).trans TO'⟩, t1.1.at fun o q => (sb.2 n (by intro h; have h1 : @Eq Nat _ _ := h; omega)).trans q, t2.1.at fun o q => (sb.2 (n + 1) (by intro h; have h1 : @Eq Nat _ _ := h; omega)).trans q⟩, fun c hcm => ?_⟩
    have key : ∀ k, k ≤ 4 → n + k < s.heap.objs.size := fun k hk => Nat.lt_of_le_of_lt (Nat.add_le_add_left hk n) hz4
    have hlt : c < s.heap.objs.size := by
      rcases mem_fpx.mp hcm with e | e | e | e | e <;> rw [e]
      · exact key 4 (by decide)
      · exact key 2 (by decide)
      · exact key 3 (by decide)
      · exact key 0 (by decide)
      · exact key 1 (by decide)
    rw [upd_ne (Nat.ne_of_lt hlt)]
    exact (hf c hcm).1
  done := by
    intro X hP hw hK hc i pins s σ H E I hf st hg
    subst hP hw hK
    obtain ⟨hz, hTI, ⟨x0, y0, hTO⟩, h1, h2⟩ := st
    obtain ⟨xs, ys, ⟨hqx, hqy⟩, e1, e2⟩ := hg
    obtain ⟨its, rv, p, _⟩ := I.tuple hqx
    obtain ⟨jts, rw', p2, _⟩ := I.list hqy
    have l1 := rv.length
    have l2 := rw'.length
    have hh : X.A.handled = none := I.ok.hd hc
    refine wpAny_pyNext_zipD2_end (apx ha hb) (Draws.tuple (A := X.A.in1) hh n a (Nat.ne_of_lt ha) its.toArray) (Draws.list (A := X.A.in1) hh (n + 1) b (Nat.ne_of_lt (Nat.lt_succ_of_lt hb)) jts.toArray) hz hTI hTO ⟨h1, p⟩ ⟨h2, p2.isList⟩
      (by rw [List.size_toArray]; omega) (by rw [List.size_toArray]; omega) (Or.inl (by rw [List.size_toArray]; omega)) fun h' tk hk => ⟨rfl, I.turnedL (t' := tk) (ch := fpx n) (fun c o hn q => hk c o (fun e => hn (mem_fpx.mpr (Or.inl e))) (fun e => hn (mem_fpx.mpr (Or.inr (Or.inr (Or.inl e))))) (fun e => hn (mem_fpx.mpr (Or.inr (Or.inr (Or.inr (Or.inl e)))))) (fun e => hn (mem_fpx.mpr (Or.inr (Or.inr (Or.inr (Or.inr e)))))) q) hf⟩
  self := fun A i s Q E st h => wpAny_pyIter_zip st.1 h
/-- zip(e, e2), e a tuple and e2 a list -/
def iZipX (K : PySem.W.Frag) (ta : TA) : TI := fun σ H R => ta σ H fun vs H1 => ∃ a b xs ys, vs = [.ref a, .ref b] ∧ SqT K H1 a xs ∧ SqL K H1 b ys ∧ R (Itx K a b) H1
theorem pi_zipX {X : Cx} {K : PySem.W.Frag} {e e2 : Expr} {ta : TA} {p pos tpos : Pos} {elts : List Expr} {kk : Nat} (hg : Gl X "zip") (hm : X.mg "zip" = none) (ha : PA X [e, e2] ta) (hK : X.K = K := by rfl)
    (hs : starEach [e, e2] X.env = (false, eval e X.env) :: starEach [e2] X.env := by rfl) (hpl : (backTo pos (starEach [e2] X.env)).any (·.1) = false := by rfl) :
    PI X (.Tuple elts kk tpos) (.Call (.Name "zip" p) [e, e2] [] pos) (iZipX K ta) := by
  subst hK
  refine ⟨fun pins s σ H R I h => Call_ (ld_blt I hg hm PyProof.Rows.boot_zip (PyProof.Rows.callWith_type1 (thn (ha.run pos pins s σ H _ I h) fun us s1 ⟨vs, H1, I1, r1, a, b, xs, ys, ex, hqx, hqy, q⟩ => ?_) hs hpl))⟩
  subst ex
  obtain ⟨u, r, u2, r2, rfl⟩ : ∃ u, RelV (.ref a) u ∧ ∃ u2, RelV (.ref b) u2 ∧ us = [u, u2] := by
    cases r1 with | cons r rr => cases rr with | cons r2 rr => cases rr; exact ⟨_, r, _, r2, rfl⟩
  cases r
  cases r2
  obtain ⟨its, rv, p1, _⟩ := I1.tuple hqx
  obtain ⟨jts, rw', p2, _⟩ := I1.list hqy
  have hT : s1.heap.IsTuple a its.toArray := p1
  have ha' : a < s1.heap.objs.size := by obtain ⟨o, ho, _⟩ := hT; exact Heap.lt_size ho
  refine zip_begins2 (begins_tuple a its.toArray) (begins_list b jts.toArray) hT p2.isList fun h' hz hTI hTO g1 g2 hsz hk => wpAny_pyIter_zip hz ?_
  refine ⟨_, fpx s1.heap.objs.size, _, Itx X.K a b, H1, rfl, I1.kept (t' := s1.toks) hk, turn_x ha' p2.lt, ⟨hz, hTI, ⟨_, _, hTO⟩, ⟨_, g1, rfl, rfl⟩, ⟨_, g2, rfl, rfl⟩⟩, fun c hcm => ?_, q⟩
  have hle : s1.heap.objs.size ≤ c := by
    rcases mem_fpx.mp hcm with e | e | e | e | e <;> rw [e]
    · exact Nat.le_add_right _ 4
    · exact Nat.le_add_right _ 2
    · exact Nat.le_add_right _ 3
    · exact Nat.le_refl _
    · exact Nat.le_add_right _ 1
  exact I1.fpOk hle (I1.hok.fresh hle)
end

end
end

-- lstar.txt
section

local macro_rules | `(tactic| walk_at "arith") => `(tactic| first | omega | decide | (unfold CMul; omega) | (unfold CDiv; omega) | (unfold CPow; decide) | (refine ⟨?_, ?_⟩ <;> omega) | (simp; done) | (simp; omega))
local macro_rules | `(tactic| walk_at "wide") => `(tactic| exact ⟨by decide, by decide +kernel⟩)
section
variable {P : Program} {w : World} {K : PySem.W.Frag} {mg : Str → Option Value} {base : Heap} {A : Ad}
/-! ### x, *rest = a tuple -/
namespace Star
open PySem PyProof.Rows
section
variable {prog : Program} {w : World} {A : Around} {E : Value → Shared → Prop} {s : Shared}
theorem walk_rest (hh : A.handled = none) (I ax : Addr) (hne : ax ≠ I) (items : Array Value) (hz : 0 < items.size) :
    WalksS prog w A I [I, ax] [I] (fun a b => b = a) (items.size - 1) (fun i v => items[i + 1]? = some v) (fun i s => s.heap.IsTupleIter I ax (i + 1) ∧ s.heap.IsTuple ax items) :=
  have W := (Walks.tuple (prog := prog) (w := w) hh I ax hne items).toS
  { sub := W.sub, grefl := W.grefl, gtrans := W.gtrans
    frame := fun i s h' tk st hk1 hk => W.frame (i + 1) s h' tk st hk1 hk
    item := fun i s Q E hi st k => W.item (i + 1) s Q E (by omega) st k
    done := fun s Q E st k => W.done s Q E (by rw [show items.size - 1 + 1 = items.size by omega] at st; exact st) k
    self := fun i s Q E st k => W.self (i + 1) s Q E st k }
theorem items_rest {items acc : Array Value} (h : ItemsOf (fun i v => items[i + 1]? = some v) acc (items.size - 1)) : acc.toList = items.toList.drop 1 := by
  obtain ⟨h1, h2⟩ := h
  refine List.ext_getElem (by simp [h1]) fun j hj1 hj2 => ?_
  have hj : j < acc.size := by simpa using hj1
  have h3 := h2 j acc[j] (by simp [hj])
  obtain ⟨hlt, e⟩ := Array.getElem?_eq_some_iff.mp h3
  rw [List.getElem_drop]
  simp only [Array.getElem_toList]
  rw [← e]
  congr 1
  omega
theorem unpack_star {t : Addr} {items : Array Value} {y : Value} {ys : List Value} {targets : List (Bool × (Value → Sem Unit))} {Q : Unit → Shared → Prop} (hh : A.handled = none) (ht : IsTup s.heap t items) (hi : items.toList = y :: ys) (hsz : items.size ≤ sizeLine)
    (hn : targets.length = 2) (hstar : targets.findIdx? (·.1) = some 1)
    (h : ∀ (h' : Heap) (tk : Nat), (∀ b o, s.heap.get? b = some o → h'.get? b = some o) → wpAny (model prog w) A (assignInOrder (targets.map (·.2)) [y, .ref h'.objs.size]) Q E { s with heap := h'.push { cls := .type "list", data := .seq ys.toArray }, toks := tk }) :
    wpAny (model prog w) A (unpack (.ref t) targets) Q E s := by
  have hlt : t ≠ s.heap.objs.size := Nat.ne_of_lt ht.lt
  have hz : 0 < items.size := by rw [← Array.length_toList, hi]; exact Nat.succ_pos _
  unfold unpack
  rw [hn, hstar]
  refine wpAny_bind (wpAny_holding ?_)
  unfold unpackItems
  refine wpAny_bind ?_
  unfold notIterableAtAll
  refine wpAny_bind (wpAny_specialOf ht.typeIs slot_tuple_iter.lookup ?_)
  refine wpAny_pure ?_
  simp only [Bool.false_eq_true, if_false]
  refine wpAny_bind (wpAny_holding (iter_tuple ht ?_))
  refine wpAny_bind (wpAny_holding (draw_tuple hlt 1 0 _ _ ⟨_, Heap.get?_push_size _ rfl, rfl, rfl⟩ (ht.push _) (by omega) fun h₁ hit₁ hs₁ => ?_))
  have h1 : List.take 1 (List.drop 0 items.toList) = [y] := by rw [hi]; rfl
  rw [h1]
  rw [if_neg (by simp)]
  have ht₁ : IsTup h₁ t items := (ht.push _).extBut hs₁.extBut hlt
  have hsz1 : s.heap.objs.size < h₁.objs.size := by obtain ⟨o, ho, _⟩ := hit₁; exact Heap.lt_size ho
  refine wpAny_bind (wpAny_holding (wpAny_collect_iter (Or.inr (Or.inr (Or.inr rfl))) (walk_rest (A := A.in1) hh s.heap.objs.size t hlt items hz) (fun i s st => IsTupIter.typeIs st.1) ⟨hit₁, ht₁⟩ (fun b hb => ?_) (by simp) (fun s' acc hm hacc => ?_) (by omega)))
  · rcases List.mem_cons.mp hb with rfl | hb
    · exact hsz1
    · rw [List.mem_singleton.mp hb]; exact ht₁.lt
  · have hacc := items_rest hacc
    rw [hi, List.drop_succ_cons, List.drop_zero] at hacc
    rw [hacc]
    rw [if_neg (by simp)]
    obtain ⟨hp, g, d, tk, os⟩ := s'
    have e1 : g = s.gens := hm.gens
    have e2 : d = s.drawn := hm.drawn
    have e3 : os = s.os := hm.os
    subst e1; subst e2; subst e3
    refine wpAny_bind (wpAny_newObj_type ?_ (by unfold sizeOk; simp; have := hi ▸ (Array.length_toList (xs := items)); simp at this; omega))
    refine wpAny_pure ?_
    simp only [Nat.sub_self, Nat.sub_zero, List.take_length, List.drop_length, List.append_nil, List.cons_append, List.nil_append]
    exact h hp tk fun b o e => hm.heap b o (fun q => absurd (Heap.lt_size e) ((List.mem_singleton.mp q) ▸ Nat.lt_irrefl _)) (hs₁.extBut b o (Nat.ne_of_lt (Heap.lt_size e)) (Heap.get?_push_of_some _ e))
end
end Star
section
variable {X : Cx} {K : PySem.W.Frag}
def gStar (K : PySem.W.Frag) (t : TGs) : TG := fun v σ H Q => ∃ a y ys, v = .ref a ∧ SqT K H a (y :: ys) ∧ ∀ l, H l = none → t [y, .ref l] σ (upd H l (.lst ys)) Q
theorem pg_star {e1 e2 : Expr} {p1 pos : Pos} {k : Nat} {t : TGs} (hc : X.calm = true) (h : PGs X [e1, e2] t) (hK : X.K = K := by rfl) (hm : (assignEach [e1, .Starred e2 p1] X.env).map (·.2) = (assignEach [e1, e2] X.env).map (·.2) := by rfl)
    (hn : (assignEach [e1, .Starred e2 p1] X.env).length = 2 := by rfl) (hst : (assignEach [e1, .Starred e2 p1] X.env).findIdx? (·.1) = some 1 := by rfl) : PG X (.Tuple [e1, .Starred e2 p1] k pos) (gStar K t) := by
  subst hK
  refine ⟨fun pins s σ H v u Q I r hw => ?_⟩
  obtain ⟨a, y, ys, e1, hq, hw⟩ := hw
  subst e1
  cases r
  obtain ⟨its, rv, ht, hz⟩ := I.tuple hq
  cases rv with
  | cons ry rr =>
    rename_i u0 us
    have hzl : ys.length + 1 ≤ sizeLine := hz
    have hul := rr.length
    rw [PyProof.Rows.assign_Tuple]
    refine wpAny_bind (wpAny_standAt (Star.unpack_star (I.ok.hd hc) ht rfl (by show (u0 :: us).length ≤ _; rw [List.length_cons]; omega) hn hst fun h' tk kp => ?_))
    have I1 : Inv X pins σ H { s with heap := h', toks := tk } := I.kept kp
    have I2 : Inv X pins σ (upd H h'.objs.size (.lst ys)) { s with heap := h'.push { cls := .type "list", data := .seq us.toArray }, toks := tk } :=
      I1.laid (t' := tk) (fun b o e => Heap.get?_push_of_some _ e) (Nat.le_refl _) (show ObjOk X.prog X.w _ _ _ (.lst ys) from ⟨by omega, us, _, rr, Heap.get?_push_size _ rfl⟩)
    rw [hm]
    exact h.run pins _ σ _ [y, .ref h'.objs.size] [u0, .ref h'.objs.size] Q I2 (Paired.cons ry (Paired.cons rfl Paired.nil)) (hw _ (I1.hok.fresh (Nat.le_refl _)))
theorem op_catTK (h : X.K = K := by rfl) : OpR X (binaryOp .Add) (rCatT K) := by subst h; exact op_catT
/-- x is True, whatever flat value x is -/
def rIsBf : R2 := fun x y H Q => ∃ b : Bool, y = .bl b ∧ ((∃ c : Bool, x = .bl c ∧ Q (.bl (decide (c = b))) H) ∨ (∃ i : Int, x = .int i ∧ Q (.bl false) H) ∨ ∃ z : Str, x = .str z ∧ Q (.bl false) H)
theorem op_isBf : OpR X (compareOp .Is) rIsBf := by
  intro pins s σ H x y v u Q I rx ry h
  obtain ⟨b, rfl, h⟩ := h
  cases (show u = Value.bool b from ry)
  rcases h with ⟨c, rfl, q⟩ | ⟨i, rfl, q⟩ | ⟨z, rfl, q⟩
  · cases (show v = Value.bool c from rx)
    by_cases e : c = b
    · subst e
      exact wpAny_is_self rfl ⟨.bl true, H, I, rfl, by simpa using q⟩
    · exact wpAny_is_other rfl (fun z => e (Value.bool.inj z)) ⟨.bl false, H, I, rfl, by simpa [e] using q⟩
  · obtain ⟨t, rfl⟩ := (show ∃ t, v = Value.int i t from rx)
    exact wpAny_is_other rfl (fun z => by cases z) ⟨.bl false, H, I, rfl, q⟩
  · obtain ⟨t, rfl⟩ := (show ∃ t, v = Value.str z t from rx)
    exact wpAny_is_other rfl (fun z => by cases z) ⟨.bl false, H, I, rfl, q⟩
end

end
end

-- lstl.txt
section

local macro_rules | `(tactic| walk_at "arith") => `(tactic| first | omega | decide | (unfold CMul; omega) | (unfold CDiv; omega) | (unfold CPow; decide) | (refine ⟨?_, ?_⟩ <;> omega) | (simp; done) | (simp; omega))
local macro_rules | `(tactic| walk_at "wide") => `(tactic| exact ⟨by decide, by decide +kernel⟩)
section
variable {P : Program} {w : World} {K : PySem.W.Frag} {mg : Str → Option Value} {base : Heap} {A : Ad}
/-! ### x, *rest = a list -/
namespace Star
open PySem PyProof.Rows
section
variable {prog : Program} {w : World} {A : Around} {E : Value → Shared → Prop} {s : Shared}
theorem unpack_list {l : Addr} {items : Array Value} {y : Value} {ys : List Value} {targets : List (Bool × (Value → Sem Unit))} {Q : Unit → Shared → Prop} (hh : A.handled = none) (hl : s.heap.IsList l items) (hi : items.toList = y :: ys) (hsz : items.size ≤ sizeLine)
    (hn : targets.length = 2) (hstar : targets.findIdx? (·.1) = some 1)
    (h : ∀ (h' : Heap) (tk : Nat), (∀ b o, s.heap.get? b = some o → h'.get? b = some o) → wpAny (model prog w) A (assignInOrder (targets.map (·.2)) [y, .ref h'.objs.size]) Q E { s with heap := h'.push { cls := .type "list", data := .seq ys.toArray }, toks := tk }) :
    wpAny (model prog w) A (unpack (.ref l) targets) Q E s := by
  have hll : l < s.heap.objs.size := by obtain ⟨o, ho, _⟩ := hl; exact Heap.lt_size ho
  have hlt : l ≠ s.heap.objs.size := Nat.ne_of_lt hll
  have hz : items.size = ys.length + 1 := by rw [← Array.length_toList, hi]; rfl
  unfold unpack
  rw [hn, hstar]
  refine wpAny_bind (wpAny_holding ?_)
  unfold unpackItems
  refine wpAny_bind ?_
  unfold notIterableAtAll
  refine wpAny_bind (wpAny_specialOf hl.typeIs PySem.F.slot_list_iter.lookup ?_)
  refine wpAny_pure ?_
  simp only [Bool.false_eq_true, if_false]
  refine wpAny_bind (wpAny_holding (wpAny_pyIter_list hl ?_))
  refine wpAny_bind (wpAny_holding (PySem.W.kun_draw hlt 1 0 _ _ ⟨_, Heap.get?_push_size _ rfl, rfl, rfl⟩ (hl.push _) (by omega) fun h₁ hit₁ hs₁ => ?_))
  have hl₁ : h₁.IsList l items := (hl.push _).extBut hs₁.extBut hlt
  rw [Nat.zero_add] at hit₁
  have h1 : List.take 1 (List.drop 0 items.toList) = [y] := by rw [hi]; rfl
  rw [h1]
  rw [if_neg (by simp)]
  have hi1 : s.heap.objs.size < h₁.objs.size := by obtain ⟨o, ho, _⟩ := hit₁; exact Heap.lt_size ho
  have hi2 : l < h₁.objs.size := by obtain ⟨o, ho, _⟩ := hl₁; exact Heap.lt_size ho
  refine wpAny_bind (wpAny_holding (PySem.W.kun_collect (s := { s with heap := h₁ }) (T := "list_iterator") (.inr (.inr (.inl rfl))) (Walks.list (A := A.in1) hh s.heap.objs.size l hlt items) (fun j u st => st.1.typeIs) (k := 1) (by omega) ⟨hit₁, hl₁⟩ hi1 hi2 (fun h₂ tk hk => ?_) hsz))
  rw [hi, List.drop_succ_cons, List.drop_zero]
  rw [if_neg (by simp)]
  refine wpAny_bind (wpAny_newObj_type ?_ (by unfold sizeOk; simp; omega))
  refine wpAny_pure ?_
  simp only [Nat.sub_self, Nat.sub_zero, List.take_length, List.drop_length, List.append_nil, List.cons_append, List.nil_append]
  exact h h₂ tk fun b o e => hk b o (Nat.ne_of_lt (Heap.lt_size e)) (hs₁.extBut b o (Nat.ne_of_lt (Heap.lt_size e)) (Heap.get?_push_of_some _ e))
end
end Star
section
variable {X : Cx} {K : PySem.W.Frag}
def gStarL (K : PySem.W.Frag) (t : TGs) : TG := fun v σ H Q => ∃ a y ys, v = .ref a ∧ SqL K H a (y :: ys) ∧ ∀ l, H l = none → t [y, .ref l] σ (upd H l (.lst ys)) Q
theorem pg_starL {e1 e2 : Expr} {p1 pos : Pos} {k : Nat} {t : TGs} (hc : X.calm = true) (h : PGs X [e1, e2] t) (hK : X.K = K := by rfl) (hm : (assignEach [e1, .Starred e2 p1] X.env).map (·.2) = (assignEach [e1, e2] X.env).map (·.2) := by rfl)
    (hn : (assignEach [e1, .Starred e2 p1] X.env).length = 2 := by rfl) (hst : (assignEach [e1, .Starred e2 p1] X.env).findIdx? (·.1) = some 1 := by rfl) : PG X (.Tuple [e1, .Starred e2 p1] k pos) (gStarL K t) := by
  subst hK
  refine ⟨fun pins s σ H v u Q I r ⟨a, y, ys, ev, hq, hw⟩ => ?_⟩
  subst ev
  cases r
  obtain ⟨its, rv, pl, hz⟩ := I.list hq
  cases rv with
  | cons ry rr =>
    rename_i u0 us
    have hzl : ys.length + 1 ≤ sizeLine := hz
    have hul := rr.length
    rw [PyProof.Rows.assign_Tuple]
    refine wpAny_bind (wpAny_standAt (Star.unpack_list (I.ok.hd hc) pl.isList (by rfl) (by show (u0 :: us).length ≤ _; rw [List.length_cons]; omega) hn hst fun h' tk kp => ?_))
    have I1 : Inv X pins σ H { s with heap := h', toks := tk } := I.kept kp
    have I2 : Inv X pins σ (upd H h'.objs.size (.lst ys)) { s with heap := h'.push { cls := .type "list", data := .seq us.toArray }, toks := tk } :=
      I1.laid (t' := tk) (fun b o e => Heap.get?_push_of_some _ e) (Nat.le_refl _) (show ObjOk X.prog X.w _ _ _ (.lst ys) from ⟨by omega, us, _, rr, Heap.get?_push_size _ rfl⟩)
    rw [hm]
    exact h.run pins _ σ _ [y, .ref h'.objs.size] [u0, .ref h'.objs.size] Q I2 (Paired.cons ry (Paired.cons rfl Paired.nil)) (hw _ (I1.hok.fresh (Nat.le_refl _)))
end

end
end

-- lrd1.txt
section

local macro_rules | `(tactic| walk_at "arith") => `(tactic| first | omega | decide | (unfold CMul; omega) | (unfold CDiv; omega) | (unfold CPow; decide) | (refine ⟨?_, ?_⟩ <;> omega) | (simp; done) | (simp; omega))
local macro_rules | `(tactic| walk_at "wide") => `(tactic| exact ⟨by decide, by decide +kernel⟩)
section
variable {P : Program} {w : World} {K : PySem.W.Frag} {mg : Str → Option Value} {base : Heap} {A : Ad}
/-! ### reading: numbers and parts of deeds -/
local macro_rules | `(tactic| walk_at "pre") => `(tactic| first | trivial | omega)
/-- a BadLine may be let out that tells this place -/
def LetsL (E : XK) (c : Value) (n : Int) (H : Hp) : Prop := ∀ d H', Sb H H' → H' d = some (.xd [("at", .int n), ("word", .str "BadLine")]) → E c (some d) H'
theorem LetsL.sb {E : XK} {c : Value} {n : Int} {H H' : Hp} (x : LetsL E c n H) (s : Sb H H') : LetsL E c n H' := fun d H2 s2 y => x d H2 (s.trans s2) y
section
variable {X : Cx} {C fI : Addr} {fd : FuncData} {x : Str} {e : Expr} {t : TA} {p pos : Pos}
theorem tMkO_line {σ : L2.St} {H : Hp} {Q : XK} (T : OexC X.K C) (hw : PySem.W.findIn X.K (.ref C) "word" = some none) (hat : PySem.W.findIn X.K (.ref C) "at" = some none) (h : t σ H fun vs H1 => ∃ n, vs = [.int n] ∧ LetsL Q (.ref C) n H1) : tMkO C (spLine X.K C) [] (tClo t) σ H Q := by
  refine ⟨_, h, fun vs H1 ⟨n, e, q⟩ => ?_⟩
  subst e
  refine ⟨by show 1 ≤ 1000; omega, fun a ha => ⟨a, .int n, rfl, T, hw, hat, upd_same, fun dx hd hne => ⟨rfl, dx, _, (upd_ne fun z => hne z.symm).trans upd_same, upd_same, ?_, ?_⟩⟩⟩
  · rwa [upd_ne hne] at hd
  · have hd1 : H1 dx = none := by rwa [upd_ne hne] at hd
    refine q dx _ (fun b u e => ?_) upd_same
    have h1 : b ≠ dx := fun z => by rw [z, hd1] at e; cases e
    have h2 : b ≠ a := fun z => by rw [z, ha] at e; cases e
    rw [upd_ne h1, del_ne h2, upd_ne h1, upd_ne h2, upd_ne h1, upd_ne h2]
    exact e
theorem pmk_wL (T : ExX X.K X.mg x C fI) (hat : PySem.W.findIn X.K (.ref C) "at" = some none) (F : FnOk X.prog X.w X.K X.mg X.base CX0 1 fI fd ["self", "at"] (spLine X.K C)) (b : Binds X.K fd ["self", "at"] []) (hr : Room 2 X.A) (hg : Gl X x) (ha : PA X [e] t)
    (hdb : (x == ("__debug__" : Str)) = false := by decide) (he : starEach [e] X.env = (false, eval e X.env) :: starEach [] X.env := by rfl) (hpl : (backTo pos (starEach [] X.env)).any (·.1) = false := by rfl) :
    PMk X (.Call (.Name x p) [e] [] pos) (fun σ H Q => t σ H fun vs H1 => ∃ n, vs = [.int n] ∧ LetsL Q (.ref C) n H1) := fun pins s σ H Q I h =>
  pmk_oex T.T T.i T.ti F hr b .nil pass0 hg T.g (pa_clo ha) hdb he hpl pins s σ H Q I (tMkO_line T.T T.w hat h)
end
def dig (c : Nat) : Bool := !decide ((⟨#[c]⟩ : Str).cps.toList < ("0" : Str).cps.toList) && !decide (("9" : Str).cps.toList < (⟨#[c]⟩ : Str).cps.toList)
theorem dig_eq (c : Nat) : dig c = decide (48 ≤ c ∧ c ≤ 57) := by
  have ha : ("0" : Str).cps.toList = [48] := by decide +kernel
  have hz : ("9" : Str).cps.toList = [57] := by decide +kernel
  unfold dig
  rw [ha, hz]
  have e1 : decide ((⟨#[c]⟩ : Str).cps.toList < [48]) = decide (c < 48) := decide_eq_decide.mpr (by simp [List.cons_lt_cons_iff])
  have e2 : decide ([57] < (⟨#[c]⟩ : Str).cps.toList) = decide (57 < c) := decide_eq_decide.mpr (by simp [List.cons_lt_cons_iff])
  rw [e1, e2]
  by_cases h1 : c < 48 <;> by_cases h2 : 57 < c <;> simp [h1, h2] <;> omega
def sign0 (z : Str) : Str := ⟨#[z.cps[0]?.getD 0]⟩
def isNum (z : Str) : Bool := (decide ((1 : Int) ≤ (z.length : Int)) && decide ((z.length : Int) ≤ 30)) && (((List.range z.length).map fun i => dig (z.cps[i]?.getD 0)).all id && (decide (z = "0") || !decide (sign0 z = "0")))
abbrev spIsNum : Sp := SpD (α := Str) (fun z => [.str z]) (fun z => z.length ≤ 20000) (fun z => .bool (isNum z))
theorem ok_is_number (T : Txt K mg A) : FnOk P w K mg base CX0 1 A.a_is_number A.d_is_number ["word"] spIsNum := by
  refine T.F_is_number.ok sc_is_number (fun vs H Q E h => ?_) (fun cdv A' outer s H vs Q E hr h => ?_)
  · obtain ⟨G, x, _, hx, _⟩ := h
    exact hx.len
  · obtain ⟨G, z, s0, hx, hz, k⟩ := h
    obtain ⟨v0, rfl, h_word⟩ := dxs1 hx
    refine ⟨_, (pss_cons (ps_if (pt_not (pt_chain op_le op_le pe_int (pe_callB call_len_str (by rfl) T.b.len (by decide +kernel) (pa_cons (pv 0) pa_nil)) (pe_glob (v := .int 30) (by rfl) T.g_MOST_FIGURES ⟨_, rfl⟩)))
      (pss_one (ps_ret pe_bl))
      pss_nil)
      (pss_cons (ps_if (pt_not (pt_val (pe_callB (cr_allK (K := K) rfl) (by rfl) T.b.all (by decide +kernel) (pa_cons (pe_lc (own := [("sign", 1)]) (g := gName 1) rfl sc_is_number.nd (pi_str (pv 0)) (blkOk_by (own := [("sign", 1)]) (N := N_is_number) (sc := defScope s_is_number) (by decide +kernel)) (fun _ _ _ _ _ => (pg_name (i := 1) sc_is_number.nd rfl (Or.inl rfl))) (fun _ _ _ _ _ => pts_nil) (fun _ _ _ _ _ => by exact (pe_chain op_le_str op_le_str pe_str (pv 1) pe_str))) pa_nil))))
      (pss_one (ps_ret pe_bl))
      pss_nil)
      (pss_one (ps_ret (pe_or (pe_cmpR op_eq (pv 0) pe_str (nomark _)) (pe_one (pe_cmpR op_ne (pe_ix ix_str (pv 0) pe_int (fun _ _ => rfl)) pe_str (nomark _)))))))), ?_⟩
    refine q_when (et_not (et_test (ev_chain ev_int (ev_cb (ea_cons (ev_var rfl h_word) ea_nil) (cd_lenS (by walk_at "arith"))) rd_le (fun _ => ev_int) (fun _ => rd_le)))) s0 (fun hb G1 H1 g1 => ?_) (fun hb G1 H1 g1 => ?_)
    · refine s_ret ev_bl g1.s fun v G2 H2 g2 hv => k v G2 H2 (g1.trans g2) ?_
      have e : isNum z = false := by
        unfold isNum
        rw [Bool.not_eq_true'] at hb
        rw [hb, Bool.false_and]
      show Dx G2 v (.bool (isNum z))
      rw [e]; exact hv
    have h_word := h_word.mono g1.g
    rw [Bool.not_eq_false'] at hb
    have hlen : 1 ≤ z.length ∧ z.length ≤ 30 := by
      have := hb
      simp only [Bool.and_eq_true, decide_eq_true_eq] at this
      omega
    refine q_when (b := !((List.range z.length).map fun i => dig (z.cps[i]?.getD 0)).all id) (et_not (et_test (ev_cb (ea_cons (ev_lcS (fun _ => true) (fun i => .bool (dig (z.cps[i]?.getD 0))) (ev_var rfl h_word) (by omega) (fun _ => rfl) (fun i c hc => et_yes)
        (fun i c hc hf => ev_is ((fun h_sign => (ev_chain ev_str (ev_var rfl h_sign) rd_leS (fun _ => ev_str) (fun _ => rd_leS))) (Dx.str ⟨#[c]⟩)) (by rw [hc]; rfl))).dat ea_nil) (cd_all' (bs := (List.range z.length).map fun i => dig (z.cps[i]?.getD 0)) (by rw [given_map, List.map_map]; rfl))))) g1.s (fun hb2 G2 H2 g2 => ?_) (fun hb2 G2 H2 g2 => ?_)
    · refine s_ret ev_bl g2.s fun v G3 H3 g3 hv => k v G3 H3 ((g1.trans g2).trans g3) ?_
      have e : isNum z = false := by
        unfold isNum
        rw [Bool.not_eq_true'] at hb2
        rw [hb2, Bool.false_and, Bool.and_false]
      show Dx G3 v (.bool (isNum z))
      rw [e]; exact hv
    · have h_word := h_word.mono g2.g
      have hc0 : z.cps.toList[0]? = some (z.cps[0]?.getD 0) := by
        have : 0 < z.cps.size := by have := hlen.1; exact this
        rw [Array.getElem?_toList, Array.getElem?_eq_getElem this]; rfl
      refine s_ret (ev_orV (ev_op (ev_var rfl h_word) ev_str rd_eqS) (fun _ => ev_op (ev_op (ev_var rfl h_word) ev_int (rd_ixS (c := z.cps[0]?.getD 0) (by omega) (atI_nat (j := 0) hc0))) ev_str rd_neS)) g2.s fun v G3 H3 g3 hv => k v G3 H3 ((g1.trans g2).trans g3) ?_
      have e : isNum z = (decide (z = "0") || !decide (sign0 z = "0")) := by
        unfold isNum
        rw [Bool.not_eq_false'] at hb2
        rw [hb2, Bool.true_and, hb, Bool.true_and]
      show Dx G3 v (.bool (isNum z))
      rw [e]; exact hv
def numV (z : Str) : Int := ((PySem.NumText.digitsVal z.cps.toList : Nat) : Int)
def partOf (x : Str × Str) : Option PyData :=
  if x.1 = "name" ∧ isName x.2 = true then some (.str x.2)
  else if x.1 = "number" ∧ isNum x.2 = true then some (.int (numV x.2))
  else if x.1 = "bound" ∧ x.2 ∈ (["bound", "free"] : List Str) then some (.bool (decide (x.2 = "bound")))
  else none
theorem isNum_dig {z : Str} (h : isNum z = true) : PySem.NumText.AllDigits z.cps.toList ∧ z.cps.toList ≠ [] ∧ z.length ≤ 30 := by
  unfold isNum at h
  simp only [Bool.and_eq_true, decide_eq_true_eq] at h
  obtain ⟨⟨h1, h2⟩, h3, _⟩ := h
  have hl : z.length = z.cps.toList.length := (Array.length_toList).symm
  refine ⟨fun c hc => ?_, fun e => ?_, by omega⟩
  · obtain ⟨i, hi, e⟩ := List.getElem_of_mem hc
    have h4 := List.all_eq_true.mp h3 (dig (z.cps[i]?.getD 0)) (List.mem_map.mpr ⟨i, List.mem_range.mpr (by rw [hl]; exact hi), rfl⟩)
    rw [dig_eq] at h4
    have e2 : z.cps[i]?.getD 0 = c := by
      rw [← Array.getElem?_toList, List.getElem?_eq_getElem hi, e]; rfl
    rw [e2] at h4
    simpa using h4
  · rw [hl, e] at h1
    exact absurd h1 (by decide)
theorem int_of {z : Str} (h : isNum z = true) : intText? z = some (numV z) := by
  obtain ⟨a, b, c⟩ := isNum_dig h
  exact PySem.intText_digits a b (by omega)
abbrev spRdp (B : Bd) : Sp := fun vs H Q E => ∃ (G : Hp) (x : Str × Str), Sb G H ∧ Dxs G vs [.str x.1, .str x.2] ∧ x.2.length ≤ 100 ∧ (partOf x = none → ∀ G' H', Gr [] G H G' H' → LetsL E (.ref B.c_BadLine) 1 H') ∧ (∀ d, partOf x = some d → ∀ v G' H', Gr [] G H G' H' → Dx G' v d → Q v H')
theorem cd_intS {z : Str} {n : Int} (h : intText? z = some n) (hl : z.length ≤ 640) : CD (fun xs H Q => ∃ a n, xs = [.str a] ∧ PySem.intText? a = some n ∧ a.length ≤ 640 ∧ Q (.int n) H) [.str z] (.int n) := fun G1 H1 vs s h' Q q => by
  cases h' with | cons h1 t => cases t with | nil => rw [h1.str_eq]; exact ⟨z, n, rfl, h, hl, q _ G1 H1 (.refl s) (.int n)⟩
theorem ok_read_part {B : Bd} (T : Txt K mg A) (U : Ux K mg B) : FnOk P w K mg base (L2.CX P w) 3 A.a_read_part A.d_read_part ["kind", "word"] (spRdp B) := by
  have G_is_name := ok_is_name (P := P) (w := w) (base := base) T
  have G_is_number := ok_is_number (P := P) (w := w) (base := base) T
  refine T.F_read_part.okX sc_read_part (fun vs H Q E h => ?_) (fun cdv A' outer st H vs Q E hr h => ?_)
  · obtain ⟨_, _, _, h, _⟩ := h
    exact h.len
  obtain ⟨G, ⟨kd, z⟩, s0, hx, hz, kE, kQ⟩ := h
  obtain ⟨v0, v1, rfl, h_kind, h_word⟩ := dxs2 hx
  have hz : z.length ≤ 100 := hz
  refine ⟨_, (pss_cons (ps_if (PW.pt (pw_and (pt_cmpR op_eq (pv 0) pe_str (nomark _)) (pw_and1 (pt_val (pe_call G_is_name (hr.mono (by omega)) (by rfl) T.m_is_name T.F_is_name.kp T.b_is_name .nil pass0 (pa_cons (pv 1) pa_nil))))))
      (pss_one (ps_ret (pv 1)))
      pss_nil)
      (pss_cons (ps_if (PW.pt (pw_and (pt_cmpR op_eq (pv 0) pe_str (nomark _)) (pw_and1 (pt_val (pe_call G_is_number (hr.mono (by omega)) (by rfl) T.m_is_number T.F_is_number.kp T.b_is_number .nil pass0 (pa_cons (pv 1) pa_nil))))))
      (pss_one (ps_ret (pe_callTy call_int_str (by rfl) T.b.int_ (by decide +kernel) (pa_cons (pv 1) pa_nil))))
      pss_nil)
      (pss_cons (ps_if (PW.pt (pw_and (pt_cmpR op_eq (pv 0) pe_str (nomark _)) (pw_and1 (pt_cmpR (op_inK (K := K)) (pv 1) (pe_tup (pa_cons pe_str (pa_cons pe_str pa_nil))) rfl))))
      (pss_one (ps_ret (pe_cmpR op_eq (pv 1) pe_str (nomark _))))
      pss_nil)
      (pss_one (ps_raise rfl (takes_of rfl rfl rfl rfl) (pmk_wL U.x_BadLine.x U.xat (okx_BadLine U) U.b_XBadLine (hr.mono (by omega)) (by exact rfl) (pa_cons pe_int pa_nil))))))), ?_⟩
  refine q_when (b := decide (kd = "name") && isName z) (et_and (et_test (ev_op (ev_var rfl h_kind) ev_str rd_eqS)) (fun _ => (et_B (ev_call _ (ea_is (ea_cons (ev_var rfl h_word) ea_nil) rfl) (by walk_at "pre"))))) s0 (fun hb G1 H1 g1 => ?_) (fun hb G1 H1 g1 => ?_)
  · have hb : kd = "name" ∧ isName z = true := by simpa using hb
    exact s_ret (ev_var rfl (h_word.mono g1.g)) g1.s fun v G2 H2 g2 hv => kQ (.str z) (if_pos hb) v G2 H2 (g1.trans g2) hv
  have n1 : ¬ (kd = "name" ∧ isName z = true) := fun h => by rw [decide_eq_true h.1, h.2] at hb; cases hb
  have h_kind := h_kind.mono g1.g
  have h_word := h_word.mono g1.g
  refine q_when (b := decide (kd = "number") && isNum z) (et_and (et_test (ev_op (ev_var rfl h_kind) ev_str rd_eqS)) (fun _ => (et_B (ev_call _ (ea_is (ea_cons (ev_var rfl h_word) ea_nil) rfl) (by walk_at "pre"))))) g1.s (fun hb G2 H2 g2 => ?_) (fun hb G2 H2 g2 => ?_)
  · have hb : kd = "number" ∧ isNum z = true := by simpa using hb
    exact s_ret (ev_cb (ea_cons (ev_var rfl (h_word.mono g2.g)) ea_nil) (cd_intS (int_of hb.2) (by omega))) g2.s fun v G3 H3 g3 hv => kQ (.int (numV z)) ((if_neg n1).trans (if_pos hb)) v G3 H3 ((g1.trans g2).trans g3) hv
  have n2 : ¬ (kd = "number" ∧ isNum z = true) := fun h => by rw [decide_eq_true h.1, h.2] at hb; cases hb
  have h_kind := h_kind.mono g2.g
  have h_word := h_word.mono g2.g
  refine q_when (b := decide (kd = "bound") && decide (z ∈ (["bound", "free"] : List Str))) (et_and (et_test (ev_op (ev_var rfl h_kind) ev_str rd_eqS)) fun _ => et_test (ev_op (ev_var rfl h_word) (ev_tup (ds := (["bound", "free"] : List Str).map .str) (ea_cons ev_str (ea_cons ev_str ea_nil)) (by show 2 ≤ 100000; omega)) rd_InTS)) g2.s (fun hb G3 H3 g3 => ?_) (fun hb G3 H3 g3 => ?_)
  · have hb : kd = "bound" ∧ z ∈ (["bound", "free"] : List Str) := by
      have := Bool.and_eq_true_iff.mp hb
      exact ⟨of_decide_eq_true this.1, of_decide_eq_true this.2⟩
    exact s_ret (ev_op (ev_var rfl (h_word.mono g3.g)) ev_str rd_eqS) g3.s fun v G4 H4 g4 hv => kQ (.bool (decide (z = "bound"))) ((if_neg n1).trans ((if_neg n2).trans (if_pos hb))) v G4 H4 (((g1.trans g2).trans g3).trans g4) hv
  · have n3 : ¬ (kd = "bound" ∧ z ∈ (["bound", "free"] : List Str)) := fun h => by rw [decide_eq_true h.1, decide_eq_true h.2] at hb; cases hb
    exact ⟨1, rfl, kE ((if_neg n1).trans ((if_neg n2).trans (if_neg n3))) G3 H3 ((g1.trans g2).trans g3)⟩

end
end

-- lrd2.txt
section

local macro_rules | `(tactic| walk_at "arith") => `(tactic| first | omega | decide | (unfold CMul; omega) | (unfold CDiv; omega) | (unfold CPow; decide) | (refine ⟨?_, ?_⟩ <;> omega) | (simp; done) | (simp; omega))
local macro_rules | `(tactic| walk_at "wide") => `(tactic| exact ⟨by decide, by decide +kernel⟩)
section
variable {P : Program} {w : World} {K : PySem.W.Frag} {mg : Str → Option Value} {base : Heap} {A : Ad}
/-! ### reading: deeds -/
local macro_rules | `(tactic| walk_at "pre") => `(tactic| first | trivial | omega)
def PTS : List (Str × List Str) := [("house", ["name", "number"]), ("in", ["name", "number"]), ("out", ["name", "number"]), ("fail", ["name"]), ("mend", ["name"]), ("days", ["number"]),
  ("draw", ["name", "name", "name", "number", "number", "bound"]), ("accept", ["number", "number"]), ("sign", ["number", "number", "name", "bound"]), ("blank", ["number", "number", "name", "bound"]), ("hand", ["number", "number", "name"]),
  ("lose", ["number"]), ("present", ["number", "number"]), ("protest", ["number", "number"]), ("ask", ["number", "number", "number"]), ("honour", ["number", "number", "name", "number"])]
def kindsOf (z : Str) : Option (List Str) := PTS.lookup z
/-- the module's dict of the parts of deeds -/
structure PtX (K : PySem.W.Frag) (w : World) (mg : Str → Option Value) (pA : Addr) : Prop where
  g : mg "PARTS" = some (.ref pA)
  D : ∃ es n, KDict K w pA es n
  hit : ∀ z ks, kindsOf z = some ks → ∃ a, PySem.W.nsIn K pA z = some (some (.ref a)) ∧ ∀ H, SqT K H a (ks.map V.str)
  miss : ∀ z, kindsOf z = none → PySem.W.nsIn K pA z = some none
section
variable {X : Cx} {K : PySem.W.Frag} {w : World} {d : Addr} {es : Array DictEntry} {n : Nat}
theorem ix_kdictK (h : X.K = K := by rfl) (hw : X.w = w := by rfl) : IxR X (rIxD K w) := by subst h; subst hw; exact ix_kdict
theorem op_notIn_kdK (D : KDict K w d es n) (h : X.K = K := by rfl) (hw : X.w = w := by rfl) : OpR X (compareOp .NotIn) (fun x y H Q => ∃ (z : Str) (r : Option Value), x = .str z ∧ y = .ref d ∧ PySem.W.nsIn K d z = some r ∧ Q (.bl (!r.isSome)) H) := by subst h; subst hw; exact op_notIn_kd D
end
section
variable {K : PySem.W.Frag} {w : World} {mg : Str → Option Value} {σ : L2.St} {G H : Hp} {ta : TE} {z : Str} {pA : Addr}
theorem ev_notinK {r : Option Value} (h : EvD ta σ G H (.str z)) (e : PySem.W.nsIn K pA z = some r) : EvD (tOp (fun x y H Q => ∃ (z : Str) (r : Option Value), x = .str z ∧ y = .ref pA ∧ PySem.W.nsIn K pA z = some r ∧ Q (.bl (!r.isSome)) H) ta (tC (.ref pA))) σ G H (.bool (!r.isSome)) := fun G1 H1 g Q q =>
  h G1 H1 g _ fun v G2 H2 g2 x => ⟨z, r, x.str_eq, rfl, e, q _ G2 H2 g2 (.bl _)⟩
theorem ev_kix {a : Addr} (D : ∃ es n, KDict K w pA es n) (h : EvD ta σ G H (.str z)) (e : PySem.W.nsIn K pA z = some (some (.ref a))) : EvV (tOp (rIxD K w) (tC (.ref pA)) ta) σ G H (.ref a) := fun G1 H1 g Q q =>
  h G1 H1 g _ fun v G2 H2 g2 x => by
    obtain ⟨es, n, D⟩ := D
    exact ⟨pA, z, .ref a, rfl, x.str_eq, ⟨es, n, .ref a, D.at_, D.lit, e, rfl⟩, q G2 H2 g2⟩
theorem ev_klen {te : TE} {a : Addr} {ks : List Str} (h : EvV te σ G H (.ref a)) (hT : ∀ H, SqT K H a (ks.map V.str)) : EvD (tCB (fun xs H Q => ∃ p ys, xs = [.ref p] ∧ (SqL K H p ys ∨ SqT K H p ys) ∧ Q (.int ys.length) H) (tCons te tNil)) σ G H (.int ks.length) := fun G1 H1 g Q q =>
  h G1 H1 g _ fun G2 H2 g2 => ⟨a, _, rfl, Or.inr (hT H2), by rw [List.length_map]; exact q _ G2 H2 g2 (.int _)⟩
theorem ev_splitB {to te : TE} {a b : Str} (h : EvD to σ G H (.str a)) (h2 : EvD te σ G H (.str b)) (hb : (b.length == 0) = false) (hl : a.length + 2 ≤ 100000) : EvM (tM1 (fun x xs H Q => ∃ a b, x = .str a ∧ xs = [.str b] ∧ (b.length == 0) = false ∧ a.length + 2 ≤ sizeLine ∧ rNewStrs (Txt.split a b) H Q) to te) σ G H ((Txt.split a b).map .str) := fun G1 H1 g Q q =>
  h G1 H1 g _ fun v G2 H2 g2 x => ⟨⟨a, x.str_eq⟩, h2 G2 H2 (g.trans g2) _ fun w G3 H3 g3 y => by
    rw [y.str_eq]
    refine ⟨a, b, x.str_eq, rfl, hb, by rw [sizeLine_eq]; omega, fun p hp => ?_⟩
    have gg := g2.trans g3
    exact q p _ G3 _ (gg.own hp) (gg.free hp) (gg.s.none hp) upd_same (dxs_strs _)⟩
theorem walk_zipX {a b : Addr} {xs ys : List V} (hl : xs.length = ys.length) : Walk (Itx K a b) xs.length (fun H => SqT K H a xs ∧ SqL K H b ys) (YPair (fun i => xs[i]?) (fun i => ys[i]?)) :=
  ⟨fun i H hi h => ⟨xs, ys, _, _, h, List.getElem?_eq_getElem hi, List.getElem?_eq_getElem (hl ▸ hi)⟩, fun H h => ⟨xs, ys, h, rfl, hl.symm⟩, fun i H x H' hi h y => by
    obtain ⟨T, x', y', rfl, hT, rfl, f1, f2⟩ := y
    exact ⟨T, x', y', rfl, hT, rfl, f1 _ h.1, f2 _ h.2⟩⟩
/-- [e for k, z in zip(a tuple of the module, a list of texts)] -/
theorem ev_lcZX {ta tb te : TE} {j1 j2 : Nat} {vs : List Nat} {ks ws : List Str} {a : Addr} (v : Nat → PyData) (h1 : EvV ta σ G H (.ref a)) (hT : ∀ H, SqT K H a (ks.map V.str)) (h2 : EvD tb σ G H (.list (ws.map .str))) (hz : ws.length ≤ 40000) (hk : ks.length = ws.length)
    (hw : ∀ x y, wipe (((wipe σ vs).set j1 (some x)).set j2 (some y)) vs = wipe σ vs)
    (he : ∀ i k y G1 H1, Gr [] G H G1 H1 → ks[i]? = some k → ws[i]? = some y → EvD te (((wipe σ vs).set j1 (some (.str k))).set j2 (some (.str y))) G1 H1 (v i)) :
    EvM (tLc (iZipX K (tCons ta (tCons tb tNil))) (gTup K 2 (gCons (gName j1) (gCons (gName j2) gNil))) tYes te vs) σ G H (given ks.length (fun _ => true) v) := fun G0 H0 g0 Q q => h1 G0 H0 g0 _ fun G1 H1 g1 => h2 G1 H1 (g0.trans g1) _ fun u G2 H2 g2 x => by
  obtain ⟨p, xs, rfl, hp, dxs⟩ := x.lst_eq
  have exs := dxs.strs_eq
  subst exs
  have gg := g1.trans g2
  refine ⟨a, p, _, _, rfl, hT H2, Or.inl (Or.inl (g2.s _ _ hp)), fun D hD => ?_⟩
  have hl2 : (ks.map V.str).length = (ws.map V.str).length := by rw [List.length_map, List.length_map, hk]
  refine lc_it (walk_zipX (K := K) (a := a) (b := p) hl2) (Cw G2 H2 (fun _ => true) v D) ⟨G2, [], (Gr.refl g2.s).own hD, g2.s.none hD, upd_same, by exact .nil⟩ (fun k H' _ w => ?_) (fun k x H' H'' hk' w y => ?_) (fun H' w => ?_)
  · obtain ⟨G', ys, g, _, _⟩ := w
    exact ⟨hT H', Or.inl (Or.inl (g.s _ _ (g.g _ _ hp)))⟩
  · obtain ⟨T, u1, u2, rfl, hT', rfl, h1, h2⟩ := y
    have h1 : (ks.map V.str)[k]? = some u1 := h1
    have h2 : (ws.map V.str)[k]? = some u2 := h2
    rw [List.getElem?_map] at h1 h2
    obtain ⟨kk, hk2, rfl⟩ := Option.map_eq_some_iff.mp h1
    obtain ⟨z, hz2, rfl⟩ := Option.map_eq_some_iff.mp h2
    have hkm : k < ws.length := (List.getElem?_eq_some_iff.mp hz2).1
    have w2 : Cw G2 H2 (fun _ => true) v D k (upd H' T (.tup [.str kk, .str z])) := by
      obtain ⟨G', xs, a1, a2, a3, a4⟩ := w
      exact ⟨G', xs, a1.own hT', a2, (upd_ne (fun z => by rw [← z, a3] at hT'; cases hT')).trans a3, a4⟩
    refine ⟨T, [.str kk, .str z], rfl, Or.inl (Or.inl upd_same), rfl, .str kk, [.str z], rfl, .str z, [], rfl, rfl, ?_⟩
    exact ⟨hw _ _, cw_turn hD w2 (by omega) et_yes fun _ => he k kk z G2 H2 (g0.trans gg) hk2 hz2⟩
  · rw [List.length_map] at w
    obtain ⟨G', xs, k1, k2, k3, k4⟩ := w
    exact q D xs G' H' (gg.trans k1) (gg.free hD) k2 k3 k4
theorem ev_part {B : Bd} {E : XK} {t : TA} {x : Str × Str} {d : PyData} (ht : EvA t σ G H [.str x.1, .str x.2]) (hz : x.2.length ≤ 100) (e : partOf x = some d) : EvD (tCall (spRdp B) [] E t) σ G H d := fun G1 H1 a Q q => ht G1 H1 a _ fun vs G2 H2 g xs =>
  ⟨G2, x, g.s, by rw [List.append_nil]; exact xs, hz, fun h => (by rw [e] at h; cases h), fun d' h v G3 H3 g3 y => q v G3 H3 (g.trans g3) (by rw [e] at h; cases h; exact y)⟩
end
def pv1 (x : Str × Str) : PyData := (partOf x).getD .none
theorem pv1_of {x : Str × Str} (h : partOf x ≠ none) : partOf x = some (pv1 x) := by
  unfold pv1
  cases e : partOf x with
  | none => exact absurd e h
  | some d => rfl
def RdOk (w0 : Str) (ws : List Str) : Prop := (w0 = "fair" → ∀ y ∈ ws, partOf ("name", y) ≠ none) ∧ (w0 ≠ "fair" → ∀ ks, kindsOf w0 = some ks → ks.length = ws.length → ∀ (i : Nat) (k y : Str), ks[i]? = some k → ws[i]? = some y → partOf (k, y) ≠ none)
def readD (w0 : Str) (ws : List Str) : Option PyData :=
  if w0 = "fair" then some (.tuple [.str "fair", .tuple (ws.map fun y => pv1 ("name", y))])
  else match kindsOf w0 with
    | none => none
    | some ks => if ks.length = ws.length then some (.tuple (.str w0 :: (ks.zip ws).map pv1)) else none
abbrev spRdd (B : Bd) : Sp := fun vs H Q E => ∃ (G : Hp) (z w0 : Str) (ws : List Str), Sb G H ∧ Dxs G vs [.str z] ∧ z.length ≤ 50000 ∧ Txt.split z " " = w0 :: ws ∧ ws.length ≤ 1000 ∧ (∀ y ∈ ws, y.length ≤ 100) ∧ RdOk w0 ws ∧
  (readD w0 ws = none → ∀ G' H', Gr [] G H G' H' → LetsL E (.ref B.c_BadLine) 1 H') ∧ (∀ d, readD w0 ws = some d → ∀ v G' H', Gr [] G H G' H' → Dx G' v d → Q v H')
theorem ok_read_deed {B : Bd} {pA : Addr} (T : Txt K mg A) (U : Ux K mg B) (Z : PtX K w mg pA) : FnOk P w K mg base (L2.CX P w) 4 A.a_read_deed A.d_read_deed ["line"] (spRdd B) := by
  have G_read_part := ok_read_part (P := P) (w := w) (base := base) T U
  refine T.F_read_deed.okX sc_read_deed (fun vs H Q E h => ?_) (fun cdv A' outer st H vs Q E hr h => ?_)
  · obtain ⟨_, _, _, _, _, h, _⟩ := h
    exact h.len
  obtain ⟨G, z, w0, ws, s0, hx, hz, hsp, hl, hy, hok, kE, kQ⟩ := h
  obtain ⟨v0, rfl, h_line⟩ := dxs1 hx
  obtain ⟨es, n, ZD⟩ := Z.D
  refine ⟨_, (pss_cons (ps_asg (pe_split (pv 0) pe_str) (pg_starL (K := K) (by rfl) (pgs_cons (pg_name (i := 1) sc_read_deed.nd rfl (Or.inl rfl)) (pgs_cons (pg_name (i := 2) sc_read_deed.nd rfl (Or.inl rfl)) pgs_nil))))
      (pss_cons (ps_if (pt_cmpR op_eq (pv 1) pe_str (nomark _))
      (pss_one (ps_ret (pe_tup (pa_cons pe_str (pa_cons (pe_callTy (call_tupleK (K := K)) (by rfl) T.b.tuple (by decide +kernel) (pa_cons (pe_lc (own := [("name", 6)]) (g := gName 6) rfl sc_read_deed.nd (pi_list (pv 2)) (blkOk_by (own := [("name", 6)]) (N := N_read_deed) (sc := defScope s_read_deed) (by decide +kernel)) (fun _ _ _ _ _ => (pg_name (i := 6) sc_read_deed.nd rfl (Or.inl rfl))) (fun _ _ _ _ _ => pts_nil) (fun _ _ _ _ _ => by exact (pe_call G_read_part (hr.mono (by omega)) (by rfl) T.m_read_part T.F_read_part.kp T.b_read_part .nil passL (pa_cons pe_str (pa_cons (pv 6) pa_nil))))) pa_nil)) pa_nil)))))
      pss_nil)
      (pss_cons (ps_if (PW.pt (pw_or (pt_cmpR (op_notIn_kdK (K := K) (w := w) ZD) (pv 1) (pe_glob (v := .ref pA) (by rfl) Z.g rfl) rfl) (pw_or1 (pt_cmpR op_ne (pe_callB (call_lenK (K := K)) (by rfl) T.b.len (by decide +kernel) (pa_cons (pv 2) pa_nil)) (pe_callB (call_lenK (K := K)) (by rfl) T.b.len (by decide +kernel) (pa_cons (pe_ix (ix_kdictK (K := K)) (pe_glob (v := .ref pA) (by rfl) Z.g rfl) (pv 1) (fun _ _ => rfl)) pa_nil)) (nomark _)))))
      (pss_one (ps_raise rfl (takes_of rfl rfl rfl rfl) (pmk_wL U.x_BadLine.x U.xat (okx_BadLine U) U.b_XBadLine (hr.mono (by omega)) (by exact rfl) (pa_cons pe_int pa_nil))))
      pss_nil)
      (pss_cons (ps_setLc (i := 3) (own := [("kind", 4), ("part", 5)]) (g := gTup K 2 (gCons (gName 4) (gCons (gName 5) (gNil)))) rfl sc_read_deed.nd rfl rfl (sw_true rfl rfl rfl (by decide +kernel)) (pi_zipX (K := K) (by rfl) T.xzip (pa_cons (pe_ix (ix_kdictK (K := K)) (pe_glob (v := .ref pA) (by rfl) Z.g rfl) (pv 1) (fun _ _ => rfl)) (pa_cons (pv 2) pa_nil))) (blkOk_by (own := [("kind", 4), ("part", 5)]) (N := N_read_deed) (sc := defScope s_read_deed) (by decide +kernel)) (fun _ _ _ _ _ => (pg_tup (by rfl) (pgs_cons (pg_name (i := 4) sc_read_deed.nd rfl (Or.inl rfl)) (pgs_cons (pg_name (i := 5) sc_read_deed.nd rfl (Or.inl rfl)) pgs_nil)))) (fun _ _ _ _ _ => pts_nil) (fun _ _ _ _ _ => by exact (pe_call G_read_part (hr.mono (by omega)) (by rfl) T.m_read_part T.F_read_part.kp T.b_read_part .nil passL (pa_cons (pv 4) (pa_cons (pv 5) pa_nil)))))
      (pss_one (ps_ret (pe_tup (pa_cons (pv 1) (StX.pa_star (pv 3) pa_nil))))))))), ?_⟩
  refine (evm_is (ev_splitB (ev_var rfl h_line) ev_str (by decide +kernel) (by omega)) (by rw [hsp])) G H (.refl s0) _ fun p xs G1 H1 g1 p0 p1 p2 dx1 => ?_
  obtain rfl : xs = (w0 :: ws).map V.str := Dxs.strs_eq dx1
  refine ⟨p, .str w0, ws.map V.str, rfl, Or.inl (Or.inl p2), fun l hl1 => ⟨.str w0, [.ref l], rfl, .ref l, [], rfl, rfl, ?_⟩⟩
  have g2 : Gr [] G H (upd G1 l (.lst (ws.map V.str))) (upd H1 l (.lst (ws.map V.str))) := g1.data hl1
  have h_words : Dx (upd G1 l (.lst (ws.map V.str))) (.ref l) (.list (ws.map .str)) := .lst upd_same (dxs_strs ws)
  generalize upd G1 l (.lst (ws.map V.str)) = G2 at g2 h_words
  generalize upd H1 l (.lst (ws.map V.str)) = H2 at g2
  show tSeq _ _ _ [some v0, some (.str w0), some (.ref l), none, none, none, none] _
  have hlen : ∀ {i : Nat} {y : Str}, ws[i]? = some y → y.length ≤ 100 := fun h => hy _ (List.mem_of_getElem? h)
  refine q_when (b := decide (w0 = "fair")) (et_test (ev_op (ev_var rfl (.str w0)) ev_str rd_eqS)) g2.s (fun hb G3 H3 g3 => ?_) (fun hb G3 H3 g3 => ?_)
  · have hf := of_decide_eq_true hb
    refine s_ret (ev_tup (ea_cons ev_str (ea_cons (ev_tupleL (EvM.dat (evm_is (ev_lcLn (fun _ => true) (fun i => pv1 ("name", ws.getD i "")) (ev_var rfl (h_words.mono g3.g)) (by rw [List.length_map]; omega) (fun _ => rfl) (fun _ _ _ _ _ _ _ _ => et_yes) (fun i d x G4 H4 g4 hd hx _ => ?_)) ?_))) ea_nil)) (by show 2 ≤ 100000; omega)) g3.s fun v G4 H4 g4 hv => kQ _ (if_pos hf) v G4 H4 ((g2.trans g3).trans g4) hv
    · rw [List.getElem?_map] at hd
      obtain ⟨y, hy2, rfl⟩ := Option.map_eq_some_iff.mp hd
      have e : ws.getD i "" = y := by rw [List.getD_eq_getElem?_getD, hy2]; rfl
      rw [e]
      exact ev_part (x := ("name", y)) (ea_cons ev_str (ea_cons (ev_var rfl hx) ea_nil)) (hlen hy2) (pv1_of (hok.1 hf y (List.mem_of_getElem? hy2)))
    · rw [List.length_map]
      have := given_list ws "" (fun _ => true) (fun y => pv1 ("name", y))
      rw [this]
      congr 1
      exact List.filter_eq_self.mpr fun _ _ => rfl
  have hf := of_decide_eq_false hb
  have h_words := h_words.mono g3.g
  have g3 := g2.trans g3
  cases hk : kindsOf w0 with
  | none =>
    have e0 : readD w0 ws = none := by unfold readD; rw [if_neg hf, hk]
    refine q_when (b := true) (evt_is (et_or (b := true) (c := false) (et_test (ev_notinK (r := none) (ev_var rfl (.str w0)) (Z.miss w0 hk))) (fun h => by cases h)) rfl) g3.s (fun hb G4 H4 g4 => ?_) (fun hb => by cases hb)
    exact ⟨1, rfl, kE e0 G4 H4 (g3.trans g4)⟩
  | some ks =>
    obtain ⟨a, ha, hT⟩ := Z.hit w0 ks hk
    refine q_when (b := !decide ((ws.length : Int) = (ks.length : Int))) (evt_is (et_or (b := false) (et_test (ev_notinK (r := some (.ref a)) (ev_var rfl (.str w0)) ha)) (fun _ => et_test (ev_op (ev_is (ev_cb (ea_cons (ev_var rfl h_words) ea_nil) cd_lenL) (by rw [List.length_map])) (ev_klen (ev_kix Z.D (ev_var rfl (.str w0)) ha) hT) rd_neI))) (by rw [Bool.false_or])) g3.s (fun hb G4 H4 g4 => ?_) (fun hb G4 H4 g4 => ?_)
    · have hb : ¬ (ws.length : Int) = (ks.length : Int) := by simpa using hb
      exact ⟨1, rfl, kE (by unfold readD; rw [if_neg hf, hk]; exact if_neg fun h => hb (by rw [h])) G4 H4 (g3.trans g4)⟩
    · have hb : (ws.length : Int) = (ks.length : Int) := by simpa using hb
      have hkl : ks.length = ws.length := by omega
      have e0 : readD w0 ws = some (.tuple (.str w0 :: (ks.zip ws).map pv1)) := by unfold readD; rw [if_neg hf, hk]; exact if_pos hkl
      refine q_asg (d := .list ((ks.zip ws).map pv1)) (EvM.dat (evm_is (ev_lcZX (ks := ks) (ws := ws) (fun i => pv1 (ks.getD i "", ws.getD i "")) (ev_kix Z.D (ev_var rfl (.str w0)) ha) hT (ev_var rfl (h_words.mono g4.g)) (by omega) hkl (fun _ _ => rfl) (fun i k y G5 H5 g5 h1 h2 => ?_)) ?_)) g4.s fun v3 G5 H5 g5 h_parts => ?_
      · have e1 : ks.getD i "" = k := by rw [List.getD_eq_getElem?_getD, h1]; rfl
        have e2 : ws.getD i "" = y := by rw [List.getD_eq_getElem?_getD, h2]; rfl
        rw [e1, e2]
        exact ev_part (x := (k, y)) (ea_cons (ev_var rfl (.str k)) (ea_cons (ev_var rfl (.str y)) ea_nil)) (hlen h2) (pv1_of (hok.2 hf ks hk hkl i k y h1 h2))
      · rw [given_map]
        refine List.ext_getElem (by simp [hkl]) fun i h1 h2 => ?_
        simp only [List.length_map, List.length_range] at h1
        simp [List.getD, List.getElem?_eq_getElem h1, List.getElem?_eq_getElem (hkl ▸ h1)]
      · refine s_ret (ev_is (ev_tup (ea_cons (ev_var rfl (.str w0)) (ea_star (ev_var rfl h_parts) ea_nil)) (by simp; omega)) (by rw [List.append_nil])) g5.s fun v G6 H6 g6 hv => kQ _ e0 v G6 H6 (((g3.trans g4).trans g5).trans g6) hv

end
end

-- lpx.txt
section

local macro_rules | `(tactic| walk_at "arith") => `(tactic| first | omega | decide | (unfold CMul; omega) | (unfold CDiv; omega) | (unfold CPow; decide) | (refine ⟨?_, ?_⟩ <;> omega) | (simp; done) | (simp; omega))
local macro_rules | `(tactic| walk_at "wide") => `(tactic| exact ⟨by decide, by decide +kernel⟩)
section
variable {P : Program} {w : World} {K : PySem.W.Frag} {mg : Str → Option Value} {base : Heap} {A : Ad}
/-! ### the module's dict of parts, as it is written -/
def ents (l : List (Str × Int × Tok × Addr)) : List DictEntry := l.map fun q => ⟨q.2.1, .str q.1 q.2.2.1, .ref q.2.2.2⟩
inductive TupsAt (K : PySem.W.Frag) : List (Str × Int × Tok × Addr) → List (Str × List Str) → Prop
  | nil : TupsAt K [] []
  | cons {z : Str} {h : Int} {t : Tok} {a : Addr} {ks : List Str} {l : List (Str × Int × Tok × Addr)} {P : List (Str × List Str)} (hT : ∀ H, SqT K H a (ks.map V.str)) (r : TupsAt K l P) : TupsAt K ((z, h, t, a) :: l) ((z, ks) :: P)
theorem TupsAt.find {K : PySem.W.Frag} {l : List (Str × Int × Tok × Addr)} {P : List (Str × List Str)} (h : TupsAt K l P) (z : Str) :
    (P.lookup z = none → l.find? (fun q => q.1 == z) = none) ∧ ∀ ks, P.lookup z = some ks → ∃ q, l.find? (fun q => q.1 == z) = some q ∧ ∀ H, SqT K H q.2.2.2 (ks.map V.str) := by
  induction h with
  | nil => exact ⟨fun _ => rfl, fun ks h => by cases h⟩
  | @cons z' h' t' a' ks' l P hT r ih =>
    rw [List.lookup_cons, List.find?_cons]
    by_cases e : z = z'
    · subst e
      simp only [beq_self_eq_true]
      exact ⟨fun h => (by cases h), fun ks h => (by cases h; exact ⟨_, rfl, hT⟩)⟩
    · have e1 : (z == z') = false := beq_false_of_ne e
      have e2 : (z' == z) = false := beq_false_of_ne fun q => e q.symm
      simp only [e1, e2]
      exact ih
theorem nsIn_ents {K : PySem.W.Frag} {pA : Addr} {l : List (Str × Int × Tok × Addr)} {n : Nat} (h : K.lookup pA = some ⟨.type "dict", none, .dict (ents l).toArray n, #[]⟩) (z : Str) : PySem.W.nsIn K pA z = some ((l.find? fun q => q.1 == z).map fun q => .ref q.2.2.2) := by
  have e1 : (ents l).find? (fun d => d.key.isStr z) = (l.find? fun q => q.1 == z).map fun q => (⟨q.2.1, .str q.1 q.2.2.1, .ref q.2.2.2⟩ : DictEntry) := by
    unfold ents
    rw [List.find?_map]
    rfl
  have e2 : (ents l).any (fun d => d.refKey) = false := by
    unfold ents
    rw [List.any_map, List.any_eq_false]
    intro q _
    exact Bool.false_ne_true
  unfold PySem.W.nsIn
  rw [h]
  show (match (ents l).toArray.toList.find? (fun d => d.key.isStr z) with
    | some e => some (some e.val)
    | none => if (ents l).toArray.toList.any (fun d => d.refKey) then none else some none) = _
  rw [show (ents l).toArray.toList = ents l from rfl, e1, e2]
  cases l.find? (fun q => q.1 == z) <;> rfl
theorem ptx_of {K : PySem.W.Frag} {w : World} {mg : Str → Option Value} {pA : Addr} {l : List (Str × Int × Tok × Addr)} {n : Nat} (g : mg "PARTS" = some (.ref pA)) (hl : K.lookup pA = some ⟨.type "dict", none, .dict (ents l).toArray n, #[]⟩)
    (hk : PySem.W.KeysLit w.params (ents l)) (low : (pA == sysModules) = false) (ht : TupsAt K l PTS) : PtX K w mg pA :=
  ⟨g, ⟨_, n, hl, hk, low⟩, fun z ks h => by
    obtain ⟨q, e, hT⟩ := (ht.find z).2 ks h
    exact ⟨q.2.2.2, by rw [nsIn_ents hl, e]; rfl, hT⟩, fun z h => by rw [nsIn_ents hl, (ht.find z).1 h]; rfl⟩

end
end

-- ljn.txt
section

local macro_rules | `(tactic| walk_at "arith") => `(tactic| first | omega | decide | (unfold CMul; omega) | (unfold CDiv; omega) | (unfold CPow; decide) | (refine ⟨?_, ?_⟩ <;> omega) | (simp; done) | (simp; omega))
local macro_rules | `(tactic| walk_at "wide") => `(tactic| exact ⟨by decide, by decide +kernel⟩)
section
variable {P : Program} {w : World} {K : PySem.W.Frag} {mg : Str → Option Value} {base : Heap} {A : Ad}
/-! ### join (where lb15 is not) -/
theorem pe_joinK {K : PySem.W.Frag} {X : Cx} {o e : Expr} {to te : TE} {apos pos : Pos} (ho : PE X o to) (he : PE X e te) (h : X.K = K := by rfl) (hs : starEach [e] X.env = [(false, eval e X.env)] := by rfl) (hbase : attributeBase o "join" X.env (eval o X.env) = eval o X.env := by rfl) (hline : (apos.endLine == pos.line) = true := by rfl) :
    PE X (.Call (.Attribute o "join" apos) [e] [] pos) (tM1 (fun x xs H Q => ∃ a p, ∃ ys : List Str, x = .str a ∧ xs = [.ref p] ∧ (SqL K H p (ys.map V.str) ∨ SqT K H p (ys.map V.str)) ∧
      (ys.map (·.length)).sum + ys.length * a.length ≤ 16777216 ∧ Q (.str (Txt.join a ys)) H) to te) := by subst h; exact pe_join ho he hs hbase hline
section
variable {K : PySem.W.Frag} {σ : L2.St} {G H : Hp} {ta tb to te : TE}
theorem ev_join {a : Str} {ys : List Str} (h : EvD to σ G H (.str a)) (h2 : EvD te σ G H (.list (ys.map .str))) (hl : (ys.map (·.length)).sum + ys.length * a.length ≤ 16777216) : EvD (tM1 (fun x xs H Q => ∃ a p, ∃ ys : List Str, x = .str a ∧ xs = [.ref p] ∧ (SqL K H p (ys.map V.str) ∨ SqT K H p (ys.map V.str)) ∧
      (ys.map (·.length)).sum + ys.length * a.length ≤ 16777216 ∧ Q (.str (Txt.join a ys)) H) to te) σ G H (.str (Txt.join a ys)) := fun G1 H1 g Q q =>
  h G1 H1 g _ fun v G2 H2 g2 x => ⟨⟨a, x.str_eq⟩, h2 G2 H2 (g.trans g2) _ fun w G3 H3 g3 y => by
    obtain ⟨p, xs, rfl, hp, dxs⟩ := y.lst_eq
    have := dxs.strs_eq
    subst this
    exact ⟨a, p, ys, x.str_eq, rfl, Or.inl (Or.inl (Or.inl (g3.s.trans (fun _ _ e => e) _ _ hp))), hl, q _ G3 H3 (g2.trans g3) (.str _)⟩⟩
end

end
end

-- lk38a.txt
section

local macro_rules | `(tactic| walk_at "arith") => `(tactic| first | omega | decide | (unfold CMul; omega) | (unfold CDiv; omega) | (unfold CPow; decide) | (refine ⟨?_, ?_⟩ <;> omega) | (simp; done) | (simp; omega))
local macro_rules | `(tactic| walk_at "wide") => `(tactic| exact ⟨by decide, by decide +kernel⟩)
section
variable {P : Program} {w : World} {K : PySem.W.Frag} {mg : Str → Option Value} {base : Heap} {A : Ad}
/-! ### deeds as lines -/
local macro_rules | `(tactic| walk_at "pre") => `(tactic| first | trivial | omega)
def Fl : PyData → Prop
  | .bool _ => True
  | .int i => i.natAbs.log2 < 1920
  | .str z => z.length ≤ 100
  | _ => False
/-- a deed of this law: a word and its parts, or a fair -/
inductive Dd
  | one (w : Str) (ps : List PyData) (h : w ≠ "fair" ∧ w.length ≤ 8 ∧ ps.length ≤ 6)
  | fair (zs : List Str)
def Dd.word : Dd → Str
  | .one w _ _ => w
  | .fair _ => "fair"
def Dd.args : Dd → List PyData
  | .one _ ps _ => ps
  | .fair zs => [.tuple (zs.map .str)]
def Dd.data (D : Dd) : PyData := .tuple (.str D.word :: D.args)
def Dd.told : Dd → Prop
  | .one _ ps _ => ∀ d ∈ ps, Fl d
  | .fair zs => zs.length ≤ 1000 ∧ ∀ z ∈ zs, z.length ≤ 100
theorem word_len (D : Dd) : D.word.length ≤ 8 := by
  cases D with
  | one w ps h => exact h.2.1
  | fair zs => show ("fair" : Str).length ≤ 8; decide +kernel
theorem args_len (D : Dd) : D.args.length ≤ 6 := by
  cases D with
  | one w ps h => exact h.2.2
  | fair zs => show 1 ≤ 6; decide
theorem word_fair {D : Dd} (h : D.word = "fair") : ∃ zs, D = .fair zs := by
  cases D with
  | one w ps q => exact absurd h q.1
  | fair zs => exact ⟨zs, rfl⟩
theorem ac {z : Str} {l : List PyData} (h : z.length ≤ 100) (hl : ∀ d ∈ l, Fl d) : ∀ d ∈ PyData.str z :: l, Fl d := fun d hd => by
  rcases List.mem_cons.mp hd with rfl | q
  · exact h
  · exact hl d q
theorem q_whenK {σ : L2.St} {G H : Hp} {tz tu : TS} {D : Ends} {tt : TT} {b : Bool} (J : L2.St → Hp → Prop) (h : EvT tt σ G H b) (s : Sb G H) (h1 : ∀ N : L2.St → Hp → Prop, (∀ σ' H', J σ' H' → N σ' H') → b = true → ∀ G1 H1, Gr [] G H G1 H1 → tu { D with nx := N } σ H1)
    (h2 : b = false → ∀ G1 H1, Gr [] G H G1 H1 → J σ H1) (hJ : ∀ σ' H', J σ' H' → tz D σ' H') : tSeq (tIfS tt tu tNext) tz D σ H :=
  q_when h s (h1 (tz D) hJ) fun e G1 H1 g => hJ _ _ (h2 e G1 H1 g)
def pw : PyData → Str
  | .bool b => if b then "bound" else "free"
  | .int i => Str.ofString (toString i)
  | .str z => z
  | _ => ""
def Dd.words : Dd → List Str
  | .fair zs => "fair" :: zs
  | D => D.word :: D.args.map pw
def Dd.line (D : Dd) : Str := Txt.join " " D.words
theorem pw_len {d : PyData} (h : Fl d) : (pw d).length ≤ 1921 := by
  cases d with
  | bool b => cases b <;> decide +kernel
  | int i => exact PyProof.Rows.int_text_len_1921 h
  | str z => exact Nat.le_trans h (by decide)
  | _ => exact h.elim
theorem words_ok2 {D : Dd} (h : D.told) : D.words.length ≤ 1001 ∧ ∀ z ∈ D.words, z.length ≤ 1921 := by
  have key : (∀ d ∈ D.args, Fl d) → (D.word :: D.args.map pw).length ≤ 1001 ∧ ∀ z ∈ (D.word :: D.args.map pw), z.length ≤ 1921 := fun h => by
    have hl := args_len D
    refine ⟨by rw [List.length_cons, List.length_map]; omega, fun z hz => ?_⟩
    rcases List.mem_cons.mp hz with rfl | q
    · exact Nat.le_trans (word_len D) (by decide)
    · obtain ⟨d, hd, rfl⟩ := List.mem_map.mp q
      exact pw_len (h d hd)
  cases D with
  | fair zs =>
    refine ⟨by show zs.length + 1 ≤ 1001; have := h.1; omega, fun z hz => ?_⟩
    rcases List.mem_cons.mp hz with rfl | q
    · decide +kernel
    · exact Nat.le_trans (h.2 z q) (by decide)
  | _ => exact key h
theorem sum_le {l : List Str} {b : Nat} (h : ∀ z ∈ l, z.length ≤ b) : (l.map (·.length)).sum ≤ l.length * b := by
  induction l with
  | nil => exact Nat.zero_le _
  | cons z l ih =>
    have h1 := h z (by simp)
    have h2 := ih fun y hy => h y (by simp [hy])
    rw [List.map_cons, List.sum_cons, List.length_cons, Nat.succ_mul]
    omega
theorem join_fits {l : List Str} {n b : Nat} {a : Str} (ha : a.length ≤ 1) (hn : l.length ≤ n) (h : ∀ z ∈ l, z.length ≤ b) (hb : n * (b + 1) ≤ 16777216) : (l.map (·.length)).sum + l.length * a.length ≤ 16777216 := by
  have h1 := sum_le h
  have h2 : l.length * a.length ≤ l.length * 1 := Nat.mul_le_mul_left _ ha
  have h3 : l.length * (b + 1) ≤ n * (b + 1) := Nat.mul_le_mul_right _ hn
  rw [Nat.mul_succ] at h3
  omega
def isB : PyData → Bool → Bool
  | .bool c, b => decide (c = b)
  | _, _ => false
section
variable {K : PySem.W.Frag} {σ : L2.St} {G H : Hp} {ta tb to te : TE} {d : PyData}
theorem rd_isBf {b : Bool} (h : Fl d) : RD rIsBf d (.bool b) (.bool (isB d b)) := fun G1 H1 x y s hx hy Q q => by
  rw [hy.bl_eq]
  cases d with
  | bool c => rw [hx.bl_eq]; exact ⟨b, rfl, Or.inl ⟨c, rfl, q _ G1 H1 (.refl s) (.bl _)⟩⟩
  | int i => rw [hx.int_eq]; exact ⟨b, rfl, Or.inr (Or.inl ⟨i, rfl, q _ G1 H1 (.refl s) (.bl _)⟩)⟩
  | str z => rw [hx.str_eq]; exact ⟨b, rfl, Or.inr (Or.inr ⟨z, rfl, q _ G1 H1 (.refl s) (.bl _)⟩)⟩
  | _ => exact h.elim
theorem cd_strAny (h : Fl d) (hb : ∀ b, d ≠ .bool b) : CD (fun xs H Q => (∃ i : Int, xs = [.int i] ∧ i.natAbs.log2 < 1920 ∧ Q (.str (toString i)) H) ∨ ∃ a, xs = [.str a] ∧ Q (.str a) H) [d] (.str (pw d)) := fun G1 H1 vs s h' Q q => by
  cases h' with | cons h1 t => cases t with | nil =>
    cases d with
    | bool c => exact absurd rfl (hb c)
    | int i => rw [h1.int_eq]; exact Or.inl ⟨i, rfl, h, q _ G1 H1 (.refl s) (.str _)⟩
    | str z => rw [h1.str_eq]; exact Or.inr ⟨z, rfl, q _ G1 H1 (.refl s) (.str _)⟩
    | _ => exact h.elim
theorem ev_joinT {a : Str} {ys : List Str} (h : EvD to σ G H (.str a)) (h2 : EvD te σ G H (.tuple (ys.map .str))) (hl : (ys.map (·.length)).sum + ys.length * a.length ≤ 16777216) : EvD (tM1 (fun x xs H Q => ∃ a p, ∃ ys : List Str, x = .str a ∧ xs = [.ref p] ∧ (SqL K H p (ys.map V.str) ∨ SqT K H p (ys.map V.str)) ∧
      (ys.map (·.length)).sum + ys.length * a.length ≤ 16777216 ∧ Q (.str (Txt.join a ys)) H) to te) σ G H (.str (Txt.join a ys)) := fun G1 H1 g Q q =>
  h G1 H1 g _ fun v G2 H2 g2 x => ⟨⟨a, x.str_eq⟩, h2 G2 H2 (g.trans g2) _ fun w G3 H3 g3 y => by
    obtain ⟨p, xs, rfl, hp, dxs⟩ := y.tup_eq
    have := dxs.strs_eq
    subst this
    exact ⟨a, p, ys, x.str_eq, rfl, Or.inr (Or.inl (Or.inl (g3.s _ _ hp))), hl, q _ G3 H3 (g2.trans g3) (.str _)⟩⟩
theorem rd_catT {ds es : List PyData} (h0 : ds ≠ []) (hl : ds.length + es.length ≤ 100000) : RD (rCatT K) (.tuple ds) (.tuple es) (.tuple (ds ++ es)) := fun G1 H1 x y s hx hy Q q => by
  obtain ⟨a, xs, rfl, ha, dxs⟩ := hx.tup_eq
  obtain ⟨b, ys, rfl, hb, dys⟩ := hy.tup_eq
  have l1 := dxs.len
  have l2 := dys.len
  refine ⟨a, b, xs, ys, rfl, rfl, Or.inl (Or.inl (s _ _ ha)), Or.inl (Or.inl (s _ _ hb)), fun e => ?_, by rw [sizeLine_eq]; omega, fun e => ?_, fun e p hp => ?_⟩
  · rw [e] at l1; exact h0 (List.length_eq_zero_iff.mp l1.symm)
  · rw [e] at l2
    have : es = [] := List.length_eq_zero_iff.mp l2.symm
    subst this
    rw [List.append_nil] at q
    exact q _ G1 H1 (.refl s) (.tup ha dxs)
  · have g1 : Gr [] G1 H1 G1 (upd H1 p (.tup (xs ++ ys))) := (Gr.refl s).own hp
    exact q _ _ _ (g1.freeze upd_same (s.none hp) hp) (.tup upd_same ((dxs.app dys).mono (Sb.new (s.none hp))))
theorem q_forVoid : True := trivial
end
abbrev spPW : Sp := SpD (α := PyData) (fun d => [d]) Fl (fun d => .str (pw d))
theorem ok_part_word (T : Txt K mg A) : FnOk P w K mg base CX0 1 A.a_part_word A.d_part_word ["part"] spPW := by
  refine T.F_part_word.ok sc_part_word (fun vs H Q E h => ?_) (fun cdv A' outer st H vs Q E hr h => ?_)
  · obtain ⟨G, x, _, hx, _⟩ := h
    exact hx.len
  obtain ⟨G, d, s0, hx, hd, k⟩ := h
  obtain ⟨v0, rfl, h_part⟩ := dxs1 hx
  refine ⟨_, (pss_cons (ps_if (pt_cmpR op_isBf (pv 0) pe_bl (nomark _))
      (pss_one (ps_ret pe_str))
      pss_nil)
      (pss_cons (ps_if (pt_cmpR op_isBf (pv 0) pe_bl (nomark _))
      (pss_one (ps_ret pe_str))
      pss_nil)
      (pss_one (ps_ret (pe_callTy (CallR.or call_str_int SkE.call_str_str) (by rfl) T.b.str_ (by decide +kernel) (pa_cons (pv 0) pa_nil)))))), ?_⟩
  refine q_when (b := isB d true) (et_test (ev_op (ev_var rfl h_part) ev_bl (rd_isBf hd))) s0 (fun hb G1 H1 g1 => ?_) (fun hb G1 H1 g1 => ?_)
  · refine s_ret ev_str g1.s fun v G2 H2 g2 hv => k v G2 H2 (g1.trans g2) ?_
    cases d with
    | bool c => obtain rfl := of_decide_eq_true hb; exact hv
    | _ => cases hb
  refine q_when (b := isB d false) (et_test (ev_op (ev_var rfl (h_part.mono g1.g)) ev_bl (rd_isBf hd))) g1.s (fun hb2 G2 H2 g2 => ?_) (fun hb2 G2 H2 g2 => ?_)
  · refine s_ret ev_str g2.s fun v G3 H3 g3 hv => k v G3 H3 ((g1.trans g2).trans g3) ?_
    cases d with
    | bool c => obtain rfl := of_decide_eq_true hb2; exact hv
    | _ => cases hb2
  exact s_ret (ev_cb (ea_cons (ev_var rfl ((h_part.mono g1.g).mono g2.g)) ea_nil) (cd_strAny hd fun c e => by
    subst e
    cases c
    · cases hb2
    · cases hb)) g2.s fun v G3 H3 g3 hv => k v G3 H3 ((g1.trans g2).trans g3) hv
abbrev spDL : Sp := SpD (α := Dd) (fun D => [D.data]) Dd.told (fun D => .str D.line)
theorem words_nf {D : Dd} (h : D.word ≠ "fair") : D.words = D.word :: D.args.map pw := by cases D <;> first | rfl | exact absurd rfl h
theorem told_nf {D : Dd} (h : D.word ≠ "fair") (ht : D.told) : ∀ d ∈ D.args, Fl d := by cases D <;> first | exact ht | exact absurd rfl h
theorem line_fits {D : Dd} (ht : D.told) : (D.words.map (·.length)).sum + D.words.length * (" " : Str).length ≤ 16777216 :=
  join_fits (n := 1001) (b := 1921) (by decide +kernel) (words_ok2 ht).1 (words_ok2 ht).2 (by decide)
theorem ok_deed_line (T : Txt K mg A) : FnOk P w K mg base CX0 2 A.a_deed_line A.d_deed_line ["deed"] spDL := by
  have G_part_word := ok_part_word (P := P) (w := w) (base := base) T
  refine T.F_deed_line.ok sc_deed_line (fun vs H Q E h => ?_) (fun cdv A' outer st H vs Q E hr h => ?_)
  · obtain ⟨G, x, _, hx, _⟩ := h
    exact hx.len
  obtain ⟨G, D, s0, hx, ht, k⟩ := h
  obtain ⟨v0, rfl, h_deed⟩ := dxs1 hx
  refine ⟨_, (pss_cons (ps_asg (pv 0) (pg_star (K := K) (by rfl) (pgs_cons (pg_name (i := 1) sc_deed_line.nd rfl (Or.inl rfl)) (pgs_cons (pg_name (i := 2) sc_deed_line.nd rfl (Or.inl rfl)) pgs_nil))))
      (pss_cons (ps_if (pt_cmpR op_eq (pv 1) pe_str (nomark _))
      (pss_one (ps_set (i := 2) sc_deed_line.nd rfl (Or.inl rfl) (pe_callTy (call_listK (K := K)) (by rfl) T.b.list (by decide +kernel) (pa_cons (pe_ix (ix_tupK (K := K)) (pv 0) pe_int (fun _ _ => rfl)) pa_nil))))
      pss_nil)
      (pss_one (ps_ret (pe_joinK pe_str (pe_op op_cat (pe_lst (pa_cons (pv 1) pa_nil)) (pe_lc (own := [("part", 3)]) (g := gName 3) rfl sc_deed_line.nd (pi_list (pv 2)) (blkOk_by (own := [("part", 3)]) (N := N_deed_line) (sc := defScope s_deed_line) (by decide +kernel)) (fun _ _ _ _ _ => (pg_name (i := 3) sc_deed_line.nd rfl (Or.inl rfl))) (fun _ _ _ _ _ => pts_nil) (fun _ _ _ _ _ => by exact (pe_call G_part_word (hr.mono (by omega)) (by rfl) T.m_part_word T.F_part_word.kp T.b_part_word .nil pass0 (pa_cons (pv 3) pa_nil)))))))))), ?_⟩
  obtain ⟨q, xs, rfl, hq, hxs⟩ := h_deed.tup_eq
  cases hxs with
  | cons hw hxs =>
    rename_i x0 ys
    refine seqI ⟨.ref q, rfl, q, x0, ys, rfl, Or.inl (Or.inl (s0 _ _ hq)), fun l hl => ⟨x0, [.ref l], rfl, .ref l, [], rfl, rfl, ?_⟩⟩
    have g1 : Gr [] G H (upd G l (.lst ys)) (upd H l (.lst ys)) := ((Gr.refl s0).own (o := .lst ys) hl).freeze (o := .lst ys) upd_same (s0.none hl) hl
    have x1 : Dx (upd G l (.lst ys)) (.ref l) (.list D.args) := .lst upd_same (hxs.mono (Sb.new (s0.none hl)))
    have h_deed := h_deed.mono g1.g
    have hw := hw.mono g1.g
    show tSeq _ _ _ [some (.ref q), some x0, some (.ref l), none] _
    generalize upd G l (.lst ys) = G1 at g1 x1 h_deed hw
    refine q_whenK (fun σ' H' => ∃ (vp : V) (ps : List PyData) (G' : Hp), σ' = [some (.ref q), some x0, some vp, none] ∧ Gr [] G H G' H' ∧ Dx G' vp (.list ps) ∧ (∀ d ∈ ps, Fl d) ∧ ps.length ≤ 1000 ∧ D.words = D.word :: ps.map pw ∧ Dx G' x0 (.str D.word))
      (b := decide (D.word = "fair")) (et_test (ev_op (ev_var rfl hw) ev_str rd_eqS)) g1.s (fun N hN hb G2 H2 g2 => ?_) (fun hb G2 H2 g2 => ?_) (fun σ' H' I => ?_)
    · obtain ⟨zs, rfl⟩ := word_fair (of_decide_eq_true hb)
      refine s_asgM (ev_cbM (ea_cons (ev_op (ev_var rfl (h_deed.mono g2.g)) ev_int (rd_ixT (d := .tuple (zs.map .str)) (atI_nat (j := 1) rfl))) ea_nil) cd_listT) g2.s fun p xs G3 H3 g3 p0 pn pl hp => ?_
      have gF := (g1.trans g2).trans (g3.freeze pl pn p0)
      refine hN _ _ ⟨.ref p, zs.map .str, _, rfl, gF, .lst upd_same (hp.mono (Sb.new pn)), fun d hd => ?_, by rw [List.length_map]; exact ht.1, ?_, ((hw.mono g2.g).mono g3.g).mono (Sb.new pn)⟩
      · obtain ⟨z, hz, rfl⟩ := List.mem_map.mp hd
        exact ht.2 z hz
      · show ("fair" : Str) :: zs = ("fair" : Str) :: (zs.map PyData.str).map pw
        rw [List.map_map]
        have : (pw ∘ PyData.str) = id := rfl
        rw [this, List.map_id]
    · have hne := of_decide_eq_false hb
      exact ⟨.ref l, D.args, G2, rfl, g1.trans g2, x1.mono g2.g, told_nf hne ht, Nat.le_trans (args_len D) (by decide), words_nf hne, hw.mono g2.g⟩
    · obtain ⟨vp, ps, G2, rfl, g2, hp, hps, hpl, hwd, hw⟩ := I
      have hlen := (words_ok2 ht).1
      refine s_ret (ev_join ev_str (EvM.dat (ds := D.words.map .str) (evm_is (ev_opM (EvM.dat (ev_lst (ea_cons (ev_var rfl hw) ea_nil) (by show 1 ≤ 100000; decide))) (EvM.dat (ds := (ps.map pw).map .str) (evm_is (ev_lcLn (fun _ => true) (fun i => .str (pw (ps.getD i .none))) (ev_var rfl hp) (by omega) (fun _ => rfl) (fun _ _ _ _ _ _ _ _ => et_yes) (fun i d x G3 H3 g3 hd hx _ => by
        have e : ps.getD i .none = d := by simp [List.getD, hd]
        rw [e]
        exact ev_call (f := fun d => .str (pw d)) d (ea_cons (ev_var rfl hx) ea_nil) (hps d (List.mem_of_getElem? hd)))) (by
          rw [given_map]
          refine List.ext_getElem (by simp) fun i h1 h2 => ?_
          simp only [List.length_map, List.length_range] at h1
          simp [List.getD, List.getElem?_eq_getElem h1]))) (rd_cat (by rw [List.length_map, List.length_map]; show 1 + _ ≤ 100000; omega))) (by rw [hwd]; rfl))) (line_fits ht)) g2.s fun v G3 H3 g3 hv => k v G3 H3 (g2.trans g3) hv
theorem kit_bool {d : PyData} (h : Fl d) : kitB (tyN d) "bool" = some (isB d true || isB d false) := by
  cases d with
  | bool c => cases c <;> rfl
  | int i => rfl
  | str z => rfl
  | _ => exact h.elim
theorem ok_Lline (T : Txt K mg A) : FnOk P w K mg base CX0 1 A.a_Lline A.d_Lline ["_law_deed"] spDL := by
  refine T.F_Lline.ok sc_Lline (fun vs H Q E h => ?_) (fun cdv A' outer st H vs Q E hr h => ?_)
  · obtain ⟨G, x, _, hx, _⟩ := h
    exact hx.len
  obtain ⟨G, D, s0, hx, ht, k⟩ := h
  obtain ⟨v0, rfl, h_deed⟩ := dxs1 hx
  refine ⟨_, (pss_cons (ps_if (pt_cmpR op_eq (pe_ix (ix_tupK (K := K)) (pv 0) pe_int (fun _ _ => rfl)) pe_str (nomark _))
      (pss_one (ps_ret (pe_joinK pe_str (pe_op (op_catTK (K := K)) (pe_tup (pa_cons pe_str pa_nil)) (pe_ix (ix_tupK (K := K)) (pv 0) pe_int (fun _ _ => rfl))))))
      pss_nil)
      (pss_cons (ps_set (i := 1) sc_Lline.nd rfl (Or.inl rfl) (pe_lst pa_nil))
      (pss_cons (ps_for PassesOwn.never rfl (pi_tup (pv 0)) (pg_name (i := 2) sc_Lline.nd rfl (Or.inl rfl))
      (pss_one (ps_if (pt_val (pe_callB (call_isiKK (K := K)) (by rfl) T.b.isinstance (by decide +kernel) (pa_cons (pv 2) (pa_cons (pe_bltn (by rfl) T.b.bool (by decide +kernel) (v := .ty "bool") rfl) pa_nil))))
      (pss_one (ps_expr (pe_bm PySem.F.plainAttrs_list PySem.F.slot_list_append PySem.F.type_list_append mt_append (pv 1) (pa_cons (pe_ix (ix_listK (K := K)) (pe_lst (pa_cons pe_str (pa_cons pe_str pa_nil))) (pe_callTy call_int1 (by rfl) T.b.int_ (by decide +kernel) (pa_cons (pv 2) pa_nil)) (fun _ _ => rfl)) pa_nil))))
      (pss_one (ps_expr (pe_bm PySem.F.plainAttrs_list PySem.F.slot_list_append PySem.F.type_list_append mt_append (pv 1) (pa_cons (pe_callTy (CallR.or call_str_int SkE.call_str_str) (by rfl) T.b.str_ (by decide +kernel) (pa_cons (pv 2) pa_nil)) pa_nil)))))))
      (pss_one (ps_ret (pe_joinK pe_str (pv 1))))))), ?_⟩
  refine q_when (b := decide (D.word = "fair")) (et_test (ev_op (ev_op (ev_var rfl h_deed) ev_int (rd_ixT (d := .str D.word) (atI_nat (j := 0) rfl))) ev_str rd_eqS)) s0 (fun hb G1 H1 g1 => ?_) (fun hb G1 H1 g1 => ?_)
  · obtain ⟨zs, rfl⟩ := word_fair (of_decide_eq_true hb)
    have h1000 : zs.length ≤ 1000 := ht.1
    exact s_ret (ev_joinT (ys := Dd.words (.fair zs)) ev_str (ev_is (ev_op (ev_tup (ds := [.str "fair"]) (ea_cons ev_str ea_nil) (by show 1 ≤ 100000; decide)) (ev_op (ev_var rfl (h_deed.mono g1.g)) ev_int (rd_ixT (d := .tuple (zs.map .str)) (atI_nat (j := 1) rfl))) (rd_catT (by simp) (by rw [List.length_map]; show 1 + _ ≤ 100000; omega))) (rfl : PyData.tuple ([PyData.str "fair"] ++ zs.map .str) = .tuple ((Dd.words (.fair zs)).map .str))) (line_fits ht)) g1.s fun v G3 H3 g3 hv => k v G3 H3 (g1.trans g3) hv
  have hne := of_decide_eq_false hb
  have h_deed := h_deed.mono g1.g
  refine q_asgM (ev_lst ea_nil (by show 0 ≤ 100000; decide)) g1.s fun l xs G2 H2 g2 l0 ln ll hx2 => ?_
  cases hx2
  have h_deed := h_deed.mono g2.g
  have o2 : Ow G1 H1 G2 H2 l [] := Ow.mk0 g2 ll ln
  have htd := told_nf hne ht
  have hal := args_len D
  obtain ⟨ds, hds⟩ : ∃ ds, ds = PyData.str D.word :: D.args := ⟨_, rfl⟩
  have hsm : ∀ d ∈ ds, Fl d := by
    rw [hds]
    exact ac (Nat.le_trans (word_len D) (by decide)) htd
  have hlen : ds.length ≤ 7 := by rw [hds, List.length_cons]; omega
  have hfin : (ds.map pw) = D.words := by rw [hds, words_nf hne]; rfl
  have h_deed : Dx G2 v0 (.tuple ds) := by rw [hds]; exact h_deed
  refine q_forT [l] (fun n σ' G' H' => ∃ (xs : List V) (v2 : Option V), σ' = [some v0, some (.ref l), v2] ∧ Ow G1 H1 G' H' l xs ∧ Dxs G' xs (((ds.take n).map pw).map .str))
    (ev_var rfl h_deed) o2.s (fun G3 H3 g3 => ⟨[], none, rfl, o2.step g3, .nil⟩) (fun G3 H3 g3 n d v σ' G' H' hd hv gg I => ?_) (fun σ' G' H' gg I => ?_)
  · obtain ⟨xs, v2, rfl, o, dx⟩ := I
    have hn : n < ds.length := (List.getElem?_eq_some_iff.mp hd).1
    have hxl : xs.length = n := by rw [dx.len, List.length_map, List.length_map, List.length_take]; omega
    have hdm := hsm d (List.mem_of_getElem? hd)
    have htk : ds.take (n + 1) = ds.take n ++ [d] := by rw [List.take_add_one, hd]; rfl
    have fin : ∀ {v : V} {G4 H4 : Hp}, Gr [] G' H' G4 H4 → Dx G4 v (.str (pw d)) → Dxs G4 (xs ++ [v]) (((ds.take (n + 1)).map pw).map .str) := fun g4 hv4 => by
      rw [htk, List.map_append, List.map_append]
      exact (dx.mono g4.g).app (Dxs.one hv4)
    dsimp only [gName, List.set]
    refine s_if (b := isB d true || isB d false) (et_B (ev_isi (ev_var rfl hv) (kit_bool hdm))) o.s (fun hb G4 H4 g4 => ?_) (fun hb G4 H4 g4 => ?_)
    · obtain ⟨c, rfl⟩ : ∃ c, d = .bool c := by
        cases d with
        | bool c => exact ⟨c, rfl⟩
        | _ => cases hb
      refine s_app' (o.step g4) rfl (d := .str (pw (.bool c))) (ev_op (EvM.dat (ds := (["free", "bound"] : List Str).map .str) (ev_lst (ea_cons ev_str (ea_cons ev_str ea_nil)) (by show 2 ≤ 100000; decide))) (ev_cb (ea_cons (ev_var rfl (hv.mono g4.g)) ea_nil) cd_intB) (rd_ixL (by cases c <;> rfl))) (by omega) fun v5 G5 H5 hv5 g5 o5 => ?_
      exact ⟨G5, gg.trans ((g4.trans g5).any.write (Or.inl (by simp)) o5.hn), _, _, rfl, o5, fin (g4.trans g5) hv5⟩
    · refine s_app' (o.step g4) rfl (d := .str (pw d)) (ev_cb (ea_cons (ev_var rfl (hv.mono g4.g)) ea_nil) (cd_strAny hdm fun c e => by subst e; cases c <;> cases hb)) (by omega) fun v5 G5 H5 hv5 g5 o5 => ?_
      exact ⟨G5, gg.trans ((g4.trans g5).any.write (Or.inl (by simp)) o5.hn), _, _, rfl, o5, fin (g4.trans g5) hv5⟩
  · obtain ⟨xs, v2, rfl, o, dx⟩ := I
    rw [List.take_length, hfin] at dx
    have gF := (o.g.drop l0).freeze o.hl o.hn l0
    exact s_ret (ev_join ev_str (ev_var rfl (.lst upd_same (dx.mono (Sb.new o.hn)))) (line_fits ht)) gF.s fun v5 G5 H5 g5 hv5 => k v5 G5 H5 ((g1.trans gF).trans g5) hv5
theorem join_len {a : Str} (ha : a.length ≤ 1) {l : List Str} {n b : Nat} (hn : l.length ≤ n) (h : ∀ z ∈ l, z.length ≤ b) : (Txt.join a l).length ≤ n * (b + 1) := by
  have h0 : (Txt.join a l).length = (l.map (·.length)).sum + (l.length - 1) * a.length := PySem.size_glued a l
  have h1 := sum_le h
  have h2 : (l.length - 1) * a.length ≤ l.length * 1 := Nat.mul_le_mul (Nat.sub_le _ _) ha
  have h3 : l.length * (b + 1) ≤ n * (b + 1) := Nat.mul_le_mul_right _ hn
  rw [Nat.mul_succ] at h3
  omega

end
end

-- lk38b.txt
section

local macro_rules | `(tactic| walk_at "arith") => `(tactic| first | omega | decide | (unfold CMul; omega) | (unfold CDiv; omega) | (unfold CPow; decide) | (refine ⟨?_, ?_⟩ <;> omega) | (simp; done) | (simp; omega))
local macro_rules | `(tactic| walk_at "wide") => `(tactic| exact ⟨by decide, by decide +kernel⟩)
section
variable {P : Program} {w : World} {K : PySem.W.Frag} {mg : Str → Option Value} {base : Heap} {A : Ad}
/-! ### a written deed is read back -/
theorem num_line {n : Nat} : (Str.ofString (toString ((n : Nat) : Int))).cps.toList = TL.numL n := TL.tl_num n
theorem numL_head : ∀ n : Nat, 0 < n → ∃ c l, TL.numL n = c :: l ∧ c ≠ 48 := by
  intro n
  induction n using Nat.strongRecOn with
  | _ n ih =>
    intro h
    by_cases h9 : n < 10
    · exact ⟨48 + n, [], TL.numL_lt h9, by omega⟩
    · obtain ⟨c, l, e, hc⟩ := ih (n / 10) (by omega) (by omega)
      exact ⟨c, l ++ [48 + n % 10], by rw [TL.numL_step (by omega), e]; rfl, hc⟩
theorem isNum_of {n : Nat} (h : n < 10 ^ 30) : isNum (Str.ofString (toString ((n : Nat) : Int))) = true ∧ numV (Str.ofString (toString ((n : Nat) : Int))) = (n : Int) := by
  obtain ⟨z, hz⟩ : ∃ z, z = Str.ofString (toString ((n : Nat) : Int)) := ⟨_, rfl⟩
  have ht : z.cps.toList = TL.numL n := by rw [hz]; exact num_line
  rw [← hz]
  have hl : z.length = (TL.numL n).length := by rw [← ht]; exact TL.len_tl z
  have h1 : 0 < (TL.numL n).length := List.length_pos_iff.mpr (TL.numL_ne n)
  have h2 := TL.numL_len (k := 30) (by decide) h
  refine ⟨?_, ?_⟩
  · unfold isNum
    rw [decide_eq_true (by omega : (1 : Int) ≤ (z.length : Int)), decide_eq_true (by omega : (z.length : Int) ≤ 30)]
    refine (Bool.and_eq_true _ _).mpr ⟨rfl, (Bool.and_eq_true _ _).mpr ⟨List.all_eq_true.mpr fun b hb => ?_, ?_⟩⟩
    · obtain ⟨i, hi, rfl⟩ := List.mem_map.mp hb
      have hi := List.mem_range.mp hi
      rw [← Array.getElem?_toList, ht, List.getElem?_eq_getElem (hl ▸ hi)]
      show dig _ = true
      rw [dig_eq]
      exact decide_eq_true (TL.numL_digits n _ (List.getElem_mem _))
    · by_cases h0 : n = 0
      · have : z = "0" := by rw [hz, h0]; rfl
        rw [decide_eq_true this]; rfl
      · obtain ⟨c, l, e, hc⟩ := numL_head n (by omega)
        have e0 : z.cps[0]?.getD 0 = c := by rw [← Array.getElem?_toList, ht, e]; rfl
        have : ¬ sign0 z = "0" := fun q => hc (by
          unfold sign0 at q
          rw [e0] at q
          have q2 := congrArg (fun s : Str => s.cps.toList) q
          have : [c] = [48] := q2
          exact (List.cons.inj this).1)
        rw [decide_eq_false this, Bool.not_false, Bool.or_true]
  · unfold numV
    rw [ht, TL.numL_val]
inductive PartD : Str → PyData → Prop
  | name {z : Str} (h : isName z = true) : PartD "name" (.str z)
  | num {n : Nat} (h : n < 10 ^ 30) : PartD "number" (.int n)
  | bound (b : Bool) : PartD "bound" (.bool b)
theorem name_cs {z : Str} (h : isName z = true) : z.length ≤ 8 ∧ ∀ c ∈ z.cps.toList, c ∈ alpha.cps.toList := by
  unfold isName at h
  simp only [Bool.and_eq_true, decide_eq_true_eq] at h
  obtain ⟨⟨h1, h2⟩, h3⟩ := h
  refine ⟨by omega, fun c hc => ?_⟩
  obtain ⟨i, hi, e⟩ := List.getElem_of_mem hc
  have hl : z.length = z.cps.toList.length := TL.len_tl z
  have h4 := List.all_eq_true.mp h3 (decide ((z.cps[i]?.getD 0) ∈ alpha.cps.toList)) (List.mem_map.mpr ⟨i, List.mem_range.mpr (by rw [hl]; exact hi), rfl⟩)
  have e2 : z.cps[i]?.getD 0 = c := by
    rw [← Array.getElem?_toList, List.getElem?_eq_getElem hi, e]; rfl
  rw [e2] at h4
  simpa using h4
theorem PartD.back {k : Str} {d : PyData} (h : PartD k d) : partOf (k, pw d) = some d ∧ (pw d).length ≤ 30 ∧ ∀ s, s < 48 → s ∉ (pw d).cps.toList := by
  have alow : ∀ s, s < 48 → s ∉ alpha.cps.toList := fun s hs q => by
    rw [alpha_eq] at q
    simp only [List.mem_cons, List.not_mem_nil, or_false] at q
    omega
  cases h with
  | @name z h =>
    obtain ⟨h1, h2⟩ := name_cs h
    exact ⟨if_pos ⟨rfl, h⟩, Nat.le_trans h1 (by decide), fun s hs q => alow s hs (h2 s q)⟩
  | @num n h =>
    obtain ⟨h1, h2⟩ := isNum_of h
    have hl : (pw (.int (n : Int))).length = (TL.numL n).length := by
      rw [← num_line]; exact TL.len_tl _
    refine ⟨?_, by rw [hl]; exact TL.numL_len (by decide) h, fun s hs q => ?_⟩
    · unfold partOf
      rw [if_neg (fun q => absurd q.1 (show ¬ ("number" : Str) = "name" by decide +kernel)), if_pos ⟨rfl, h1⟩]
      show some (PyData.int (numV _)) = _
      rw [show numV (pw (.int (n : Int))) = (n : Int) from h2]
    · have q : s ∈ TL.numL n := by rw [← num_line]; exact q
      exact TL.numL_free (Or.inl hs) q
  | bound b =>
    cases b
    · refine ⟨(if_neg (fun q => absurd q.1 (show ¬ ("bound" : Str) = "name" by decide +kernel))).trans ((if_neg (fun q => absurd q.1 (show ¬ ("bound" : Str) = "number" by decide +kernel))).trans ((if_pos ⟨rfl, (by decide +kernel : ("free" : Str) ∈ (["bound", "free"] : List Str))⟩).trans
        (congrArg (fun b => some (PyData.bool b)) (by decide +kernel : decide (("free" : Str) = "bound") = false)))), by decide +kernel, fun s hs q => ?_⟩
      have : (pw (.bool false)).cps.toList = [102, 114, 101, 101] := by decide +kernel
      rw [this] at q
      simp only [List.mem_cons, List.not_mem_nil, or_false] at q
      omega
    · refine ⟨(if_neg (fun q => absurd q.1 (show ¬ ("bound" : Str) = "name" by decide +kernel))).trans ((if_neg (fun q => absurd q.1 (show ¬ ("bound" : Str) = "number" by decide +kernel))).trans ((if_pos ⟨rfl, (by decide +kernel : ("bound" : Str) ∈ (["bound", "free"] : List Str))⟩).trans
        (congrArg (fun b => some (PyData.bool b)) (by decide +kernel : decide (("bound" : Str) = "bound") = true)))), by decide +kernel, fun s hs q => ?_⟩
      have : (pw (.bool true)).cps.toList = [98, 111, 117, 110, 100] := by decide +kernel
      rw [this] at q
      simp only [List.mem_cons, List.not_mem_nil, or_false] at q
      omega
inductive Parts : List Str → List PyData → Prop
  | nil : Parts [] []
  | cons {k : Str} {d : PyData} {ks : List Str} {ds : List PyData} (h : PartD k d) (t : Parts ks ds) : Parts (k :: ks) (d :: ds)
theorem Parts.len {ks : List Str} {ds : List PyData} (h : Parts ks ds) : ks.length = ds.length := by
  induction h with
  | nil => rfl
  | cons _ _ ih => rw [List.length_cons, List.length_cons, ih]
theorem Parts.at {ks : List Str} {ds : List PyData} (h : Parts ks ds) : ∀ {i : Nat} {k : Str} {d : PyData}, ks[i]? = some k → ds[i]? = some d → PartD k d := by
  induction h with
  | nil => intro i k d hk; simp at hk
  | cons h t ih =>
    intro i k d hk hd
    cases i with
    | zero => cases hk; cases hd; exact h
    | succ i => exact ih hk hd
theorem Parts.pv {ks : List Str} {ds : List PyData} (h : Parts ks ds) : (ks.zip (ds.map pw)).map pv1 = ds := by
  induction h with
  | nil => rfl
  | cons h t ih =>
    rw [List.map_cons, List.zip_cons_cons, List.map_cons, ih]
    congr 1
    unfold pv1
    rw [h.back.1]; rfl
/-- what a line can write -/
def Dd.wr : Dd → Prop
  | .one w ps _ => ∃ ks, kindsOf w = some ks ∧ Parts ks ps
  | .fair zs => ∀ z ∈ zs, isName z = true
theorem kinds_word {w : Str} {ks : List Str} (h : kindsOf w = some ks) : 32 ∉ w.cps.toList := by
  have key : ∀ p ∈ PTS, 32 ∉ p.1.cps.toList := by decide +kernel
  unfold kindsOf at h
  have : ∀ (l : List (Str × List Str)), (∀ p ∈ l, 32 ∉ p.1.cps.toList) → l.lookup w = some ks → 32 ∉ w.cps.toList := by
    intro l
    induction l with
    | nil => intro _ h; cases h
    | cons p l ih =>
      intro hl h
      obtain ⟨a, b⟩ := p
      rw [List.lookup_cons] at h
      by_cases e : w = a
      · subst e; exact hl (w, b) (by simp)
      · rw [beq_false_of_ne e] at h
        exact ih (fun p hp => hl p (List.mem_cons_of_mem _ hp)) h
  exact this PTS key h
theorem blank_tl : TL.tl (" " : Str) = 32 :: [] := by decide +kernel
theorem Dd.back {D : Dd} (h : D.wr) (hl : D.words.length ≤ 1000) : ∃ ws, Txt.split D.line " " = D.word :: ws ∧ ws.length ≤ 1000 ∧ (∀ y ∈ ws, y.length ≤ 100) ∧ RdOk D.word ws ∧ readD D.word ws = some D.data := by
  cases D with
  | one w ps q =>
    obtain ⟨ks, hk, hp⟩ := h
    have hps : ∀ y ∈ ps.map pw, ∃ k d, PartD k d ∧ y = pw d := fun y hy => by
      obtain ⟨d, hd, rfl⟩ := List.mem_map.mp hy
      obtain ⟨i, hi, e⟩ := List.getElem_of_mem hd
      have hd2 : ps[i]? = some d := by rw [List.getElem?_eq_getElem hi, e]
      exact ⟨_, d, hp.at (List.getElem?_eq_getElem (by rw [hp.len]; exact hi)) hd2, rfl⟩
    refine ⟨ps.map pw, ?_, ?_, fun y hy => ?_, ⟨fun e => absurd e q.1, fun _ ks' hk' hl' i k y h1 h2 => ?_⟩, ?_⟩
    · refine TL.split_join blank_tl (by decide +kernel) (parts := w :: ps.map pw) (by simp) fun y hy => ?_
      rcases List.mem_cons.mp hy with rfl | hy
      · exact kinds_word hk
      · obtain ⟨k, d, hpd, rfl⟩ := hps y hy
        exact hpd.back.2.2 32 (by decide)
    · have : (w :: ps.map pw).length ≤ 1000 := hl
      rw [List.length_cons] at this
      omega
    · obtain ⟨k, d, hpd, rfl⟩ := hps y hy
      exact Nat.le_trans hpd.back.2.1 (by decide)
    · have hk' : kindsOf w = some ks' := hk'
      rw [hk] at hk'
      cases hk'
      rw [List.getElem?_map] at h2
      obtain ⟨d, hd, rfl⟩ := Option.map_eq_some_iff.mp h2
      rw [(hp.at h1 hd).back.1]
      exact fun z => by cases z
    · show readD w (ps.map pw) = _
      unfold readD
      rw [if_neg q.1, hk]
      show (if ks.length = (ps.map pw).length then _ else none) = _
      rw [if_pos (by rw [List.length_map, hp.len]), hp.pv]
      rfl
  | fair zs =>
    have h : ∀ z ∈ zs, isName z = true := h
    have pn : ∀ z ∈ zs, partOf ("name", z) = some (.str z) := fun z hz => if_pos ⟨rfl, h z hz⟩
    refine ⟨zs, ?_, ?_, fun y hy => Nat.le_trans (name_cs (h y hy)).1 (by decide), ⟨fun _ y hy => by rw [pn y hy]; exact fun z => (by cases z), fun e => absurd rfl e⟩, ?_⟩
    · refine TL.split_join blank_tl (by decide +kernel) (parts := "fair" :: zs) (by simp) fun y hy => ?_
      rcases List.mem_cons.mp hy with rfl | hy
      · decide +kernel
      · exact (PartD.name (h y hy)).back.2.2 32 (by decide)
    · have : (("fair" : Str) :: zs).length ≤ 1000 := hl
      rw [List.length_cons] at this
      omega
    · show readD "fair" zs = _
      unfold readD
      rw [if_pos rfl]
      have : (zs.map fun y => pv1 ("name", y)) = zs.map PyData.str := List.map_congr_left fun z hz => by unfold pv1; rw [pn z hz]; rfl
      rw [this]; rfl

end
end

-- ldu.txt
section

local macro_rules | `(tactic| walk_at "arith") => `(tactic| first | omega | decide | (unfold CMul; omega) | (unfold CDiv; omega) | (unfold CPow; decide) | (refine ⟨?_, ?_⟩ <;> omega) | (simp; done) | (simp; omega))
local macro_rules | `(tactic| walk_at "wide") => `(tactic| exact ⟨by decide, by decide +kernel⟩)
section
variable {P : Program} {w : World} {K : PySem.W.Frag} {mg : Str → Option Value} {base : Heap} {A : Ad}
/-! ### d.update(another dict); enumerate(a text) -/
section
open PySem.Spec PyProof.Rows
variable {X : Cx}
theorem d_update {pins : List (Addr × Obj)} {σ : L2.St} {H : Hp} {s : Shared} {a b : Addr} {A : Around} {E : Value → Shared → Prop} {kvs more : List (Key × V)} {Q : Value → Shared → Prop} (I : Inv X pins σ H s) (ea : H a = some (.dK kvs)) (eb : Rd H b (.dK more)) (hab : a ≠ b) (hz : kvs.length + more.length ≤ 1000)
    (h : ∀ s', Inv X pins σ (upd H a (.dK (mergeK kvs more))) s' → Q .none s') : wpAny (model X.prog X.w) A (call (.builtin "dict.update") [.ref a, .ref b]) Q E s := by
  obtain ⟨z, hd, vs, rel, dd⟩ := dk_of I.hok ea
  obtain ⟨z2, hd2, vs2, rel2, dd2⟩ := dk_rd I.hok eb
  have l1 := rel.length
  have l2 := rel2.length
  refine call_meetsIn PySem.F.slot_dict_update dd.typeIs PySem.F.entry_dict_update (PySem.F.args_dict_update_2 _ _) (meets_dict_update (mixKind X.prog X.w) a b hab hd2) ⟨vs, vs2, dd, dd2, by rw [sizeLine_eq]; omega, fun h' dd' dd2' hs => ?_⟩
  have hl : (mergeK kvs more).length ≤ sizeLine := by
    have := length_mergeK more kvs
    rw [sizeLine_eq]; omega
  have he : ∃ q, h'.get? a = some q := let ⟨q, _, _, hq, _⟩ := dd'; ⟨q, hq⟩
  exact h _ (d_write I (by rw [ea]; exact True.intro) hs he (dk_new hl hd (rel2.merge rel) dd'))
def tDUpd (td ty : TE) : TE := fun σ H Q => td σ H fun x H1 => ∃ a, x = .ref a ∧ IsD H1 a ∧ ty σ H1 fun y H2 => ∃ b kvs more, y = .ref b ∧ H2 a = some (.dK kvs) ∧ Rd H2 b (.dK more) ∧ a ≠ b ∧ kvs.length + more.length ≤ 1000 ∧ Q .non (upd H2 a (.dK (mergeK kvs more)))
theorem pe_dupd {o e : Expr} {apos cpos : Pos} {td ty : TE} (ho : PE X o td) (he : PE X e ty) (m : M1 X o "update" apos e cpos) : PE X (.Call (.Attribute o "update" apos) [e] [] cpos) (tDUpd td ty) := by
  refine ⟨fun pins s σ H Q I h => ?_⟩
  refine wpAny_Call_method m.base m.few m.line PySem.F.plainAttrs_dict PySem.F.slot_dict_update PySem.F.type_dict_update (thn (ho.run pins s σ H _ I h) fun u s1 ⟨x, H1, I1, rx, a, ex, d, q1⟩ => ?_)
  subst ex
  obtain rfl : u = Value.ref a := rx
  obtain ⟨t1, t2, _⟩ := isD_at I1 d
  refine ⟨t1, t2, ?_⟩
  rw [m.trees]
  refine Calls.callWith_builtin rfl (Calls.evalArgs_plain (Calls.spliced_cons (thn (he.run pins s1 σ H1 _ I1 q1) fun iv s2 ⟨y, H2, I2, ry, b, kvs, more, ey, e1, e2, hab, hz, q2⟩ => Calls.spliced_nil ?_)))
  subst ey
  obtain rfl : iv = Value.ref b := ry
  exact d_update I2 e1 e2 hab hz fun s3 I3 => ⟨.non, _, I3, rfl, q2⟩
end
section
open PySem.Spec PyProof.Rows
def Itq (z : Str) : It where
  go := fun i _ => i < z.cps.size
  yld := fun i H v H' => ∃ T c, v = .ref T ∧ H T = none ∧ z.cps[i]? = some c ∧ H' = upd H T (.tup [.int (i : Nat), .str ⟨#[c]⟩])
  stop := fun i _ => i = z.cps.size
theorem turn_q {P : Program} {w : World} {K : PySem.W.Frag} {elts : List Expr} {kk : Nat} {tpos : Pos} {e it : Addr} {z : Str} {t : Tok} (hne : e ≠ it) :
    Turn P w K (.Tuple elts kk tpos) (Itq z) [e, it] e (fun i h => (∃ old, IsEnum h e it ((i : Nat) : Int) old) ∧ h.IsStrIter it (strIterType z) z t i) where
  mem := List.mem_cons_self
  obj := fun i h ⟨⟨old, he⟩, ⟨o, ho, hc, hd⟩⟩ b hb => by
    rcases List.mem_cons.mp hb with rfl | hb
    · exact ⟨_, he, nofun⟩
    · rw [List.mem_singleton.mp hb]; exact ⟨o, ho, fun v q => by rw [hd] at q; cases q⟩
  keep := fun i h h' ⟨⟨old, he⟩, ⟨o, ho, hr⟩⟩ k => ⟨⟨old, k e (by simp) _ he⟩, ⟨o, k it (by simp) _ ho, hr⟩⟩
  item := by
    intro X hP hw hK hc i pins s σ H E I hf st hg
    subst hP hw hK
    obtain ⟨⟨old, he⟩, hit⟩ := st
    have hh : X.A.in1.handled = none := I.ok.hd hc
    have hel : e < s.heap.objs.size := Heap.lt_size he
    have hil : it < s.heap.objs.size := by obtain ⟨_, q, _⟩ := hit; exact Heap.lt_size q
    refine wpAny_pyNext_enum_itemD (Draws.text (prog := X.prog) (w := X.w) hh it z t) he hit hg hne (by simpa using hne) fun x h' tk ⟨c, u, hx, ex⟩ ho hit' hT hsz hk => ?_
    subst ex
    refine ⟨_, rfl, wpAny_letOwnedTupleGo_enum (s := { s with heap := h', toks := tk + 1 }) ho fun h'' he' sb => ?_⟩
    have hT2 : h''.get? s.heap.objs.size = some { cls := .type "tuple", data := .seq #[.int i tk, .str ⟨#[c]⟩ u] } := (sb.2 _ (Nat.ne_of_gt hel)).trans hT
    have I1 : Inv X pins σ (upd H s.heap.objs.size (.tup [.int (i : Nat), .str ⟨#[c]⟩])) { s with heap := h'', toks := tk + 1 } :=
      I.turnedNew (ch := [e, it]) (fun b ob hb q => (sb.2 b (fun z => hb (by simp [z]))).trans (hk b ob (fun z => hb (by simp [z])) (fun z => hb (by simp [z])) q)) hf (Nat.le_refl _)
        ⟨by show 2 ≤ sizeLine; decide, [.int i tk, .str ⟨#[c]⟩ u], .cons ⟨_, rfl⟩ (.cons ⟨_, rfl⟩ .nil), ⟨_, hT2, rfl, _, rfl⟩⟩
    have he2 : IsEnum h'' e it ((i + 1 : Nat) : Int) (.str ⟨#[c]⟩ u) := by
      have e1 : ((i + 1 : Nat) : Int) = (i : Int) + 1 := by omega
      rw [e1]
      exact he'
    refine ⟨.ref s.heap.objs.size, _, I1, rfl, ⟨_, c, rfl, I.hok.fresh (Nat.le_refl _), hx, rfl⟩, ⟨⟨.str ⟨#[c]⟩ u, he2⟩, ?_⟩, fun b hb => ?_⟩
    · obtain ⟨o, q, r⟩ := hit'
      exact ⟨o, (sb.2 it (Ne.symm hne)).trans q, r⟩
    · have hb' : b < s.heap.objs.size := by
        rcases List.mem_cons.mp hb with rfl | hb
        · exact hel
        · rw [List.mem_singleton.mp hb]; exact hil
      rw [upd_ne (Nat.ne_of_lt hb')]
      exact (hf b hb).1
  done := by
    intro X hP hw hK hc i pins s σ H E I hf st hg
    subst hP hw hK
    obtain ⟨⟨old, he⟩, hit⟩ := st
    have hh : X.A.in1.handled = none := I.ok.hd hc
    have hg : i = z.cps.size := hg
    subst hg
    obtain ⟨f0, f1, f2, f3, f4, f5⟩ := hf it (by simp)
    exact wpAny_pyNext_enum_endD (Draws.text (prog := X.prog) (w := X.w) hh it z t) he hit fun h' eb => ⟨rfl, I.turned (t' := s.toks) (fun b o hb q => eb b o hb q) f0 f1 f3 f4 f5⟩
  self := fun A i s Q E st h => let ⟨⟨_, he⟩, _⟩ := st; wpAny_pyIter_enum he h
def iEnumS (ta : TA) : TI := fun σ H R => ta σ H fun vs H1 => ∃ z, vs = [.str z] ∧ R (Itq z) H1
theorem pi_enumS {X : Cx} {e : Expr} {ta : TA} {p pos tpos : Pos} {elts : List Expr} {kk : Nat} (hg : Gl X "enumerate") (hm : X.mg "enumerate" = none) (ha : PA X [e] ta) (hs : starEach [e] X.env = [(false, eval e X.env)] := by rfl) :
    PI X (.Tuple elts kk tpos) (.Call (.Name "enumerate" p) [e] [] pos) (iEnumS ta) := by
  refine ⟨fun pins s σ H R I h => Call_ (ld_blt I hg hm PyProof.Rows.boot_enumerate (PyProof.Rows.callWith_type1 (thn (ha.run pos pins s σ H _ I h) fun us s1 ⟨vs, H1, I1, r1, z, ex, q⟩ => ?_) hs rfl))⟩
  subst ex
  obtain ⟨t, rfl⟩ : ∃ t, us = [.str z t] := by cases r1 with | cons r rr => cases rr; obtain ⟨t, rfl⟩ := r; exact ⟨t, rfl⟩
  refine call_enumerate_str fun h' he hit hsz hk => wpAny_pyIter_enum he ?_
  refine ⟨_, [s1.heap.objs.size + 1, s1.heap.objs.size], _, Itq z, H1, rfl, I1.kept (t' := s1.toks) hk, turn_q (Nat.succ_ne_self _), ⟨⟨_, he⟩, hit⟩, fun b hb => ?_, q⟩
  have hle : s1.heap.objs.size ≤ b := by
    rcases List.mem_cons.mp hb with rfl | hb
    · exact Nat.le_succ _
    · rw [List.mem_singleton.mp hb]; exact Nat.le_refl _
  exact I1.fpOk hle (I1.hok.fresh hle)
theorem walk_q {z : Str} : Walk (Itq z) z.cps.size (fun _ => True) (fun i H v H' => ∃ T c, v = .ref T ∧ H T = none ∧ z.cps[i]? = some c ∧ H' = upd H T (.tup [.int (i : Nat), .str ⟨#[c]⟩])) :=
  ⟨fun _ _ h _ => h, fun _ _ => rfl, fun _ _ _ _ _ _ y => y⟩
end

end
end

-- lk38c.txt
section

local macro_rules | `(tactic| walk_at "arith") => `(tactic| first | omega | decide | (unfold CMul; omega) | (unfold CDiv; omega) | (unfold CPow; decide) | (refine ⟨?_, ?_⟩ <;> omega) | (simp; done) | (simp; omega))
local macro_rules | `(tactic| walk_at "wide") => `(tactic| exact ⟨by decide, by decide +kernel⟩)
section
variable {P : Program} {w : World} {K : PySem.W.Frag} {mg : Str → Option Value} {base : Heap} {A : Ad}
/-! ### the deeds that are drawn -/
local macro_rules | `(tactic| walk_at "at") => `(tactic| first | exact atI_feed ‹FeedOk _› (by omega) (by omega))
local macro_rules | `(tactic| walk_at "pre") => `(tactic| first | trivial | omega)
abbrev spNumber : Sp := fun vs H Q _ => ∃ (G : Hp) (fs : List Int) (i : Int), Sb G H ∧ Dxs G vs [.list (fs.map .int), .int i] ∧ FeedOk fs ∧ (0 ≤ i ∧ i < 269) ∧ ∀ (n : Nat), n < 10 ^ 30 → ∀ v G' H', Gr [] G H G' H' → Dx G' v (.int (n : Int)) → Q v H'
theorem ok_Lnumber (T : Txt K mg A) : FnOk P w K mg base CX0 1 A.a_Lnumber A.d_Lnumber ["_law_feed_here", "_law_at"] spNumber := by
  refine T.F_Lnumber.ok sc_Lnumber (fun vs H Q E h => ?_) (fun cdv A' outer st H vs Q E hr h => ?_)
  · obtain ⟨_, _, _, _, h, _⟩ := h
    exact h.len
  obtain ⟨G, fs, i, s0, hx, hok, hi, k⟩ := h
  obtain ⟨v0, v1, rfl, h_feed_here, h_at⟩ := dxs2 hx
  obtain rfl := h_at.int_eq
  have b0 := nth_ok hok (i := i) (by omega) (by omega)
  have b1 := nth_ok hok (i := i + 1) (by omega) (by omega)
  have fin : ∀ {z : Int} {v : V} {G' H' : Hp}, 0 ≤ z → z < 10 ^ 30 → Gr [] G H G' H' → Dx G' v (.int z) → Q v H' := fun {z v G' H'} h0 h1 g x => by
    obtain ⟨n, rfl⟩ : ∃ n : Nat, z = (n : Int) := ⟨z.toNat, by omega⟩
    exact k n (by
      have e : ((10 : Int) ^ 30) = ((10 ^ 30 : Nat) : Int) := by decide +kernel
      rw [e] at h1
      exact Int.ofNat_lt.mp h1) v G' H' g x
  have p12 : ((10 : Int) ^ (12 : Int).toNat) = 1000000000000 := by decide +kernel
  have p29 : ((10 : Int) ^ (29 : Int).toNat) = 100000000000000000000000000000 := by decide +kernel
  have p20 : ((10 : Int) ^ (20 : Int).toNat) = 100000000000000000000 := by decide +kernel
  have p30 : ((10 : Int) ^ 30) = 1000000000000000000000000000000 := by decide +kernel
  rw [p30] at fin
  refine ⟨_, (pss_cons (ps_if (pt_cmpR op_eq (pe_op op_mod (pe_ix (ix_listK (K := K)) (pv 0) (pv 1) (fun _ _ => rfl)) pe_int) pe_int (nomark _))
      (pss_one (ps_ret (pe_op op_mod (pe_ix (ix_listK (K := K)) (pv 0) (pe_op op_add (pv 1) pe_int) (fun _ _ => rfl)) pe_int)))
      pss_nil)
      (pss_cons (ps_if (pt_cmpR op_eq (pe_op op_mod (pe_ix (ix_listK (K := K)) (pv 0) (pv 1) (fun _ _ => rfl)) pe_int) pe_int (nomark _))
      (pss_one (ps_ret (pe_op op_add (pe_op op_mul (pe_ix (ix_listK (K := K)) (pv 0) (pe_op op_add (pv 1) pe_int) (fun _ _ => rfl)) (pe_op op_pow pe_int pe_int)) (pe_ix (ix_listK (K := K)) (pv 0) (pv 1) (fun _ _ => rfl)))))
      pss_nil)
      (pss_cons (ps_if (pt_cmpR op_eq (pe_op op_mod (pe_ix (ix_listK (K := K)) (pv 0) (pv 1) (fun _ _ => rfl)) pe_int) pe_int (nomark _))
      (pss_one (ps_ret (pe_op op_add (pe_op op_pow pe_int pe_int) (pe_op op_mul (pe_ix (ix_listK (K := K)) (pv 0) (pe_op op_add (pv 1) pe_int) (fun _ _ => rfl)) (pe_op op_pow pe_int pe_int)))))
      pss_nil)
      (pss_one (ps_ret (pe_ix (ix_listK (K := K)) (pv 0) (pe_op op_add (pv 1) pe_int) (fun _ _ => rfl))))))), ?_⟩
  refine q_when (b := decide (nth fs i % 4 = 0)) (et_test (ev_op (ev_op (ev_op (ev_var rfl h_feed_here) (ev_var rfl h_at) (rd_ixL (by walk_at "at"))) ev_int (rd_mod (by walk_at "arith"))) ev_int rd_eqI)) s0 (fun hb G1 H1 g1 => ?_) (fun hb G1 H1 g1 => ?_)
  · exact s_ret ((fun h_feed_here h_at => (ev_op (ev_op (ev_var rfl h_feed_here) (ev_op (ev_var rfl h_at) ev_int rd_add) (rd_ixL (by walk_at "at"))) ev_int (rd_mod (by walk_at "arith")))) (h_feed_here.mono g1.g) (h_at.mono g1.g)) g1.s fun v G2 H2 g2 hv => fin (by omega) (by omega) (g1.trans g2) hv
  have h_feed_here := h_feed_here.mono g1.g
  have h_at := h_at.mono g1.g
  refine q_when (b := decide (nth fs i % 4 = 1)) (et_test (ev_op (ev_op (ev_op (ev_var rfl h_feed_here) (ev_var rfl h_at) (rd_ixL (by walk_at "at"))) ev_int (rd_mod (by walk_at "arith"))) ev_int rd_eqI)) g1.s (fun hb G2 H2 g2 => ?_) (fun hb G2 H2 g2 => ?_)
  · have h_feed_here := h_feed_here.mono g2.g
    have h_at := h_at.mono g2.g
    exact s_ret (ev_op (ev_op (ev_op (ev_var rfl h_feed_here) (ev_op (ev_var rfl h_at) ev_int rd_add) (rd_ixL (by walk_at "at"))) (ev_is (ev_op ev_int ev_int (rd_pow (by unfold CPow; decide))) (congrArg PyData.int p12)) (rd_mul (by unfold CMul; omega))) (ev_op (ev_var rfl h_feed_here) (ev_var rfl h_at) (rd_ixL (by walk_at "at"))) rd_add) g2.s fun v G3 H3 g3 hv => fin (by omega) (by omega) ((g1.trans g2).trans g3) hv
  have g2 := g1.trans g2
  have h_feed_here := h_feed_here.mono ‹Gr [] G1 H1 G2 H2›.g
  have h_at := h_at.mono ‹Gr [] G1 H1 G2 H2›.g
  refine q_when (b := decide (nth fs i % 4 = 2)) (et_test (ev_op (ev_op (ev_op (ev_var rfl h_feed_here) (ev_var rfl h_at) (rd_ixL (by walk_at "at"))) ev_int (rd_mod (by walk_at "arith"))) ev_int rd_eqI)) g2.s (fun hb G3 H3 g3 => ?_) (fun hb G3 H3 g3 => ?_)
  · have h_feed_here := h_feed_here.mono g3.g
    have h_at := h_at.mono g3.g
    exact s_ret (ev_op (ev_is (ev_op ev_int ev_int (rd_pow (by unfold CPow; decide))) (congrArg PyData.int p29)) (ev_op (ev_op (ev_var rfl h_feed_here) (ev_op (ev_var rfl h_at) ev_int rd_add) (rd_ixL (by walk_at "at"))) (ev_is (ev_op ev_int ev_int (rd_pow (by unfold CPow; decide))) (congrArg PyData.int p20)) (rd_mul (by unfold CMul; omega))) rd_add) g3.s fun v G4 H4 g4 hv => fin (by omega) (by omega) ((g2.trans g3).trans g4) hv
  · exact s_ret ((fun h_feed_here h_at => (ev_op (ev_var rfl h_feed_here) (ev_op (ev_var rfl h_at) ev_int rd_add) (rd_ixL (by walk_at "at")))) (h_feed_here.mono g3.g) (h_at.mono g3.g)) g3.s fun v G4 H4 g4 hv => fin (by omega) (by omega) ((g2.trans g3).trans g4) hv

end
end

-- lk38d.txt
section

local macro_rules | `(tactic| walk_at "arith") => `(tactic| first | omega | decide | (unfold CMul; omega) | (unfold CDiv; omega) | (unfold CPow; decide) | (refine ⟨?_, ?_⟩ <;> omega) | (simp; done) | (simp; omega))
local macro_rules | `(tactic| walk_at "wide") => `(tactic| exact ⟨by decide, by decide +kernel⟩)
section
variable {P : Program} {w : World} {K : PySem.W.Frag} {mg : Str → Option Value} {base : Heap} {A : Ad}
/-! ### a deed of any word, drawn -/
local macro_rules | `(tactic| walk_at "at") => `(tactic| first | exact atI_feed ‹FeedOk _› (by omega) (by omega))
local macro_rules | `(tactic| walk_at "pre") => `(tactic| first | trivial | omega)
abbrev SP (w k : Str) : Key × V := (.inr w, .str k)
def L1 : List (Key × V) := [SP "house" "hn", SP "in" "hn", SP "out" "hn", SP "fail" "h", SP "mend" "h", SP "days" "n", SP "draw" "hhhnnb"]
def S1 : List (Key × V) := mergeK [] L1
def L2 : List (Key × V) := [SP "accept" "nn", SP "sign" "nnhb", SP "blank" "nnhb", SP "hand" "nnh", SP "lose" "n", SP "present" "nn"]
def S2 : List (Key × V) := mergeK [] L2
def L3 : List (Key × V) := [SP "protest" "nn", SP "ask" "nnn", SP "honour" "nnhn"]
def S3 : List (Key × V) := mergeK [] L3
def S4 : List (Key × V) := mergeK (mergeK S1 S2) S3
def WK : List Str := ["house", "in", "out", "fail", "mend", "days", "draw", "accept", "sign", "blank", "hand", "lose", "present", "protest", "ask", "honour"]
theorem wk_keys : S4.map (fun kv => kV kv.1) = WK.map V.str := by decide +kernel
theorem len_S : S1.length + S2.length ≤ 1000 ∧ (mergeK S1 S2).length + S3.length ≤ 1000 := by decide +kernel
def code (k : Str) : Nat := if k = "name" then 104 else if k = "number" then 110 else 98
def kok (w : Str) : Bool := match kindsOf w, valV S4 (.inr w) with
  | some ks, some (.str z) => decide (z.cps.toList = ks.map code) && decide (ks.length ≤ 6) && ks.all (fun k => decide (k ∈ (["name", "number", "bound"] : List Str))) && decide (w ≠ "fair") && decide (w.length ≤ 8)
  | _, _ => false
theorem kok_all : WK.all kok = true := by decide +kernel
theorem kok_of {w : Str} (h : w ∈ WK) : ∃ ks z, kindsOf w = some ks ∧ valV S4 (.inr w) = some (.str z) ∧ z.cps.toList = ks.map code ∧ ks.length ≤ 6 ∧ (∀ k ∈ ks, k ∈ (["name", "number", "bound"] : List Str)) ∧ w ≠ "fair" ∧ w.length ≤ 8 := by
  have h := List.all_eq_true.mp kok_all w h
  unfold kok at h
  split at h
  · rename_i ks z h1 h2
    simp only [Bool.and_eq_true, decide_eq_true_eq, List.all_eq_true] at h
    obtain ⟨⟨⟨⟨a, b⟩, c⟩, d⟩, e⟩ := h
    exact ⟨ks, z, h1, h2, a, b, fun k hk => of_decide_eq_true (by simpa using c k hk), d, e⟩
  · cases h
theorem sign_is {c n : Nat} : decide ((⟨#[c]⟩ : Str) = ⟨#[n]⟩) = decide (c = n) := decide_eq_decide.mpr ⟨fun h => by cases h; rfl, fun h => by rw [h]⟩
abbrev spWD : Sp := fun vs H Q _ => ∃ (G : Hp) (fs : List Int) (i : Int), Sb G H ∧ Dxs G vs [.list (fs.map .int), .int i] ∧ FeedOk fs ∧ (0 ≤ i ∧ i < 260) ∧ ∀ (D : Dd), D.told → D.wr → D.words.length ≤ 10 → ∀ v G' H', Gr [] G H G' H' → Dx G' v D.data → Q v H'
section
variable {K : PySem.W.Frag} {σ : L2.St} {G H : Hp} {i : Nat} {p : Addr}
/-- sorted(list(the shapes)) -/
theorem ev_sk (hv : σ[i]? = some (some (.ref p))) (hp : H p = some (.dK S4)) : EvM (tCB (rSortedS K) (tCons (tCB rListD (tCons (tVar i) tNil)) tNil)) σ G H ((srt WK).map .str) := fun G1 H1 g Q q =>
  ⟨_, hv, p, S4, rfl, sb_of g _ _ hp, fun l hl => ⟨l, WK, rfl, Or.inl (Or.inl (by rw [← wk_keys]; exact upd_same)), by decide +kernel, fun ys r hperm hsrt hr => by
    have e := srt_of hperm hsrt
    subst e
    have gl : Gr [] G1 H1 G1 (upd H1 l (.lst (S4.map fun kv => kV kv.1))) := (Gr.refl g.s).own hl
    have hr1 : H1 r = none := gl.free hr
    exact q r _ G1 _ (gl.own hr) hr1 (g.s.none hr1) upd_same (dxs_strs _)⟩⟩
theorem ev_tupO {l : Addr} {xs : List V} {ds : List PyData} (hv : σ[i]? = some (some (.ref l))) (hl : H l = some (.lst xs)) (hx : Dxs G xs ds) : EvD (tCB (rTupO K) (tCons (tVar i) tNil)) σ G H (.tuple ds) := fun G1 H1 g Q q =>
  ⟨_, hv, l, xs, rfl, Or.inl ⟨Or.inl (Or.inl (sb_of g _ _ hl)), fun p hp => q _ _ _ (((Gr.refl g.s).own hp).freeze upd_same (g.s.none hp) hp) (.tup upd_same ((hx.mono g.g).mono (Sb.new (g.s.none hp))))⟩⟩
end
section
variable {K : PySem.W.Frag} {σ : L2.St} {B C G H : Hp} {i : Nat} {l : Addr} {xs : List V} {te : TE} {t : TA} {E : XK} {D : Ends}
theorem ev_number {fs : List Int} {i : Int} (h : EvA t σ G H [.list (fs.map .int), .int i]) (hok : FeedOk fs) (hi : 0 ≤ i ∧ i < 269) : EvP (tCall spNumber [] E t) σ G H (fun d => ∃ n : Nat, n < 10 ^ 30 ∧ d = .int (n : Int)) := fun G1 H1 g Q q =>
  h G1 H1 g _ fun vs G2 H2 g2 ys => ⟨G2, fs, i, g2.s, by rw [List.append_nil]; exact ys, hok, hi, fun n hn v G3 H3 g3 hv => q v _ G3 H3 (g2.trans g3) ⟨n, hn, rfl⟩ hv⟩
theorem s_appP {P : PyData → Prop} (o : Ow B C G H l xs) (hv : σ[i]? = some (some (.ref l))) (h : EvP te σ G H P) (hz : xs.length < 100000)
    (k : ∀ v d G1 H1, P d → Dx G1 v d → Sb G G1 → Ow B C G1 H1 l (xs ++ [v]) → D.nx σ H1) : tDrop (tBM K "list" rAppend (tVar i) (tCons te tNil)) D σ H :=
  ⟨_, hv, Or.inl ⟨rfl, _, Or.inl (Or.inl o.hl)⟩, h G H (.refl o.s) _ fun v d G1 H1 g hP x => ⟨l, xs, v, rfl, rfl, (o.step g).hl, Evl.sz_lt hz, k v d G1 _ hP x g.g (o.put g _)⟩⟩
end
theorem parts_app {ks : List Str} {ds : List PyData} (h : Parts ks ds) {k : Str} {d : PyData} (hd : PartD k d) : Parts (ks ++ [k]) (ds ++ [d]) := by
  induction h with
  | nil => exact .cons hd .nil
  | cons h _ ih => exact .cons h ih
theorem PartD.fl {k : Str} {d : PyData} (h : PartD k d) : Fl d := by
  cases h with
  | name h => exact Nat.le_trans (name_cs h).1 (by decide)
  | @num n h =>
    show (n : Int).natAbs.log2 < 1920
    rw [Int.natAbs_natCast]
    by_cases e : n = 0
    · rw [e]; decide
    · exact Nat.lt_trans ((Nat.log2_lt e).mpr (Nat.lt_of_lt_of_le h (by decide +kernel : 10 ^ 30 ≤ 2 ^ 100))) (by decide)
  | bound b => exact trivial
theorem Parts.fl {ks : List Str} {ds : List PyData} (h : Parts ks ds) : ∀ d ∈ ds, Fl d := by
  induction h with
  | nil => intro d hd; cases hd
  | cons h _ ih =>
    intro d hd
    rcases List.mem_cons.mp hd with rfl | q
    · exact h.fl
    · exact ih d q
theorem ok_Lwritten_deed (T : Txt K mg A) : FnOk P w K mg base CX0 2 A.a_Lwritten_deed A.d_Lwritten_deed ["_law_feed_here", "_law_at"] spWD := by
  have G_Lname := ok_Lname (P := P) (w := w) (base := base) T
  have G_Lnumber := ok_Lnumber (P := P) (w := w) (base := base) T
  refine T.F_Lwritten_deed.ok sc_Lwritten_deed (fun vs H Q E h => ?_) (fun cdv A' outer st H vs Q E hr h => ?_)
  · obtain ⟨_, _, _, _, h, _⟩ := h
    exact h.len
  obtain ⟨G, fs, i, s0, hx, hok, hi, k⟩ := h
  obtain ⟨v0, v1, rfl, h_feed_here, h_at⟩ := dxs2 hx
  obtain rfl := h_at.int_eq
  have h_at : ∀ G, Dx G (.int i) (.int i) := fun _ => .int _
  refine ⟨_, (pss_cons (ps_set (i := 2) sc_Lwritten_deed.nd rfl (Or.inl rfl) (pe_disp (pps_cons pe_str pe_str (pps_cons pe_str pe_str (pps_cons pe_str pe_str (pps_cons pe_str pe_str (pps_cons pe_str pe_str (pps_cons pe_str pe_str (pps_cons pe_str pe_str pps_nil))))))) rfl rfl (by decide) (by decide)))
      (pss_cons (ps_set (i := 3) sc_Lwritten_deed.nd rfl (Or.inl rfl) (pe_disp (pps_cons pe_str pe_str (pps_cons pe_str pe_str (pps_cons pe_str pe_str (pps_cons pe_str pe_str (pps_cons pe_str pe_str (pps_cons pe_str pe_str pps_nil)))))) rfl rfl (by decide) (by decide)))
      (pss_cons (ps_expr (pe_dupd (pv 2) (pv 3) ⟨by rfl, by rfl, by rfl, by rfl⟩))
      (pss_cons (ps_expr (pe_dupd (pv 2) (pe_disp (pps_cons pe_str pe_str (pps_cons pe_str pe_str (pps_cons pe_str pe_str pps_nil))) rfl rfl (by decide) (by decide)) ⟨by rfl, by rfl, by rfl, by rfl⟩))
      (pss_cons (ps_set (i := 4) sc_Lwritten_deed.nd rfl (Or.inl rfl) (pe_op op_cat (pe_callB (cr_sortedSK (K := K)) (by rfl) T.b.sorted (by decide +kernel) (pa_cons (pe_callTy (call_list_dK rfl) (by rfl) T.b.list (by decide +kernel) (pa_cons (pv 2) pa_nil)) pa_nil)) (pe_lst (pa_cons pe_str pa_nil))))
      (pss_cons (ps_set (i := 5) sc_Lwritten_deed.nd rfl (Or.inl rfl) (pe_ix (ix_listK (K := K)) (pv 4) (pe_op op_mod (pe_ix (ix_listK (K := K)) (pv 0) (pv 1) (fun _ _ => rfl)) pe_int) (fun _ _ => rfl)))
      (pss_cons (ps_if (pt_cmpR op_eq (pv 5) pe_str (nomark _))
      (pss_one (ps_ret (pe_tup (pa_cons pe_str (pa_cons (pe_callTy (call_tupleK (K := K)) (by rfl) T.b.tuple (by decide +kernel) (pa_cons (pe_lc (own := [("_law_k", 6)]) (g := gName 6) rfl sc_Lwritten_deed.nd (pi_range1 (by rfl) T.b.range (pa_cons (pe_op op_mod (pe_ix (ix_listK (K := K)) (pv 0) (pe_op op_add (pv 1) pe_int) (fun _ _ => rfl)) pe_int) pa_nil)) (blkOk_by (own := [("_law_k", 6)]) (N := N_Lwritten_deed) (sc := defScope s_Lwritten_deed) (by decide +kernel)) (fun _ _ _ _ _ => (pg_name (i := 6) sc_Lwritten_deed.nd rfl (Or.inl rfl))) (fun _ _ _ _ _ => pts_nil) (fun _ _ _ _ _ => by exact (pe_call G_Lname (hr.mono (by omega)) (by rfl) T.m_Lname T.F_Lname.kp T.b_Lname .nil pass0 (pa_cons (pe_ix (ix_listK (K := K)) (pv 0) (pe_op op_add (pe_op op_add (pv 1) pe_int) (pv 6)) (fun _ _ => rfl)) (pa_cons (pv 6) pa_nil))))) pa_nil)) pa_nil)))))
      pss_nil)
      (pss_cons (ps_set (i := 7) sc_Lwritten_deed.nd rfl (Or.inl rfl) (pe_lst (pa_cons (pv 5) pa_nil)))
      (pss_cons (ps_for PassesOwn.never rfl (pi_enumS (by rfl) T.b.enumerate (pa_cons (pe_dget (hu1 hr) (pv 2) (pv 5) (fun _ _ => rfl)) pa_nil)) (pg_tup (by rfl) (pgs_cons (pg_name (i := 6) sc_Lwritten_deed.nd rfl (Or.inl rfl)) (pgs_cons (pg_name (i := 8) sc_Lwritten_deed.nd rfl (Or.inl rfl)) pgs_nil)))
      (pss_one (ps_if (pt_cmpR op_eq (pv 8) pe_str (nomark _))
      (pss_one (ps_expr (pe_bm PySem.F.plainAttrs_list PySem.F.slot_list_append PySem.F.type_list_append mt_append (pv 7) (pa_cons (pe_call G_Lname (hr.mono (by omega)) (by rfl) T.m_Lname T.F_Lname.kp T.b_Lname .nil pass0 (pa_cons (pe_ix (ix_listK (K := K)) (pv 0) (pe_op op_add (pe_op op_add (pv 1) pe_int) (pv 6)) (fun _ _ => rfl)) (pa_cons (pe_op op_mod (pe_ix (ix_listK (K := K)) (pv 0) (pe_op op_add (pe_op op_add (pv 1) pe_int) (pv 6)) (fun _ _ => rfl)) pe_int) pa_nil))) pa_nil))))
      (pss_one (ps_if (pt_cmpR op_eq (pv 8) pe_str (nomark _))
      (pss_one (ps_expr (pe_bm PySem.F.plainAttrs_list PySem.F.slot_list_append PySem.F.type_list_append mt_append (pv 7) (pa_cons (pe_call G_Lnumber (hr.mono (by omega)) (by rfl) T.m_Lnumber T.F_Lnumber.kp T.b_Lnumber .nil pass0 (pa_cons (pv 0) (pa_cons (pe_op op_add (pe_op op_add (pv 1) pe_int) (pv 6)) pa_nil))) pa_nil))))
      (pss_one (ps_expr (pe_bm PySem.F.plainAttrs_list PySem.F.slot_list_append PySem.F.type_list_append mt_append (pv 7) (pa_cons (pe_cmpR op_eq (pe_op op_mod (pe_ix (ix_listK (K := K)) (pv 0) (pe_op op_add (pe_op op_add (pv 1) pe_int) (pv 6)) (fun _ _ => rfl)) pe_int) pe_int (nomark _)) pa_nil)))))))))
      (pss_one (ps_ret (pe_callTy (call_tupleK (K := K)) (by rfl) T.b.tuple (by decide +kernel) (pa_cons (pv 7) pa_nil))))))))))))), ?_⟩
  -- the shapes
  refine seqI (fun p hp => ⟨upd_same, L1, rfl, by decide, ?_⟩)
  have n1 : G p = none := s0.none hp
  have g1 : Gr [] G H G (upd (upd H p (.dK [])) p (.dK S1)) := ((Gr.refl s0).own hp).write (Or.inr hp) n1
  have h1 : (upd (upd H p (.dK [])) p (.dK S1)) p = some (.dK S1) := upd_same
  change tSeq _ _ _ [some v0, some (.int i), some (.ref p), none, none, none, none, none, none] (upd (upd H p (.dK [])) p (.dK S1))
  generalize upd (upd H p (.dK [])) p (.dK S1) = H1 at g1 h1
  refine seqI (fun q hq => ⟨upd_same, L2, rfl, by decide, ?_⟩)
  have n2 : G q = none := g1.s.none hq
  have hpq : p ≠ q := fun e => by rw [e, hq] at h1; cases h1
  have g2 : Gr [] G H1 G (upd (upd H1 q (.dK [])) q (.dK S2)) := ((Gr.refl g1.s).own hq).write (Or.inr hq) n2
  have h2 : (upd (upd H1 q (.dK [])) q (.dK S2)) q = some (.dK S2) := upd_same
  have h1 : (upd (upd H1 q (.dK [])) q (.dK S2)) p = some (.dK S1) := ((upd_ne hpq).trans (upd_ne hpq)).trans h1
  have g2 := g1.trans g2
  change tSeq _ _ _ [some v0, some (.int i), some (.ref p), some (.ref q), none, none, none, none, none] (upd (upd H1 q (.dK [])) q (.dK S2))
  generalize upd (upd H1 q (.dK [])) q (.dK S2) = H2 at g2 h1 h2
  refine seqI ⟨_, rfl, p, rfl, Or.inl ⟨_, Or.inl h1⟩, _, rfl, q, S1, S2, rfl, h1, Or.inl h2, hpq, len_S.1, ?_⟩
  have g3 : Gr [] G H G (upd H2 p (.dK (mergeK S1 S2))) := g2.write (Or.inr hp) n1
  have h1 : (upd H2 p (.dK (mergeK S1 S2))) p = some (.dK (mergeK S1 S2)) := upd_same
  change tSeq _ _ _ [some v0, some (.int i), some (.ref p), some (.ref q), none, none, none, none, none] (upd H2 p (.dK (mergeK S1 S2)))
  generalize upd H2 p (.dK (mergeK S1 S2)) = H3 at g3 h1
  refine seqI ⟨_, rfl, p, rfl, Or.inl ⟨_, Or.inl h1⟩, fun r hr => ⟨upd_same, L3, rfl, by decide, ?_⟩⟩
  have hpr : p ≠ r := fun e => by rw [e, hr] at h1; cases h1
  have h1 : (upd (upd H3 r (.dK [])) r (.dK S3)) p = some (.dK (mergeK S1 S2)) := ((upd_ne hpr).trans (upd_ne hpr)).trans h1
  have g4 : Gr [] G H G (upd (upd H3 r (.dK [])) r (.dK S3)) := (g3.own hr).write (Or.inr (g3.free hr)) (g3.s.none hr)
  refine ⟨r, mergeK S1 S2, S3, rfl, h1, Or.inl upd_same, hpr, len_S.2, ?_⟩
  change tSeq _ _ _ [some v0, some (.int i), some (.ref p), some (.ref q), none, none, none, none, none] (upd (upd (upd H3 r (.dK [])) r (.dK S3)) p (.dK S4))
  have g4 : Gr [] G H G (upd (upd (upd H3 r (.dK [])) r (.dK S3)) p (.dK S4)) := g4.write (Or.inr hp) n1
  have h1 : (upd (upd (upd H3 r (.dK [])) r (.dK S3)) p (.dK S4)) p = some (.dK S4) := upd_same
  generalize upd (upd (upd H3 r (.dK [])) r (.dK S3)) p (.dK S4) = H4 at g4 h1
  have lwk : (srt WK).length = 16 := by rw [len_srt]; rfl
  -- the words
  refine q_asg (d := .list ((srt WK ++ [("fair" : Str)]).map .str)) (EvM.dat (evm_is (ev_opM (EvM.dat (ev_sk rfl h1)) (EvM.dat (ev_lst (ea_cons ev_str ea_nil) (by show 1 ≤ 100000; decide))) (rd_cat (by rw [List.length_map, lwk]; show 16 + 1 ≤ 100000; decide))) (by rw [List.map_append]; rfl))) g4.s fun v4 G5 H5 g5 h_words => ?_
  have h1 := sb_of g5 _ _ h1
  have g5 := g4.trans g5
  have h_feed_here := h_feed_here.mono g5.g
  have b0 := nth_ok hok (i := i) (by omega) (by omega)
  obtain ⟨wd, hwd⟩ : ∃ wd, wd = (srt WK ++ [("fair" : Str)]).getD (nth fs i % 17).toNat "" := ⟨_, rfl⟩
  have lw : (srt WK ++ [("fair" : Str)]).length = 17 := by rw [List.length_append, lwk]; rfl
  refine q_asg (d := .str wd) (ev_op (ev_var rfl h_words) ((fun h_at => (ev_op (ev_op (ev_var rfl h_feed_here) (ev_var rfl h_at) (rd_ixL (by walk_at "at"))) ev_int (rd_mod (by walk_at "arith")))) (h_at _)) (rd_ixL (by rw [hwd]; exact atI_strs (by omega) (by omega)))) g5.s fun v5 G6 H6 g6 hv5 => ?_
  obtain rfl := hv5.str_eq
  have h1 := sb_of g6 _ _ h1
  have h_feed_here := h_feed_here.mono g6.g
  have g6 := g5.trans g6
  have hmem : wd ∈ WK ∨ wd = "fair" := by
    have : wd ∈ srt WK ++ [("fair" : Str)] := by
      rw [hwd, List.getD_eq_getElem?_getD, List.getElem?_eq_getElem (by omega)]
      exact List.getElem_mem _
    rcases List.mem_append.mp this with h | h
    · exact Or.inl (mem_srt.mp h)
    · exact Or.inr (List.mem_singleton.mp h)
  refine q_when (b := decide (wd = "fair")) (et_test (ev_op (ev_var rfl (.str wd)) ev_str rd_eqS)) g6.s (fun hb G7 H7 g7 => ?_) (fun hb G7 H7 g7 => ?_)
  · have h_feed_here := h_feed_here.mono g7.g
    have g7 := g6.trans g7
    have b8 := nth_ok hok (i := i + 8) (by omega) (by omega)
    have hm5 : nth fs (i + 8) % 5 < 5 := by omega
    obtain ⟨zs, hzs⟩ : ∃ zs : List Str, zs = (List.range (nth fs (i + 8) % 5).toNat).map fun j : Nat => nm (nth fs (i + 1 + (j : Int))) (j : Int) := ⟨_, rfl⟩
    have hz : ∀ z ∈ zs, isName z = true := fun z h => by
      rw [hzs] at h
      obtain ⟨j, _, rfl⟩ := List.mem_map.mp h
      exact nm_name _ _
    have hzl : zs.length ≤ 4 := by rw [hzs, List.length_map, List.length_range]; omega
    refine s_ret (d := (Dd.fair zs).data) (ev_tup (ea_cons ev_str (ea_cons (ev_tupleL (EvM.dat (evm_is (ev_lcR (m := nth fs (i + 8) % 5) (fun _ => true) (fun j => .str (nm (nth fs (i + 1 + (j : Int))) (j : Int))) (ea_cons ((fun h_at => (ev_op (ev_op (ev_var rfl h_feed_here) (ev_op (ev_var rfl h_at) ev_int rd_add) (rd_ixL (by walk_at "at"))) ev_int (rd_mod (by walk_at "arith")))) (h_at _)) ea_nil) ⟨by omega, by omega⟩ (fun _ => rfl) (fun _ _ => et_yes) (fun j hj _ => ?_)) ?_))) ea_nil)) (by show 2 ≤ 100000; omega)) g7.s fun v G8 H8 g8 hv => k (.fair zs) ⟨by omega, fun z h => Nat.le_trans (name_cs (hz z h)).1 (by decide)⟩ hz (by show zs.length + 1 ≤ 10; omega) v G8 H8 (g7.trans g8) hv
    · have h_k : ∀ G, Dx G (.int (j : Int)) (.int (j : Int)) := fun _ => .int _
      have bj := nth_ok hok (i := i + 1 + (j : Int)) (by omega) (by omega)
      exact ev_callE (nth fs (i + 1 + (j : Int)), (j : Int)) (ea_cons ((fun h_at h_k => (ev_op (ev_var rfl h_feed_here) (ev_op (ev_op (ev_var rfl h_at) ev_int rd_add) (ev_var rfl h_k) rd_add) (rd_ixL (by walk_at "at")))) (h_at _) (h_k _)) (ea_cons (ev_var rfl (.int (j : Int))) ea_nil)) ⟨bj, by show 0 ≤ (j : Int) ∧ (j : Int) < 100; omega⟩ rfl
    · rw [given_map, hzs, List.map_map]; rfl
  have hne := of_decide_eq_false hb
  have hW : wd ∈ WK := hmem.resolve_right hne
  have h1 := sb_of g7 _ _ h1
  have h_feed_here := h_feed_here.mono g7.g
  have g7 := g6.trans g7
  obtain ⟨ks, kz, hks, hval, hcode, hk6, hkk, _, hw8⟩ := kok_of hW
  -- its parts
  refine q_asgM (ev_lst (ea_cons (ev_var rfl (.str wd)) ea_nil) (by show 1 ≤ 100000; decide)) g7.s fun l xs G8 H8 g8 l0 ln ll hx8 => ?_
  have h1 := sb_of g8 _ _ h1
  have h_feed_here := h_feed_here.mono g8.g
  have o8 : Ow G7 H7 G8 H8 l xs := Ow.mk0 g8 ll ln
  have hsz : kz.cps.size = ks.length := by
    have := congrArg List.length hcode
    rwa [Array.length_toList, List.length_map] at this
  dsimp only [gName, List.set]
  refine seqI ⟨_, rfl, _, rfl, p, .str kz, rfl, Or.inl ⟨S4, .inr wd, Or.inl h1, rfl, hval.symm⟩, kz, rfl, for_it walk_q (fun j σ' H' => ∃ (G' : Hp) (xs : List V) (ds : List PyData) (v6 v8 : Option V), σ' = [some v0, some (.int i), some (.ref p), some (.ref q), some v4, some (.str wd), v6, some (.ref l), v8] ∧ Ow G7 H7 G' H' l xs ∧ Dxs G' xs (.str wd :: ds) ∧ Parts (ks.take j) ds ∧ Dx G' v0 (.list (fs.map .int)))
    ⟨G8, xs, [], none, none, rfl, o8, hx8, .nil, h_feed_here⟩ (fun _ _ _ _ _ => trivial) (fun j x σ' H' H'' hj I y => ?_) (fun σ' H' I => ?_)⟩
  · obtain ⟨G', xs, ds, v6, v8, rfl, o, dx, hp', h_feed_here⟩ := I
    obtain ⟨T', c, rfl, hT', hc, rfl⟩ := y
    have hjk : j < ks.length := by rw [← hsz]; exact hj
    obtain ⟨kj, hkj⟩ : ∃ kj, ks[j]? = some kj := ⟨_, List.getElem?_eq_getElem hjk⟩
    have hcj : c = code kj := by
      have : kz.cps.toList[j]? = some c := by rw [Array.getElem?_toList]; exact hc
      rw [hcode, List.getElem?_map, hkj] at this
      exact (Option.some.inj this).symm
    have htk : ks.take (j + 1) = ks.take j ++ [kj] := by rw [List.take_add_one, hkj]; rfl
    have hdl : ds.length ≤ 6 := by rw [← hp'.len, List.length_take]; omega
    have hxl : xs.length < 100000 := by rw [dx.len, List.length_cons]; omega
    have gT : Gr [] G' H' G' (upd H' T' (.tup [.int (j : Int), .str ⟨#[c]⟩])) := (Gr.refl o.s).own hT'
    have o := o.step gT
    have h_k : ∀ G, Dx G (.int (j : Int)) (.int (j : Int)) := fun _ => .int _
    refine ⟨T', [.int (j : Int), .str ⟨#[c]⟩], rfl, Or.inl (Or.inl upd_same), rfl, .int (j : Int), [.str ⟨#[c]⟩], rfl, .str ⟨#[c]⟩, [], rfl, rfl, ?_⟩
    generalize upd H' T' (.tup [.int (j : Int), .str ⟨#[c]⟩]) = H9 at gT o
    have bj := nth_ok hok (i := i + 1 + (j : Int)) (by omega) (by omega)
    have bk := nth_ok hok (i := i + 2 + (j : Int)) (by omega) (by omega)
    have fin : ∀ {xs' : List V} {d : PyData} {v : V} {G1 H1 : Hp}, PartD kj d → Dx G1 v d → Ow G7 H7 G1 H1 l (xs ++ [v]) → Gr [] G' H9 G1 H1 ∨ Sb G' G1 → ∃ (G' : Hp) (xs : List V) (ds : List PyData) (v6 v8 : Option V), [some v0, some (V.int i), some (.ref p), some (.ref q), some v4, some (.str wd), some (.int (j : Int)), some (.ref l), some (.str ⟨#[c]⟩)] = [some v0, some (.int i), some (.ref p), some (.ref q), some v4, some (.str wd), v6, some (.ref l), v8] ∧ Ow G7 H7 G' H1 l xs ∧ Dxs G' xs (.str wd :: ds) ∧ Parts (ks.take (j + 1)) ds ∧ Dx G' v0 (.list (fs.map .int)) := fun {xs' d v G1 H1} hpd hv o1 s1 => by
      have s1 : Sb G' G1 := s1.elim (fun g => g.g) id
      exact ⟨G1, xs ++ [v], ds ++ [d], _, _, rfl, o1, (dx.mono s1).app (Dxs.one hv), by rw [htk]; exact parts_app hp' hpd, h_feed_here.mono s1⟩
    dsimp only [gName, List.set]
    refine s_if (b := decide (c = 104)) (et_test (ev_is (ev_op (ev_var rfl (.str ⟨#[c]⟩)) ev_str rd_eqS) (congrArg PyData.bool sign_is))) o.s (fun hb G1 H1 g1 => ?_) (fun hb G1 H1 g1 => ?_)
    · have hb := of_decide_eq_true hb
      have ek : kj = "name" := by
        rw [hcj] at hb
        unfold code at hb
        split at hb
        · assumption
        · split at hb <;> omega
      have h_feed_here := h_feed_here.mono g1.g
      refine s_app' (o.step g1) rfl (d := .str (nm (nth fs (i + 1 + (j : Int))) (nth fs (i + 2 + (j : Int)) % 9))) (ev_callE (nth fs (i + 1 + (j : Int)), nth fs (i + 2 + (j : Int)) % 9) (ea_cons ((fun h_at h_k => (ev_op (ev_var rfl h_feed_here) (ev_op (ev_op (ev_var rfl h_at) ev_int rd_add) (ev_var rfl h_k) rd_add) (rd_ixL (by walk_at "at")))) (h_at _) (h_k _)) (ea_cons ((fun h_at h_k => (ev_op (ev_op (ev_var rfl h_feed_here) (ev_op (ev_op (ev_var rfl h_at) ev_int rd_add) (ev_var rfl h_k) rd_add) (rd_ixL (by walk_at "at"))) ev_int (rd_mod (by walk_at "arith")))) (h_at _) (h_k _)) ea_nil)) ⟨bj, by show 0 ≤ nth fs (i + 2 + (j : Int)) % 9 ∧ nth fs (i + 2 + (j : Int)) % 9 < 100; omega⟩ rfl) hxl fun v G2 H2 hv g2 o2 => ?_
      exact fin (xs' := []) (by rw [ek]; exact .name (nm_name _ _)) hv o2 (Or.inr (g1.g.trans g2.g))
    · have hb := of_decide_eq_false hb
      have h_feed_here := h_feed_here.mono g1.g
      refine s_if (b := decide (c = 110)) (et_test (ev_is (ev_op (ev_var rfl (.str ⟨#[c]⟩)) ev_str rd_eqS) (congrArg PyData.bool sign_is))) (o.step g1).s (fun hb2 G2 H2 g2 => ?_) (fun hb2 G2 H2 g2 => ?_)
      · have hb2 := of_decide_eq_true hb2
        have ek : kj = "number" := by
          rw [hcj] at hb hb2
          unfold code at hb hb2
          split at hb2
          · omega
          · split at hb2
            · assumption
            · omega
        have h_feed_here := h_feed_here.mono g2.g
        refine s_appP ((o.step g1).step g2) rfl (ev_number (i := i + 1 + (j : Int)) (ea_cons (ev_var rfl h_feed_here) (ea_cons ((fun h_at h_k => (ev_op (ev_op (ev_var rfl h_at) ev_int rd_add) (ev_var rfl h_k) rd_add)) (h_at _) (h_k _)) ea_nil)) hok ⟨by omega, by omega⟩) hxl fun v d G3 H3 hP hv g3 o3 => ?_
        obtain ⟨n, hn, rfl⟩ := hP
        exact fin (xs' := []) (by rw [ek]; exact .num hn) hv o3 (Or.inr ((g1.g.trans g2.g).trans g3))
      · have hb2 := of_decide_eq_false hb2
        have ek : kj = "bound" := by
          have hm := hkk kj (List.mem_of_getElem? hkj)
          rw [hcj] at hb hb2
          unfold code at hb hb2
          have hm : kj = "name" ∨ kj = "number" ∨ kj = "bound" := by simpa using hm
          rcases hm with e | e | e
          · rw [if_pos e] at hb; omega
          · rw [if_neg (by rw [e]; decide +kernel), if_pos e] at hb2; omega
          · exact e
        have h_feed_here := h_feed_here.mono g2.g
        refine s_app' ((o.step g1).step g2) rfl (d := .bool (decide (nth fs (i + 1 + (j : Int)) % 2 = 0))) (ev_op ((fun h_at h_k => (ev_op (ev_op (ev_var rfl h_feed_here) (ev_op (ev_op (ev_var rfl h_at) ev_int rd_add) (ev_var rfl h_k) rd_add) (rd_ixL (by walk_at "at"))) ev_int (rd_mod (by walk_at "arith")))) (h_at _) (h_k _)) ev_int rd_eqI) hxl fun v G3 H3 hv g3 o3 => ?_
        exact fin (xs' := []) (by rw [ek]; exact .bound _) hv o3 (Or.inr ((g1.g.trans g2.g).trans g3.g))
  · obtain ⟨G', xs, ds, v6, v8, rfl, o, dx, hp', _⟩ := I
    rw [hsz, List.take_length] at hp'
    have hdl : ds.length ≤ 6 := by rw [← hp'.len]; exact hk6
    have gF := (o.g.drop l0)
    refine s_ret (d := (Dd.one wd ds ⟨hne, hw8, hdl⟩).data) (ev_tupO rfl o.hl dx) o.s fun v G1 H1 g1 hv => k (.one wd ds ⟨hne, hw8, hdl⟩) hp'.fl ⟨ks, hks, hp'⟩ (by show (wd :: ds.map pw).length ≤ 10; rw [List.length_cons, List.length_map]; omega) v G1 H1 ((g7.trans gF).trans g1) hv

end
end

-- la14.txt
section

local macro_rules | `(tactic| walk_at "arith") => `(tactic| first | omega | decide | (unfold CMul; omega) | (unfold CDiv; omega) | (unfold CPow; decide) | (refine ⟨?_, ?_⟩ <;> omega) | (simp; done) | (simp; omega))
local macro_rules | `(tactic| walk_at "wide") => `(tactic| exact ⟨by decide, by decide +kernel⟩)
section
variable {P : Program} {w : World} {K : PySem.W.Frag} {mg : Str → Option Value} {base : Heap} {A : Ad}
/-! ### the comparison -/
mutual
def dep : PyData → Nat
  | .list ds => 1 + deps ds
  | .tuple ds => 1 + deps ds
  | _ => 0
def deps : List PyData → Nat
  | [] => 0
  | d :: ds => max (dep d) (deps ds)
end
theorem dep_le : ∀ {ds : List PyData} {d : PyData}, d ∈ ds → dep d ≤ deps ds
  | e :: es, d, h => by
    rcases List.mem_cons.mp h with h | h
    · subst h; unfold deps; exact Nat.le_max_left _ _
    · unfold deps; exact Nat.le_trans (dep_le h) (Nat.le_max_right _ _)
mutual
/-- data that the comparison goes through -/
def good : PyData → Bool
  | .list ds => decide (ds.length ≤ 40000) && goods ds
  | .tuple ds => decide (ds.length ≤ 40000) && goods ds
  | .dict _ => false
  | _ => true
def goods : List PyData → Bool
  | [] => true
  | d :: ds => good d && goods ds
end
theorem good_of : ∀ {ds : List PyData} {d : PyData}, goods ds = true → d ∈ ds → good d = true
  | e :: es, d, hg, h => by
    unfold goods at hg
    rw [Bool.and_eq_true] at hg
    rcases List.mem_cons.mp h with h | h
    · subst h; exact hg.1
    · exact good_of hg.2 h
abbrev spSame (n : Nat) : Sp := SpD (α := PyData) (fun d => [d, d]) (fun d => dep d ≤ n ∧ good d = true) (fun _ => .bool true)
theorem rd_eqX {d : PyData} (h : dep d = 0) (hd : good d = true) : RD rEq d d (.bool true) := fun G1 _ x y s hx hy _ q => by
  have e : x = y := by
    cases hx with
    | non => rw [hy.non_eq]
    | bl b => rw [hy.bl_eq]
    | int i => rw [hy.int_eq]
    | str z => rw [hy.str_eq]
    | lst _ _ => unfold dep at h; omega
    | tup _ _ => unfold dep at h; omega
    | dct _ => unfold good at hd; cases hd
  subst e
  refine ⟨?_, ?_⟩
  · cases hx with
    | non => rfl
    | bl b => rfl
    | int i => rfl
    | str z => rfl
    | lst _ _ => unfold dep at h; omega
    | tup _ _ => unfold dep at h; omega
    | dct _ => unfold good at hd; cases hd
  · rw [decide_eq_true rfl]; exact q _ G1 _ (.refl s) (.bl _)
theorem rd_ixanyL {K : PySem.W.Frag} {ds : List PyData} {i : Int} {d : PyData} (h : atI ds i = some d) : RD (rIx K) (.list ds) (.int i) d := fun G1 H1 x y s hx hy Q q => Or.inl (rd_ixL h G1 H1 x y s hx hy Q q)
theorem rd_ixanyT {K : PySem.W.Frag} {ds : List PyData} {i : Int} {d : PyData} (h : atI ds i = some d) : RD (rIx K) (.tuple ds) (.int i) d := fun G1 H1 x y s hx hy Q q => Or.inr (Or.inl (rd_ixT h G1 H1 x y s hx hy Q q))
theorem atI_getD {ds : List PyData} {i : Nat} (h : i < ds.length) : atI ds (i : Int) = some (ds.getD i .none) := by
  refine atI_nat ?_
  rw [List.getD_eq_getElem?_getD, List.getElem?_eq_getElem h]; rfl
theorem getD_mem {ds : List PyData} {i : Nat} (h : i < ds.length) : ds.getD i .none ∈ ds := by
  rw [List.getD_eq_getElem?_getD, List.getElem?_eq_getElem h]; exact List.getElem_mem h
theorem given_true (n : Nat) : (given n (fun _ => true) fun _ => PyData.bool true) = (List.replicate n true).map .bool := by
  unfold given
  induction n with
  | zero => rfl
  | succ n ih =>
    rw [List.range_succ, List.filter_append, List.map_append, ih, List.replicate_succ', List.map_append]
    rfl
theorem all_rep (n : Nat) : (List.replicate n true).all id = true := by
  induction n with
  | zero => rfl
  | succ n ih => rw [List.replicate_succ, List.all_cons, ih]; rfl
local macro_rules | `(tactic| walk_at "eqx") => `(tactic| first | rfl | (unfold dep; rfl) | (unfold good; rfl))
local macro_rules | `(tactic| walk_at "pre") => `(tactic| first | exact hcall _ ‹_› | trivial)
local macro_rules | `(tactic| walk_at "lenany") => `(tactic| first | exact cd_lenL | exact cd_lenT)
local macro_rules | `(tactic| walk_at "ixany") => `(tactic| first | exact rd_ixanyL (atI_getD (by omega)) | exact rd_ixanyT (atI_getD (by omega)))
local macro_rules | `(tactic| walk_at "bools") => `(tactic| exact given_true _)
local macro_rules | `(tactic| walk_at "kit") => `(tactic| first | exact kit_NoneType_bool | exact kit_NoneType_int | exact kit_NoneType_str | exact kit_NoneType_list | exact kit_NoneType_tuple | exact kit_bool_bool | exact kit_bool_int | exact kit_bool_str | exact kit_bool_list | exact kit_bool_tuple | exact kit_int_bool | exact kit_int_int | exact kit_int_str | exact kit_int_list | exact kit_int_tuple | exact kit_str_bool | exact kit_str_int | exact kit_str_str | exact kit_str_list | exact kit_str_tuple | exact kit_list_bool | exact kit_list_int | exact kit_list_str | exact kit_list_list | exact kit_list_tuple | exact kit_tuple_bool | exact kit_tuple_int | exact kit_tuple_str | exact kit_tuple_list | exact kit_tuple_tuple)
def spSame' : Nat → Sp
  | 0 => fun _ _ _ _ => False
  | n + 1 => spSame n
theorem step_Lsame (T : Txt K mg A) (n : Nat) (G_Lsame : FnOk P w K mg base CX0 n A.a_Lsame A.d_Lsame ["_law_found", "_law_due"] (spSame' n)) : FnOk P w K mg base CX0 (n + 1) A.a_Lsame A.d_Lsame ["_law_found", "_law_due"] (spSame n) := by
  refine T.F_Lsame.ok sc_Lsame (fun vs H Q E h => ?_) (fun cdv A' outer s H vs Q E hr h => ?_)
  · obtain ⟨G, x, _, hx, _⟩ := h
    exact hx.len
  · obtain ⟨G, d, s0, hx, ⟨hdep, hgood⟩, k⟩ := h
    obtain ⟨v0, v1, rfl, h_found, h_due⟩ := dxs2 hx
    refine ⟨_, (pss_cons (ps_if (pt_val (pe_callB (call_isiTK (K := K)) (by rfl) T.b.isinstance (by decide +kernel) (pa_cons (pv 1) (pa_cons (pe_tup (pa_cons (pe_bltn (by rfl) T.b.tuple (by decide +kernel) (v := .ty "tuple") rfl) (pa_cons (pe_bltn (by rfl) T.b.list (by decide +kernel) (v := .ty "list") rfl) pa_nil))) pa_nil))))
      (pss_cons (ps_if (PW.pt (pw_or (pt_cmpR op_ne (pe_callB (call_isiKK (K := K)) (by rfl) T.b.isinstance (by decide +kernel) (pa_cons (pv 1) (pa_cons (pe_bltn (by rfl) T.b.tuple (by decide +kernel) (v := .ty "tuple") rfl) pa_nil))) (pe_callB (call_isiKK (K := K)) (by rfl) T.b.isinstance (by decide +kernel) (pa_cons (pv 0) (pa_cons (pe_bltn (by rfl) T.b.tuple (by decide +kernel) (v := .ty "tuple") rfl) pa_nil))) (nomark _)) (pw_or1 (pt_cmpR op_ne (pe_callB (call_isiKK (K := K)) (by rfl) T.b.isinstance (by decide +kernel) (pa_cons (pv 1) (pa_cons (pe_bltn (by rfl) T.b.list (by decide +kernel) (v := .ty "list") rfl) pa_nil))) (pe_callB (call_isiKK (K := K)) (by rfl) T.b.isinstance (by decide +kernel) (pa_cons (pv 0) (pa_cons (pe_bltn (by rfl) T.b.list (by decide +kernel) (v := .ty "list") rfl) pa_nil))) (nomark _)))))
      (pss_one (ps_ret pe_bl))
      pss_nil)
      (pss_one (ps_ret (pe_and (pe_cmpR op_eq (pe_callB (call_lenK (K := K)) (by rfl) T.b.len (by decide +kernel) (pa_cons (pv 0) pa_nil)) (pe_callB (call_lenK (K := K)) (by rfl) T.b.len (by decide +kernel) (pa_cons (pv 1) pa_nil)) (nomark _)) (pe_one (pe_callB (cr_allK (K := K) rfl) (by rfl) T.b.all (by decide +kernel) (pa_cons (pe_lc (own := [("_law_k", 2)]) (g := gName 2) rfl sc_Lsame.nd (pi_range1 (by rfl) T.b.range (pa_cons (pe_callB (call_lenK (K := K)) (by rfl) T.b.len (by decide +kernel) (pa_cons (pv 1) pa_nil)) pa_nil)) (blkOk_by (own := [("_law_k", 2)]) (N := N_Lsame) (sc := defScope s_Lsame) (by decide +kernel)) (fun _ _ _ _ _ => (pg_name (i := 2) sc_Lsame.nd rfl (Or.inl rfl))) (fun _ _ _ _ _ => pts_nil) (fun _ _ _ _ _ => by exact (pe_call G_Lsame hr (by rfl) T.m_Lsame T.F_Lsame.kp T.b_Lsame .nil pass0 (pa_cons (pe_ix (ix_seqK (K := K)) (pv 0) (pv 2) (fun _ _ => rfl)) (pa_cons (pe_ix (ix_seqK (K := K)) (pv 1) (pv 2) (fun _ _ => rfl)) pa_nil))))) pa_nil)))))))
      pss_nil)
      (pss_cons (ps_if (pt_cmpR op_isN (pv 1) pe_non (nomark _))
      (pss_one (ps_ret (pe_cmpR op_isN (pv 0) pe_non (nomark _))))
      pss_nil)
      (pss_cons (ps_if (PW.pt (pw_or (pt_val (pe_callB (call_isiKK (K := K)) (by rfl) T.b.isinstance (by decide +kernel) (pa_cons (pv 1) (pa_cons (pe_bltn (by rfl) T.b.bool (by decide +kernel) (v := .ty "bool") rfl) pa_nil)))) (pw_or1 (pt_val (pe_callB (call_isiKK (K := K)) (by rfl) T.b.isinstance (by decide +kernel) (pa_cons (pv 0) (pa_cons (pe_bltn (by rfl) T.b.bool (by decide +kernel) (v := .ty "bool") rfl) pa_nil)))))))
      (pss_one (ps_ret (pe_and (pe_callB (call_isiKK (K := K)) (by rfl) T.b.isinstance (by decide +kernel) (pa_cons (pv 1) (pa_cons (pe_bltn (by rfl) T.b.bool (by decide +kernel) (v := .ty "bool") rfl) pa_nil))) (pe_and (pe_callB (call_isiKK (K := K)) (by rfl) T.b.isinstance (by decide +kernel) (pa_cons (pv 0) (pa_cons (pe_bltn (by rfl) T.b.bool (by decide +kernel) (v := .ty "bool") rfl) pa_nil))) (pe_one (pe_cmpR op_eq (pv 0) (pv 1) (nomark _)))))))
      pss_nil)
      (pss_one (ps_ret (pe_and (pe_cmpR op_eq (pe_callB (call_isiKK (K := K)) (by rfl) T.b.isinstance (by decide +kernel) (pa_cons (pv 0) (pa_cons (pe_bltn (by rfl) T.b.int_ (by decide +kernel) (v := .ty "int") rfl) pa_nil))) (pe_callB (call_isiKK (K := K)) (by rfl) T.b.isinstance (by decide +kernel) (pa_cons (pv 1) (pa_cons (pe_bltn (by rfl) T.b.int_ (by decide +kernel) (v := .ty "int") rfl) pa_nil))) (nomark _)) (pe_one (pe_cmpR op_eq (pv 0) (pv 1) (nomark _))))))))), ?_⟩
    have ret : ∀ {te : TE} {D : Ends} {G1 H1 : Hp}, D.rt = Q → Gr [] G H G1 H1 → EvD te [some v0, some v1, none] G1 H1 (.bool true) → tRet te D [some v0, some v1, none] H1 := fun {te D G1 H1} hD g1 he => by
      subst hD
      exact s_ret he g1.s fun v G2 H2 g2 hv => k v G2 H2 (g1.trans g2) hv
    have g0 : Gr [] G H G H := .refl s0
    cases d with
    | none =>
      refine q_when (b := false) (evt_is (et_B (ev_isiT2 (ev_var rfl h_due) (by walk_at "kit") (by walk_at "kit"))) rfl) s0 (fun hb => by cases hb) (fun _ G1 H1 g1 => ?_)
      have h_found := h_found.mono g1.g; have h_due := h_due.mono g1.g
      refine q_when (b := true) (evt_is (et_test (ev_op (ev_var rfl h_due) ev_non rd_isN)) rfl) g1.s (fun _ G2 H2 g2 => ?_) (fun hb => by cases hb)
      have h_found := h_found.mono g2.g
      exact ret rfl (g1.trans g2) (ev_op (ev_var rfl h_found) ev_non rd_isN)
    | bool b =>
      refine q_when (b := false) (evt_is (et_B (ev_isiT2 (ev_var rfl h_due) (by walk_at "kit") (by walk_at "kit"))) rfl) s0 (fun hb => by cases hb) (fun _ G1 H1 g1 => ?_)
      have h_found := h_found.mono g1.g; have h_due := h_due.mono g1.g
      refine q_when (b := false) (evt_is (et_test (ev_op (ev_var rfl h_due) ev_non rd_isN)) rfl) g1.s (fun hb => by cases hb) (fun _ G2 H2 g2 => ?_)
      have h_found := h_found.mono g2.g; have h_due := h_due.mono g2.g
      refine q_when (b := true) (evt_is (et_or (et_B (ev_isi (ev_var rfl h_due) (by walk_at "kit"))) (fun _ => (et_B (ev_isi (ev_var rfl h_found) (by walk_at "kit"))))) rfl) g2.s (fun _ G3 H3 g3 => ?_) (fun hb => by cases hb)
      have h_found := h_found.mono g3.g; have h_due := h_due.mono g3.g
      exact ret rfl ((g1.trans g2).trans g3) (ev_is (ev_andV (ev_isi (ev_var rfl h_due) (by walk_at "kit")) (fun _ => (ev_andV (ev_isi (ev_var rfl h_found) (by walk_at "kit")) (fun _ => (ev_op (ev_var rfl h_found) (ev_var rfl h_due) (rd_eqX (by walk_at "eqx") (by walk_at "eqx"))))))) rfl)
    | int i =>
      refine q_when (b := false) (evt_is (et_B (ev_isiT2 (ev_var rfl h_due) (by walk_at "kit") (by walk_at "kit"))) rfl) s0 (fun hb => by cases hb) (fun _ G1 H1 g1 => ?_)
      have h_found := h_found.mono g1.g; have h_due := h_due.mono g1.g
      refine q_when (b := false) (evt_is (et_test (ev_op (ev_var rfl h_due) ev_non rd_isN)) rfl) g1.s (fun hb => by cases hb) (fun _ G2 H2 g2 => ?_)
      have h_found := h_found.mono g2.g; have h_due := h_due.mono g2.g
      refine q_when (b := false) (evt_is (et_or (et_B (ev_isi (ev_var rfl h_due) (by walk_at "kit"))) (fun _ => (et_B (ev_isi (ev_var rfl h_found) (by walk_at "kit"))))) rfl) g2.s (fun hb => by cases hb) (fun _ G3 H3 g3 => ?_)
      have h_found := h_found.mono g3.g; have h_due := h_due.mono g3.g
      exact ret rfl ((g1.trans g2).trans g3) (ev_is (ev_andV (ev_op (ev_isi (ev_var rfl h_found) (by walk_at "kit")) (ev_isi (ev_var rfl h_due) (by walk_at "kit")) rd_eqB) (fun _ => (ev_op (ev_var rfl h_found) (ev_var rfl h_due) (rd_eqX (by walk_at "eqx") (by walk_at "eqx"))))) rfl)
    | str z =>
      refine q_when (b := false) (evt_is (et_B (ev_isiT2 (ev_var rfl h_due) (by walk_at "kit") (by walk_at "kit"))) rfl) s0 (fun hb => by cases hb) (fun _ G1 H1 g1 => ?_)
      have h_found := h_found.mono g1.g; have h_due := h_due.mono g1.g
      refine q_when (b := false) (evt_is (et_test (ev_op (ev_var rfl h_due) ev_non rd_isN)) rfl) g1.s (fun hb => by cases hb) (fun _ G2 H2 g2 => ?_)
      have h_found := h_found.mono g2.g; have h_due := h_due.mono g2.g
      refine q_when (b := false) (evt_is (et_or (et_B (ev_isi (ev_var rfl h_due) (by walk_at "kit"))) (fun _ => (et_B (ev_isi (ev_var rfl h_found) (by walk_at "kit"))))) rfl) g2.s (fun hb => by cases hb) (fun _ G3 H3 g3 => ?_)
      have h_found := h_found.mono g3.g; have h_due := h_due.mono g3.g
      exact ret rfl ((g1.trans g2).trans g3) (ev_is (ev_andV (ev_op (ev_isi (ev_var rfl h_found) (by walk_at "kit")) (ev_isi (ev_var rfl h_due) (by walk_at "kit")) rd_eqB) (fun _ => (ev_op (ev_var rfl h_found) (ev_var rfl h_due) (rd_eqX (by walk_at "eqx") (by walk_at "eqx"))))) rfl)
    | list ds =>
      unfold dep at hdep
      obtain ⟨m, rfl⟩ : ∃ m, n = m + 1 := ⟨n - 1, by omega⟩
      unfold good at hgood
      rw [Bool.and_eq_true] at hgood
      obtain ⟨hl, hg⟩ := hgood
      have hl := of_decide_eq_true hl
      refine q_when (b := true) (evt_is (et_B (ev_isiT2 (ev_var rfl h_due) (by walk_at "kit") (by walk_at "kit"))) rfl) s0 (fun _ G1 H1 g1 => ?_) (fun hb => by cases hb)
      have h_found := h_found.mono g1.g; have h_due := h_due.mono g1.g
      refine q_when (b := false) (evt_is (et_or (et_test (ev_op (ev_isi (ev_var rfl h_due) (by walk_at "kit")) (ev_isi (ev_var rfl h_found) (by walk_at "kit")) rd_neB)) (fun _ => (et_test (ev_op (ev_isi (ev_var rfl h_due) (by walk_at "kit")) (ev_isi (ev_var rfl h_found) (by walk_at "kit")) rd_neB)))) rfl) g1.s (fun hb => by cases hb) (fun _ G2 H2 g2 => ?_)
      have h_found := h_found.mono g2.g; have h_due := h_due.mono g2.g
      have hcall : ∀ i : Nat, (i : Int) < ((ds.length : Nat) : Int) → dep (ds.getD i .none) ≤ m ∧ good (ds.getD i .none) = true := fun i hi => by
        have hm := getD_mem (show i < ds.length by omega)
        exact ⟨Nat.le_trans (dep_le hm) (by omega), good_of hg hm⟩
      exact ret rfl (g1.trans g2) (ev_is (ev_andV (ev_op (ev_cb (ea_cons (ev_var rfl h_found) ea_nil) cd_lenL) (ev_cb (ea_cons (ev_var rfl h_due) ea_nil) cd_lenL) rd_eqI)
        (fun _ => ev_cb (ea_cons (ev_lcR (fun _ => true) (fun _ => .bool true) (ea_cons (ev_cb (ea_cons (ev_var rfl h_due) ea_nil) cd_lenL) ea_nil) (by omega) (fun _ => rfl) (fun i hi => et_yes)
          (fun i hi hf => ev_call (ds.getD i .none) (ea_cons (ev_op (ev_var rfl h_found) (ev_var rfl (.int _)) (rd_ixanyL (atI_getD (by omega)))) (ea_cons (ev_op (ev_var rfl h_due) (ev_var rfl (.int _)) (rd_ixanyL (atI_getD (by omega)))) ea_nil)) (hcall i hi))).dat ea_nil) (cd_all' (given_true _))))
        (by rw [all_rep, decide_eq_true rfl]; rfl))
    | tuple ds =>
      unfold dep at hdep
      obtain ⟨m, rfl⟩ : ∃ m, n = m + 1 := ⟨n - 1, by omega⟩
      unfold good at hgood
      rw [Bool.and_eq_true] at hgood
      obtain ⟨hl, hg⟩ := hgood
      have hl := of_decide_eq_true hl
      refine q_when (b := true) (evt_is (et_B (ev_isiT2 (ev_var rfl h_due) (by walk_at "kit") (by walk_at "kit"))) rfl) s0 (fun _ G1 H1 g1 => ?_) (fun hb => by cases hb)
      have h_found := h_found.mono g1.g; have h_due := h_due.mono g1.g
      refine q_when (b := false) (evt_is (et_or (et_test (ev_op (ev_isi (ev_var rfl h_due) (by walk_at "kit")) (ev_isi (ev_var rfl h_found) (by walk_at "kit")) rd_neB)) (fun _ => (et_test (ev_op (ev_isi (ev_var rfl h_due) (by walk_at "kit")) (ev_isi (ev_var rfl h_found) (by walk_at "kit")) rd_neB)))) rfl) g1.s (fun hb => by cases hb) (fun _ G2 H2 g2 => ?_)
      have h_found := h_found.mono g2.g; have h_due := h_due.mono g2.g
      have hcall : ∀ i : Nat, (i : Int) < ((ds.length : Nat) : Int) → dep (ds.getD i .none) ≤ m ∧ good (ds.getD i .none) = true := fun i hi => by
        have hm := getD_mem (show i < ds.length by omega)
        exact ⟨Nat.le_trans (dep_le hm) (by omega), good_of hg hm⟩
      exact ret rfl (g1.trans g2) (ev_is (ev_andV (ev_op (ev_cb (ea_cons (ev_var rfl h_found) ea_nil) cd_lenT) (ev_cb (ea_cons (ev_var rfl h_due) ea_nil) cd_lenT) rd_eqI)
        (fun _ => ev_cb (ea_cons (ev_lcR (fun _ => true) (fun _ => .bool true) (ea_cons (ev_cb (ea_cons (ev_var rfl h_due) ea_nil) cd_lenT) ea_nil) (by omega) (fun _ => rfl) (fun i hi => et_yes)
          (fun i hi hf => ev_call (ds.getD i .none) (ea_cons (ev_op (ev_var rfl h_found) (ev_var rfl (.int _)) (rd_ixanyT (atI_getD (by omega)))) (ea_cons (ev_op (ev_var rfl h_due) (ev_var rfl (.int _)) (rd_ixanyT (atI_getD (by omega)))) ea_nil)) (hcall i hi))).dat ea_nil) (cd_all' (given_true _))))
        (by rw [all_rep, decide_eq_true rfl]; rfl))
    | dict _ => unfold good at hgood; cases hgood
theorem ok_Lsame (T : Txt K mg A) : ∀ n : Nat, FnOk P w K mg base CX0 n A.a_Lsame A.d_Lsame ["_law_found", "_law_due"] (spSame' n)
  | 0 => ⟨fun _ _ _ _ h => h.elim, fun _ _ _ _ _ _ _ _ _ _ _ _ _ h => h.elim⟩
  | n + 1 => step_Lsame T n (ok_Lsame T n)

end
end

-- lk38e.txt
section

local macro_rules | `(tactic| walk_at "arith") => `(tactic| first | omega | decide | (unfold CMul; omega) | (unfold CDiv; omega) | (unfold CPow; decide) | (refine ⟨?_, ?_⟩ <;> omega) | (simp; done) | (simp; omega))
local macro_rules | `(tactic| walk_at "wide") => `(tactic| exact ⟨by decide, by decide +kernel⟩)
section
variable {P : Program} {w : World} {K : PySem.W.Frag} {mg : Str → Option Value} {base : Heap} {A : Ad}
/-! ### the law -/
local macro_rules | `(tactic| walk_at "at") => `(tactic| first | exact atI_feed ‹FeedOk _› (by omega) (by omega))
local macro_rules | `(tactic| walk_at "pre") => `(tactic| first | trivial | omega)
theorem dd_good (D : Dd) (h : D.told) : dep D.data ≤ 2 ∧ good D.data = true := by
  cases D with
  | one w ps q =>
    have key : ∀ (l : List PyData), (∀ d ∈ l, Fl d) → deps l ≤ 0 ∧ goods l = true := by
      intro l
      induction l with
      | nil => intro _; exact ⟨Nat.le_refl 0, rfl⟩
      | cons d l ih =>
        intro hl
        obtain ⟨a, b⟩ := ih fun e he => hl e (List.mem_cons_of_mem _ he)
        have hd := hl d (by simp)
        cases d with
        | bool c => exact ⟨by simp only [deps, dep]; omega, by simp only [goods, good, b]; rfl⟩
        | int c => exact ⟨by simp only [deps, dep]; omega, by simp only [goods, good, b]; rfl⟩
        | str c => exact ⟨by simp only [deps, dep]; omega, by simp only [goods, good, b]; rfl⟩
        | _ => exact hd.elim
    obtain ⟨a, b⟩ := key ps h
    refine ⟨?_, ?_⟩
    · show dep (.tuple (.str w :: ps)) ≤ 2
      simp only [dep, deps]; omega
    · show good (.tuple (.str w :: ps)) = true
      have : ps.length ≤ 6 := q.2.2
      simp only [good, goods, b, List.length_cons, Bool.and_true, Bool.true_and]
      exact decide_eq_true (by omega)
  | fair zs =>
    have key : ∀ l : List Str, deps (l.map PyData.str) ≤ 0 ∧ goods (l.map PyData.str) = true := by
      intro l
      induction l with
      | nil => exact ⟨Nat.le_refl 0, rfl⟩
      | cons z l ih => exact ⟨by simp only [List.map_cons, deps, dep]; omega, by simp only [List.map_cons, goods, good, ih.2]; rfl⟩
    obtain ⟨a, b⟩ := key zs
    refine ⟨?_, ?_⟩
    · show dep (.tuple [.str "fair", .tuple (zs.map .str)]) ≤ 2
      simp only [dep, deps]; omega
    · show good (.tuple [.str "fair", .tuple (zs.map .str)]) = true
      have : zs.length ≤ 1000 := h.1
      simp only [good, goods, b, List.length_cons, List.length_nil, List.length_map, Bool.and_true, Bool.true_and]
      rw [decide_eq_true (by omega : zs.length ≤ 40000)]; rfl
def spLaw (K : PySem.W.Frag) : Sp := fun vs H Q _ => ∃ (a : Addr) (ns : List Int), vs = [.ref a] ∧ SqL K H a (ns.map V.int) ∧ ns.length ≤ 63 ∧ (∀ z ∈ ns, Builtin.Int.intBits z ≤ 1048576) ∧ ∀ H', Q (.bl true) H'
theorem line_len {D : Dd} (h : D.told) (hl : D.words.length ≤ 10) : D.line.length ≤ 50000 :=
  Nat.le_trans (join_len (n := 10) (b := 1921) (by decide +kernel) hl (words_ok2 h).2) (by decide)
section
variable {σ : L2.St} {G H : Hp} {B : Bd} {t : TA} {E : XK}
theorem ev_wd {fs : List Int} {i : Int} (h : EvA t σ G H [.list (fs.map .int), .int i]) (hok : FeedOk fs) (hi : 0 ≤ i ∧ i < 260) : EvP (tCall spWD [] E t) σ G H (fun d => ∃ D : Dd, D.told ∧ D.wr ∧ D.words.length ≤ 10 ∧ d = D.data) := fun G1 H1 g Q q =>
  h G1 H1 g _ fun vs G2 H2 g2 ys => ⟨G2, fs, i, g2.s, by rw [List.append_nil]; exact ys, hok, hi, fun D h1 h2 h3 v G3 H3 g3 hv => q v _ G3 H3 (g2.trans g3) ⟨D, h1, h2, h3, rfl⟩ hv⟩
theorem ev_read {D : Dd} (h : EvA t σ G H [.str D.line]) (h1 : D.told) (h2 : D.wr) (h3 : D.words.length ≤ 10) : EvD (tCall (spRdd B) [] E t) σ G H D.data := fun G1 H1 g Q q =>
  h G1 H1 g _ fun vs G2 H2 g2 ys => by
    obtain ⟨ws, e1, e2, e3, e4, e5⟩ := Dd.back h2 (by omega)
    exact ⟨G2, D.line, D.word, ws, g2.s, by rw [List.append_nil]; exact ys, line_len h1 h3, e1, e2, e3, e4, fun e => (by rw [e5] at e; cases e), fun d e v G3 H3 g3 hv => q v G3 H3 (g2.trans g3) (by rw [e5] at e; cases e; exact hv)⟩
end
theorem ok_Law {B : Bd} {pA : Addr} (T : Txt K mg A) (U : Ux K mg B) (Z : PtX K w mg pA) : FnOk P w K mg base CX0 6 A.a_Law A.d_Law ["_law_script"] (spLaw K) := by
  have G_Lfeed := ok_Lfeed (P := P) (w := w) (base := base) T
  have G_Lwritten_deed := ok_Lwritten_deed (P := P) (w := w) (base := base) T
  have G_deed_line := ok_deed_line (P := P) (w := w) (base := base) T
  have G_Lline := ok_Lline (P := P) (w := w) (base := base) T
  have G_read_deed := ok_read_deed (P := P) (w := w) (base := base) T U Z
  have G_Lsame : FnOk P w K mg base CX0 4 A.a_Lsame A.d_Lsame ["_law_found", "_law_due"] (spSame 3) := ok_Lsame (P := P) (w := w) (base := base) T 4
  refine T.F_Law.ok sc_Law (fun vs H Q E h => by obtain ⟨_, _, rfl, _⟩ := h; rfl) (fun cdv A' outer sh H vs Q E hr h => ?_)
  obtain ⟨a0, ns, rfl, hS, hlen, _, k⟩ := h
  refine ⟨_, (pss_cons (ps_set (i := 1) sc_Law.nd rfl (Or.inl rfl) (pe_call G_Lfeed (hr.mono (by omega)) (by rfl) T.m_Lfeed T.F_Lfeed.kp T.b_Lfeed .nil pass0 (pa_cons (pv 0) pa_nil)))
      (pss_cons (ps_for PassesOwn.never rfl (pi_range1 (by rfl) T.b.range (pa_cons pe_int pa_nil)) (pg_name (i := 2) sc_Law.nd rfl (Or.inl rfl))
      (pss_cons (ps_set (i := 3) sc_Law.nd rfl (Or.inl rfl) (pe_call G_Lwritten_deed (hr.mono (by omega)) (by rfl) T.m_Lwritten_deed T.F_Lwritten_deed.kp T.b_Lwritten_deed .nil pass0 (pa_cons (pv 1) (pa_cons (pe_op op_mul pe_int (pv 2)) pa_nil))))
      (pss_cons (ps_set (i := 4) sc_Law.nd rfl (Or.inl rfl) (pe_call G_deed_line (hr.mono (by omega)) (by rfl) T.m_deed_line T.F_deed_line.kp T.b_deed_line .nil pass0 (pa_cons (pv 3) pa_nil)))
      (pss_one (ps_if (PW.pt (pw_or (pt_not (pt_val (pe_call G_Lsame (hr.mono (by omega)) (by rfl) T.m_Lsame T.F_Lsame.kp T.b_Lsame .nil pass0 (pa_cons (pv 4) (pa_cons (pe_call G_Lline (hr.mono (by omega)) (by rfl) T.m_Lline T.F_Lline.kp T.b_Lline .nil pass0 (pa_cons (pv 3) pa_nil)) pa_nil))))) (pw_or1 (pt_not (pt_val (pe_call G_Lsame (hr.mono (by omega)) (by rfl) T.m_Lsame T.F_Lsame.kp T.b_Lsame .nil pass0 (pa_cons (pe_call G_read_deed (hr.mono (by omega)) (by rfl) T.m_read_deed T.F_read_deed.kp T.b_read_deed .nil passL (pa_cons (pv 4) pa_nil)) (pa_cons (pv 3) pa_nil))))))))
      (pss_one (ps_ret pe_bl))
      pss_nil)))))
      (pss_one (ps_ret pe_bl)))), ?_⟩
  refine q_feed rfl hS hlen fun lf fs G1 H1 hok g1 h_feed_here => ?_
  refine q_forR [] (fun n σ' G' H' => ∃ v2 v3 v4 : Option V, σ' = [some (.ref a0), some (.ref lf), v2, v3, v4]) (m := 20) (ea_cons ev_int ea_nil) ⟨by decide, by decide⟩ g1.s (fun G2 H2 g2 => ⟨none, none, none, rfl⟩) (fun G2 H2 g2 n σ' G3 H3 hn gg I => ?_) (fun σ' G2 H2 gg I => ?_)
  · obtain ⟨v2, v3, v4, rfl⟩ := I
    have h_feed_here := (h_feed_here.mono g2.g).mono gg.g
    dsimp only [List.set]
    refine q_asgP (ev_wd (i := 11 * (n : Int)) (ea_cons (ev_var rfl h_feed_here) (ea_cons (ev_op ev_int (ev_var rfl (.int (n : Int))) (rd_mul (by unfold CMul; omega))) ea_nil)) hok ⟨by omega, by omega⟩) gg.s fun vd d G4 H4 g4 hP hvd => ?_
    obtain ⟨D, ht, hw, hl, rfl⟩ := hP
    refine q_asg (d := .str D.line) (ev_callE (f := fun D : Dd => .str D.line) D (ea_cons (ev_var rfl hvd) ea_nil) ht rfl) g4.s fun vl G5 H5 g5 hvl => ?_
    obtain rfl := hvl.str_eq
    have hvd := hvd.mono g5.g
    have hgd := dd_good D ht
    refine s_if (b := false) (evt_is (et_or (b := false) (c := false) (evt_is (et_not (et_test (ev_callE (f := fun _ : PyData => .bool true) (.str D.line) (ea_cons (ev_var rfl (.str D.line)) (ea_cons (ev_callE (f := fun D : Dd => .str D.line) D (ea_cons (ev_var rfl hvd) ea_nil) ht rfl) ea_nil)) ⟨by simp only [dep]; omega, rfl⟩ rfl))) rfl)
      (fun _ => evt_is (et_not (et_test (ev_callE (f := fun _ : PyData => .bool true) D.data (ea_cons (ev_read (ea_cons (ev_var rfl (.str D.line)) ea_nil) ht hw hl) (ea_cons (ev_var rfl hvd) ea_nil)) ⟨by omega, hgd.2⟩ rfl))) rfl)) rfl) g5.s (fun hb => by cases hb) (fun _ G6 H6 g6 => ?_)
    exact nxI ⟨G6, gg.trans ((g4.trans g5).trans g6), _, _, _, rfl⟩
  · obtain ⟨v2, v3, v4, rfl⟩ := I
    exact retI (te := tC (.bl true)) (k H2)

end
end
theorem all_mk {l : PySem.W.OpenLaw} {w : World} {K : PySem.W.Frag} {h : Heap} {mg : Str → Option Value} {fa f0 f1 f2 f3 f4 f5 f6 f7 f8 f9 f10 f11 f12 f13  cH cBadLine : Addr} (X : K.In h) (G : h.Ns mainGlobals mg) (hfa : mg "law" = some (.ref fa))
    {od0 an0 od1 an1 od2 an2 od3 an3 od4 an4 od5 an5 od6 an6 od7 an7 od8 an8 od9 an9 od10 an10 od11 an11 od12 an12 od13 an13 : Option Addr} {sl0 sl1 sl2 sl3 sl4 sl5 sl6 sl7 sl8 sl9 sl10 sl11 sl12 sl13 : Array (Option Value)} {oc0 kV0 dc0 pm0 cd0 ct0 oc1 kV1 dc1 pm1 cd1 ct1 oc2 kV2 dc2 pm2 cd2 ct2 oc3 kV3 dc3 pm3 cd3 ct3 oc4 kV4 dc4 pm4 cd4 ct4 oc5 kV5 dc5 pm5 cd5 ct5 oc6 kV6 dc6 pm6 cd6 ct6 oc7 kV7 dc7 pm7 cd7 ct7 oc8 kV8 dc8 pm8 cd8 ct8 oc9 kV9 dc9 pm9 cd9 ct9 oc10 kV10 dc10 pm10 cd10 ct10 oc11 kV11 dc11 pm11 cd11 ct11 oc12 kV12 dc12 pm12 cd12 ct12 oc13 kV13 dc13 pm13 cd13 ct13 : Value} {t_LONGEST_NAME t_MOST_FIGURES : Tok}
    {nm13 qn13 : Str} {N13 : Addr} {bs13 sub13 : List Value} {sn13 : List Str} {ab13 : Bool} {col13 : Option Bool} {dd13 : Option Addr} {m013 m113 m213 m313 m513 : Option Value}
    {pP aP0 aP1 aP2 aP3 aP4 aP5 aP6 aP7 aP8 aP9 aP10 aP11 aP12 aP13 aP14 aP15 : Addr} {hP0 hP1 hP2 hP3 hP4 hP5 hP6 hP7 hP8 hP9 hP10 hP11 hP12 hP13 hP14 hP15 : Int} {nP nP0 nP1 nP2 nP3 nP4 nP5 nP6 nP7 nP8 nP9 nP10 nP11 nP12 nP13 nP14 nP15 : Nat} {tP0 tP1 tP2 tP3 tP4 tP5 tP6 tP7 tP8 tP9 tP10 tP11 tP12 tP13 tP14 tP15 kP0_0 kP0_1 kP1_0 kP1_1 kP2_0 kP2_1 kP3_0 kP4_0 kP5_0 kP6_0 kP6_1 kP6_2 kP6_3 kP6_4 kP6_5 kP7_0 kP7_1 kP8_0 kP8_1 kP8_2 kP8_3 kP9_0 kP9_1 kP9_2 kP9_3 kP10_0 kP10_1 kP10_2 kP11_0 kP12_0 kP12_1 kP13_0 kP13_1 kP14_0 kP14_1 kP14_2 kP15_0 kP15_1 kP15_2 kP15_3 : Tok} {ddP0 ddP1 ddP2 ddP3 ddP4 ddP5 ddP6 ddP7 ddP8 ddP9 ddP10 ddP11 ddP12 ddP13 ddP14 ddP15 : Option Addr} {slP0 slP1 slP2 slP3 slP4 slP5 slP6 slP7 slP8 slP9 slP10 slP11 slP12 slP13 slP14 slP15 : Array (Option Value)}
    (a0 : PySem.W.nsIn K mainGlobals "is_name" = some (some (.ref f0)))
    (l0 : K.lookup f0 = some ⟨oc0, od0, .func (PySem.W.fnOf "is_name" "is_name" (defArgs s_is_name) (defBody s_is_name) (defScope s_is_name) .none kV0 dc0 pm0 an0 cd0 ct0), sl0⟩)
    (c0 : PySem.W.codeIn K cd0 "is_name" = true)
    (k0 : PySem.W.keepIn K (.ref f0) = true)
    (a1 : PySem.W.nsIn K mainGlobals "is_number" = some (some (.ref f1)))
    (l1 : K.lookup f1 = some ⟨oc1, od1, .func (PySem.W.fnOf "is_number" "is_number" (defArgs s_is_number) (defBody s_is_number) (defScope s_is_number) .none kV1 dc1 pm1 an1 cd1 ct1), sl1⟩)
    (c1 : PySem.W.codeIn K cd1 "is_number" = true)
    (k1 : PySem.W.keepIn K (.ref f1) = true)
    (a2 : PySem.W.nsIn K mainGlobals "read_part" = some (some (.ref f2)))
    (l2 : K.lookup f2 = some ⟨oc2, od2, .func (PySem.W.fnOf "read_part" "read_part" (defArgs s_read_part) (defBody s_read_part) (defScope s_read_part) .none kV2 dc2 pm2 an2 cd2 ct2), sl2⟩)
    (c2 : PySem.W.codeIn K cd2 "read_part" = true)
    (k2 : PySem.W.keepIn K (.ref f2) = true)
    (a3 : PySem.W.nsIn K mainGlobals "part_word" = some (some (.ref f3)))
    (l3 : K.lookup f3 = some ⟨oc3, od3, .func (PySem.W.fnOf "part_word" "part_word" (defArgs s_part_word) (defBody s_part_word) (defScope s_part_word) .none kV3 dc3 pm3 an3 cd3 ct3), sl3⟩)
    (c3 : PySem.W.codeIn K cd3 "part_word" = true)
    (k3 : PySem.W.keepIn K (.ref f3) = true)
    (a4 : PySem.W.nsIn K mainGlobals "deed_line" = some (some (.ref f4)))
    (l4 : K.lookup f4 = some ⟨oc4, od4, .func (PySem.W.fnOf "deed_line" "deed_line" (defArgs s_deed_line) (defBody s_deed_line) (defScope s_deed_line) .none kV4 dc4 pm4 an4 cd4 ct4), sl4⟩)
    (c4 : PySem.W.codeIn K cd4 "deed_line" = true)
    (k4 : PySem.W.keepIn K (.ref f4) = true)
    (a5 : PySem.W.nsIn K mainGlobals "read_deed" = some (some (.ref f5)))
    (l5 : K.lookup f5 = some ⟨oc5, od5, .func (PySem.W.fnOf "read_deed" "read_deed" (defArgs s_read_deed) (defBody s_read_deed) (defScope s_read_deed) .none kV5 dc5 pm5 an5 cd5 ct5), sl5⟩)
    (c5 : PySem.W.codeIn K cd5 "read_deed" = true)
    (k5 : PySem.W.keepIn K (.ref f5) = true)
    (a6 : PySem.W.nsIn K mainGlobals "_law_feed" = some (some (.ref f6)))
    (l6 : K.lookup f6 = some ⟨oc6, od6, .func (PySem.W.fnOf "_law_feed" "_law_feed" (defArgs s_Lfeed) (defBody s_Lfeed) (defScope s_Lfeed) .none kV6 dc6 pm6 an6 cd6 ct6), sl6⟩)
    (c6 : PySem.W.codeIn K cd6 "_law_feed" = true)
    (k6 : PySem.W.keepIn K (.ref f6) = true)
    (a7 : PySem.W.nsIn K mainGlobals "_law_name" = some (some (.ref f7)))
    (l7 : K.lookup f7 = some ⟨oc7, od7, .func (PySem.W.fnOf "_law_name" "_law_name" (defArgs s_Lname) (defBody s_Lname) (defScope s_Lname) .none kV7 dc7 pm7 an7 cd7 ct7), sl7⟩)
    (c7 : PySem.W.codeIn K cd7 "_law_name" = true)
    (k7 : PySem.W.keepIn K (.ref f7) = true)
    (a8 : PySem.W.nsIn K mainGlobals "_law_same" = some (some (.ref f8)))
    (l8 : K.lookup f8 = some ⟨oc8, od8, .func (PySem.W.fnOf "_law_same" "_law_same" (defArgs s_Lsame) (defBody s_Lsame) (defScope s_Lsame) .none kV8 dc8 pm8 an8 cd8 ct8), sl8⟩)
    (c8 : PySem.W.codeIn K cd8 "_law_same" = true)
    (k8 : PySem.W.keepIn K (.ref f8) = true)
    (a9 : PySem.W.nsIn K mainGlobals "_law_line" = some (some (.ref f9)))
    (l9 : K.lookup f9 = some ⟨oc9, od9, .func (PySem.W.fnOf "_law_line" "_law_line" (defArgs s_Lline) (defBody s_Lline) (defScope s_Lline) .none kV9 dc9 pm9 an9 cd9 ct9), sl9⟩)
    (c9 : PySem.W.codeIn K cd9 "_law_line" = true)
    (k9 : PySem.W.keepIn K (.ref f9) = true)
    (a10 : PySem.W.nsIn K mainGlobals "_law_number" = some (some (.ref f10)))
    (l10 : K.lookup f10 = some ⟨oc10, od10, .func (PySem.W.fnOf "_law_number" "_law_number" (defArgs s_Lnumber) (defBody s_Lnumber) (defScope s_Lnumber) .none kV10 dc10 pm10 an10 cd10 ct10), sl10⟩)
    (c10 : PySem.W.codeIn K cd10 "_law_number" = true)
    (k10 : PySem.W.keepIn K (.ref f10) = true)
    (a11 : PySem.W.nsIn K mainGlobals "_law_written_deed" = some (some (.ref f11)))
    (l11 : K.lookup f11 = some ⟨oc11, od11, .func (PySem.W.fnOf "_law_written_deed" "_law_written_deed" (defArgs s_Lwritten_deed) (defBody s_Lwritten_deed) (defScope s_Lwritten_deed) .none kV11 dc11 pm11 an11 cd11 ct11), sl11⟩)
    (c11 : PySem.W.codeIn K cd11 "_law_written_deed" = true)
    (k11 : PySem.W.keepIn K (.ref f11) = true)
    (a12 : PySem.W.nsIn K mainGlobals "law" = some (some (.ref f12)))
    (l12 : K.lookup f12 = some ⟨oc12, od12, .func (PySem.W.fnOf "law" "law" (defArgs s_Law) (defBody s_Law) (defScope s_Law) .none kV12 dc12 pm12 an12 cd12 ct12), sl12⟩)
    (c12 : PySem.W.codeIn K cd12 "law" = true)
    (k12 : PySem.W.keepIn K (.ref f12) = true)
    (gc_LONGEST_NAME : PySem.W.nsIn K mainGlobals "LONGEST_NAME" = some (some (.int 8 t_LONGEST_NAME)))
    (gc_MOST_FIGURES : PySem.W.nsIn K mainGlobals "MOST_FIGURES" = some (some (.int 30 t_MOST_FIGURES)))
    (gH : PySem.W.nsIn K mainGlobals "HallError" = some (some (.ref cH)))
    (bH : PySem.W.subIn K (.ref cH) (.type "BaseException") = some true)
    (hH : PySem.W.hasDictIn K cH = true)
    (tH : PySem.W.typeIn K (.ref cH) = some (.type "type"))
    (hn : PySem.W.specialIn K (.builtin "object.__class__") "__get__" = some (some (.builtin "getset_descriptor.__get__")))
    (ht : PySem.W.takesIn K (.builtin "object.__class__") = some true)
    (g_BadLine : PySem.W.nsIn K mainGlobals "BadLine" = some (some (.ref cBadLine)))
    (x_BadLine : K.lookup cBadLine = some (PySem.excClassObj nm13 qn13 cBadLine N13 bs13 [.ref cH, .type "ValueError", .type "Exception", .type "BaseException", .type "object"] true sn13 sub13 ab13 col13 dd13 m013 m113 m213 m313 m513 "ValueError.__new__"))
    (sa_BadLine : PySem.W.findIn K (.ref cBadLine) "__setattr__" = some (some (.builtin "object.__setattr__")))
    (k_BadLine : PySem.W.keepIn K (.ref cBadLine) = true)
    (b_BadLine : PySem.W.subIn K (.ref cBadLine) (.type "BaseException") = some true)
    (t_BadLine : PySem.W.typeIn K (.ref cBadLine) = some (.type "type"))
    (s_BadLine : PySem.W.subIn K (.ref cBadLine) (.ref cH) = some true)
    (hg_BadLine : PySem.W.findIn K (.ref cBadLine) "__getattribute__" = some (some (.builtin "BaseException.__getattribute__")))
    (hk_BadLine : PySem.W.findIn K (.ref cBadLine) "__getattr__" = some none)
    (hd_BadLine : PySem.W.hasDictIn K cBadLine = true)
    (ha_BadLine : PySem.W.findIn K (.ref cBadLine) "__class__" = some (some (.builtin "object.__class__")))
    (hm_BadLine : PySem.W.mroIn K cBadLine (.type "object") = some true)
    (a13 : PySem.W.findIn K (.ref cBadLine) "__init__" = some (some (.ref f13)))
    (ti_BadLine : PySem.W.typeIn K (.ref f13) = some (.type "function"))
    (w_BadLine : PySem.W.findIn K (.ref cBadLine) "word" = some none)
    (l13 : K.lookup f13 = some ⟨oc13, od13, .func (PySem.W.fnOf "__init__" "BadLine.__init__" (defArgs s_XBadLine) (defBody s_XBadLine) (defScope s_XBadLine) .none kV13 dc13 pm13 an13 cd13 ct13), sl13⟩)
    (c13 : PySem.W.codeIn K cd13 "BadLine.__init__" = true)
    (k13 : PySem.W.keepIn K (.ref f13) = true)
    (gP : PySem.W.nsIn K mainGlobals "PARTS" = some (some (.ref pP)))
    (lP : K.lookup pP = some ⟨.type "dict", none, .dict (ents [("house", hP0, tP0, aP0), ("in", hP1, tP1, aP1), ("out", hP2, tP2, aP2), ("fail", hP3, tP3, aP3), ("mend", hP4, tP4, aP4), ("days", hP5, tP5, aP5), ("draw", hP6, tP6, aP6), ("accept", hP7, tP7, aP7), ("sign", hP8, tP8, aP8), ("blank", hP9, tP9, aP9), ("hand", hP10, tP10, aP10), ("lose", hP11, tP11, aP11), ("present", hP12, tP12, aP12), ("protest", hP13, tP13, aP13), ("ask", hP14, tP14, aP14), ("honour", hP15, tP15, aP15)]).toArray nP, #[]⟩)
    (kP : PySem.W.KeysLit w.params (ents [("house", hP0, tP0, aP0), ("in", hP1, tP1, aP1), ("out", hP2, tP2, aP2), ("fail", hP3, tP3, aP3), ("mend", hP4, tP4, aP4), ("days", hP5, tP5, aP5), ("draw", hP6, tP6, aP6), ("accept", hP7, tP7, aP7), ("sign", hP8, tP8, aP8), ("blank", hP9, tP9, aP9), ("hand", hP10, tP10, aP10), ("lose", hP11, tP11, aP11), ("present", hP12, tP12, aP12), ("protest", hP13, tP13, aP13), ("ask", hP14, tP14, aP14), ("honour", hP15, tP15, aP15)]))
    (wP : (pP == sysModules) = false)
    (vP0 : K.lookup aP0 = some ⟨.type "tuple", ddP0, .seq #[.str "name" kP0_0, .str "number" kP0_1] nP0, slP0⟩)
    (vP1 : K.lookup aP1 = some ⟨.type "tuple", ddP1, .seq #[.str "name" kP1_0, .str "number" kP1_1] nP1, slP1⟩)
    (vP2 : K.lookup aP2 = some ⟨.type "tuple", ddP2, .seq #[.str "name" kP2_0, .str "number" kP2_1] nP2, slP2⟩)
    (vP3 : K.lookup aP3 = some ⟨.type "tuple", ddP3, .seq #[.str "name" kP3_0] nP3, slP3⟩)
    (vP4 : K.lookup aP4 = some ⟨.type "tuple", ddP4, .seq #[.str "name" kP4_0] nP4, slP4⟩)
    (vP5 : K.lookup aP5 = some ⟨.type "tuple", ddP5, .seq #[.str "number" kP5_0] nP5, slP5⟩)
    (vP6 : K.lookup aP6 = some ⟨.type "tuple", ddP6, .seq #[.str "name" kP6_0, .str "name" kP6_1, .str "name" kP6_2, .str "number" kP6_3, .str "number" kP6_4, .str "bound" kP6_5] nP6, slP6⟩)
    (vP7 : K.lookup aP7 = some ⟨.type "tuple", ddP7, .seq #[.str "number" kP7_0, .str "number" kP7_1] nP7, slP7⟩)
    (vP8 : K.lookup aP8 = some ⟨.type "tuple", ddP8, .seq #[.str "number" kP8_0, .str "number" kP8_1, .str "name" kP8_2, .str "bound" kP8_3] nP8, slP8⟩)
    (vP9 : K.lookup aP9 = some ⟨.type "tuple", ddP9, .seq #[.str "number" kP9_0, .str "number" kP9_1, .str "name" kP9_2, .str "bound" kP9_3] nP9, slP9⟩)
    (vP10 : K.lookup aP10 = some ⟨.type "tuple", ddP10, .seq #[.str "number" kP10_0, .str "number" kP10_1, .str "name" kP10_2] nP10, slP10⟩)
    (vP11 : K.lookup aP11 = some ⟨.type "tuple", ddP11, .seq #[.str "number" kP11_0] nP11, slP11⟩)
    (vP12 : K.lookup aP12 = some ⟨.type "tuple", ddP12, .seq #[.str "number" kP12_0, .str "number" kP12_1] nP12, slP12⟩)
    (vP13 : K.lookup aP13 = some ⟨.type "tuple", ddP13, .seq #[.str "number" kP13_0, .str "number" kP13_1] nP13, slP13⟩)
    (vP14 : K.lookup aP14 = some ⟨.type "tuple", ddP14, .seq #[.str "number" kP14_0, .str "number" kP14_1, .str "number" kP14_2] nP14, slP14⟩)
    (vP15 : K.lookup aP15 = some ⟨.type "tuple", ddP15, .seq #[.str "number" kP15_0, .str "number" kP15_1, .str "name" kP15_2, .str "number" kP15_3] nP15, slP15⟩)
    (z_len : PySem.W.nsIn K mainGlobals "len" = some none)
    (z_range : PySem.W.nsIn K mainGlobals "range" = some none)
    (z_abs : PySem.W.nsIn K mainGlobals "abs" = some none)
    (z_int : PySem.W.nsIn K mainGlobals "int" = some none)
    (z_sum : PySem.W.nsIn K mainGlobals "sum" = some none)
    (z_isinstance : PySem.W.nsIn K mainGlobals "isinstance" = some none)
    (z_tuple : PySem.W.nsIn K mainGlobals "tuple" = some none)
    (z_list : PySem.W.nsIn K mainGlobals "list" = some none)
    (z_all : PySem.W.nsIn K mainGlobals "all" = some none)
    (z_bool : PySem.W.nsIn K mainGlobals "bool" = some none)
    (z_max : PySem.W.nsIn K mainGlobals "max" = some none)
    (z_enumerate : PySem.W.nsIn K mainGlobals "enumerate" = some none)
    (z_sorted : PySem.W.nsIn K mainGlobals "sorted" = some none)
    (z_str : PySem.W.nsIn K mainGlobals "str" = some none)
    (z_set : PySem.W.nsIn K mainGlobals "set" = some none)
    (z_zip : PySem.W.nsIn K mainGlobals "zip" = some none)
    (z_any : PySem.W.nsIn K mainGlobals "any" = some none)
    (z_min : PySem.W.nsIn K mainGlobals "min" = some none)
    (wat : PySem.W.findIn K (.ref cBadLine) "at" = some none)
    (nd : [cH, cBadLine].Nodup)
    : ∃ fd : FuncData, (∀ (s : Shared) (v : Value), BindsTo s fd ⟨[v], []⟩ [("_law_script", v)]) ∧ ∀ base : Heap, K.In base → base.Ns mainGlobals mg → FnOk l.prog w K mg base CX0 6 fa fd ["_law_script"] (spLaw K) := by
  have e := hfa.symm.trans (PySem.W.mg_of X G a12)
  cases e
  have F0 := fun_mk (st := s_is_name) l0 c0 k0
  have b0 := F0.binds (ps := ["word"]) fun _ _ _ _ _ _ us hl => match us, hl with | [_], _ => rfl
  have F1 := fun_mk (st := s_is_number) l1 c1 k1
  have b1 := F1.binds (ps := ["word"]) fun _ _ _ _ _ _ us hl => match us, hl with | [_], _ => rfl
  have F2 := fun_mk (st := s_read_part) l2 c2 k2
  have b2 := F2.binds (ps := ["kind", "word"]) fun _ _ _ _ _ _ us hl => match us, hl with | [_, _], _ => rfl
  have F3 := fun_mk (st := s_part_word) l3 c3 k3
  have b3 := F3.binds (ps := ["part"]) fun _ _ _ _ _ _ us hl => match us, hl with | [_], _ => rfl
  have F4 := fun_mk (st := s_deed_line) l4 c4 k4
  have b4 := F4.binds (ps := ["deed"]) fun _ _ _ _ _ _ us hl => match us, hl with | [_], _ => rfl
  have F5 := fun_mk (st := s_read_deed) l5 c5 k5
  have b5 := F5.binds (ps := ["line"]) fun _ _ _ _ _ _ us hl => match us, hl with | [_], _ => rfl
  have F6 := fun_mk (st := s_Lfeed) l6 c6 k6
  have b6 := F6.binds (ps := ["_law_script"]) fun _ _ _ _ _ _ us hl => match us, hl with | [_], _ => rfl
  have F7 := fun_mk (st := s_Lname) l7 c7 k7
  have b7 := F7.binds (ps := ["_law_pick", "_law_k"]) fun _ _ _ _ _ _ us hl => match us, hl with | [_, _], _ => rfl
  have F8 := fun_mk (st := s_Lsame) l8 c8 k8
  have b8 := F8.binds (ps := ["_law_found", "_law_due"]) fun _ _ _ _ _ _ us hl => match us, hl with | [_, _], _ => rfl
  have F9 := fun_mk (st := s_Lline) l9 c9 k9
  have b9 := F9.binds (ps := ["_law_deed"]) fun _ _ _ _ _ _ us hl => match us, hl with | [_], _ => rfl
  have F10 := fun_mk (st := s_Lnumber) l10 c10 k10
  have b10 := F10.binds (ps := ["_law_feed_here", "_law_at"]) fun _ _ _ _ _ _ us hl => match us, hl with | [_, _], _ => rfl
  have F11 := fun_mk (st := s_Lwritten_deed) l11 c11 k11
  have b11 := F11.binds (ps := ["_law_feed_here", "_law_at"]) fun _ _ _ _ _ _ us hl => match us, hl with | [_, _], _ => rfl
  have F12 := fun_mk (st := s_Law) l12 c12 k12
  have b12 := F12.binds (ps := ["_law_script"]) fun _ _ _ _ _ _ us hl => match us, hl with | [_], _ => rfl
  have F13 := fun_mk (st := s_XBadLine) l13 c13 k13
  have b13 := F13.binds (ps := ["self", "at"]) fun _ _ _ _ _ _ us hl => match us, hl with | [_, _], _ => rfl
  have Tx : Txt K mg (Ad.mk _ _ _ _ _ _ _ _ _ _ _ _ _ _ _ _ _ _ _ _ _ _ _ _ _ _ _ _) := ⟨⟨PySem.W.mg_none_of X G z_len, PySem.W.mg_none_of X G z_range, PySem.W.mg_none_of X G z_abs, PySem.W.mg_none_of X G z_int, PySem.W.mg_none_of X G z_sum, PySem.W.mg_none_of X G z_isinstance, PySem.W.mg_none_of X G z_tuple, PySem.W.mg_none_of X G z_list, PySem.W.mg_none_of X G z_all, PySem.W.mg_none_of X G z_bool, PySem.W.mg_none_of X G z_max, PySem.W.mg_none_of X G z_enumerate, PySem.W.mg_none_of X G z_sorted, PySem.W.mg_none_of X G z_str⟩, PySem.W.mg_none_of X G z_set, PySem.W.mg_none_of X G z_zip, PySem.W.mg_none_of X G z_any, PySem.W.mg_none_of X G z_min, PySem.W.mg_of X G gc_LONGEST_NAME, PySem.W.mg_of X G gc_MOST_FIGURES, PySem.W.mg_of X G a0, F0, b0, PySem.W.mg_of X G a1, F1, b1, PySem.W.mg_of X G a2, F2, b2, PySem.W.mg_of X G a3, F3, b3, PySem.W.mg_of X G a4, F4, b4, PySem.W.mg_of X G a5, F5, b5, PySem.W.mg_of X G a6, F6, b6, PySem.W.mg_of X G a7, F7, b7, PySem.W.mg_of X G a8, F8, b8, PySem.W.mg_of X G a9, F9, b9, PySem.W.mg_of X G a10, F10, b10, PySem.W.mg_of X G a11, F11, b11, PySem.W.mg_of X G a12, F12, b12⟩
  have X_BadLine : ExT K mg "BadLine" cBadLine cH f13 := ⟨⟨⟨⟨_, _, _, _, _, _, _, _, _, _, _, _, _, _, _, x_BadLine, rfl⟩, sa_BadLine, b_BadLine, t_BadLine, k_BadLine⟩, PySem.W.mg_of X G g_BadLine, a13, ti_BadLine, w_BadLine⟩, PySem.W.exm_ref bH hH tH s_BadLine, ⟨hg_BadLine, hk_BadLine, b_BadLine, hd_BadLine, ha_BadLine, hn, ht, hm_BadLine⟩, Gd.cls_mro x_BadLine⟩
  have Ux : Ux K mg (Bd.mk   cH cBadLine _ _) := ⟨PySem.W.mg_of X G gH, X_BadLine, F13, b13, wat, nd⟩
  have Zp : PtX K w mg pP := ptx_of (PySem.W.mg_of X G gP) lP kP wP (.cons (fun _ => Or.inr ⟨_, _, _, vP0, rfl, rfl, (by rw [sizeLine_eq]; show 2 ≤ _; omega), (.cons ⟨_, rfl⟩ (.cons ⟨_, rfl⟩ .nil))⟩) (.cons (fun _ => Or.inr ⟨_, _, _, vP1, rfl, rfl, (by rw [sizeLine_eq]; show 2 ≤ _; omega), (.cons ⟨_, rfl⟩ (.cons ⟨_, rfl⟩ .nil))⟩) (.cons (fun _ => Or.inr ⟨_, _, _, vP2, rfl, rfl, (by rw [sizeLine_eq]; show 2 ≤ _; omega), (.cons ⟨_, rfl⟩ (.cons ⟨_, rfl⟩ .nil))⟩) (.cons (fun _ => Or.inr ⟨_, _, _, vP3, rfl, rfl, (by rw [sizeLine_eq]; show 1 ≤ _; omega), (.cons ⟨_, rfl⟩ .nil)⟩) (.cons (fun _ => Or.inr ⟨_, _, _, vP4, rfl, rfl, (by rw [sizeLine_eq]; show 1 ≤ _; omega), (.cons ⟨_, rfl⟩ .nil)⟩) (.cons (fun _ => Or.inr ⟨_, _, _, vP5, rfl, rfl, (by rw [sizeLine_eq]; show 1 ≤ _; omega), (.cons ⟨_, rfl⟩ .nil)⟩) (.cons (fun _ => Or.inr ⟨_, _, _, vP6, rfl, rfl, (by rw [sizeLine_eq]; show 6 ≤ _; omega), (.cons ⟨_, rfl⟩ (.cons ⟨_, rfl⟩ (.cons ⟨_, rfl⟩ (.cons ⟨_, rfl⟩ (.cons ⟨_, rfl⟩ (.cons ⟨_, rfl⟩ .nil))))))⟩) (.cons (fun _ => Or.inr ⟨_, _, _, vP7, rfl, rfl, (by rw [sizeLine_eq]; show 2 ≤ _; omega), (.cons ⟨_, rfl⟩ (.cons ⟨_, rfl⟩ .nil))⟩) (.cons (fun _ => Or.inr ⟨_, _, _, vP8, rfl, rfl, (by rw [sizeLine_eq]; show 4 ≤ _; omega), (.cons ⟨_, rfl⟩ (.cons ⟨_, rfl⟩ (.cons ⟨_, rfl⟩ (.cons ⟨_, rfl⟩ .nil))))⟩) (.cons (fun _ => Or.inr ⟨_, _, _, vP9, rfl, rfl, (by rw [sizeLine_eq]; show 4 ≤ _; omega), (.cons ⟨_, rfl⟩ (.cons ⟨_, rfl⟩ (.cons ⟨_, rfl⟩ (.cons ⟨_, rfl⟩ .nil))))⟩) (.cons (fun _ => Or.inr ⟨_, _, _, vP10, rfl, rfl, (by rw [sizeLine_eq]; show 3 ≤ _; omega), (.cons ⟨_, rfl⟩ (.cons ⟨_, rfl⟩ (.cons ⟨_, rfl⟩ .nil)))⟩) (.cons (fun _ => Or.inr ⟨_, _, _, vP11, rfl, rfl, (by rw [sizeLine_eq]; show 1 ≤ _; omega), (.cons ⟨_, rfl⟩ .nil)⟩) (.cons (fun _ => Or.inr ⟨_, _, _, vP12, rfl, rfl, (by rw [sizeLine_eq]; show 2 ≤ _; omega), (.cons ⟨_, rfl⟩ (.cons ⟨_, rfl⟩ .nil))⟩) (.cons (fun _ => Or.inr ⟨_, _, _, vP13, rfl, rfl, (by rw [sizeLine_eq]; show 2 ≤ _; omega), (.cons ⟨_, rfl⟩ (.cons ⟨_, rfl⟩ .nil))⟩) (.cons (fun _ => Or.inr ⟨_, _, _, vP14, rfl, rfl, (by rw [sizeLine_eq]; show 3 ≤ _; omega), (.cons ⟨_, rfl⟩ (.cons ⟨_, rfl⟩ (.cons ⟨_, rfl⟩ .nil)))⟩) (.cons (fun _ => Or.inr ⟨_, _, _, vP15, rfl, rfl, (by rw [sizeLine_eq]; show 4 ≤ _; omega), (.cons ⟨_, rfl⟩ (.cons ⟨_, rfl⟩ (.cons ⟨_, rfl⟩ (.cons ⟨_, rfl⟩ .nil))))⟩) .nil))))))))))))))))
  exact ⟨_, fun s v => .of_eq rfl, fun base _ _ => ok_Law Tx Ux Zp⟩
end My
open PySem PySem.W PyProof.Rows
set_option maxRecDepth 100000 in
set_option maxHeartbeats 0 in
theorem PySem.Challenge.cw_allonge_k38_deeds_written_and_read_holds : PySem.Challenge.rw_allonge_k38_deeds_written_and_read.Holds :=
  theHead (by
  k_fill
  refine L2.walk_ofB (l := PySem.Challenge.rw_allonge_k38_deeds_written_and_read) (n := 63) (k := 6) (x := "_law_script") (CX := fun _ => L2.CX0) (sp := fun w => My.spLaw _) rfl (by decide) rfl ⟨rfl, by decide, by decide⟩ (fun w h Y => Hr.kin Y) ?F (fun _ _ a ns hl hb _ hS => ⟨a, ns, rfl, hS, hl, hb, fun _ => rfl⟩) (fun _ _ _ _ _ h => h)
  case F =>
    intro w mg fa h KX G hmg
    refine' My.all_mk KX G hmg ?a0 ?l0 ?c0 ?k0 ?a1 ?l1 ?c1 ?k1 ?a2 ?l2 ?c2 ?k2 ?a3 ?l3 ?c3 ?k3 ?a4 ?l4 ?c4 ?k4 ?a5 ?l5 ?c5 ?k5 ?a6 ?l6 ?c6 ?k6 ?a7 ?l7 ?c7 ?k7 ?a8 ?l8 ?c8 ?k8 ?a9 ?l9 ?c9 ?k9 ?a10 ?l10 ?c10 ?k10 ?a11 ?l11 ?c11 ?k11 ?a12 ?l12 ?c12 ?k12 ?gc_LONGEST_NAME ?gc_MOST_FIGURES ?gH ?bH ?hH ?tH ?hn ?ht ?g_BadLine ?x_BadLine ?sa_BadLine ?k_BadLine ?b_BadLine ?t_BadLine ?s_BadLine ?hg_BadLine ?hk_BadLine ?hd_BadLine ?ha_BadLine ?hm_BadLine ?a13 ?ti_BadLine ?w_BadLine ?l13 ?c13 ?k13 ?gP ?lP ?kP ?wP ?vP0 ?vP1 ?vP2 ?vP3 ?vP4 ?vP5 ?vP6 ?vP7 ?vP8 ?vP9 ?vP10 ?vP11 ?vP12 ?vP13 ?vP14 ?vP15 ?z_len ?z_range ?z_abs ?z_int ?z_sum ?z_isinstance ?z_tuple ?z_list ?z_all ?z_bool ?z_max ?z_enumerate ?z_sorted ?z_str ?z_set ?z_zip ?z_any ?z_min ?wat ?nd
    (case a0 => k_is)
    (case l0 => k_is)
    (case c0 => k_is)
    (case k0 => k_is)
    (case a1 => k_is)
    (case l1 => k_is)
    (case c1 => k_is)
    (case k1 => k_is)
    (case a2 => k_is)
    (case l2 => k_is)
    (case c2 => k_is)
    (case k2 => k_is)
    (case a3 => k_is)
    (case l3 => k_is)
    (case c3 => k_is)
    (case k3 => k_is)
    (case a4 => k_is)
    (case l4 => k_is)
    (case c4 => k_is)
    (case k4 => k_is)
    (case a5 => k_is)
    (case l5 => k_is)
    (case c5 => k_is)
    (case k5 => k_is)
    (case a6 => k_is)
    (case l6 => k_is)
    (case c6 => k_is)
    (case k6 => k_is)
    (case a7 => k_is)
    (case l7 => k_is)
    (case c7 => k_is)
    (case k7 => k_is)
    (case a8 => k_is)
    (case l8 => k_is)
    (case c8 => k_is)
    (case k8 => k_is)
    (case a9 => k_is)
    (case l9 => k_is)
    (case c9 => k_is)
    (case k9 => k_is)
    (case a10 => k_is)
    (case l10 => k_is)
    (case c10 => k_is)
    (case k10 => k_is)
    (case a11 => k_is)
    (case l11 => k_is)
    (case c11 => k_is)
    (case k11 => k_is)
    (case a12 => k_is)
    (case l12 => k_is)
    (case c12 => k_is)
    (case k12 => k_is)
    (case gc_LONGEST_NAME => k_is)
    (case gc_MOST_FIGURES => k_is)
    (case gH => k_is)
    (case bH => k_is)
    (case hH => k_is)
    (case tH => k_is)
    (case hn => k_is)
    (case ht => k_is)
    (case g_BadLine => k_is)
    (case x_BadLine => k_is)
    (case sa_BadLine => k_is)
    (case k_BadLine => k_is)
    (case b_BadLine => k_is)
    (case t_BadLine => k_is)
    (case s_BadLine => k_is)
    (case hg_BadLine => k_is)
    (case hk_BadLine => k_is)
    (case hd_BadLine => k_is)
    (case ha_BadLine => k_is)
    (case hm_BadLine => k_is)
    (case a13 => k_is)
    (case ti_BadLine => k_is)
    (case w_BadLine => k_is)
    (case l13 => k_is)
    (case c13 => k_is)
    (case k13 => k_is)
    (case gP => k_is)
    (case lP => k_is)
    (case kP => (repeat first | exact trivial | refine ⟨⟨_, _, rfl, rfl⟩, ?_⟩))
    (case wP => rfl)
    (case vP0 => k_is)
    (case vP1 => k_is)
    (case vP2 => k_is)
    (case vP3 => k_is)
    (case vP4 => k_is)
    (case vP5 => k_is)
    (case vP6 => k_is)
    (case vP7 => k_is)
    (case vP8 => k_is)
    (case vP9 => k_is)
    (case vP10 => k_is)
    (case vP11 => k_is)
    (case vP12 => k_is)
    (case vP13 => k_is)
    (case vP14 => k_is)
    (case vP15 => k_is)
    (case z_len => k_is)
    (case z_range => k_is)
    (case z_abs => k_is)
    (case z_int => k_is)
    (case z_sum => k_is)
    (case z_isinstance => k_is)
    (case z_tuple => k_is)
    (case z_list => k_is)
    (case z_all => k_is)
    (case z_bool => k_is)
    (case z_max => k_is)
    (case z_enumerate => k_is)
    (case z_sorted => k_is)
    (case z_str => k_is)
    (case z_set => k_is)
    (case z_zip => k_is)
    (case z_any => k_is)
    (case z_min => k_is)
    (case wat => k_is)
    (case nd => decide +kernel))
