import PyProof.Rows.All
import Wide.All
import OpenK.AllK
import Wide.FinOn
import HandS.ForMost
import HandS.Wide
import HandS.IsInst
import HandS.EndBits
import HandS.Evl
import HandS.Star
import HandS.Style
import HandS.Dict
import HandS.Small
import HandS.ExcIs
import HandS.TryOnly
import HandS.Sort
import HandS.More
import HandS.WordsExc
import HandS.Walk
import HandS.Iter
import KE.KDictSum
import HandS.DictTup
import KE.KSortTupG
import PySem.Challenge.RW_allonge_k34_the_story
set_option Elab.async false
set_option linter.all false
set_option maxRecDepth 100000
set_option maxHeartbeats 4000000
theorem PySem.W.Fast.tw6899206126870147072 : True := trivial
theorem PySem.W.Fast.tw645646949733504064 : True := trivial
theorem PySem.W.Fast.tw8190003010561200192 : True := trivial
theorem PySem.W.Fast.tw8859745527463274560 : True := trivial
theorem PySem.W.Fast.tw12555175107002084448 : True := trivial
theorem PySem.W.Fast.tw14680807022791021664 : True := trivial
theorem PySem.W.Fast.tw1023355688608670848 : True := trivial
theorem PySem.W.Fast.tw12581620445068251264 : True := trivial
theorem PySem.W.Fast.tw6071525508727473312 : True := trivial
theorem PySem.W.Fast.tw8176898263785736352 : True := trivial
theorem PySem.W.Fast.tw1299377649055022240 : True := trivial
theorem PySem.W.Fast.tw622072860254796960 : True := trivial
theorem PySem.W.Fast.tw16920039341657285824 : True := trivial
theorem PySem.W.Fast.tw985311648423018784 : True := trivial
theorem PySem.W.Fast.tw3487667011544645952 : True := trivial
theorem PySem.W.Fast.tw4064154619078516032 : True := trivial
theorem PySem.W.Fast.tw14767179914193528128 : True := trivial
theorem PySem.W.Fast.tw12310576031087456576 : True := trivial
theorem PySem.W.Fast.tw14873404275018379616 : True := trivial
theorem PySem.W.Fast.tw16934699243842485600 : True := trivial
theorem PySem.W.Fast.tw11887692282887524704 : True := trivial
theorem PySem.W.Fast.tw9157259575767061856 : True := trivial
theorem PySem.W.Fast.tw13325106190343570816 : True := trivial
theorem PySem.W.Fast.tw4033579708983557504 : True := trivial
theorem PySem.W.Fast.tw1847509700356642208 : True := trivial
theorem PySem.W.Fast.tw1645128293756609952 : True := trivial
theorem PySem.W.Fast.tw17697882556160335328 : True := trivial
theorem PySem.W.Fast.tw15923818366113720864 : True := trivial
theorem PySem.W.Fast.tw7668612602789839456 : True := trivial
theorem PySem.W.Fast.tw2567672342832081504 : True := trivial
theorem PySem.W.Fast.tw10826764659352738432 : True := trivial
theorem PySem.W.Fast.tw11485565728833522336 : True := trivial
theorem PySem.W.Fast.tw3332971747130430112 : True := trivial
theorem PySem.W.Fast.tw15669399032999569056 : True := trivial
theorem PySem.W.Fast.tw18148326249284280000 : True := trivial
theorem PySem.W.Fast.tw4721617775411096256 : True := trivial
theorem PySem.W.Fast.tw10737890772286937824 : True := trivial
theorem PySem.W.Fast.tw13537951719776860928 : True := trivial
theorem PySem.W.Fast.tw14761891763523482368 : True := trivial
theorem PySem.W.Fast.tw5175098578417231648 : True := trivial
theorem PySem.W.Fast.tw6354683195546784576 : True := trivial
theorem PySem.W.Fast.tw130126134437549920 : True := trivial
theorem PySem.W.Fast.tw13816421249094175584 : True := trivial
theorem PySem.W.Fast.tw617389952666711936 : True := trivial
theorem PySem.W.Fast.tw14045397970344634304 : True := trivial
theorem PySem.W.Fast.tw17968190529054153729 : True := trivial
theorem PySem.W.Fast.tw3336005469546794017 : True := trivial
theorem PySem.W.Fast.tw862865199958169697 : True := trivial
theorem PySem.W.Fast.tw7161327961668329569 : True := trivial
theorem PySem.W.Fast.tw17832340087380293729 : True := trivial
theorem PySem.W.Fast.tw5578755184429789281 : True := trivial
theorem PySem.W.Fast.tw14489514725310231649 : True := trivial
theorem PySem.W.Fast.tw12637718235228544129 : True := trivial
theorem PySem.W.Fast.tw10865513422268927137 : True := trivial
theorem PySem.W.Fast.tw16607868508727186593 : True := trivial
theorem PySem.W.Fast.tw5408992205805320353 : True := trivial
theorem PySem.W.Fast.tw10734453952781613217 : True := trivial
theorem PySem.W.Fast.tw11510974136011483329 : True := trivial
theorem PySem.W.Fast.tw4551546957497142529 : True := trivial
theorem PySem.W.Fast.tw3824096538692753665 : True := trivial
theorem PySem.W.Fast.tw7596411988300919073 : True := trivial
theorem PySem.W.Fast.tw9828222344301309249 : True := trivial
theorem PySem.W.Fast.tw4281533068074473825 : True := trivial
theorem PySem.W.Fast.tw11254013480523290977 : True := trivial
theorem PySem.W.Fast.tw18219870838643315073 : True := trivial
theorem PySem.W.Fast.tw13914895537629670817 : True := trivial
theorem PySem.W.Fast.tw560222317657936289 : True := trivial
theorem PySem.W.Fast.tw12777433254018806177 : True := trivial
theorem PySem.W.Fast.tw15851794915010088417 : True := trivial
theorem PySem.W.Fast.tw13277693613025072609 : True := trivial
theorem PySem.W.Fast.tw14441672803081102817 : True := trivial
theorem PySem.W.Fast.tw16273904665796356577 : True := trivial
theorem PySem.W.Fast.tw18395717415539289569 : True := trivial
theorem PySem.W.Fast.tw3941833960752838113 : True := trivial
theorem PySem.W.Fast.tw9577713716385827425 : True := trivial
theorem PySem.W.Fast.tw16748115731327515233 : True := trivial
theorem PySem.W.Fast.tw8889597098144923233 : True := trivial
theorem PySem.W.Fast.tw3043784897468895873 : True := trivial
theorem PySem.W.Fast.tw11195934203418318465 : True := trivial
theorem PySem.W.Fast.tw7396483243007844033 : True := trivial
theorem PySem.W.Fast.tw16815324404297445057 : True := trivial
theorem PySem.W.Fast.tw14165413938871555777 : True := trivial
theorem PySem.W.Fast.tw5500479192398112481 : True := trivial
theorem PySem.W.Fast.tw6456409330206137089 : True := trivial
theorem PySem.W.Fast.tw4252344398273732385 : True := trivial
theorem PySem.W.Fast.tw4952795744745025313 : True := trivial
theorem PySem.W.Fast.tw6082794039227705153 : True := trivial
theorem PySem.W.Fast.tw8932442611470233409 : True := trivial
theorem PySem.W.Fast.tw4273172568643779457 : True := trivial
theorem PySem.W.Fast.tw5790217862318347137 : True := trivial
theorem PySem.W.Fast.tw13846273515792071553 : True := trivial
theorem PySem.W.Fast.tw1930008894880742273 : True := trivial
theorem PySem.W.Fast.tw5003094532098033601 : True := trivial
theorem PySem.W.Fast.tw4283699882496823233 : True := trivial
theorem PySem.W.Fast.tw2818443584567421889 : True := trivial
theorem PySem.W.Fast.tw1461443029073257409 : True := trivial
theorem PySem.W.Fast.tw9208595263714065377 : True := trivial
theorem PySem.W.Fast.tw5005280207319804930 : True := trivial
theorem PySem.W.Fast.tw17029716655417359362 : True := trivial
theorem PySem.W.Fast.tw12586123737865521186 : True := trivial
theorem PySem.W.Fast.tw14976036259018841122 : True := trivial
theorem PySem.W.Fast.tw12302176774109895714 : True := trivial
theorem PySem.W.Fast.tw6221250637426325602 : True := trivial
theorem PySem.W.Fast.tw11720933008506070146 : True := trivial
theorem PySem.W.Fast.tw13038636707019339938 : True := trivial
theorem PySem.W.Fast.tw13735610212819777698 : True := trivial
theorem PySem.W.Fast.tw6407305098107831458 : True := trivial
theorem PySem.W.Fast.tw751002454551218338 : True := trivial
theorem PySem.W.Fast.tw9219220511934437538 : True := trivial
theorem PySem.W.Fast.tw7622768644369538242 : True := trivial
theorem PySem.W.Fast.tw8407985527144498402 : True := trivial
theorem PySem.W.Fast.tw18152862087312165090 : True := trivial
theorem PySem.W.Fast.tw1382331406297421026 : True := trivial
theorem PySem.W.Fast.tw10580207439954155842 : True := trivial
theorem PySem.W.Fast.tw9073286168160644418 : True := trivial
theorem PySem.W.Fast.tw12044278268728583522 : True := trivial
theorem PySem.W.Fast.tw6209713009828716898 : True := trivial
theorem PySem.W.Fast.tw756079919454966146 : True := trivial
theorem PySem.W.Fast.tw9576341906763450786 : True := trivial
theorem PySem.W.Fast.tw4851078906623645090 : True := trivial
theorem PySem.W.Fast.tw7618938177381032354 : True := trivial
theorem PySem.W.Fast.tw7798109594809402818 : True := trivial
theorem PySem.W.Fast.tw6989219006125476290 : True := trivial
theorem PySem.W.Fast.tw2418459398670872002 : True := trivial
theorem PySem.W.Fast.tw17354025712059815394 : True := trivial
theorem PySem.W.Fast.tw17765570367760954850 : True := trivial
theorem PySem.W.Fast.tw1862465278711668226 : True := trivial
theorem PySem.W.Fast.tw12558339653208653314 : True := trivial
theorem PySem.W.Fast.tw3666403755941970434 : True := trivial
theorem PySem.W.Fast.tw9040520850897425922 : True := trivial
theorem PySem.W.Fast.tw1867430585656690210 : True := trivial
theorem PySem.W.Fast.tw18161447139094417954 : True := trivial
theorem PySem.W.Fast.tw7882609653012161122 : True := trivial
theorem PySem.W.Fast.tw15159715214217015938 : True := trivial
theorem PySem.W.Fast.tw8343910114329103010 : True := trivial
theorem PySem.W.Fast.tw9957479174882315970 : True := trivial
theorem PySem.W.Fast.tw9214283532769393346 : True := trivial
theorem PySem.W.Fast.tw3092072950708181826 : True := trivial
theorem PySem.W.Fast.tw8046744662294870850 : True := trivial
theorem PySem.W.Fast.tw13018019718173944642 : True := trivial
theorem PySem.W.Fast.tw9391102602991697730 : True := trivial
theorem PySem.W.Fast.tw5390724304213560162 : True := trivial
theorem PySem.W.Fast.tw849422731460716418 : True := trivial
theorem PySem.W.Fast.tw7618374491404713858 : True := trivial
theorem PySem.W.Fast.tw6803185356456640418 : True := trivial
theorem PySem.W.Fast.tw11112332523180402626 : True := trivial
theorem PySem.W.Fast.tw16195419478636094402 : True := trivial
theorem PySem.W.Fast.tw12720723413202746338 : True := trivial
theorem PySem.W.Fast.tw17912990125284891651 : True := trivial
theorem PySem.W.Fast.tw7387538742553719811 : True := trivial
theorem PySem.W.Fast.tw14363658256126565475 : True := trivial
theorem PySem.W.Fast.tw10266379698758048899 : True := trivial
theorem PySem.W.Fast.tw13869471940792381571 : True := trivial
theorem PySem.W.Fast.tw2368956913577040035 : True := trivial
theorem PySem.W.Fast.tw9671792012297959619 : True := trivial
theorem PySem.W.Fast.tw1011777516007933187 : True := trivial
theorem PySem.W.Fast.tw18274972304376581379 : True := trivial
theorem PySem.W.Fast.tw7906549892615975203 : True := trivial
theorem PySem.W.Fast.tw8618271314900798883 : True := trivial
theorem PySem.W.Fast.tw3021748495507270147 : True := trivial
theorem PySem.W.Fast.tw1813106946710059587 : True := trivial
theorem PySem.W.Fast.tw1893056761410365027 : True := trivial
theorem PySem.W.Fast.tw4967923059181605507 : True := trivial
theorem PySem.W.Fast.tw13879324664842540675 : True := trivial
theorem PySem.W.Fast.tw12605676607942038243 : True := trivial
theorem PySem.W.Fast.tw13495282148016929507 : True := trivial
theorem PySem.W.Fast.tw15705836220786392803 : True := trivial
theorem PySem.W.Fast.tw18221055209098304227 : True := trivial
theorem PySem.W.Fast.tw15310628307990808355 : True := trivial
theorem PySem.W.Fast.tw8533609714619256611 : True := trivial
theorem PySem.W.Fast.tw2176995510467364675 : True := trivial
theorem PySem.W.Fast.tw7771194536207517539 : True := trivial
theorem PySem.W.Fast.tw6492975434146102115 : True := trivial
theorem PySem.W.Fast.tw9690085668190026595 : True := trivial
theorem PySem.W.Fast.tw18160925890226232195 : True := trivial
theorem PySem.W.Fast.tw5157338686412825507 : True := trivial
theorem PySem.W.Fast.tw2446808106575641571 : True := trivial
theorem PySem.W.Fast.tw11406198709788655587 : True := trivial
theorem PySem.W.Fast.tw12603686177894371 : True := trivial
theorem PySem.W.Fast.tw16003335398476805091 : True := trivial
theorem PySem.W.Fast.tw16571066283881021444 : True := trivial
theorem PySem.W.Fast.tw7682254220996921348 : True := trivial
theorem PySem.W.Fast.tw3657516198586536004 : True := trivial
theorem PySem.W.Fast.tw12350031636716716164 : True := trivial
theorem PySem.W.Fast.tw10397681852760963236 : True := trivial
theorem PySem.W.Fast.tw16669789061643492516 : True := trivial
theorem PySem.W.Fast.tw1237528975688111332 : True := trivial
theorem PySem.W.Fast.tw1304407397636981988 : True := trivial
theorem PySem.W.Fast.tw7123789695244931364 : True := trivial
theorem PySem.W.Fast.tw12645130177622533476 : True := trivial
theorem PySem.W.Fast.tw2030841985716374916 : True := trivial
theorem PySem.W.Fast.tw10038828257203461540 : True := trivial
theorem PySem.W.Fast.tw10079946581916104100 : True := trivial
theorem PySem.W.Fast.tw7954077371833890212 : True := trivial
theorem PySem.W.Fast.tw6105065768309308836 : True := trivial
theorem PySem.W.Fast.tw14184885489332230596 : True := trivial
theorem PySem.W.Fast.tw101434926848685508 : True := trivial
theorem PySem.W.Fast.tw9880424211059985860 : True := trivial
theorem PySem.W.Fast.tw15236988967166628356 : True := trivial
theorem PySem.W.Fast.tw6324386415197419012 : True := trivial
theorem PySem.W.Fast.tw8246067698461358756 : True := trivial
theorem PySem.W.Fast.tw12014299965491333796 : True := trivial
theorem PySem.W.Fast.tw13987085815900399300 : True := trivial
theorem PySem.W.Fast.tw5244545667021738788 : True := trivial
theorem PySem.W.Fast.tw17604401462962848676 : True := trivial
theorem PySem.W.Fast.tw14226211339923366820 : True := trivial
theorem PySem.W.Fast.tw17329102881016959908 : True := trivial
theorem PySem.W.Fast.tw11857738779595041764 : True := trivial
theorem PySem.W.Fast.tw4584107056556283941 : True := trivial
theorem PySem.W.Fast.tw6280724606524755013 : True := trivial
theorem PySem.W.Fast.tw10175196960161374277 : True := trivial
theorem PySem.W.Fast.tw9581543540191306821 : True := trivial
theorem PySem.W.Fast.tw9927195146987481189 : True := trivial
theorem PySem.W.Fast.tw14503346044737131653 : True := trivial
theorem PySem.W.Fast.tw8995341976998427813 : True := trivial
theorem PySem.W.Fast.tw18261707393405928645 : True := trivial
theorem PySem.W.Fast.tw14540922059043248453 : True := trivial
theorem PySem.W.Fast.tw751644842206839109 : True := trivial
theorem PySem.W.Fast.tw10062901303232652613 : True := trivial
theorem PySem.W.Fast.tw18239929763688596837 : True := trivial
theorem PySem.W.Fast.tw11673887169954493829 : True := trivial
theorem PySem.W.Fast.tw17633350694691396997 : True := trivial
theorem PySem.W.Fast.tw17775084996998869413 : True := trivial
theorem PySem.W.Fast.tw278648965891391941 : True := trivial
theorem PySem.W.Fast.tw5403609202809917957 : True := trivial
theorem PySem.W.Fast.tw16171176357105010213 : True := trivial
theorem PySem.W.Fast.tw17370485654008745509 : True := trivial
theorem PySem.W.Fast.tw2728699862828683877 : True := trivial
theorem PySem.W.Fast.tw17627445510000501413 : True := trivial
theorem PySem.W.Fast.tw18178555354822015653 : True := trivial
theorem PySem.W.Fast.tw58019398179364549 : True := trivial
theorem PySem.W.Fast.tw13170794693646337733 : True := trivial
theorem PySem.W.Fast.tw15688665115665855173 : True := trivial
theorem PySem.W.Fast.tw14876301331096515301 : True := trivial
theorem PySem.W.Fast.tw17200789472273183461 : True := trivial
theorem PySem.W.Fast.tw12864060460848629477 : True := trivial
theorem PySem.W.Fast.tw17141245320199165669 : True := trivial
theorem PySem.W.Fast.tw102990276385466085 : True := trivial
theorem PySem.W.Fast.tw9679792139653329669 : True := trivial
theorem PySem.W.Fast.tw13611601776349542181 : True := trivial
theorem PySem.W.Fast.tw14299842909737341829 : True := trivial
theorem PySem.W.Fast.tw12279405127306975141 : True := trivial
theorem PySem.W.Fast.tw12456779899455778757 : True := trivial
theorem PySem.W.Fast.tw8861819185771763685 : True := trivial
theorem PySem.W.Fast.tw3800287115009457125 : True := trivial
theorem PySem.W.Fast.tw14677067275867307014 : True := trivial
theorem PySem.W.Fast.tw4206015078366725158 : True := trivial
theorem PySem.W.Fast.tw8633390873632459814 : True := trivial
theorem PySem.W.Fast.tw14496256908159673382 : True := trivial
theorem PySem.W.Fast.tw4382634878100342854 : True := trivial
theorem PySem.W.Fast.tw13817873851554644038 : True := trivial
theorem PySem.W.Fast.tw2149998996774614086 : True := trivial
theorem PySem.W.Fast.tw16773735439402935398 : True := trivial
theorem PySem.W.Fast.tw14465290254688332902 : True := trivial
theorem PySem.W.Fast.tw14093132526925081766 : True := trivial
theorem PySem.W.Fast.tw4122644768239048934 : True := trivial
theorem PySem.W.Fast.tw14465285115914335494 : True := trivial
theorem PySem.W.Fast.tw1412275466444455206 : True := trivial
theorem PySem.W.Fast.tw16782762009063048486 : True := trivial
theorem PySem.W.Fast.tw3493042455559195942 : True := trivial
theorem PySem.W.Fast.tw17775295848723445030 : True := trivial
theorem PySem.W.Fast.tw11421046269453813062 : True := trivial
theorem PySem.W.Fast.tw75401374322620742 : True := trivial
theorem PySem.W.Fast.tw9623019498707718502 : True := trivial
theorem PySem.W.Fast.tw9702065345736785286 : True := trivial
theorem PySem.W.Fast.tw12410112329237881222 : True := trivial
theorem PySem.W.Fast.tw11510790445149473190 : True := trivial
theorem PySem.W.Fast.tw10610463337402998246 : True := trivial
theorem PySem.W.Fast.tw234437494144083430 : True := trivial
theorem PySem.W.Fast.tw7900357631981247974 : True := trivial
theorem PySem.W.Fast.tw12135174987872435686 : True := trivial
theorem PySem.W.Fast.tw976521857547692582 : True := trivial
theorem PySem.W.Fast.tw8915069586459426342 : True := trivial
theorem PySem.W.Fast.tw3087736132588976710 : True := trivial
theorem PySem.W.Fast.tw10150701042657327686 : True := trivial
theorem PySem.W.Fast.tw6958190230859635334 : True := trivial
theorem PySem.W.Fast.tw3414366105994715782 : True := trivial
theorem PySem.W.Fast.tw10947899330544077478 : True := trivial
theorem PySem.W.Fast.tw5188065680413690598 : True := trivial
theorem PySem.W.Fast.tw2931228531219743462 : True := trivial
theorem PySem.W.Fast.tw9269285404397957894 : True := trivial
theorem PySem.W.Fast.tw1648040245371002726 : True := trivial
theorem PySem.W.Fast.tw7419721465641561958 : True := trivial
theorem PySem.W.Fast.tw9176146049224136582 : True := trivial
theorem PySem.W.Fast.tw1999176094015020934 : True := trivial
theorem PySem.W.Fast.tw9248515015393154982 : True := trivial
theorem PySem.W.Fast.tw1248752762027035558 : True := trivial
theorem PySem.W.Fast.tw1238991610192139206 : True := trivial
theorem PySem.W.Fast.tw2704988480714795974 : True := trivial
theorem PySem.W.Fast.tw12963562050741025766 : True := trivial
theorem PySem.W.Fast.tw5249559432340073479 : True := trivial
theorem PySem.W.Fast.tw8734613158420606983 : True := trivial
theorem PySem.W.Fast.tw9612621287614890023 : True := trivial
theorem PySem.W.Fast.tw16333284916003164199 : True := trivial
theorem PySem.W.Fast.tw14679776270421202023 : True := trivial
theorem PySem.W.Fast.tw2945437454778856583 : True := trivial
theorem PySem.W.Fast.tw5206336191496549511 : True := trivial
theorem PySem.W.Fast.tw3981594920851273863 : True := trivial
theorem PySem.W.Fast.tw14752281421893632199 : True := trivial
theorem PySem.W.Fast.tw9588771024468779239 : True := trivial
theorem PySem.W.Fast.tw6535230233000897767 : True := trivial
theorem PySem.W.Fast.tw76805235122350375 : True := trivial
theorem PySem.W.Fast.tw11700645098911186215 : True := trivial
theorem PySem.W.Fast.tw16800996004654106983 : True := trivial
theorem PySem.W.Fast.tw11175862394018937255 : True := trivial
theorem PySem.W.Fast.tw12910727221849712039 : True := trivial
theorem PySem.W.Fast.tw2992171887884266919 : True := trivial
theorem PySem.W.Fast.tw12273765082217254407 : True := trivial
theorem PySem.W.Fast.tw493130186305277447 : True := trivial
theorem PySem.W.Fast.tw2649529813159528999 : True := trivial
theorem PySem.W.Fast.tw3318455389129243175 : True := trivial
theorem PySem.W.Fast.tw12302968349050966599 : True := trivial
theorem PySem.W.Fast.tw1355611932540752455 : True := trivial
theorem PySem.W.Fast.tw13568141608104566375 : True := trivial
theorem PySem.W.Fast.tw7893825187191711335 : True := trivial
theorem PySem.W.Fast.tw9360300406170571495 : True := trivial
theorem PySem.W.Fast.tw10113377939392125671 : True := trivial
theorem PySem.W.Fast.tw8169748796037446407 : True := trivial
theorem PySem.W.Fast.tw12149050968790023943 : True := trivial
theorem PySem.W.Fast.tw1073047176726531847 : True := trivial
theorem PySem.W.Fast.tw16422582985187371815 : True := trivial
theorem PySem.W.Fast.tw5846969402973402919 : True := trivial
theorem PySem.W.Fast.tw17161130565258042151 : True := trivial
theorem PySem.W.Fast.tw18134497000600571751 : True := trivial
theorem PySem.W.Fast.tw9768331434607880135 : True := trivial
theorem PySem.W.Fast.tw9847237580646889415 : True := trivial
theorem PySem.W.Fast.tw651682312948367303 : True := trivial
theorem PySem.W.Fast.tw4502536077564569543 : True := trivial
theorem PySem.W.Fast.tw18017937151900171239 : True := trivial
theorem PySem.W.Fast.tw6472113337614509064 : True := trivial
theorem PySem.W.Fast.tw16249121376718507016 : True := trivial
theorem PySem.W.Fast.tw9850707113006525544 : True := trivial
theorem PySem.W.Fast.tw12435788405909121224 : True := trivial
theorem PySem.W.Fast.tw6943192849983847656 : True := trivial
theorem PySem.W.Fast.tw4173260117065613544 : True := trivial
theorem PySem.W.Fast.tw4030926581926066408 : True := trivial
theorem PySem.W.Fast.tw16668051897279776072 : True := trivial
theorem PySem.W.Fast.tw11901345025529603400 : True := trivial
theorem PySem.W.Fast.tw11622118116511543624 : True := trivial
theorem PySem.W.Fast.tw2567626444304800104 : True := trivial
theorem PySem.W.Fast.tw11113094245277830568 : True := trivial
theorem PySem.W.Fast.tw8113371008620025256 : True := trivial
theorem PySem.W.Fast.tw117554501610716616 : True := trivial
theorem PySem.W.Fast.tw9488778582333747656 : True := trivial
theorem PySem.W.Fast.tw16618700613213720072 : True := trivial
theorem PySem.W.Fast.tw12747402210831279624 : True := trivial
theorem PySem.W.Fast.tw16805229280683552296 : True := trivial
theorem PySem.W.Fast.tw9146394768336766536 : True := trivial
theorem PySem.W.Fast.tw13687339927957533256 : True := trivial
theorem PySem.W.Fast.tw13919666137195923048 : True := trivial
theorem PySem.W.Fast.tw12373496122224264 : True := trivial
theorem PySem.W.Fast.tw6826307440860681896 : True := trivial
theorem PySem.W.Fast.tw7365303216081137384 : True := trivial
theorem PySem.W.Fast.tw1371661046965803784 : True := trivial
theorem PySem.W.Fast.tw10980271048435571496 : True := trivial
theorem PySem.W.Fast.tw10007919467877736232 : True := trivial
theorem PySem.W.Fast.tw1864093498246179624 : True := trivial
theorem PySem.W.Fast.tw9763213064924264232 : True := trivial
theorem PySem.W.Fast.tw12181874101422921576 : True := trivial
theorem PySem.W.Fast.tw12582865061517805416 : True := trivial
theorem PySem.W.Fast.tw9130091989809012616 : True := trivial
theorem PySem.W.Fast.tw9604073888825656200 : True := trivial
theorem PySem.W.Fast.tw103270006530983848 : True := trivial
theorem PySem.W.Fast.tw4952418269459010472 : True := trivial
theorem PySem.W.Fast.tw13280507174342793160 : True := trivial
theorem PySem.W.Fast.tw11145714914810310600 : True := trivial
theorem PySem.W.Fast.tw5315192481719469000 : True := trivial
theorem PySem.W.Fast.tw13256586890078642120 : True := trivial
theorem PySem.W.Fast.tw14973545266268115944 : True := trivial
theorem PySem.W.Fast.tw13737529610405259240 : True := trivial
theorem PySem.W.Fast.tw15735477828001017832 : True := trivial
theorem PySem.W.Fast.tw12947011374815861736 : True := trivial
theorem PySem.W.Fast.tw10205890393721759720 : True := trivial
theorem PySem.W.Fast.tw13302524182019387401 : True := trivial
theorem PySem.W.Fast.tw2984218725109489673 : True := trivial
theorem PySem.W.Fast.tw6760565846122473513 : True := trivial
theorem PySem.W.Fast.tw104621286481813545 : True := trivial
theorem PySem.W.Fast.tw2625977476741397545 : True := trivial
theorem PySem.W.Fast.tw10161280071939372105 : True := trivial
theorem PySem.W.Fast.tw1299716549072878665 : True := trivial
theorem PySem.W.Fast.tw5401647294074320041 : True := trivial
theorem PySem.W.Fast.tw880945091095818441 : True := trivial
theorem PySem.W.Fast.tw10011524006545844457 : True := trivial
theorem PySem.W.Fast.tw6427116243269482729 : True := trivial
theorem PySem.W.Fast.tw2747569789098460425 : True := trivial
theorem PySem.W.Fast.tw12714218568194930985 : True := trivial
theorem PySem.W.Fast.tw519995705209976137 : True := trivial
theorem PySem.W.Fast.tw8298677651211397481 : True := trivial
theorem PySem.W.Fast.tw13739428224802283881 : True := trivial
theorem PySem.W.Fast.tw8046482907231823241 : True := trivial
theorem PySem.W.Fast.tw1915741401577130409 : True := trivial
theorem PySem.W.Fast.tw17951638430714379689 : True := trivial
theorem PySem.W.Fast.tw8323796462197880265 : True := trivial
theorem PySem.W.Fast.tw12423982057940323849 : True := trivial
theorem PySem.W.Fast.tw9837728097416061449 : True := trivial
theorem PySem.W.Fast.tw17810221271946961449 : True := trivial
theorem PySem.W.Fast.tw1778352004344990249 : True := trivial
theorem PySem.W.Fast.tw6346773345717253673 : True := trivial
theorem PySem.W.Fast.tw2775769196281235049 : True := trivial
theorem PySem.W.Fast.tw14558600790607452809 : True := trivial
theorem PySem.W.Fast.tw14133151107021688489 : True := trivial
theorem PySem.W.Fast.tw8283652608663017129 : True := trivial
theorem PySem.W.Fast.tw11138442466564299465 : True := trivial
theorem PySem.W.Fast.tw8932502496776944329 : True := trivial
theorem PySem.W.Fast.tw1281206348610672361 : True := trivial
theorem PySem.W.Fast.tw5232236718854482665 : True := trivial
theorem PySem.W.Fast.tw11788967081921959657 : True := trivial
theorem PySem.W.Fast.tw18424802661059241737 : True := trivial
theorem PySem.W.Fast.tw1190355692203204393 : True := trivial
theorem PySem.W.Fast.tw6982063321952552777 : True := trivial
theorem PySem.W.Fast.tw9648524897442994025 : True := trivial
theorem PySem.W.Fast.tw735998057512943465 : True := trivial
theorem PySem.W.Fast.tw17815421876664428393 : True := trivial
theorem PySem.W.Fast.tw1456241658346587049 : True := trivial
theorem PySem.W.Fast.tw2489853094369492905 : True := trivial
theorem PySem.W.Fast.tw15620316490858517514 : True := trivial
theorem PySem.W.Fast.tw16245682584432941130 : True := trivial
theorem PySem.W.Fast.tw17523903353474261066 : True := trivial
theorem PySem.W.Fast.tw3781202659520699466 : True := trivial
theorem PySem.W.Fast.tw8473796058305554506 : True := trivial
theorem PySem.W.Fast.tw3098054580336260202 : True := trivial
theorem PySem.W.Fast.tw1361073645685870730 : True := trivial
theorem PySem.W.Fast.tw3242637594962122922 : True := trivial
theorem PySem.W.Fast.tw14473320017442694314 : True := trivial
theorem PySem.W.Fast.tw9674008901852715242 : True := trivial
theorem PySem.W.Fast.tw15998916160135404810 : True := trivial
theorem PySem.W.Fast.tw5220600488684916010 : True := trivial
theorem PySem.W.Fast.tw1236670212967488874 : True := trivial
theorem PySem.W.Fast.tw2652053981821715882 : True := trivial
theorem PySem.W.Fast.tw16998725224740213162 : True := trivial
theorem PySem.W.Fast.tw9938344879796152746 : True := trivial
theorem PySem.W.Fast.tw4053087326110063050 : True := trivial
theorem PySem.W.Fast.tw15094214676525986282 : True := trivial
theorem PySem.W.Fast.tw15149526171224569322 : True := trivial
theorem PySem.W.Fast.tw4193026640099374570 : True := trivial
theorem PySem.W.Fast.tw13927763908762348042 : True := trivial
theorem PySem.W.Fast.tw11129386379984837290 : True := trivial
theorem PySem.W.Fast.tw4341125179502186186 : True := trivial
theorem PySem.W.Fast.tw13308057375733545674 : True := trivial
theorem PySem.W.Fast.tw7978469260904663786 : True := trivial
theorem PySem.W.Fast.tw3226432328820665098 : True := trivial
theorem PySem.W.Fast.tw15868750625907048202 : True := trivial
theorem PySem.W.Fast.tw17984434730450869066 : True := trivial
theorem PySem.W.Fast.tw12228017637289293642 : True := trivial
theorem PySem.W.Fast.tw15676640635106636714 : True := trivial
theorem PySem.W.Fast.tw5642447184074338218 : True := trivial
theorem PySem.W.Fast.tw10808851982502020074 : True := trivial
theorem PySem.W.Fast.tw9656872761166326795 : True := trivial
theorem PySem.W.Fast.tw8792899274844145739 : True := trivial
theorem PySem.W.Fast.tw11853090139196336203 : True := trivial
theorem PySem.W.Fast.tw7327736648497675339 : True := trivial
theorem PySem.W.Fast.tw3938043937004418123 : True := trivial
theorem PySem.W.Fast.tw3994342836432731211 : True := trivial
theorem PySem.W.Fast.tw9589062082625422475 : True := trivial
theorem PySem.W.Fast.tw17435005866583480459 : True := trivial
theorem PySem.W.Fast.tw7668117848643000555 : True := trivial
theorem PySem.W.Fast.tw2587727213551869163 : True := trivial
theorem PySem.W.Fast.tw4002225023628563723 : True := trivial
theorem PySem.W.Fast.tw14721022427082862955 : True := trivial
theorem PySem.W.Fast.tw11154726721977325995 : True := trivial
theorem PySem.W.Fast.tw1642460426733243819 : True := trivial
theorem PySem.W.Fast.tw12347823068491837867 : True := trivial
theorem PySem.W.Fast.tw10941479827229550059 : True := trivial
theorem PySem.W.Fast.tw6161389957436814827 : True := trivial
theorem PySem.W.Fast.tw993979567633363435 : True := trivial
theorem PySem.W.Fast.tw2275779180225209899 : True := trivial
theorem PySem.W.Fast.tw14039844228186536491 : True := trivial
theorem PySem.W.Fast.tw10538641095823496779 : True := trivial
theorem PySem.W.Fast.tw16127108219212215883 : True := trivial
theorem PySem.W.Fast.tw966000537347263083 : True := trivial
theorem PySem.W.Fast.tw6301372355574832747 : True := trivial
theorem PySem.W.Fast.tw15063176860894895723 : True := trivial
theorem PySem.W.Fast.tw8259066436674840171 : True := trivial
theorem PySem.W.Fast.tw10941802519751144075 : True := trivial
theorem PySem.W.Fast.tw18239148946107430539 : True := trivial
theorem PySem.W.Fast.tw8566119371107239595 : True := trivial
theorem PySem.W.Fast.tw790112490031090379 : True := trivial
theorem PySem.W.Fast.tw7842448512282797771 : True := trivial
theorem PySem.W.Fast.tw14499340530220509899 : True := trivial
theorem PySem.W.Fast.tw18093285360352612043 : True := trivial
theorem PySem.W.Fast.tw12635205368855192267 : True := trivial
theorem PySem.W.Fast.tw12970996129403435723 : True := trivial
theorem PySem.W.Fast.tw2266735730342596331 : True := trivial
theorem PySem.W.Fast.tw18136026815449386763 : True := trivial
theorem PySem.W.Fast.tw8069433293961083723 : True := trivial
theorem PySem.W.Fast.tw7605761128649449291 : True := trivial
theorem PySem.W.Fast.tw16155803476323138379 : True := trivial
theorem PySem.W.Fast.tw8721097736506780523 : True := trivial
theorem PySem.W.Fast.tw61665752098286443 : True := trivial
theorem PySem.W.Fast.tw10576810008203530155 : True := trivial
theorem PySem.W.Fast.tw5444835124538500011 : True := trivial
theorem PySem.W.Fast.tw1569994104275484619 : True := trivial
theorem PySem.W.Fast.tw3977208116991487947 : True := trivial
theorem PySem.W.Fast.tw4084102142605567979 : True := trivial
theorem PySem.W.Fast.tw9932422408695606251 : True := trivial
theorem PySem.W.Fast.tw10600318509752818732 : True := trivial
theorem PySem.W.Fast.tw14902898355259844652 : True := trivial
theorem PySem.W.Fast.tw10535199821633105996 : True := trivial
theorem PySem.W.Fast.tw6540285901003933804 : True := trivial
theorem PySem.W.Fast.tw12476011341272110220 : True := trivial
theorem PySem.W.Fast.tw2189886772862408844 : True := trivial
theorem PySem.W.Fast.tw17875213426350084268 : True := trivial
theorem PySem.W.Fast.tw10165003027814293708 : True := trivial
theorem PySem.W.Fast.tw3031579227393265900 : True := trivial
theorem PySem.W.Fast.tw9848174426995503340 : True := trivial
theorem PySem.W.Fast.tw17812500627800553708 : True := trivial
theorem PySem.W.Fast.tw14517553623742263564 : True := trivial
theorem PySem.W.Fast.tw16984233139670201644 : True := trivial
theorem PySem.W.Fast.tw4490593712010874188 : True := trivial
theorem PySem.W.Fast.tw11729748593189151084 : True := trivial
theorem PySem.W.Fast.tw4932385736763737484 : True := trivial
theorem PySem.W.Fast.tw17978242867165210028 : True := trivial
theorem PySem.W.Fast.tw11750340348664589740 : True := trivial
theorem PySem.W.Fast.tw7089331790942940588 : True := trivial
theorem PySem.W.Fast.tw13650753143315335628 : True := trivial
theorem PySem.W.Fast.tw9896542032926820908 : True := trivial
theorem PySem.W.Fast.tw1817848048429898380 : True := trivial
theorem PySem.W.Fast.tw18107104282149283468 : True := trivial
theorem PySem.W.Fast.tw18264147375959602828 : True := trivial
theorem PySem.W.Fast.tw8316040936172207788 : True := trivial
theorem PySem.W.Fast.tw12344767117516061388 : True := trivial
theorem PySem.W.Fast.tw8036960318305130188 : True := trivial
theorem PySem.W.Fast.tw6929962339453677324 : True := trivial
theorem PySem.W.Fast.tw3742028740060133132 : True := trivial
theorem PySem.W.Fast.tw11599657105856883500 : True := trivial
theorem PySem.W.Fast.tw14490859812239587148 : True := trivial
theorem PySem.W.Fast.tw915847707027233612 : True := trivial
theorem PySem.W.Fast.tw1872164501813012396 : True := trivial
theorem PySem.W.Fast.tw15655688311801687980 : True := trivial
theorem PySem.W.Fast.tw3792828202495205292 : True := trivial
theorem PySem.W.Fast.tw155777132590960588 : True := trivial
theorem PySem.W.Fast.tw15245851659289630700 : True := trivial
theorem PySem.W.Fast.tw16144799487077921837 : True := trivial
theorem PySem.W.Fast.tw12337197927840432173 : True := trivial
theorem PySem.W.Fast.tw9793190488657781869 : True := trivial
theorem PySem.W.Fast.tw11891988251200880781 : True := trivial
theorem PySem.W.Fast.tw17187560522828965005 : True := trivial
theorem PySem.W.Fast.tw6701255997281664173 : True := trivial
theorem PySem.W.Fast.tw7703744082993514701 : True := trivial
theorem PySem.W.Fast.tw8568059859351415021 : True := trivial
theorem PySem.W.Fast.tw17400397580882545965 : True := trivial
theorem PySem.W.Fast.tw11547225235440694573 : True := trivial
theorem PySem.W.Fast.tw15394313776131571021 : True := trivial
theorem PySem.W.Fast.tw4177961025124143501 : True := trivial
theorem PySem.W.Fast.tw993122850044689837 : True := trivial
theorem PySem.W.Fast.tw17830451696773812653 : True := trivial
theorem PySem.W.Fast.tw3284635089236708813 : True := trivial
theorem PySem.W.Fast.tw12317661436509912525 : True := trivial
theorem PySem.W.Fast.tw15493425602382636557 : True := trivial
theorem PySem.W.Fast.tw697899549359331853 : True := trivial
theorem PySem.W.Fast.tw8589935153863458381 : True := trivial
theorem PySem.W.Fast.tw456924852657167021 : True := trivial
theorem PySem.W.Fast.tw8554104615910300333 : True := trivial
theorem PySem.W.Fast.tw3608472741012418253 : True := trivial
theorem PySem.W.Fast.tw4388906426534990573 : True := trivial
theorem PySem.W.Fast.tw5238636472597001005 : True := trivial
theorem PySem.W.Fast.tw10760154048334186285 : True := trivial
theorem PySem.W.Fast.tw704246613541231469 : True := trivial
theorem PySem.W.Fast.tw17145333557450693485 : True := trivial
theorem PySem.W.Fast.tw12157525380434812781 : True := trivial
theorem PySem.W.Fast.tw2456993949835234189 : True := trivial
theorem PySem.W.Fast.tw6408459472241169293 : True := trivial
theorem PySem.W.Fast.tw9878326291669394349 : True := trivial
theorem PySem.W.Fast.tw7196633364871784365 : True := trivial
theorem PySem.W.Fast.tw8846153978817131437 : True := trivial
theorem PySem.W.Fast.tw3828664159801527245 : True := trivial
theorem PySem.W.Fast.tw5645139301980612589 : True := trivial
theorem PySem.W.Fast.tw10099533060483066861 : True := trivial
theorem PySem.W.Fast.tw8139256271676724205 : True := trivial
theorem PySem.W.Fast.tw18177584179785100269 : True := trivial
theorem PySem.W.Fast.tw12567955365938252814 : True := trivial
theorem PySem.W.Fast.tw12918940895986501710 : True := trivial
theorem PySem.W.Fast.tw13279530071047427150 : True := trivial
theorem PySem.W.Fast.tw6438853864958355534 : True := trivial
theorem PySem.W.Fast.tw17385345573625129070 : True := trivial
theorem PySem.W.Fast.tw17116096461486499982 : True := trivial
theorem PySem.W.Fast.tw251919459618276494 : True := trivial
theorem PySem.W.Fast.tw3457437720940245134 : True := trivial
theorem PySem.W.Fast.tw10250214077783979214 : True := trivial
theorem PySem.W.Fast.tw1640612124980835534 : True := trivial
theorem PySem.W.Fast.tw12047222018881582318 : True := trivial
theorem PySem.W.Fast.tw8193224836561632494 : True := trivial
theorem PySem.W.Fast.tw1309398544293252366 : True := trivial
theorem PySem.W.Fast.tw1559344401627638062 : True := trivial
theorem PySem.W.Fast.tw3751885434388067662 : True := trivial
theorem PySem.W.Fast.tw5458258080536447342 : True := trivial
theorem PySem.W.Fast.tw4535446478926639502 : True := trivial
theorem PySem.W.Fast.tw10709565687121261998 : True := trivial
theorem PySem.W.Fast.tw9735749648414673358 : True := trivial
theorem PySem.W.Fast.tw5461918190303558094 : True := trivial
theorem PySem.W.Fast.tw14938497834542331342 : True := trivial
theorem PySem.W.Fast.tw16831421401631676910 : True := trivial
theorem PySem.W.Fast.tw11739804400505438766 : True := trivial
theorem PySem.W.Fast.tw9550403443128675918 : True := trivial
theorem PySem.W.Fast.tw10509857534201782862 : True := trivial
theorem PySem.W.Fast.tw13840604239934422606 : True := trivial
theorem PySem.W.Fast.tw9219092108982335086 : True := trivial
theorem PySem.W.Fast.tw17201726620852840046 : True := trivial
theorem PySem.W.Fast.tw16867080757138127470 : True := trivial
theorem PySem.W.Fast.tw9518083063736966798 : True := trivial
theorem PySem.W.Fast.tw16627689769613272718 : True := trivial
theorem PySem.W.Fast.tw6306778564192411310 : True := trivial
theorem PySem.W.Fast.tw14756042687905638062 : True := trivial
theorem PySem.W.Fast.tw17457532098743185102 : True := trivial
theorem PySem.W.Fast.tw14885003442123936494 : True := trivial
theorem PySem.W.Fast.tw807404715296200430 : True := trivial
theorem PySem.W.Fast.tw17783237865456857934 : True := trivial
theorem PySem.W.Fast.tw15100659942821745518 : True := trivial
theorem PySem.W.Fast.tw199189096175505294 : True := trivial
theorem PySem.W.Fast.tw5148569445370241934 : True := trivial
theorem PySem.W.Fast.tw8530580979929476014 : True := trivial
theorem PySem.W.Fast.tw11535198574278450158 : True := trivial
theorem PySem.W.Fast.tw2514192922367106030 : True := trivial
theorem PySem.W.Fast.tw3483800311276775439 : True := trivial
theorem PySem.W.Fast.tw182267882774281231 : True := trivial
theorem PySem.W.Fast.tw14644209485590323279 : True := trivial
theorem PySem.W.Fast.tw304258272203696239 : True := trivial
theorem PySem.W.Fast.tw4599563416618969231 : True := trivial
theorem PySem.W.Fast.tw17700618989141288079 : True := trivial
theorem PySem.W.Fast.tw16480035545689791663 : True := trivial
theorem PySem.W.Fast.tw1022708672300952751 : True := trivial
theorem PySem.W.Fast.tw10631255852493418671 : True := trivial
theorem PySem.W.Fast.tw8917767542880184527 : True := trivial
theorem PySem.W.Fast.tw12180024186682093839 : True := trivial
theorem PySem.W.Fast.tw4481630429308815663 : True := trivial
theorem PySem.W.Fast.tw293639945605381423 : True := trivial
theorem PySem.W.Fast.tw7868910208056986959 : True := trivial
theorem PySem.W.Fast.tw17948048773546812751 : True := trivial
theorem PySem.W.Fast.tw17601090055129323887 : True := trivial
theorem PySem.W.Fast.tw13314359886041835887 : True := trivial
theorem PySem.W.Fast.tw5280850226850526607 : True := trivial
theorem PySem.W.Fast.tw4154337081522813327 : True := trivial
theorem PySem.W.Fast.tw7132122453459833263 : True := trivial
theorem PySem.W.Fast.tw5282537975098400175 : True := trivial
theorem PySem.W.Fast.tw5591041007249283535 : True := trivial
theorem PySem.W.Fast.tw5302510039448196591 : True := trivial
theorem PySem.W.Fast.tw14796019335017247215 : True := trivial
theorem PySem.W.Fast.tw1371856732117755407 : True := trivial
theorem PySem.W.Fast.tw7685184109056850543 : True := trivial
theorem PySem.W.Fast.tw10022251479046581903 : True := trivial
theorem PySem.W.Fast.tw12029606552202362575 : True := trivial
theorem PySem.W.Fast.tw5890325301127303919 : True := trivial
theorem PySem.W.Fast.tw7908597935509530351 : True := trivial
theorem PySem.W.Fast.tw4048831059094415151 : True := trivial
theorem PySem.W.Fast.tw10772645735106744143 : True := trivial
theorem PySem.W.Fast.tw1730532743424612175 : True := trivial
theorem PySem.W.Fast.tw5905918275886922575 : True := trivial
theorem PySem.W.Fast.tw12991335743025833839 : True := trivial
theorem PySem.W.Fast.tw14831428789595126671 : True := trivial
theorem PySem.W.Fast.tw14669830984343306127 : True := trivial
theorem PySem.W.Fast.tw10121081358102517647 : True := trivial
theorem PySem.W.Fast.tw11523100477618933679 : True := trivial
theorem PySem.W.Fast.tw17234836861511979983 : True := trivial
theorem PySem.W.Fast.tw960941461648270287 : True := trivial
theorem PySem.W.Fast.tw6837081528559584239 : True := trivial
theorem PySem.W.Fast.tw7968522013467454512 : True := trivial
theorem PySem.W.Fast.tw11658149041330081840 : True := trivial
theorem PySem.W.Fast.tw10024605574222765136 : True := trivial
theorem PySem.W.Fast.tw2611820564571385936 : True := trivial
theorem PySem.W.Fast.tw6594234963399938160 : True := trivial
theorem PySem.W.Fast.tw10982327025814831248 : True := trivial
theorem PySem.W.Fast.tw17316493326516821136 : True := trivial
theorem PySem.W.Fast.tw12085034609015481488 : True := trivial
theorem PySem.W.Fast.tw10202772283601735856 : True := trivial
theorem PySem.W.Fast.tw17191771126186791088 : True := trivial
theorem PySem.W.Fast.tw2880652097419701488 : True := trivial
theorem PySem.W.Fast.tw15153674659767158032 : True := trivial
theorem PySem.W.Fast.tw17428138771810533648 : True := trivial
theorem PySem.W.Fast.tw12925890537886381328 : True := trivial
theorem PySem.W.Fast.tw7472405844408801584 : True := trivial
theorem PySem.W.Fast.tw15199437000692448560 : True := trivial
theorem PySem.W.Fast.tw9575351069919661360 : True := trivial
theorem PySem.W.Fast.tw11603797145557093712 : True := trivial
theorem PySem.W.Fast.tw9482274282169487728 : True := trivial
theorem PySem.W.Fast.tw12027275414905527696 : True := trivial
theorem PySem.W.Fast.tw18049458357112878480 : True := trivial
theorem PySem.W.Fast.tw15036023097622433200 : True := trivial
theorem PySem.W.Fast.tw18364428133796292016 : True := trivial
theorem PySem.W.Fast.tw5644303428568251888 : True := trivial
theorem PySem.W.Fast.tw4338364601970727440 : True := trivial
theorem PySem.W.Fast.tw729224695705804336 : True := trivial
theorem PySem.W.Fast.tw3487108889366477360 : True := trivial
theorem PySem.W.Fast.tw739966734192336432 : True := trivial
theorem PySem.W.Fast.tw2394129385238007376 : True := trivial
theorem PySem.W.Fast.tw9483474377945585232 : True := trivial
theorem PySem.W.Fast.tw11642329205103453776 : True := trivial
theorem PySem.W.Fast.tw17321054699117743760 : True := trivial
theorem PySem.W.Fast.tw3528348729958646416 : True := trivial
theorem PySem.W.Fast.tw17436765111898885776 : True := trivial
theorem PySem.W.Fast.tw8991362763204776592 : True := trivial
theorem PySem.W.Fast.tw10268215241168870032 : True := trivial
theorem PySem.W.Fast.tw8685406292844514160 : True := trivial
theorem PySem.W.Fast.tw8393747469289283440 : True := trivial
theorem PySem.W.Fast.tw13633212172745180080 : True := trivial
theorem PySem.W.Fast.tw2838907237310963632 : True := trivial
theorem PySem.W.Fast.tw4502621013878655920 : True := trivial
theorem PySem.W.Fast.tw16968785046884022192 : True := trivial
theorem PySem.W.Fast.tw10547877658718820369 : True := trivial
theorem PySem.W.Fast.tw18068504672822857777 : True := trivial
theorem PySem.W.Fast.tw1030446003711390769 : True := trivial
theorem PySem.W.Fast.tw9936333810652114001 : True := trivial
theorem PySem.W.Fast.tw2915061928114946193 : True := trivial
theorem PySem.W.Fast.tw18359151664933702801 : True := trivial
theorem PySem.W.Fast.tw1039030610728429745 : True := trivial
theorem PySem.W.Fast.tw1312573599750553809 : True := trivial
theorem PySem.W.Fast.tw8799937968548557009 : True := trivial
theorem PySem.W.Fast.tw4494502209330682097 : True := trivial
theorem PySem.W.Fast.tw9758522805128952049 : True := trivial
theorem PySem.W.Fast.tw16783473212459220209 : True := trivial
theorem PySem.W.Fast.tw12817139022072775953 : True := trivial
theorem PySem.W.Fast.tw16873520672073322833 : True := trivial
theorem PySem.W.Fast.tw16398483025652886865 : True := trivial
theorem PySem.W.Fast.tw2563905812220209489 : True := trivial
theorem PySem.W.Fast.tw6110554472186685809 : True := trivial
theorem PySem.W.Fast.tw3481783190545707409 : True := trivial
theorem PySem.W.Fast.tw6418590916202249617 : True := trivial
theorem PySem.W.Fast.tw17714265945217071505 : True := trivial
theorem PySem.W.Fast.tw6214222039015883185 : True := trivial
theorem PySem.W.Fast.tw1472756149619626417 : True := trivial
theorem PySem.W.Fast.tw4941391562724372913 : True := trivial
theorem PySem.W.Fast.tw10404475668762615249 : True := trivial
theorem PySem.W.Fast.tw12864945621237744113 : True := trivial
theorem PySem.W.Fast.tw18382109958423270897 : True := trivial
theorem PySem.W.Fast.tw8059843802698948113 : True := trivial
theorem PySem.W.Fast.tw4993306337747537 : True := trivial
theorem PySem.W.Fast.tw17068164766923316817 : True := trivial
theorem PySem.W.Fast.tw6000804165007271505 : True := trivial
theorem PySem.W.Fast.tw7770244247076954737 : True := trivial
theorem PySem.W.Fast.tw12993352063063206545 : True := trivial
theorem PySem.W.Fast.tw15056804275360165521 : True := trivial
theorem PySem.W.Fast.tw2380786751911849617 : True := trivial
theorem PySem.W.Fast.tw17154255189439872689 : True := trivial
theorem PySem.W.Fast.tw14065854287205501649 : True := trivial
theorem PySem.W.Fast.tw2485520822575049425 : True := trivial
theorem PySem.W.Fast.tw15909696924151600977 : True := trivial
theorem PySem.W.Fast.tw4894424980118607729 : True := trivial
theorem PySem.W.Fast.tw4273774131707234161 : True := trivial
theorem PySem.W.Fast.tw9638267400065284977 : True := trivial
theorem PySem.W.Fast.tw9442925661585394609 : True := trivial
theorem PySem.W.Fast.tw5935863503704564754 : True := trivial
theorem PySem.W.Fast.tw9055046285989193746 : True := trivial
theorem PySem.W.Fast.tw1632879427078802482 : True := trivial
theorem PySem.W.Fast.tw13098909323693126706 : True := trivial
theorem PySem.W.Fast.tw12821076086390437970 : True := trivial
theorem PySem.W.Fast.tw10350740758861737074 : True := trivial
theorem PySem.W.Fast.tw13684398294281541874 : True := trivial
theorem PySem.W.Fast.tw16351229724071586034 : True := trivial
theorem PySem.W.Fast.tw2209058732609367282 : True := trivial
theorem PySem.W.Fast.tw1178272470955375890 : True := trivial
theorem PySem.W.Fast.tw6437379649023476018 : True := trivial
theorem PySem.W.Fast.tw15782891845578102066 : True := trivial
theorem PySem.W.Fast.tw6627271383069205842 : True := trivial
theorem PySem.W.Fast.tw14779711917122007410 : True := trivial
theorem PySem.W.Fast.tw17264696361859946898 : True := trivial
theorem PySem.W.Fast.tw7764788222108002770 : True := trivial
theorem PySem.W.Fast.tw8180451239694207474 : True := trivial
theorem PySem.W.Fast.tw6573605364836220402 : True := trivial
theorem PySem.W.Fast.tw16650438378778289650 : True := trivial
theorem PySem.W.Fast.tw8648729207996542450 : True := trivial
theorem PySem.W.Fast.tw15686931611704717810 : True := trivial
theorem PySem.W.Fast.tw10498381112090025522 : True := trivial
theorem PySem.W.Fast.tw4272554092089907794 : True := trivial
theorem PySem.W.Fast.tw3289785194303631954 : True := trivial
theorem PySem.W.Fast.tw9239091184848877138 : True := trivial
theorem PySem.W.Fast.tw9451212756215555666 : True := trivial
theorem PySem.W.Fast.tw17144552049323337298 : True := trivial
theorem PySem.W.Fast.tw8925572494801535602 : True := trivial
theorem PySem.W.Fast.tw6186754481182489202 : True := trivial
theorem PySem.W.Fast.tw4738402454118693490 : True := trivial
theorem PySem.W.Fast.tw2637960766961156818 : True := trivial
theorem PySem.W.Fast.tw18237945778260434642 : True := trivial
theorem PySem.W.Fast.tw4844219909138623218 : True := trivial
theorem PySem.W.Fast.tw10801691262247913234 : True := trivial
theorem PySem.W.Fast.tw7363994298996345682 : True := trivial
theorem PySem.W.Fast.tw4709297735573010258 : True := trivial
theorem PySem.W.Fast.tw1290702429425632114 : True := trivial
theorem PySem.W.Fast.tw2586557188900639634 : True := trivial
theorem PySem.W.Fast.tw7305147848677410738 : True := trivial
theorem PySem.W.Fast.tw11290437715194595250 : True := trivial
theorem PySem.W.Fast.tw13802419905797747634 : True := trivial
theorem PySem.W.Fast.tw12462329502397639634 : True := trivial
theorem PySem.W.Fast.tw7437596785907649522 : True := trivial
theorem PySem.W.Fast.tw8604373436770312178 : True := trivial
theorem PySem.W.Fast.tw8147774672500198419 : True := trivial
theorem PySem.W.Fast.tw7698799779921763347 : True := trivial
theorem PySem.W.Fast.tw1495229975201111059 : True := trivial
theorem PySem.W.Fast.tw17200799225232037939 : True := trivial
theorem PySem.W.Fast.tw11924598052144330803 : True := trivial
theorem PySem.W.Fast.tw9997319783018393683 : True := trivial
theorem PySem.W.Fast.tw6828903836452489331 : True := trivial
theorem PySem.W.Fast.tw667134987325924467 : True := trivial
theorem PySem.W.Fast.tw4504770108893946099 : True := trivial
theorem PySem.W.Fast.tw7908781957353766131 : True := trivial
theorem PySem.W.Fast.tw3383502532459941139 : True := trivial
theorem PySem.W.Fast.tw6892916047671503155 : True := trivial
theorem PySem.W.Fast.tw104508405161516339 : True := trivial
theorem PySem.W.Fast.tw6729230417659599219 : True := trivial
theorem PySem.W.Fast.tw9583713586818914675 : True := trivial
theorem PySem.W.Fast.tw9894908958280209779 : True := trivial
theorem PySem.W.Fast.tw11871799857487115667 : True := trivial
theorem PySem.W.Fast.tw3611415087801555379 : True := trivial
theorem PySem.W.Fast.tw17789468216760262067 : True := trivial
theorem PySem.W.Fast.tw18137932906562466355 : True := trivial
theorem PySem.W.Fast.tw740902976735529555 : True := trivial
theorem PySem.W.Fast.tw12398904556343268979 : True := trivial
theorem PySem.W.Fast.tw13174795413462809203 : True := trivial
theorem PySem.W.Fast.tw16701288724691682963 : True := trivial
theorem PySem.W.Fast.tw16239121587488630419 : True := trivial
theorem PySem.W.Fast.tw17504569325820755603 : True := trivial
theorem PySem.W.Fast.tw14424934864608215699 : True := trivial
theorem PySem.W.Fast.tw7636127653396113043 : True := trivial
theorem PySem.W.Fast.tw5499012984013434547 : True := trivial
theorem PySem.W.Fast.tw2885711343314364115 : True := trivial
theorem PySem.W.Fast.tw8894248481775093587 : True := trivial
theorem PySem.W.Fast.tw9982709182632581971 : True := trivial
theorem PySem.W.Fast.tw9379684135860921171 : True := trivial
theorem PySem.W.Fast.tw2351273358038759251 : True := trivial
theorem PySem.W.Fast.tw10160550191030526867 : True := trivial
theorem PySem.W.Fast.tw15853752529070101427 : True := trivial
theorem PySem.W.Fast.tw12312699589862094771 : True := trivial
theorem PySem.W.Fast.tw2268032472177056723 : True := trivial
theorem PySem.W.Fast.tw3006654192028238803 : True := trivial
theorem PySem.W.Fast.tw4988380314905627603 : True := trivial
theorem PySem.W.Fast.tw14502712552326567923 : True := trivial
theorem PySem.W.Fast.tw2304153359135599636 : True := trivial
theorem PySem.W.Fast.tw2203421793956469812 : True := trivial
theorem PySem.W.Fast.tw8438360375957593172 : True := trivial
theorem PySem.W.Fast.tw9793460340824480852 : True := trivial
theorem PySem.W.Fast.tw13223757971333371988 : True := trivial
theorem PySem.W.Fast.tw7615305491410125940 : True := trivial
theorem PySem.W.Fast.tw13876373384933555380 : True := trivial
theorem PySem.W.Fast.tw11259747616990052564 : True := trivial
theorem PySem.W.Fast.tw7126996289420568820 : True := trivial
theorem PySem.W.Fast.tw5795540791619111156 : True := trivial
theorem PySem.W.Fast.tw1871304738333278484 : True := trivial
theorem PySem.W.Fast.tw4050038173189848468 : True := trivial
theorem PySem.W.Fast.tw17351257302325554612 : True := trivial
theorem PySem.W.Fast.tw16899402898801900020 : True := trivial
theorem PySem.W.Fast.tw11404774114719613428 : True := trivial
theorem PySem.W.Fast.tw14457549624831651412 : True := trivial
theorem PySem.W.Fast.tw8861383965515864660 : True := trivial
theorem PySem.W.Fast.tw14727420496843207252 : True := trivial
theorem PySem.W.Fast.tw11284282507915736692 : True := trivial
theorem PySem.W.Fast.tw18031900611475126932 : True := trivial
theorem PySem.W.Fast.tw15330240924010421940 : True := trivial
theorem PySem.W.Fast.tw13982209517246786228 : True := trivial
theorem PySem.W.Fast.tw15802952849432985268 : True := trivial
theorem PySem.W.Fast.tw9807159444164118228 : True := trivial
theorem PySem.W.Fast.tw17729023662481458900 : True := trivial
theorem PySem.W.Fast.tw9525191273348254420 : True := trivial
theorem PySem.W.Fast.tw6916181491812400884 : True := trivial
theorem PySem.W.Fast.tw11022653894061534004 : True := trivial
theorem PySem.W.Fast.tw6793583580670365524 : True := trivial
theorem PySem.W.Fast.tw10676295200328034132 : True := trivial
theorem PySem.W.Fast.tw935536151944837972 : True := trivial
theorem PySem.W.Fast.tw17076187849263829844 : True := trivial
theorem PySem.W.Fast.tw4818286126720671604 : True := trivial
theorem PySem.W.Fast.tw16977951606652569492 : True := trivial
theorem PySem.W.Fast.tw15247841495235071892 : True := trivial
theorem PySem.W.Fast.tw3891912162343524244 : True := trivial
theorem PySem.W.Fast.tw4038898576900585396 : True := trivial
theorem PySem.W.Fast.tw13680167505189931988 : True := trivial
theorem PySem.W.Fast.tw11866819163720967124 : True := trivial
theorem PySem.W.Fast.tw2764201711673261044 : True := trivial
theorem PySem.W.Fast.tw8203861436733517812 : True := trivial
theorem PySem.W.Fast.tw4198226463924278293 : True := trivial
theorem PySem.W.Fast.tw12526718406437452885 : True := trivial
theorem PySem.W.Fast.tw14982898296702984309 : True := trivial
theorem PySem.W.Fast.tw5592332766792430773 : True := trivial
theorem PySem.W.Fast.tw16111868885852797109 : True := trivial
theorem PySem.W.Fast.tw8876163125039844565 : True := trivial
theorem PySem.W.Fast.tw4074624809841830133 : True := trivial
theorem PySem.W.Fast.tw11481730254269987093 : True := trivial
theorem PySem.W.Fast.tw18016746465353663797 : True := trivial
theorem PySem.W.Fast.tw12230824783484054869 : True := trivial
theorem PySem.W.Fast.tw2689712990660178293 : True := trivial
theorem PySem.W.Fast.tw14494462994788724117 : True := trivial
theorem PySem.W.Fast.tw6170826571388820949 : True := trivial
theorem PySem.W.Fast.tw14268380617330695637 : True := trivial
theorem PySem.W.Fast.tw7558849047501892053 : True := trivial
theorem PySem.W.Fast.tw13156977552387480053 : True := trivial
theorem PySem.W.Fast.tw8404662963031368181 : True := trivial
theorem PySem.W.Fast.tw9417583635648812565 : True := trivial
theorem PySem.W.Fast.tw3875023015682724405 : True := trivial
theorem PySem.W.Fast.tw3984723816437624405 : True := trivial
theorem PySem.W.Fast.tw400692196922509909 : True := trivial
theorem PySem.W.Fast.tw15637529886837719669 : True := trivial
theorem PySem.W.Fast.tw6971120956685536885 : True := trivial
theorem PySem.W.Fast.tw17594884253256697493 : True := trivial
theorem PySem.W.Fast.tw14284359640418499285 : True := trivial
theorem PySem.W.Fast.tw3838809238161705685 : True := trivial
theorem PySem.W.Fast.tw4228839217694572309 : True := trivial
theorem PySem.W.Fast.tw270533496637535029 : True := trivial
theorem PySem.W.Fast.tw16474320213072959317 : True := trivial
theorem PySem.W.Fast.tw10539593622859085653 : True := trivial
theorem PySem.W.Fast.tw10483505939095761781 : True := trivial
theorem PySem.W.Fast.tw11209357490039672693 : True := trivial
theorem PySem.W.Fast.tw6865312418187288469 : True := trivial
theorem PySem.W.Fast.tw1364817623519064981 : True := trivial
theorem PySem.W.Fast.tw6624328189410005941 : True := trivial
theorem PySem.W.Fast.tw2616589439633260469 : True := trivial
theorem PySem.W.Fast.tw3109773871532727253 : True := trivial
theorem PySem.W.Fast.tw11150140644085204981 : True := trivial
theorem PySem.W.Fast.tw5943249037682732021 : True := trivial
theorem PySem.W.Fast.tw12371230470365935605 : True := trivial
theorem PySem.W.Fast.tw13962184171111746614 : True := trivial
theorem PySem.W.Fast.tw11779997881155349558 : True := trivial
theorem PySem.W.Fast.tw17041234483951587446 : True := trivial
theorem PySem.W.Fast.tw54157846695933110 : True := trivial
theorem PySem.W.Fast.tw11909041367112702166 : True := trivial
theorem PySem.W.Fast.tw23637745543209174 : True := trivial
theorem PySem.W.Fast.tw1096816455255480566 : True := trivial
theorem PySem.W.Fast.tw14433431360135915766 : True := trivial
theorem PySem.W.Fast.tw6223138010519256342 : True := trivial
theorem PySem.W.Fast.tw7757301256599452982 : True := trivial
theorem PySem.W.Fast.tw16472499352123034934 : True := trivial
theorem PySem.W.Fast.tw4104938609349071190 : True := trivial
theorem PySem.W.Fast.tw12152701596011003222 : True := trivial
theorem PySem.W.Fast.tw3512404065857988982 : True := trivial
theorem PySem.W.Fast.tw384678636254891414 : True := trivial
theorem PySem.W.Fast.tw3690306653191913878 : True := trivial
theorem PySem.W.Fast.tw16509898397392074134 : True := trivial
theorem PySem.W.Fast.tw5733653001308416470 : True := trivial
theorem PySem.W.Fast.tw17760191889671051734 : True := trivial
theorem PySem.W.Fast.tw3822155198407414262 : True := trivial
theorem PySem.W.Fast.tw12122753558427997686 : True := trivial
theorem PySem.W.Fast.tw104201347853052406 : True := trivial
theorem PySem.W.Fast.tw13828717176914018838 : True := trivial
theorem PySem.W.Fast.tw14874138020493453846 : True := trivial
theorem PySem.W.Fast.tw13147167611936035382 : True := trivial
theorem PySem.W.Fast.tw4425452071243671126 : True := trivial
theorem PySem.W.Fast.tw7506389224339422838 : True := trivial
theorem PySem.W.Fast.tw2427128688481067638 : True := trivial
theorem PySem.W.Fast.tw4520102413156340374 : True := trivial
theorem PySem.W.Fast.tw14612219851760481974 : True := trivial
theorem PySem.W.Fast.tw5742004998353192662 : True := trivial
theorem PySem.W.Fast.tw16645830674224295638 : True := trivial
theorem PySem.W.Fast.tw5831287630964633302 : True := trivial
theorem PySem.W.Fast.tw7585247199215727318 : True := trivial
theorem PySem.W.Fast.tw14811669505722371798 : True := trivial
theorem PySem.W.Fast.tw5366348160683432662 : True := trivial
theorem PySem.W.Fast.tw13355156327295393526 : True := trivial
theorem PySem.W.Fast.tw4531385949835983606 : True := trivial
theorem PySem.W.Fast.tw18317099587161047894 : True := trivial
theorem PySem.W.Fast.tw17428615040474804054 : True := trivial
theorem PySem.W.Fast.tw14719849177098776438 : True := trivial
theorem PySem.W.Fast.tw9423479776015215510 : True := trivial
theorem PySem.W.Fast.tw16686404074535493558 : True := trivial
theorem PySem.W.Fast.tw1279626430675310550 : True := trivial
theorem PySem.W.Fast.tw14137961624486602742 : True := trivial
theorem PySem.W.Fast.tw15165137127080786967 : True := trivial
theorem PySem.W.Fast.tw15316237438378189879 : True := trivial
theorem PySem.W.Fast.tw15164401413589978167 : True := trivial
theorem PySem.W.Fast.tw15892310514929503319 : True := trivial
theorem PySem.W.Fast.tw4053061062950415447 : True := trivial
theorem PySem.W.Fast.tw8296199993750684823 : True := trivial
theorem PySem.W.Fast.tw18084523151922781335 : True := trivial
theorem PySem.W.Fast.tw3212356500275006647 : True := trivial
theorem PySem.W.Fast.tw1636268504118982839 : True := trivial
theorem PySem.W.Fast.tw12623808216751981783 : True := trivial
theorem PySem.W.Fast.tw16666349908686822615 : True := trivial
theorem PySem.W.Fast.tw8982034443126463799 : True := trivial
theorem PySem.W.Fast.tw6192461537086007607 : True := trivial
theorem PySem.W.Fast.tw12827637724456558935 : True := trivial
theorem PySem.W.Fast.tw3018971135160291703 : True := trivial
theorem PySem.W.Fast.tw12771862688262678935 : True := trivial
theorem PySem.W.Fast.tw11345410748510401943 : True := trivial
theorem PySem.W.Fast.tw16671594442425267607 : True := trivial
theorem PySem.W.Fast.tw2230177005961215383 : True := trivial
theorem PySem.W.Fast.tw613754772125812151 : True := trivial
theorem PySem.W.Fast.tw9945837593703318967 : True := trivial
theorem PySem.W.Fast.tw10998707041700515255 : True := trivial
theorem PySem.W.Fast.tw573362703190954423 : True := trivial
theorem PySem.W.Fast.tw2432910580798366135 : True := trivial
theorem PySem.W.Fast.tw8325188090272749015 : True := trivial
theorem PySem.W.Fast.tw2019493150869961207 : True := trivial
theorem PySem.W.Fast.tw17566866100236916247 : True := trivial
theorem PySem.W.Fast.tw15153663582182342167 : True := trivial
theorem PySem.W.Fast.tw228292355913954871 : True := trivial
theorem PySem.W.Fast.tw9899620142706180663 : True := trivial
theorem PySem.W.Fast.tw9071996121963708983 : True := trivial
theorem PySem.W.Fast.tw5762007439906559543 : True := trivial
theorem PySem.W.Fast.tw5523275968112023127 : True := trivial
theorem PySem.W.Fast.tw10336849343090953847 : True := trivial
theorem PySem.W.Fast.tw9875758675732895351 : True := trivial
theorem PySem.W.Fast.tw176782548464376439 : True := trivial
theorem PySem.W.Fast.tw7596806977452810871 : True := trivial
theorem PySem.W.Fast.tw12098717419186027127 : True := trivial
theorem PySem.W.Fast.tw12029259028194878103 : True := trivial
theorem PySem.W.Fast.tw14066266557468973751 : True := trivial
theorem PySem.W.Fast.tw857257862319786679 : True := trivial
theorem PySem.W.Fast.tw10534038866367762103 : True := trivial
theorem PySem.W.Fast.tw12681997157798213303 : True := trivial
theorem PySem.W.Fast.tw894385932473505495 : True := trivial
theorem PySem.W.Fast.tw4046907883710392023 : True := trivial
theorem PySem.W.Fast.tw15893617425086534359 : True := trivial
theorem PySem.W.Fast.tw14833375845014949623 : True := trivial
theorem PySem.W.Fast.tw9043079185453604599 : True := trivial
theorem PySem.W.Fast.tw9419199908086481687 : True := trivial
theorem PySem.W.Fast.tw6148004322156778263 : True := trivial
theorem PySem.W.Fast.tw1089263733242750775 : True := trivial
theorem PySem.W.Fast.tw11359235080496539479 : True := trivial
theorem PySem.W.Fast.tw6869997602393485143 : True := trivial
theorem PySem.W.Fast.tw14804386671106881367 : True := trivial
theorem PySem.W.Fast.tw7971110149375394679 : True := trivial
theorem PySem.W.Fast.tw10941391509559611287 : True := trivial
theorem PySem.W.Fast.tw6454636993030634391 : True := trivial
theorem PySem.W.Fast.tw8802635805789387671 : True := trivial
theorem PySem.W.Fast.tw805228021992429495 : True := trivial
theorem PySem.W.Fast.tw1371355379981338551 : True := trivial
theorem PySem.W.Fast.tw1410997929132529688 : True := trivial
theorem PySem.W.Fast.tw16200558373865664536 : True := trivial
theorem PySem.W.Fast.tw14131651906821372952 : True := trivial
theorem PySem.W.Fast.tw11761840963921107000 : True := trivial
theorem PySem.W.Fast.tw17553179703133330488 : True := trivial
theorem PySem.W.Fast.tw345612156992236632 : True := trivial
theorem PySem.W.Fast.tw10622210443687229528 : True := trivial
theorem PySem.W.Fast.tw4268904556099474584 : True := trivial
theorem PySem.W.Fast.tw15003462343476975768 : True := trivial
theorem PySem.W.Fast.tw6165418789813380248 : True := trivial
theorem PySem.W.Fast.tw4714324468687231160 : True := trivial
theorem PySem.W.Fast.tw1873544450670659928 : True := trivial
theorem PySem.W.Fast.tw14615804013795585368 : True := trivial
theorem PySem.W.Fast.tw5728542107182468536 : True := trivial
theorem PySem.W.Fast.tw656147840542413240 : True := trivial
theorem PySem.W.Fast.tw15777594689908472248 : True := trivial
theorem PySem.W.Fast.tw4658912254530726360 : True := trivial
theorem PySem.W.Fast.tw99714092187206136 : True := trivial
theorem PySem.W.Fast.tw3740780752695132696 : True := trivial
theorem PySem.W.Fast.tw13495196897049638424 : True := trivial
theorem PySem.W.Fast.tw16742964235529910808 : True := trivial
theorem PySem.W.Fast.tw4610592325024718392 : True := trivial
theorem PySem.W.Fast.tw16350571488965971512 : True := trivial
theorem PySem.W.Fast.tw15234698476877035256 : True := trivial
theorem PySem.W.Fast.tw7836610968808324856 : True := trivial
theorem PySem.W.Fast.tw11273644304155300632 : True := trivial
theorem PySem.W.Fast.tw9630222850226214680 : True := trivial
theorem PySem.W.Fast.tw10767206551440968504 : True := trivial
theorem PySem.W.Fast.tw13323185912647368536 : True := trivial
theorem PySem.W.Fast.tw7566733673623834552 : True := trivial
theorem PySem.W.Fast.tw11829841060683903928 : True := trivial
theorem PySem.W.Fast.tw12324086088797206585 : True := trivial
theorem PySem.W.Fast.tw17904742484715694137 : True := trivial
theorem PySem.W.Fast.tw5546593870975869017 : True := trivial
theorem PySem.W.Fast.tw2027133554951190617 : True := trivial
theorem PySem.W.Fast.tw8128941964294066297 : True := trivial
theorem PySem.W.Fast.tw10936657749185088665 : True := trivial
theorem PySem.W.Fast.tw5867064307676995737 : True := trivial
theorem PySem.W.Fast.tw4685206387061379257 : True := trivial
theorem PySem.W.Fast.tw810690838713197849 : True := trivial
theorem PySem.W.Fast.tw18273889996560565561 : True := trivial
theorem PySem.W.Fast.tw10655576999707698521 : True := trivial
theorem PySem.W.Fast.tw5501525370158675289 : True := trivial
theorem PySem.W.Fast.tw8202992651833279865 : True := trivial
theorem PySem.W.Fast.tw2182101821023951225 : True := trivial
theorem PySem.W.Fast.tw8358368001921508729 : True := trivial
theorem PySem.W.Fast.tw13858604244173393305 : True := trivial
theorem PySem.W.Fast.tw8811907897480029593 : True := trivial
theorem PySem.W.Fast.tw17053606539981603257 : True := trivial
theorem PySem.W.Fast.tw7266707608359664121 : True := trivial
theorem PySem.W.Fast.tw5469552947078876729 : True := trivial
theorem PySem.W.Fast.tw14486309187173709369 : True := trivial
theorem PySem.W.Fast.tw2080149719033574969 : True := trivial
theorem PySem.W.Fast.tw1780702595901953625 : True := trivial
theorem PySem.W.Fast.tw8288155327508623961 : True := trivial
theorem PySem.W.Fast.tw1658864320017059417 : True := trivial
theorem PySem.W.Fast.tw10327224231620353689 : True := trivial
theorem PySem.W.Fast.tw18261549299481754265 : True := trivial
theorem PySem.W.Fast.tw7886331130757113497 : True := trivial
theorem PySem.W.Fast.tw5125113283788603033 : True := trivial
theorem PySem.W.Fast.tw11049965637456200377 : True := trivial
theorem PySem.W.Fast.tw67785128646524601 : True := trivial
theorem PySem.W.Fast.tw7882192957545942777 : True := trivial
theorem PySem.W.Fast.tw2309083445342884601 : True := trivial
theorem PySem.W.Fast.tw13208956542924639001 : True := trivial
theorem PySem.W.Fast.tw17683286856751983481 : True := trivial
theorem PySem.W.Fast.tw12506506834318442393 : True := trivial
theorem PySem.W.Fast.tw10562807493054547897 : True := trivial
theorem PySem.W.Fast.tw12936600302553408473 : True := trivial
theorem PySem.W.Fast.tw8017815831242706970 : True := trivial
theorem PySem.W.Fast.tw3856796068054718490 : True := trivial
theorem PySem.W.Fast.tw7578401019502569530 : True := trivial
theorem PySem.W.Fast.tw489093691887266874 : True := trivial
theorem PySem.W.Fast.tw12802635132491625530 : True := trivial
theorem PySem.W.Fast.tw17169942933357506650 : True := trivial
theorem PySem.W.Fast.tw14788568691306845274 : True := trivial
theorem PySem.W.Fast.tw15364900519686702234 : True := trivial
theorem PySem.W.Fast.tw15253588919805248762 : True := trivial
theorem PySem.W.Fast.tw118917672441521434 : True := trivial
theorem PySem.W.Fast.tw16378195784080718106 : True := trivial
theorem PySem.W.Fast.tw4707419283240162682 : True := trivial
theorem PySem.W.Fast.tw8132997966421612954 : True := trivial
theorem PySem.W.Fast.tw6800349602455580058 : True := trivial
theorem PySem.W.Fast.tw3237842844673221050 : True := trivial
theorem PySem.W.Fast.tw3012439930104260026 : True := trivial
theorem PySem.W.Fast.tw9436959456012477978 : True := trivial
theorem PySem.W.Fast.tw4338725278301931034 : True := trivial
theorem PySem.W.Fast.tw13824013208689394234 : True := trivial
theorem PySem.W.Fast.tw7002175114626536026 : True := trivial
theorem PySem.W.Fast.tw13437568678963687034 : True := trivial
theorem PySem.W.Fast.tw5362008496719225498 : True := trivial
theorem PySem.W.Fast.tw12222642616923942554 : True := trivial
theorem PySem.W.Fast.tw285314482958696154 : True := trivial
theorem PySem.W.Fast.tw3607333773725373178 : True := trivial
theorem PySem.W.Fast.tw3240816565254496026 : True := trivial
theorem PySem.W.Fast.tw1933574242149798714 : True := trivial
theorem PySem.W.Fast.tw16971928348881568570 : True := trivial
theorem PySem.W.Fast.tw10922415334252019514 : True := trivial
theorem PySem.W.Fast.tw1873385055808720762 : True := trivial
theorem PySem.W.Fast.tw4040403942836586362 : True := trivial
theorem PySem.W.Fast.tw11174404647787178906 : True := trivial
theorem PySem.W.Fast.tw6791479006870992794 : True := trivial
theorem PySem.W.Fast.tw15169611567003476922 : True := trivial
theorem PySem.W.Fast.tw16798889635510727739 : True := trivial
theorem PySem.W.Fast.tw7805891035301336155 : True := trivial
theorem PySem.W.Fast.tw13245443947475728475 : True := trivial
theorem PySem.W.Fast.tw697737102601397371 : True := trivial
theorem PySem.W.Fast.tw264497138068043899 : True := trivial
theorem PySem.W.Fast.tw14679969366515779771 : True := trivial
theorem PySem.W.Fast.tw1075752044363648187 : True := trivial
theorem PySem.W.Fast.tw10505648201404058811 : True := trivial
theorem PySem.W.Fast.tw878315419960840507 : True := trivial
theorem PySem.W.Fast.tw7568616194217280859 : True := trivial
theorem PySem.W.Fast.tw12962804248541132123 : True := trivial
theorem PySem.W.Fast.tw1675507819053372859 : True := trivial
theorem PySem.W.Fast.tw6945115512267172315 : True := trivial
theorem PySem.W.Fast.tw16957442902752366171 : True := trivial
theorem PySem.W.Fast.tw15302182129980699291 : True := trivial
theorem PySem.W.Fast.tw12319902152347759291 : True := trivial
theorem PySem.W.Fast.tw6165923824772147899 : True := trivial
theorem PySem.W.Fast.tw17673344747489700571 : True := trivial
theorem PySem.W.Fast.tw14531513501184544507 : True := trivial
theorem PySem.W.Fast.tw954347683268166427 : True := trivial
theorem PySem.W.Fast.tw16432133539961250619 : True := trivial
theorem PySem.W.Fast.tw11296002069732056891 : True := trivial
theorem PySem.W.Fast.tw6015845773269694331 : True := trivial
theorem PySem.W.Fast.tw8627520335279094651 : True := trivial
theorem PySem.W.Fast.tw3451188852745251868 : True := trivial
theorem PySem.W.Fast.tw10678193156847355964 : True := trivial
theorem PySem.W.Fast.tw938572967535838300 : True := trivial
theorem PySem.W.Fast.tw9305759773352100956 : True := trivial
theorem PySem.W.Fast.tw14606537957740024924 : True := trivial
theorem PySem.W.Fast.tw17867512435831380060 : True := trivial
theorem PySem.W.Fast.tw13327609212282068060 : True := trivial
theorem PySem.W.Fast.tw5585309780180462716 : True := trivial
theorem PySem.W.Fast.tw17002216107351787676 : True := trivial
theorem PySem.W.Fast.tw17089499647208537276 : True := trivial
theorem PySem.W.Fast.tw15763878767439802652 : True := trivial
theorem PySem.W.Fast.tw11409396811433680188 : True := trivial
theorem PySem.W.Fast.tw14040516672502714684 : True := trivial
theorem PySem.W.Fast.tw14059712730298745180 : True := trivial
theorem PySem.W.Fast.tw844763926063079772 : True := trivial
theorem PySem.W.Fast.tw17211917953221761404 : True := trivial
theorem PySem.W.Fast.tw4095332313749133724 : True := trivial
theorem PySem.W.Fast.tw985593360670536124 : True := trivial
theorem PySem.W.Fast.tw7870409276081976764 : True := trivial
theorem PySem.W.Fast.tw2089609329481684508 : True := trivial
theorem PySem.W.Fast.tw10176777576696662556 : True := trivial
theorem PySem.W.Fast.tw2962554434923232796 : True := trivial
theorem PySem.W.Fast.tw17808101451935055388 : True := trivial
theorem PySem.W.Fast.tw16068762462093533756 : True := trivial
theorem PySem.W.Fast.tw3179558379644482108 : True := trivial
theorem PySem.W.Fast.tw16554017899946441276 : True := trivial
theorem PySem.W.Fast.tw4809757885912182364 : True := trivial
theorem PySem.W.Fast.tw13818451927693009596 : True := trivial
theorem PySem.W.Fast.tw16600670339373355708 : True := trivial
theorem PySem.W.Fast.tw9395677983188539068 : True := trivial
theorem PySem.W.Fast.tw12590658494983260892 : True := trivial
theorem PySem.W.Fast.tw3614668550340054780 : True := trivial
theorem PySem.W.Fast.tw9365969868649926428 : True := trivial
theorem PySem.W.Fast.tw17353417673025829660 : True := trivial
theorem PySem.W.Fast.tw6419499854998178620 : True := trivial
theorem PySem.W.Fast.tw3062093371250022204 : True := trivial
theorem PySem.W.Fast.tw15014300873713649500 : True := trivial
theorem PySem.W.Fast.tw4963779238419314524 : True := trivial
theorem PySem.W.Fast.tw11279256365012403036 : True := trivial
theorem PySem.W.Fast.tw10663727295804336988 : True := trivial
theorem PySem.W.Fast.tw15603434025929555836 : True := trivial
theorem PySem.W.Fast.tw11551491292976243580 : True := trivial
theorem PySem.W.Fast.tw4333367393052099484 : True := trivial
theorem PySem.W.Fast.tw13425206156978395100 : True := trivial
theorem PySem.W.Fast.tw3076617370814336988 : True := trivial
theorem PySem.W.Fast.tw10430175579572154397 : True := trivial
theorem PySem.W.Fast.tw2747338495833619517 : True := trivial
theorem PySem.W.Fast.tw14845480413077842013 : True := trivial
theorem PySem.W.Fast.tw8376762147832879197 : True := trivial
theorem PySem.W.Fast.tw15505293897044618397 : True := trivial
theorem PySem.W.Fast.tw16418701301809291549 : True := trivial
theorem PySem.W.Fast.tw259479207631231293 : True := trivial
theorem PySem.W.Fast.tw5062963171059579261 : True := trivial
theorem PySem.W.Fast.tw16790779889828265373 : True := trivial
theorem PySem.W.Fast.tw10064747658060999133 : True := trivial
theorem PySem.W.Fast.tw544496151023426045 : True := trivial
theorem PySem.W.Fast.tw205369705539611133 : True := trivial
theorem PySem.W.Fast.tw7488609039828734493 : True := trivial
theorem PySem.W.Fast.tw15841924651115337277 : True := trivial
theorem PySem.W.Fast.tw176222669974385245 : True := trivial
theorem PySem.W.Fast.tw14730281297626233501 : True := trivial
theorem PySem.W.Fast.tw11550034183291135677 : True := trivial
theorem PySem.W.Fast.tw10686639727612774173 : True := trivial
theorem PySem.W.Fast.tw12845288629953503037 : True := trivial
theorem PySem.W.Fast.tw14240025969240484701 : True := trivial
theorem PySem.W.Fast.tw13007804132186173277 : True := trivial
theorem PySem.W.Fast.tw10989021931523778429 : True := trivial
theorem PySem.W.Fast.tw10636063173808852893 : True := trivial
theorem PySem.W.Fast.tw11608402016223467421 : True := trivial
theorem PySem.W.Fast.tw3274191480445362077 : True := trivial
theorem PySem.W.Fast.tw16389163872818848669 : True := trivial
theorem PySem.W.Fast.tw15112305597248219101 : True := trivial
theorem PySem.W.Fast.tw12512313774576881661 : True := trivial
theorem PySem.W.Fast.tw11430576109047504926 : True := trivial
theorem PySem.W.Fast.tw4755367954191995966 : True := trivial
theorem PySem.W.Fast.tw12280564582260512862 : True := trivial
theorem PySem.W.Fast.tw14230031843562188926 : True := trivial
theorem PySem.W.Fast.tw18256320637011350686 : True := trivial
theorem PySem.W.Fast.tw15257272363010278590 : True := trivial
theorem PySem.W.Fast.tw9364646894830708926 : True := trivial
theorem PySem.W.Fast.tw10938157736538406078 : True := trivial
theorem PySem.W.Fast.tw16197988486976536798 : True := trivial
theorem PySem.W.Fast.tw7789130383400149278 : True := trivial
theorem PySem.W.Fast.tw1582929828037476670 : True := trivial
theorem PySem.W.Fast.tw4875334362276086142 : True := trivial
theorem PySem.W.Fast.tw175339930813861278 : True := trivial
theorem PySem.W.Fast.tw2383540898101966238 : True := trivial
theorem PySem.W.Fast.tw4822585775390113182 : True := trivial
theorem PySem.W.Fast.tw17028511891924174302 : True := trivial
theorem PySem.W.Fast.tw1411024451998914046 : True := trivial
theorem PySem.W.Fast.tw11197687619403270654 : True := trivial
theorem PySem.W.Fast.tw13133556271359623710 : True := trivial
theorem PySem.W.Fast.tw2021006565030878750 : True := trivial
theorem PySem.W.Fast.tw18055127919178770974 : True := trivial
theorem PySem.W.Fast.tw2850580821802580510 : True := trivial
theorem PySem.W.Fast.tw207545834098227774 : True := trivial
theorem PySem.W.Fast.tw18402838256661972606 : True := trivial
theorem PySem.W.Fast.tw3018031546872147710 : True := trivial
theorem PySem.W.Fast.tw4989899761529985790 : True := trivial
theorem PySem.W.Fast.tw2520853798822920990 : True := trivial
theorem PySem.W.Fast.tw4387194222465273630 : True := trivial
theorem PySem.W.Fast.tw10682973142444735262 : True := trivial
theorem PySem.W.Fast.tw6601869514953012030 : True := trivial
theorem PySem.W.Fast.tw6258967394770142046 : True := trivial
theorem PySem.W.Fast.tw4789390769267962718 : True := trivial
theorem PySem.W.Fast.tw17658788494305754974 : True := trivial
theorem PySem.W.Fast.tw13381216130548084606 : True := trivial
theorem PySem.W.Fast.tw5754838745437918110 : True := trivial
theorem PySem.W.Fast.tw11206143879569890206 : True := trivial
theorem PySem.W.Fast.tw9427236055346446238 : True := trivial
theorem PySem.W.Fast.tw15111690688571902942 : True := trivial
theorem PySem.W.Fast.tw16822102728686865406 : True := trivial
theorem PySem.W.Fast.tw9592883367723833342 : True := trivial
theorem PySem.W.Fast.tw1489394192442809342 : True := trivial
theorem PySem.W.Fast.tw4019277181491215358 : True := trivial
theorem PySem.W.Fast.tw4752298114299888703 : True := trivial
theorem PySem.W.Fast.tw11940713714168972351 : True := trivial
theorem PySem.W.Fast.tw5133656687181010015 : True := trivial
theorem PySem.W.Fast.tw17735085797181278335 : True := trivial
theorem PySem.W.Fast.tw11249017657767208095 : True := trivial
theorem PySem.W.Fast.tw8300486437756949663 : True := trivial
theorem PySem.W.Fast.tw825407858945825983 : True := trivial
theorem PySem.W.Fast.tw7792206739052830975 : True := trivial
theorem PySem.W.Fast.tw13245418072373635327 : True := trivial
theorem PySem.W.Fast.tw7026225165696321791 : True := trivial
theorem PySem.W.Fast.tw9892702660916854047 : True := trivial
theorem PySem.W.Fast.tw3414702941391604031 : True := trivial
theorem PySem.W.Fast.tw8472400364573217087 : True := trivial
theorem PySem.W.Fast.tw2653299560853229887 : True := trivial
theorem PySem.W.Fast.tw17656481109169758591 : True := trivial
theorem PySem.W.Fast.tw1158171218820888959 : True := trivial
theorem PySem.W.Fast.tw15238868217114215871 : True := trivial
theorem PySem.W.Fast.tw14253894079511630303 : True := trivial
theorem PySem.W.Fast.tw18043995657796681183 : True := trivial
theorem PySem.W.Fast.tw5918262131926205951 : True := trivial
theorem PySem.W.Fast.tw6229132034140898815 : True := trivial
theorem PySem.W.Fast.tw3680856176091683391 : True := trivial
theorem PySem.W.Fast.tw17055675762433821279 : True := trivial
theorem PySem.W.Fast.tw11843814377008085599 : True := trivial
theorem PySem.W.Fast.tw6623946144808343199 : True := trivial
theorem PySem.W.Fast.tw7708474500182268607 : True := trivial
theorem PySem.W.Fast.tw12677495611144659647 : True := trivial
theorem PySem.W.Fast.tw7918817500418611999 : True := trivial
theorem PySem.W.Fast.tw18144508244032271135 : True := trivial
theorem PySem.W.Fast.tw16675593554253542175 : True := trivial
theorem PySem.W.Fast.tw17407087507410979775 : True := trivial
theorem PySem.W.Fast.tw13974540977427102655 : True := trivial
theorem PySem.W.Fast.tw17837075838743442399 : True := trivial
theorem PySem.W.Fast.tw17669359158565501919 : True := trivial
namespace Gd
open PySem L2

/-! ### data heaps -/
def Sb (G H : Hp) : Prop := ∀ a o, G a = some o → H a = some o
theorem Sb.refl (H : Hp) : Sb H H := fun _ _ h => h
theorem Sb.trans {A B C : Hp} (x : Sb A B) (y : Sb B C) : Sb A C := fun a o h => y a o (x a o h)
theorem Sb.new {G : Hp} {p : Addr} {o : HO} (h : G p = none) : Sb G (upd G p o) := fun a u e => by
  rw [upd_ne (ne_of_none e h)]; exact e
theorem Sb.both {G H : Hp} {p : Addr} {o : HO} (s : Sb G H) : Sb (upd G p o) (upd H p o) := fun a u e => by
  by_cases h : a = p
  · subst h; rw [upd_same] at e ⊢; exact e
  · rw [upd_ne h] at e ⊢; exact s a u e
theorem Sb.add {G H : Hp} {p : Addr} {o : HO} (s : Sb G H) (h : H p = some o) : Sb (upd G p o) H := fun a u e => by
  by_cases q : a = p
  · subst q; rw [upd_same] at e; rw [h]; exact e
  · rw [upd_ne q] at e; exact s a u e
theorem Sb.mut {G H : Hp} {p : Addr} {o : HO} (s : Sb G H) (h : G p = none) : Sb G (upd H p o) := fun a u e => by
  rw [upd_ne (ne_of_none e h)]; exact s a u e
theorem Sb.none {G H : Hp} {p : Addr} (s : Sb G H) (h : H p = none) : G p = none := by
  cases q : G p with
  | none => rfl
  | some o => rw [s p o q] at h; cases h

mutual
inductive Dx (G : Hp) : V → PyData → Prop
  | non : Dx G .non .none
  | bl (b : Bool) : Dx G (.bl b) (.bool b)
  | int (i : Int) : Dx G (.int i) (.int i)
  | str (x : Str) : Dx G (.str x) (.str x)
  | lst {a : Addr} {xs : List V} {ds : List PyData} : G a = some (.lst xs) → Dxs G xs ds → Dx G (.ref a) (.list ds)
  | tup {a : Addr} {xs : List V} {ds : List PyData} : G a = some (.tup xs) → Dxs G xs ds → Dx G (.ref a) (.tuple ds)
inductive Dxs (G : Hp) : List V → List PyData → Prop
  | nil : Dxs G [] []
  | cons {v : V} {vs : List V} {d : PyData} {ds : List PyData} : Dx G v d → Dxs G vs ds → Dxs G (v :: vs) (d :: ds)
end
mutual
theorem Dx.mono {G H : Hp} (s : Sb G H) : ∀ {v : V} {d : PyData}, Dx G v d → Dx H v d
  | _, _, .non => .non
  | _, _, .bl b => .bl b
  | _, _, .int i => .int i
  | _, _, .str x => .str x
  | _, _, .lst h a => .lst (s _ _ h) (Dxs.mono s a)
  | _, _, .tup h a => .tup (s _ _ h) (Dxs.mono s a)
theorem Dxs.mono {G H : Hp} (s : Sb G H) : ∀ {vs : List V} {ds : List PyData}, Dxs G vs ds → Dxs H vs ds
  | _, _, .nil => .nil
  | _, _, .cons h t => .cons (Dx.mono s h) (Dxs.mono s t)
end
mutual
theorem Dx.dp {K : PySem.W.Frag} {G : Hp} : ∀ {v : V} {d : PyData}, Dx G v d → Dp K G v d
  | _, _, .non => .non
  | _, _, .bl b => .bl b
  | _, _, .int i => .int i
  | _, _, .str x => .str x
  | _, _, .lst h a => .lst (Or.inl (Or.inl h)) (Dxs.dp a)
  | _, _, .tup h a => .tup (Or.inl (Or.inl h)) (Dxs.dp a)
theorem Dxs.dp {K : PySem.W.Frag} {G : Hp} : ∀ {vs : List V} {ds : List PyData}, Dxs G vs ds → DpAll K G vs ds
  | _, _, .nil => .nil
  | _, _, .cons h t => .cons (Dx.dp h) (Dxs.dp t)
end
theorem Dx.int_eq {G : Hp} {v : V} {i : Int} (h : Dx G v (.int i)) : v = .int i := by cases h; rfl
theorem Dx.bl_eq {G : Hp} {v : V} {b : Bool} (h : Dx G v (.bool b)) : v = .bl b := by cases h; rfl
theorem Dx.str_eq {G : Hp} {v : V} {z : Str} (h : Dx G v (.str z)) : v = .str z := by cases h; rfl
theorem Dx.non_eq {G : Hp} {v : V} (h : Dx G v .none) : v = .non := by cases h; rfl
theorem Dx.lst_eq {G : Hp} {v : V} {ds : List PyData} (h : Dx G v (.list ds)) : ∃ a xs, v = .ref a ∧ G a = some (.lst xs) ∧ Dxs G xs ds := by
  cases h with | lst h a => exact ⟨_, _, rfl, h, a⟩
theorem Dx.tup_eq {G : Hp} {v : V} {ds : List PyData} (h : Dx G v (.tuple ds)) : ∃ a xs, v = .ref a ∧ G a = some (.tup xs) ∧ Dxs G xs ds := by
  cases h with | tup h a => exact ⟨_, _, rfl, h, a⟩
theorem Dxs.len {G : Hp} : ∀ {vs : List V} {ds : List PyData}, Dxs G vs ds → vs.length = ds.length
  | _, _, .nil => rfl
  | _, _, .cons _ t => congrArg (· + 1) (Dxs.len t)
theorem Dxs.get {G : Hp} : ∀ {vs : List V} {ds : List PyData} {i : Nat} {d : PyData}, Dxs G vs ds → ds[i]? = some d → ∃ v, vs[i]? = some v ∧ Dx G v d
  | _, _, 0, _, .cons h _, e => by cases e; exact ⟨_, rfl, h⟩
  | _, _, i + 1, _, .cons _ t, e => Dxs.get (i := i) t e
theorem Dxs.getV {G : Hp} : ∀ {vs : List V} {ds : List PyData} {i : Nat} {v : V}, Dxs G vs ds → vs[i]? = some v → ∃ d, ds[i]? = some d ∧ Dx G v d
  | _, _, 0, _, .cons h _, e => by cases e; exact ⟨_, rfl, h⟩
  | _, _, i + 1, _, .cons _ t, e => Dxs.getV (i := i) t e
theorem Dxs.app {G : Hp} : ∀ {vs ws : List V} {ds es : List PyData}, Dxs G vs ds → Dxs G ws es → Dxs G (vs ++ ws) (ds ++ es)
  | _, _, _, _, .nil, t => t
  | _, _, _, _, .cons h t, u => .cons h (Dxs.app t u)
theorem Dxs.one {G : Hp} {v : V} {d : PyData} (h : Dx G v d) : Dxs G [v] [d] := .cons h .nil
theorem Dxs.take {G : Hp} : ∀ {vs : List V} {ds : List PyData} (n : Nat), Dxs G vs ds → Dxs G (vs.take n) (ds.take n)
  | _, _, 0, _ => .nil
  | _, _, _ + 1, .nil => .nil
  | _, _, n + 1, .cons h t => .cons h (Dxs.take n t)
theorem Dxs.drop {G : Hp} : ∀ {vs : List V} {ds : List PyData} (n : Nat), Dxs G vs ds → Dxs G (vs.drop n) (ds.drop n)
  | _, _, 0, h => h
  | _, _, _ + 1, .nil => .nil
  | _, _, n + 1, .cons _ t => Dxs.drop n t
theorem Dxs.ints {G : Hp} : ∀ (ns : List Int), Dxs G (ns.map V.int) (ns.map PyData.int)
  | [] => .nil
  | n :: r => .cons (.int n) (Dxs.ints r)
theorem Dxs.ints_eq {G : Hp} : ∀ {vs : List V} {ns : List Int}, Dxs G vs (ns.map PyData.int) → vs = ns.map V.int
  | _, [], .nil => rfl
  | _, n :: r, .cons h t => by rw [Dx.int_eq h, Dxs.ints_eq t]; rfl
theorem Dxs.bls_eq {G : Hp} : ∀ {vs : List V} {bs : List Bool}, Dxs G vs (bs.map PyData.bool) → vs = bs.map V.bl
  | _, [], .nil => rfl
  | _, n :: r, .cons h t => by rw [Dx.bl_eq h, Dxs.bls_eq t]; rfl
theorem Dxs.strs_eq {G : Hp} : ∀ {vs : List V} {zs : List Str}, Dxs G vs (zs.map PyData.str) → vs = zs.map V.str
  | _, [], .nil => rfl
  | _, n :: r, .cons h t => by rw [Dx.str_eq h, Dxs.strs_eq t]; rfl

/-! ### growing: G within H, M may change -/
structure Gr (M : List Addr) (G H G' H' : Hp) : Prop where
  g : Sb G G'
  s : Sb G' H'
  h : ∀ a o, a ∉ M → H a = some o → H' a = some o
  t : ∀ a o, H a = some o → ∃ o', H' a = some o'
  n : ∀ a o, H a = some o → G a = none → G' a = none
theorem Gr.refl {M : List Addr} {G H : Hp} (s : Sb G H) : Gr M G H G H := ⟨Sb.refl G, s, fun _ _ _ h => h, fun _ o h => ⟨o, h⟩, fun _ _ _ h => h⟩
theorem Gr.trans {M : List Addr} {G H G1 H1 G2 H2 : Hp} (x : Gr M G H G1 H1) (y : Gr M G1 H1 G2 H2) : Gr M G H G2 H2 :=
  ⟨x.g.trans y.g, y.s, fun a o m e => y.h a o m (x.h a o m e), fun a o e => by obtain ⟨o', e'⟩ := x.t a o e; exact y.t a o' e',
   fun a o e e0 => by obtain ⟨o', e'⟩ := x.t a o e; exact y.n a o' e' (x.n a o e e0)⟩
theorem Gr.mono {M N : List Addr} {G H G' H' : Hp} (x : Gr M G H G' H') (h : ∀ a ∈ M, a ∈ N) : Gr N G H G' H' :=
  ⟨x.g, x.s, fun a o m e => x.h a o (fun z => m (h a z)) e, x.t, x.n⟩
theorem Gr.any {N : List Addr} {G H G' H' : Hp} (x : Gr [] G H G' H') : Gr N G H G' H' := x.mono fun _ z => nomatch z
theorem Gr.free {M : List Addr} {G H G' H' : Hp} (x : Gr M G H G' H') {p : Addr} (h : H' p = none) : H p = none := by
  cases q : H p with
  | none => rfl
  | some o => obtain ⟨o', e⟩ := x.t p o q; rw [e] at h; cases h
/-- a new object that is data at once -/
theorem Gr.data {M : List Addr} {G H G' H' : Hp} (x : Gr M G H G' H') {p : Addr} {o : HO} (h : H' p = none) : Gr M G H (upd G' p o) (upd H' p o) :=
  ⟨x.g.trans (Sb.new (x.s.none h)), x.s.both, fun a u m e => by rw [upd_ne (ne_of_none (x.h a u m e) h)]; exact x.h a u m e,
   fun a u e => by obtain ⟨o', e'⟩ := x.t a u e; exact ⟨o', by rw [upd_ne (ne_of_none e' h)]; exact e'⟩,
   fun a u e e0 => by obtain ⟨o', e'⟩ := x.t a u e; rw [upd_ne (ne_of_none e' h)]; exact x.n a u e e0⟩
/-- a new object that is not data yet -/
theorem Gr.own {M : List Addr} {G H G' H' : Hp} (x : Gr M G H G' H') {p : Addr} {o : HO} (h : H' p = none) : Gr M G H G' (upd H' p o) :=
  ⟨x.g, x.s.mut (x.s.none h), fun a u m e => by rw [upd_ne (ne_of_none (x.h a u m e) h)]; exact x.h a u m e,
   fun a u e => by obtain ⟨o', e'⟩ := x.t a u e; exact ⟨o', by rw [upd_ne (ne_of_none e' h)]; exact e'⟩, x.n⟩
/-- an own object becomes data -/
theorem Gr.freeze {M : List Addr} {G H G' H' : Hp} (x : Gr M G H G' H') {p : Addr} {o : HO} (h : H' p = some o) (hn : G' p = none) (h0 : H p = none) : Gr M G H (upd G' p o) H' :=
  ⟨x.g.trans (Sb.new hn), x.s.add h, x.h, x.t, fun a u e e0 => by
    have ne : a ≠ p := fun q => by subst q; rw [h0] at e; cases e
    rw [upd_ne ne]; exact x.n a u e e0⟩
/-- an own object is written -/
theorem Gr.write {M : List Addr} {G H G' H' : Hp} (x : Gr M G H G' H') {p : Addr} {o : HO} (hm : p ∈ M ∨ H p = none) (hn : G' p = none) : Gr M G H G' (upd H' p o) :=
  ⟨x.g, x.s.mut hn, fun a u m e => by
    have ne : a ≠ p := fun q => by
      subst q
      rcases hm with hm | hm
      · exact m hm
      · rw [hm] at e; cases e
    rw [upd_ne ne]; exact x.h a u m e,
   fun a u e => by
    by_cases ne : a = p
    · subst ne; exact ⟨o, upd_same⟩
    · obtain ⟨o', e'⟩ := x.t a u e; exact ⟨o', by rw [upd_ne ne]; exact e'⟩, x.n⟩
/-- data for a while: what was frozen is own again, what was made of it is forgotten -/
theorem Gr.thaw {M : List Addr} {G H G2 H2 : Hp} {p : Addr} {o : HO} (x : Gr M (upd G p o) H G2 H2) (hn : G p = none) : Gr M G H G H2 :=
  ⟨Sb.refl G, ((Sb.new hn).trans x.g).trans x.s, x.h, x.t, fun _ _ _ e => e⟩
/-- what was made within is forgotten from M -/
theorem Gr.drop {M : List Addr} {p : Addr} {G H G' H' : Hp} (x : Gr (p :: M) G H G' H') (h : H p = none) : Gr M G H G' H' :=
  ⟨x.g, x.s, fun a o m e => x.h a o (fun z => by
    rcases List.mem_cons.mp z with z | z
    · subst z; rw [h] at e; cases e
    · exact m z) e, x.t, x.n⟩
theorem Gr.ne {M : List Addr} {G H G' H' : Hp} (x : Gr M G H G' H') {p : Addr} {o : HO} (h : H p = some o) (hn : G p = none) : G' p = none := x.n p o h hn

/-! ### what evaluates to what -/
def EvP (te : TE) (σ : L2.St) (G H : Hp) (P : PyData → Prop) : Prop := ∀ G1 H1, Gr [] G H G1 H1 → ∀ Q : VK, (∀ v d G2 H2, Gr [] G1 H1 G2 H2 → P d → Dx G2 v d → Q v H2) → te σ H1 Q
def EvD (te : TE) (σ : L2.St) (G H : Hp) (d : PyData) : Prop := ∀ G1 H1, Gr [] G H G1 H1 → ∀ Q : VK, (∀ v G2 H2, Gr [] G1 H1 G2 H2 → Dx G2 v d → Q v H2) → te σ H1 Q
/-- a new list of its own -/
def EvM (te : TE) (σ : L2.St) (G H : Hp) (ds : List PyData) : Prop := ∀ G1 H1, Gr [] G H G1 H1 → ∀ Q : VK, (∀ p xs G2 H2, Gr [] G1 H1 G2 H2 → H1 p = none → G2 p = none → H2 p = some (.lst xs) → Dxs G2 xs ds → Q (.ref p) H2) → te σ H1 Q
def EvMP (te : TE) (σ : L2.St) (G H : Hp) (P : List PyData → Prop) : Prop := ∀ G1 H1, Gr [] G H G1 H1 → ∀ Q : VK, (∀ p xs ds G2 H2, Gr [] G1 H1 G2 H2 → H1 p = none → G2 p = none → H2 p = some (.lst xs) → P ds → Dxs G2 xs ds → Q (.ref p) H2) → te σ H1 Q
def EvT (tt : TT) (σ : L2.St) (G H : Hp) (b : Bool) : Prop := ∀ G1 H1, Gr [] G H G1 H1 → ∀ Q : Bool → Hp → Prop, (∀ G2 H2, Gr [] G1 H1 G2 H2 → Q b H2) → tt σ H1 Q
def EvA (ta : TA) (σ : L2.St) (G H : Hp) (ds : List PyData) : Prop := ∀ G1 H1, Gr [] G H G1 H1 → ∀ Q : List V → Hp → Prop, (∀ vs G2 H2, Gr [] G1 H1 G2 H2 → Dxs G2 vs ds → Q vs H2) → ta σ H1 Q
def EvO (to : TO) (σ : L2.St) (G H : Hp) (o : Option Int) : Prop := ∀ G1 H1, Gr [] G H G1 H1 → ∀ Q : Option Int → Hp → Prop, (∀ G2 H2, Gr [] G1 H1 G2 H2 → Q o H2) → to σ H1 Q
/-- the same of operations on values -/
def RD (r : R2) (d1 d2 d : PyData) : Prop := ∀ G1 H1 x y, Sb G1 H1 → Dx G1 x d1 → Dx G1 y d2 → ∀ Q : VK, (∀ v G2 H2, Gr [] G1 H1 G2 H2 → Dx G2 v d → Q v H2) → r x y H1 Q
def RM (r : R2) (d1 d2 : PyData) (ds : List PyData) : Prop := ∀ G1 H1 x y, Sb G1 H1 → Dx G1 x d1 → Dx G1 y d2 → ∀ Q : VK, (∀ p xs G2 H2, Gr [] G1 H1 G2 H2 → H1 p = none → G2 p = none → H2 p = some (.lst xs) → Dxs G2 xs ds → Q (.ref p) H2) → r x y H1 Q
def CD (r : List V → Hp → VK → Prop) (ds : List PyData) (d : PyData) : Prop := ∀ G1 H1 vs, Sb G1 H1 → Dxs G1 vs ds → ∀ Q : VK, (∀ v G2 H2, Gr [] G1 H1 G2 H2 → Dx G2 v d → Q v H2) → r vs H1 Q
def CM (r : List V → Hp → VK → Prop) (ds : List PyData) (es : List PyData) : Prop := ∀ G1 H1 vs, Sb G1 H1 → Dxs G1 vs ds → ∀ Q : VK, (∀ p xs G2 H2, Gr [] G1 H1 G2 H2 → H1 p = none → G2 p = none → H2 p = some (.lst xs) → Dxs G2 xs es → Q (.ref p) H2) → r vs H1 Q
section
variable {K : PySem.W.Frag} {σ : L2.St} {G G' H H' : Hp} {ta tb tc te : TE} {tt tu : TT} {d d1 d2 d3 : PyData} {ds es : List PyData} {r r' : R2} {b c : Bool}
theorem EvD.p {P : PyData → Prop} (h : EvD te σ G H d) (p : P d) : EvP te σ G H P := fun G1 H1 a Q q => h G1 H1 a Q fun v G2 H2 g x => q v d G2 H2 g p x
theorem EvD.mono (h : EvD te σ G H d) (s : Gr [] G H G' H') : EvD te σ G' H' d := fun G1 H1 a Q q => h G1 H1 (s.trans a) Q q
theorem EvM.mono (h : EvM te σ G H ds) (s : Gr [] G H G' H') : EvM te σ G' H' ds := fun G1 H1 a Q q => h G1 H1 (s.trans a) Q q
theorem EvT.mono (h : EvT tt σ G H b) (s : Gr [] G H G' H') : EvT tt σ G' H' b := fun G1 H1 a Q q => h G1 H1 (s.trans a) Q q
theorem EvM.dat (h : EvM te σ G H ds) : EvD te σ G H (.list ds) := fun G1 H1 a Q q => h G1 H1 a Q fun p xs G2 H2 g h0 hn h2 x =>
  q (.ref p) _ H2 (g.freeze h2 hn h0) (.lst upd_same (x.mono (Sb.new hn)))
theorem ev_is (h : EvD te σ G H d) (e : d = d1) : EvD te σ G H d1 := e ▸ h
theorem evt_is (h : EvT tt σ G H b) (e : b = c) : EvT tt σ G H c := e ▸ h
theorem evm_is (h : EvM te σ G H ds) (e : ds = es) : EvM te σ G H es := e ▸ h
theorem ev_var {i : Nat} {v : V} (h : σ[i]? = some (some v)) (x : Dx G v d) : EvD (tVar i) σ G H d := fun G1 _ a _ q => ⟨v, h, q v G1 _ (.refl a.s) (x.mono a.g)⟩
theorem ev_int {i : Int} : EvD (tC (.int i)) σ G H (.int i) := fun G1 _ a _ q => q _ G1 _ (.refl a.s) (.int i)
theorem ev_bl {x : Bool} : EvD (tC (.bl x)) σ G H (.bool x) := fun G1 _ a _ q => q _ G1 _ (.refl a.s) (.bl x)
theorem ev_str {x : Str} : EvD (tC (.str x)) σ G H (.str x) := fun G1 _ a _ q => q _ G1 _ (.refl a.s) (.str x)
theorem ev_non : EvD (tC .non) σ G H .none := fun G1 _ a _ q => q _ G1 _ (.refl a.s) .non
theorem ev_op (ha : EvD ta σ G H d1) (hb : EvD tb σ G H d2) (hr : RD r d1 d2 d) : EvD (tOp r ta tb) σ G H d := fun G1 H1 a Q q =>
  ha G1 H1 a _ fun v G2 H2 g x => hb G2 H2 (a.trans g) _ fun u G3 H3 g3 y => hr G3 H3 v u g3.s (x.mono g3.g) y Q fun w G4 H4 g4 z => q w G4 H4 (g.trans (g3.trans g4)) z
theorem ev_opM (ha : EvD ta σ G H d1) (hb : EvD tb σ G H d2) (hr : RM r d1 d2 ds) : EvM (tOp r ta tb) σ G H ds := fun G1 H1 a Q q =>
  ha G1 H1 a _ fun v G2 H2 g x => hb G2 H2 (a.trans g) _ fun u G3 H3 g3 y => hr G3 H3 v u g3.s (x.mono g3.g) y Q fun p xs G4 H4 g4 h0 hn h4 z =>
    q p xs G4 H4 (g.trans (g3.trans g4)) ((g.trans g3).free h0) hn h4 z
theorem ev_chain {b1 b2 : Bool} (ha : EvD ta σ G H d1) (hb : EvD tb σ G H d2) (hr : RD r d1 d2 (.bool b1)) (hc : b1 = true → EvD tc σ G H d3) (hr' : b1 = true → RD r' d2 d3 (.bool b2)) : EvD (tChain r r' ta tb tc) σ G H (.bool (b1 && b2)) := fun G1 H1 a Q q =>
  ha G1 H1 a _ fun v G2 H2 g x => hb G2 H2 (a.trans g) _ fun u G3 H3 g3 y => hr G3 H3 v u g3.s (x.mono g3.g) y _ fun w G4 H4 g4 z => by
    refine ⟨b1, z.bl_eq, ?_⟩
    cases b1 with
    | true =>
      refine iteT (hc rfl G4 H4 (a.trans (g.trans (g3.trans g4))) _ fun t G5 H5 g5 zz => ?_)
      exact hr' rfl G5 H5 u t g5.s (y.mono (g4.g.trans g5.g)) zz Q fun w G6 H6 g6 z6 => q w G6 H6 (g.trans (g3.trans (g4.trans (g5.trans g6)))) z6
    | false => exact iteF (q _ G4 H4 (g.trans (g3.trans g4)) (.bl false))
theorem ev_un {f : V → Hp → VK → Prop} (ha : EvD ta σ G H d1) (hr : ∀ G1 H1 x, Sb G1 H1 → Dx G1 x d1 → ∀ Q : VK, (∀ v G2 H2, Gr [] G1 H1 G2 H2 → Dx G2 v d → Q v H2) → f x H1 Q) : EvD (tUn f ta) σ G H d := fun G1 H1 a Q q =>
  ha G1 H1 a _ fun v G2 H2 g x => hr G2 H2 v g.s x Q fun w G4 H4 g4 z => q w G4 H4 (g.trans g4) z
theorem ev_neg {i : Int} (ha : EvD ta σ G H (.int i)) : EvD (tUn (rU fun i => .int (-i)) ta) σ G H (.int (-i)) := ev_un ha fun G1 _ _ s x _ q => ⟨i, x.int_eq, q _ G1 _ (.refl s) (.int _)⟩
theorem ev_if (h : EvT tt σ G H b) (h1 : b = true → EvD ta σ G H d) (h2 : b = false → EvD tb σ G H d) : EvD (tIf tt ta tb) σ G H d := fun G1 H1 a Q q => h G1 H1 a _ fun G2 H2 g => by
  cases b with
  | true => exact iteT (h1 rfl G2 H2 (a.trans g) Q fun v G3 H3 g3 x => q v G3 H3 (g.trans g3) x)
  | false => exact iteF (h2 rfl G2 H2 (a.trans g) Q fun v G3 H3 g3 x => q v G3 H3 (g.trans g3) x)
/-! tests -/
theorem et_test (h : EvD te σ G H (.bool b)) : EvT (tTest te) σ G H b := fun G1 H1 a Q q => h G1 H1 a _ fun v G2 H2 g x => ⟨b, x.bl_eq, q G2 H2 g⟩
theorem et_B (h : EvD te σ G H (.bool b)) : EvT (tB te) σ G H b := fun G1 H1 a Q q => h G1 H1 a _ fun v G2 H2 g x => ⟨b, x.bl_eq, q G2 H2 g⟩
theorem et_and (h : EvT tt σ G H b) (h1 : b = true → EvT tu σ G H c) : EvT (tAnd tt tu) σ G H (b && c) := fun G1 H1 a Q q => h G1 H1 a _ fun G2 H2 g => by
  cases b with
  | true => exact iteT (h1 rfl G2 H2 (a.trans g) Q fun G3 H3 g3 => q G3 H3 (g.trans g3))
  | false => exact iteF (q G2 H2 g)
theorem et_or (h : EvT tt σ G H b) (h1 : b = false → EvT tu σ G H c) : EvT (tOr tt tu) σ G H (b || c) := fun G1 H1 a Q q => h G1 H1 a _ fun G2 H2 g => by
  cases b with
  | false => exact iteF (h1 rfl G2 H2 (a.trans g) Q fun G3 H3 g3 => q G3 H3 (g.trans g3))
  | true => exact iteT (q G2 H2 g)
theorem et_not (h : EvT tt σ G H b) : EvT (tNot tt) σ G H (!b) := fun G1 H1 a _ q => h G1 H1 a _ fun G2 H2 g => q G2 H2 g
theorem et_yes : EvT tYes σ G H true := fun G1 H1 a _ q => q G1 H1 (.refl a.s)
theorem ev_andV (h : EvD ta σ G H (.bool b)) (h1 : b = true → EvD tb σ G H (.bool c)) : EvD (tAndV ta tb) σ G H (.bool (b && c)) := fun G1 H1 a Q q => h G1 H1 a _ fun v G2 H2 g x => ⟨b, x.bl_eq, by
  cases b with
  | true => exact iteT (h1 rfl G2 H2 (a.trans g) Q fun v G3 H3 g3 x => q v G3 H3 (g.trans g3) x)
  | false => exact iteF (q _ G2 H2 g (.bl false))⟩
theorem ev_orV (h : EvD ta σ G H (.bool b)) (h1 : b = false → EvD tb σ G H (.bool c)) : EvD (tOrV ta tb) σ G H (.bool (b || c)) := fun G1 H1 a Q q => h G1 H1 a _ fun v G2 H2 g x => ⟨b, x.bl_eq, by
  cases b with
  | false => exact iteF (h1 rfl G2 H2 (a.trans g) Q fun v G3 H3 g3 x => q v G3 H3 (g.trans g3) x)
  | true => exact iteT (q _ G2 H2 g (.bl true))⟩
theorem ev_notV (h : EvD ta σ G H (.bool b)) : EvD (tNotV ta) σ G H (.bool (!b)) := fun G1 H1 a _ q => h G1 H1 a _ fun v G2 H2 g x => ⟨b, x.bl_eq, q _ G2 H2 g (.bl _)⟩
def isNone : PyData → Bool
  | .none => true
  | _ => false
theorem ev_isN (h : EvD ta σ G H d) : EvD (tIsN ta) σ G H (.bool (isNone d)) := fun G1 H1 a _ q => h G1 H1 a _ fun v G2 H2 g x => by
  have e : decide (v = V.non) = isNone d := by cases x <;> rfl
  show _
  rw [e]; exact q _ G2 H2 g (.bl _)
theorem ev_notN (h : EvD ta σ G H d) : EvD (tNotN ta) σ G H (.bool (!isNone d)) := fun G1 H1 a _ q => h G1 H1 a _ fun v G2 H2 g x => by
  have e : decide (v = V.non) = isNone d := by cases x <;> rfl
  show _
  rw [e]; exact q _ G2 H2 g (.bl _)
/-! arguments -/
theorem ea_nil : EvA tNil σ G H [] := fun G1 H1 a _ q => q [] G1 H1 (.refl a.s) .nil
theorem ea_cons {tr : TA} (h : EvD te σ G H d) (hr : EvA tr σ G H ds) : EvA (tCons te tr) σ G H (d :: ds) := fun G1 H1 a _ q =>
  h G1 H1 a _ fun v G2 H2 g x => hr G2 H2 (a.trans g) _ fun vs G3 H3 g3 xs => q (v :: vs) G3 H3 (g.trans g3) (.cons (x.mono g3.g) xs)
theorem ea_is {t : TA} (h : EvA t σ G H ds) (e : ds = es) : EvA t σ G H es := e ▸ h
theorem ev_tup {t : TA} (h : EvA t σ G H ds) (hl : ds.length ≤ 100000) : EvD (tTup t) σ G H (.tuple ds) := fun G1 H1 a _ q =>
  h G1 H1 a _ fun vs G2 H2 g xs => ⟨Evl.sz_of (by rw [xs.len]; exact hl), fun p hp => q (.ref p) _ _ (g.data hp) (.tup upd_same (xs.mono (Sb.new (g.s.none hp))))⟩
theorem ev_lst {t : TA} (h : EvA t σ G H ds) (hl : ds.length ≤ 100000) : EvM (tLst t) σ G H ds := fun G1 H1 a _ q =>
  h G1 H1 a _ fun vs G2 H2 g xs => ⟨Evl.sz_of (by rw [xs.len]; exact hl), fun p hp => q p vs G2 _ (g.own hp) (g.free hp) (g.s.none hp) upd_same xs⟩
theorem ev_cb {f : List V → Hp → VK → Prop} {t : TA} (h : EvA t σ G H ds) (hr : CD f ds d) : EvD (tCB f t) σ G H d := fun G1 H1 a Q q =>
  h G1 H1 a _ fun vs G2 H2 g xs => hr G2 H2 vs g.s xs Q fun v G3 H3 g3 x => q v G3 H3 (g.trans g3) x
theorem ev_cbM {f : List V → Hp → VK → Prop} {t : TA} (h : EvA t σ G H ds) (hr : CM f ds es) : EvM (tCB f t) σ G H es := fun G1 H1 a Q q =>
  h G1 H1 a _ fun vs G2 H2 g xs => hr G2 H2 vs g.s xs Q fun p ys G3 H3 g3 h0 hn h3 x => q p ys G3 H3 (g.trans g3) (g.free h0) hn h3 x
theorem eo_none : EvO tNoPart σ G H none := fun G1 H1 a _ q => q G1 H1 (.refl a.s)
theorem eo_some {i : Int} (h : EvD te σ G H (.int i)) : EvO (tPart te) σ G H (some i) := fun G1 H1 a _ q => h G1 H1 a _ fun v G2 H2 g x => ⟨i, x.int_eq, q G2 H2 g⟩
/-- an own list read: len(xs), xs[i] -/
theorem ev_lenO {l : Addr} {xs : List V} {i : Nat} (h : σ[i]? = some (some (.ref l))) (hl : H l = some (.lst xs)) : EvD (tCB (fun xs H Q => ∃ p ys, xs = [.ref p] ∧ (SqL K H p ys ∨ SqT K H p ys) ∧ Q (.int ys.length) H) (tCons (tVar i) tNil)) σ G H (.int xs.length) := fun G1 H1 a Q q =>
  ⟨.ref l, h, l, xs, rfl, Or.inl (Or.inl (Or.inl (a.h l _ (by simp) hl))), q _ G1 H1 (.refl a.s) (.int _)⟩
theorem ev_ixO {l : Addr} {xs : List V} {i : Nat} {k : Int} (h : σ[i]? = some (some (.ref l))) (hl : H l = some (.lst xs)) (hx : Dxs G xs ds) (hk : EvD ta σ G H (.int k)) (e : atI ds k = some d) : EvD (tOp (rIxL K) (tVar i) ta) σ G H d := fun G1 H1 a Q q =>
  ⟨.ref l, h, hk G1 H1 a _ fun v G2 H2 g x => by
    have hl2 := (a.trans g).h l _ (by simp) hl
    have dxs := hx.mono (a.trans g).g
    obtain ⟨j, hj⟩ : ∃ j, ixN ds.length k = some j := by
      unfold atI at e
      cases q : ixN ds.length k with
      | none => rw [q] at e; cases e
      | some j => exact ⟨j, rfl⟩
    unfold atI at e
    rw [hj] at e
    obtain ⟨u, hu, du⟩ := dxs.get (i := j) e
    refine ⟨l, xs, k, u, rfl, x.int_eq, Or.inl (Or.inl hl2), ?_, q u G2 H2 g du⟩
    unfold atI
    rw [dxs.len, hj]
    exact hu⟩
theorem ev_sumO {l : Addr} {xs : List V} {ns : List Int} {i : Nat} (h : σ[i]? = some (some (.ref l))) (hl : H l = some (.lst xs)) (hx : Dxs G xs (ns.map .int)) : EvD (tCB (rSum K) (tCons (tVar i) tNil)) σ G H (.int ns.sum) := fun G1 H1 a Q q =>
  ⟨.ref l, h, l, ns, rfl, by rw [← hx.ints_eq]; exact Or.inl (Or.inl (a.h l _ (by simp) hl)), q _ G1 H1 (.refl a.s) (.int _)⟩
end

/-! ### operations -/
section
variable {K : PySem.W.Frag} {d e : PyData} {ds es : List PyData} {i j : Int}
theorem rd_I0 {g : Int → Int → V} {d : PyData} (h : ∀ G, Dx G (g i j) d) : RD (rI0 g) (.int i) (.int j) d := fun G1 _ _ _ s x y _ q => ⟨i, j, x.int_eq, y.int_eq, q _ G1 _ (.refl s) (h G1)⟩
theorem rd_I {C : Int → Int → Prop} {g : Int → Int → V} {d : PyData} (hc : C i j) (h : ∀ G, Dx G (g i j) d) : RD (rI C g) (.int i) (.int j) d := fun G1 _ _ _ s x y _ q => ⟨i, j, x.int_eq, y.int_eq, hc, q _ G1 _ (.refl s) (h G1)⟩
theorem rd_add : RD (rI0 fun i j => .int (i + j)) (.int i) (.int j) (.int (i + j)) := rd_I0 fun _ => .int _
theorem rd_sub : RD (rI0 fun i j => .int (i - j)) (.int i) (.int j) (.int (i - j)) := rd_I0 fun _ => .int _
theorem rd_mul (h : CMul i j) : RD (rI CMul fun i j => .int (i * j)) (.int i) (.int j) (.int (i * j)) := rd_I h fun _ => .int _
theorem rd_mod (h : 0 < j) : RD (rI (fun _ j => 0 < j) fun i j => .int (i % j)) (.int i) (.int j) (.int (i % j)) := rd_I (C := fun _ j => 0 < j) h fun _ => .int _
theorem rd_fdiv (h : CDiv i j) : RD (rI CDiv fun i j => .int (i / j)) (.int i) (.int j) (.int (i / j)) := rd_I h fun _ => .int _
theorem rd_pow (h : CPow i j) : RD (rI CPow fun i j => .int (i ^ j.toNat)) (.int i) (.int j) (.int (i ^ j.toNat)) := rd_I h fun _ => .int _
theorem rd_lt : RD (rI0 fun i j => .bl (decide (i < j))) (.int i) (.int j) (.bool (decide (i < j))) := rd_I0 fun _ => .bl _
theorem rd_le : RD (rI0 fun i j => .bl (decide (i ≤ j))) (.int i) (.int j) (.bool (decide (i ≤ j))) := rd_I0 fun _ => .bl _
theorem rd_gt : RD (rI0 fun i j => .bl (decide (j < i))) (.int i) (.int j) (.bool (decide (j < i))) := rd_I0 fun _ => .bl _
theorem rd_ge : RD (rI0 fun i j => .bl (decide (j ≤ i))) (.int i) (.int j) (.bool (decide (j ≤ i))) := rd_I0 fun _ => .bl _
theorem rd_eqI : RD rEq (.int i) (.int j) (.bool (decide (i = j))) := fun G1 _ x y s hx hy _ q => by
  rw [hx.int_eq, hy.int_eq]
  refine ⟨rfl, ?_⟩
  have e : decide (V.int i = V.int j) = decide (i = j) := decide_eq_decide.mpr ⟨fun h => V.int.inj h, fun h => congrArg _ h⟩
  rw [e]; exact q _ G1 _ (.refl s) (.bl _)
theorem rd_neI : RD rNe (.int i) (.int j) (.bool (!decide (i = j))) := fun G1 _ x y s hx hy _ q => by
  rw [hx.int_eq, hy.int_eq]
  refine ⟨rfl, ?_⟩
  have e : decide (V.int i = V.int j) = decide (i = j) := decide_eq_decide.mpr ⟨fun h => V.int.inj h, fun h => congrArg _ h⟩
  rw [e]; exact q _ G1 _ (.refl s) (.bl _)
theorem rd_eqS {y z : Str} : RD rEq (.str y) (.str z) (.bool (decide (y = z))) := fun G1 _ u v s hx hy _ q => by
  rw [hx.str_eq, hy.str_eq]
  refine ⟨rfl, ?_⟩
  have e : decide (V.str y = V.str z) = decide (y = z) := decide_eq_decide.mpr ⟨fun h => V.str.inj h, fun h => congrArg _ h⟩
  rw [e]; exact q _ G1 _ (.refl s) (.bl _)
theorem rd_neS {y z : Str} : RD rNe (.str y) (.str z) (.bool (!decide (y = z))) := fun G1 _ u v s hx hy _ q => by
  rw [hx.str_eq, hy.str_eq]
  refine ⟨rfl, ?_⟩
  have e : decide (V.str y = V.str z) = decide (y = z) := decide_eq_decide.mpr ⟨fun h => V.str.inj h, fun h => congrArg _ h⟩
  rw [e]; exact q _ G1 _ (.refl s) (.bl _)
theorem rd_eqB {y z : Bool} : RD rEq (.bool y) (.bool z) (.bool (decide (y = z))) := fun G1 _ u v s hx hy _ q => by
  rw [hx.bl_eq, hy.bl_eq]
  refine ⟨rfl, ?_⟩
  have e : decide (V.bl y = V.bl z) = decide (y = z) := decide_eq_decide.mpr ⟨fun h => V.bl.inj h, fun h => congrArg _ h⟩
  rw [e]; exact q _ G1 _ (.refl s) (.bl _)
theorem rd_neB {y z : Bool} : RD rNe (.bool y) (.bool z) (.bool (!decide (y = z))) := fun G1 _ u v s hx hy _ q => by
  rw [hx.bl_eq, hy.bl_eq]
  refine ⟨rfl, ?_⟩
  have e : decide (V.bl y = V.bl z) = decide (y = z) := decide_eq_decide.mpr ⟨fun h => V.bl.inj h, fun h => congrArg _ h⟩
  rw [e]; exact q _ G1 _ (.refl s) (.bl _)
theorem rd_eqD (h1 : SeqAt.shaped d = true) (h2 : SeqAt.shaped e = true) : RD (rEqD K) d e (.bool (PyData.eqv d e)) := fun G1 _ _ _ s x y _ q =>
  ⟨d, e, (x.mono s).dp, (y.mono s).dp, h1, h2, q _ G1 _ (.refl s) (.bl _)⟩
theorem rd_neD (h1 : SeqAt.shaped d = true) (h2 : SeqAt.shaped e = true) : RD (rNeD K) d e (.bool (!PyData.eqv d e)) := fun G1 _ _ _ s x y _ q =>
  ⟨d, e, (x.mono s).dp, (y.mono s).dp, h1, h2, q _ G1 _ (.refl s) (.bl _)⟩
theorem atI_dx {G : Hp} {xs : List V} (h : Dxs G xs ds) (e : atI ds i = some d) : ∃ v, atI xs i = some v ∧ Dx G v d := by
  unfold atI at e ⊢
  rw [h.len]
  cases q : ixN ds.length i with
  | none => rw [q] at e; cases e
  | some j => rw [q] at e; exact h.get e
theorem rd_ixL (h : atI ds i = some d) : RD (rIxL K) (.list ds) (.int i) d := fun G1 H1 x y s hx hy Q q => by
  obtain ⟨a, xs, rfl, hl, ha⟩ := hx.lst_eq
  obtain ⟨v, hv, dv⟩ := atI_dx ha h
  exact ⟨a, xs, i, v, rfl, hy.int_eq, Or.inl (Or.inl (s _ _ hl)), hv, q v G1 H1 (.refl s) dv⟩
theorem rd_ixT (h : atI ds i = some d) : RD (rIxT K) (.tuple ds) (.int i) d := fun G1 H1 x y s hx hy Q q => by
  obtain ⟨a, xs, rfl, hl, ha⟩ := hx.tup_eq
  obtain ⟨v, hv, dv⟩ := atI_dx ha h
  exact ⟨a, xs, i, v, rfl, hy.int_eq, Or.inl (Or.inl (s _ _ hl)), hv, q v G1 H1 (.refl s) dv⟩
theorem rd_ixS {z : Str} {c : Nat} (hl : z.length ≤ 100000) (h : atI z.cps.toList i = some c) : RD rIxS (.str z) (.int i) (.str ⟨#[c]⟩) := fun G1 H1 x y s hx hy Q q =>
  ⟨z, i, c, hx.str_eq, hy.int_eq, Evl.sz_of hl, h, q _ G1 H1 (.refl s) (.str _)⟩
theorem rd_cat (hl : ds.length + es.length ≤ 100000) : RM rCat (.list ds) (.list es) (ds ++ es) := fun G1 H1 x y s hx hy Q q => by
  obtain ⟨a, xs, rfl, ha, dxs⟩ := hx.lst_eq
  obtain ⟨b, ys, rfl, hb, dys⟩ := hy.lst_eq
  exact ⟨a, b, xs, ys, rfl, rfl, s _ _ ha, s _ _ hb, Evl.sz_of (by rw [dxs.len, dys.len]; exact hl), fun p hp => q p _ G1 _ ((Gr.refl s).own hp) hp (s.none hp) upd_same (dxs.app dys)⟩
theorem dxs_rep {G : Hp} {xs : List V} (h : Dxs G xs ds) : ∀ n : Nat, Dxs G (List.replicate n xs).flatten (List.replicate n ds).flatten
  | 0 => .nil
  | n + 1 => by rw [List.replicate_succ, List.replicate_succ, List.flatten_cons, List.flatten_cons]; exact h.app (dxs_rep h n)
theorem rd_rep (h1 : -(2 ^ 63) ≤ i) (h2 : i < 2 ^ 63) (hl : ds.length * i.toNat ≤ 100000) : RM rRep (.list ds) (.int i) (List.replicate i.toNat ds).flatten := fun G1 H1 x y s hx hy Q q => by
  obtain ⟨a, xs, rfl, ha, dxs⟩ := hx.lst_eq
  exact ⟨a, i, xs, rfl, hy.int_eq, s _ _ ha, h1, h2, Evl.sz_of (by rw [dxs.len]; exact hl), fun p hp => q p _ G1 _ ((Gr.refl s).own hp) hp (s.none hp) upd_same (dxs_rep dxs _)⟩
theorem rd_addS {y z : Str} (h : y.length + z.length ≤ 100000) : RD (fun x y H Q => ∃ i j, x = .str i ∧ y = .str j ∧ i.length + j.length ≤ sizeLine ∧ Q (.str (i ++ j)) H) (.str y) (.str z) (.str (y ++ z)) := fun G1 _ _ _ s hx hy _ q =>
  ⟨y, z, hx.str_eq, hy.str_eq, Evl.sz_of h, q _ G1 _ (.refl s) (.str _)⟩
def cutD (xs : List PyData) (lo hi : Option Int) : List PyData := (xs.drop (HT.sIx xs.length 0 lo)).take (HT.sIx xs.length xs.length hi - HT.sIx xs.length 0 lo)
theorem ev_sl {σ : L2.St} {G H : Hp} {te : TE} {tl th : TO} {lo hi : Option Int} (h : EvD te σ G H (.list ds)) (h1 : EvO tl σ G H lo) (h2 : EvO th σ G H hi) : EvM (tSl (rSlL K) te tl th) σ G H (cutD ds lo hi) := fun G1 H1 a Q q =>
  h G1 H1 a _ fun v G2 H2 g x => h1 G2 H2 (a.trans g) _ fun G3 H3 g3 => h2 G3 H3 (a.trans (g.trans g3)) _ fun G4 H4 g4 => by
    obtain ⟨p, xs, rfl, hp, dxs⟩ := (x.mono (g3.g.trans g4.g)).lst_eq
    have gg := g.trans (g3.trans g4)
    refine ⟨p, xs, rfl, Or.inl (Or.inl (gg.s _ _ hp)), fun l hl => q l _ G4 _ (gg.own hl) (gg.free hl) (gg.s.none hl) upd_same ?_⟩
    unfold cutV cutD
    rw [dxs.len]
    exact (dxs.drop _).take _
theorem ev_slS {σ : L2.St} {G H : Hp} {te : TE} {tl th : TO} {lo hi : Option Int} {z : Str} (h : EvD te σ G H (.str z)) (h1 : EvO tl σ G H lo) (h2 : EvO th σ G H hi) (hz : z.length ≤ 100000) : EvD (tSl rSlS te tl th) σ G H (.str (cutS z lo hi)) := fun G1 H1 a Q q =>
  h G1 H1 a _ fun v G2 H2 g x => h1 G2 H2 (a.trans g) _ fun G3 H3 g3 => h2 G3 H3 (a.trans (g.trans g3)) _ fun G4 H4 g4 =>
    ⟨z, x.str_eq, Evl.sz_of hz, q _ G4 H4 (g.trans (g3.trans g4)) (.str _)⟩
/-! builtin calls -/
theorem cd_lenL : CD (fun xs H Q => ∃ p ys, xs = [.ref p] ∧ (SqL K H p ys ∨ SqT K H p ys) ∧ Q (.int ys.length) H) [.list ds] (.int ds.length) := fun G1 H1 vs s h Q q => by
  cases h with | cons h t => cases t with | nil =>
    obtain ⟨a, xs, rfl, ha, dxs⟩ := h.lst_eq
    refine ⟨a, xs, rfl, Or.inl (Or.inl (Or.inl (s _ _ ha))), ?_⟩
    rw [dxs.len]; exact q _ G1 H1 (.refl s) (.int _)
theorem cd_lenT : CD (fun xs H Q => ∃ p ys, xs = [.ref p] ∧ (SqL K H p ys ∨ SqT K H p ys) ∧ Q (.int ys.length) H) [.tuple ds] (.int ds.length) := fun G1 H1 vs s h Q q => by
  cases h with | cons h t => cases t with | nil =>
    obtain ⟨a, xs, rfl, ha, dxs⟩ := h.tup_eq
    refine ⟨a, xs, rfl, Or.inr (Or.inl (Or.inl (s _ _ ha))), ?_⟩
    rw [dxs.len]; exact q _ G1 H1 (.refl s) (.int _)
theorem cd_lenS {z : Str} (hz : z.length ≤ 100000) : CD (fun xs H Q => ∃ z, xs = [.str z] ∧ z.length ≤ sizeLine ∧ Q (.int z.length) H) [.str z] (.int z.length) := fun G1 H1 vs s h Q q => by
  cases h with | cons h t => cases t with | nil =>
    exact ⟨z, by rw [h.str_eq], Evl.sz_of hz, q _ G1 H1 (.refl s) (.int _)⟩
theorem cd_abs : CD (fun xs H Q => ∃ i, xs = [.int i] ∧ Q (.int (if i < 0 then -i else i)) H) [.int i] (.int (if i < 0 then -i else i)) := fun G1 H1 vs s h Q q => by
  cases h with | cons h t => cases t with | nil => exact ⟨i, by rw [h.int_eq], q _ G1 H1 (.refl s) (.int _)⟩
theorem cd_intB {b : Bool} : CD (fun xs H Q => (∃ i, xs = [.int i] ∧ Q (.int i) H) ∨ ∃ k, xs = [.bl k] ∧ Q (.int (if k then 1 else 0)) H) [.bool b] (.int (if b then 1 else 0)) := fun G1 H1 vs s h Q q => by
  cases h with | cons h t => cases t with | nil => exact Or.inr ⟨b, by rw [h.bl_eq], q _ G1 H1 (.refl s) (.int _)⟩
theorem cd_max2 : CD (fun xs H Q => ∃ i j, xs = [.int i, .int j] ∧ Q (.int (if j > i then j else i)) H) [.int i, .int j] (.int (if j > i then j else i)) := fun G1 H1 vs s h Q q => by
  cases h with | cons h t => cases t with | cons h2 t => cases t with | nil => exact ⟨i, j, by rw [h.int_eq, h2.int_eq], q _ G1 H1 (.refl s) (.int _)⟩
theorem cd_sum {ns : List Int} : CD (rSum K) [.list (ns.map .int)] (.int ns.sum) := fun G1 H1 vs s h Q q => by
  cases h with | cons h t => cases t with | nil =>
    obtain ⟨a, xs, rfl, ha, dxs⟩ := h.lst_eq
    rw [dxs.ints_eq] at ha
    exact ⟨a, ns, rfl, Or.inl (Or.inl (s _ _ ha)), q _ G1 H1 (.refl s) (.int _)⟩
theorem cd_all {bs : List Bool} : CD (rAll K) [.list (bs.map .bool)] (.bool (bs.all id)) := fun G1 H1 vs s h Q q => by
  cases h with | cons h t => cases t with | nil =>
    obtain ⟨a, xs, rfl, ha, dxs⟩ := h.lst_eq
    rw [dxs.bls_eq] at ha
    exact ⟨a, bs, rfl, Or.inl (Or.inl (s _ _ ha)), q _ G1 H1 (.refl s) (.bl _)⟩
theorem cd_listL : CM (fun xs H Q => ∃ p ys, xs = [.ref p] ∧ (SqL K H p ys ∨ SqT K H p ys) ∧ ∀ l, H l = none → Q (.ref l) (upd H l (.lst ys))) [.list ds] ds := fun G1 H1 vs s h Q q => by
  cases h with | cons h t => cases t with | nil =>
    obtain ⟨a, xs, rfl, ha, dxs⟩ := h.lst_eq
    exact ⟨a, xs, rfl, Or.inl (Or.inl (Or.inl (s _ _ ha))), fun l hl => q l xs G1 _ ((Gr.refl s).own hl) hl (s.none hl) upd_same dxs⟩
theorem cd_listT : CM (fun xs H Q => ∃ p ys, xs = [.ref p] ∧ (SqL K H p ys ∨ SqT K H p ys) ∧ ∀ l, H l = none → Q (.ref l) (upd H l (.lst ys))) [.tuple ds] ds := fun G1 H1 vs s h Q q => by
  cases h with | cons h t => cases t with | nil =>
    obtain ⟨a, xs, rfl, ha, dxs⟩ := h.tup_eq
    exact ⟨a, xs, rfl, Or.inr (Or.inl (Or.inl (s _ _ ha))), fun l hl => q l xs G1 _ ((Gr.refl s).own hl) hl (s.none hl) upd_same dxs⟩
end

/-! ### the promises of defs -/
/-- a value made of the arguments' data; nothing that stood changes -/
def SpD {α : Type} (args : α → List PyData) (pre : α → Prop) (f : α → PyData) : Sp := fun vs H Q _ => ∃ G x, Sb G H ∧ Dxs G vs (args x) ∧ pre x ∧ ∀ v G' H', Gr [] G H G' H' → Dx G' v (f x) → Q v H'
/-- the same, a new list of its own -/
def SpM {α : Type} (args : α → List PyData) (pre : α → Prop) (f : α → List PyData) : Sp := fun vs H Q _ => ∃ G x, Sb G H ∧ Dxs G vs (args x) ∧ pre x ∧ ∀ p xs G' H', Gr [] G H G' H' → H p = none → G' p = none → H' p = some (.lst xs) → Dxs G' xs (f x) → Q (.ref p) H'
section
variable {σ : L2.St} {G H : Hp} {ds : List PyData} {E : XK} {t : TA} {α : Type} {args : α → List PyData} {pre : α → Prop} {f : α → PyData} {fl : α → List PyData}
theorem ev_call (x : α) (h : EvA t σ G H (args x)) (hp : pre x) : EvD (tCall (SpD args pre f) [] E t) σ G H (f x) := fun G1 H1 a Q q =>
  h G1 H1 a _ fun vs G2 H2 g xs => ⟨G2, x, g.s, by rw [List.append_nil]; exact xs, hp, fun v G3 H3 g3 z => q v G3 H3 (g.trans g3) z⟩
theorem ev_callM (x : α) (h : EvA t σ G H (args x)) (hp : pre x) : EvM (tCall (SpM args pre fl) [] E t) σ G H (fl x) := fun G1 H1 a Q q =>
  h G1 H1 a _ fun vs G2 H2 g xs => ⟨G2, x, g.s, by rw [List.append_nil]; exact xs, hp, fun p ys G3 H3 g3 h0 hn h3 z => q p ys G3 H3 (g.trans g3) (g.free h0) hn h3 z⟩
theorem ev_callE {d : PyData} (x : α) (h : EvA t σ G H (args x)) (hp : pre x) (e : f x = d) : EvD (tCall (SpD args pre f) [] E t) σ G H d := e ▸ ev_call x h hp
theorem ev_callME {es : List PyData} (x : α) (h : EvA t σ G H (args x)) (hp : pre x) (e : fl x = es) : EvM (tCall (SpM args pre fl) [] E t) σ G H es := e ▸ ev_callM x h hp
end
theorem dxs1 {G : Hp} {vs : List V} {a : PyData} (h : Dxs G vs [a]) : ∃ x, vs = [x] ∧ Dx G x a := by
  cases h with | cons h t => cases t with | nil => exact ⟨_, rfl, h⟩
theorem dxs2 {G : Hp} {vs : List V} {a b : PyData} (h : Dxs G vs [a, b]) : ∃ x y, vs = [x, y] ∧ Dx G x a ∧ Dx G y b := by
  cases h with | cons h t => obtain ⟨y, rfl, hy⟩ := dxs1 t; exact ⟨_, y, rfl, h, hy⟩
theorem dxs3 {G : Hp} {vs : List V} {a b c : PyData} (h : Dxs G vs [a, b, c]) : ∃ x y z, vs = [x, y, z] ∧ Dx G x a ∧ Dx G y b ∧ Dx G z c := by
  cases h with | cons h t => obtain ⟨y, z, rfl, hy, hz⟩ := dxs2 t; exact ⟨_, y, z, rfl, h, hy, hz⟩
theorem dxs4 {G : Hp} {vs : List V} {a b c d : PyData} (h : Dxs G vs [a, b, c, d]) : ∃ x y z w, vs = [x, y, z, w] ∧ Dx G x a ∧ Dx G y b ∧ Dx G z c ∧ Dx G w d := by
  cases h with | cons h t => obtain ⟨y, z, w, rfl, hy, hz, hw⟩ := dxs3 t; exact ⟨_, y, z, w, rfl, h, hy, hz, hw⟩
theorem dxs5 {G : Hp} {vs : List V} {a b c d e : PyData} (h : Dxs G vs [a, b, c, d, e]) : ∃ x y z w u, vs = [x, y, z, w, u] ∧ Dx G x a ∧ Dx G y b ∧ Dx G z c ∧ Dx G w d ∧ Dx G u e := by
  cases h with | cons h t => obtain ⟨y, z, w, u, rfl, hy, hz, hw, hu⟩ := dxs4 t; exact ⟨_, y, z, w, u, rfl, h, hy, hz, hw, hu⟩

/-! ### statements -/
section
variable {K : PySem.W.Frag} {σ : L2.St} {G H : Hp} {ta tb te : TE} {tt : TT} {d : PyData} {ds : List PyData} {b : Bool} {D : Ends} {tu tw tz : TS} {i : Nat}
theorem s_asg (h : EvD te σ G H d) (s : Sb G H) (k : ∀ v G1 H1, Gr [] G H G1 H1 → Dx G1 v d → D.nx (σ.set i (some v)) H1) : tAsg te (gName i) D σ H := h G H (.refl s) _ k
theorem s_asgP {P : PyData → Prop} (h : EvP te σ G H P) (s : Sb G H) (k : ∀ v d G1 H1, Gr [] G H G1 H1 → P d → Dx G1 v d → D.nx (σ.set i (some v)) H1) : tAsg te (gName i) D σ H := h G H (.refl s) _ k
theorem s_asgM (h : EvM te σ G H ds) (s : Sb G H) (k : ∀ p xs G1 H1, Gr [] G H G1 H1 → H p = none → G1 p = none → H1 p = some (.lst xs) → Dxs G1 xs ds → D.nx (σ.set i (some (.ref p))) H1) : tAsg te (gName i) D σ H := h G H (.refl s) _ k
theorem s_ret (h : EvD te σ G H d) (s : Sb G H) (k : ∀ v G1 H1, Gr [] G H G1 H1 → Dx G1 v d → D.rt v H1) : tRet te D σ H := h G H (.refl s) _ k
theorem s_retM (h : EvM te σ G H ds) (s : Sb G H) (k : ∀ p xs G1 H1, Gr [] G H G1 H1 → H p = none → G1 p = none → H1 p = some (.lst xs) → Dxs G1 xs ds → D.rt (.ref p) H1) : tRet te D σ H := h G H (.refl s) _ k
theorem s_if (h : EvT tt σ G H b) (s : Sb G H) (h1 : b = true → ∀ G1 H1, Gr [] G H G1 H1 → tu D σ H1) (h2 : b = false → ∀ G1 H1, Gr [] G H G1 H1 → tw D σ H1) : tIfS tt tu tw D σ H := h G H (.refl s) _ fun G1 H1 g => by
  cases b with
  | true => exact iteT (h1 rfl G1 H1 g)
  | false => exact iteF (h2 rfl G1 H1 g)
theorem s_drop (h : EvD te σ G H d) (s : Sb G H) (k : ∀ G1 H1, Gr [] G H G1 H1 → D.nx σ H1) : tDrop te D σ H := h G H (.refl s) _ fun _ G1 H1 g _ => k G1 H1 g
/-- xs.append(e), xs an own list -/
theorem s_app {l : Addr} {xs : List V} (hv : σ[i]? = some (some (.ref l))) (hl : H l = some (.lst xs)) (hn : G l = none) (h : EvD te σ G H d) (s : Sb G H) (hz : xs.length < 100000)
    (k : ∀ v G1 H1, Gr [] G H G1 H1 → Dx G1 v d → Gr [l] G H G1 (upd H1 l (.lst (xs ++ [v]))) → G1 l = none → D.nx σ (upd H1 l (.lst (xs ++ [v])))) :
    tDrop (tBM K "list" rAppend (tVar i) (tCons te tNil)) D σ H :=
  ⟨.ref l, hv, Or.inl ⟨rfl, xs, Or.inl (Or.inl hl)⟩, h G H (.refl s) _ fun v G1 H1 g x =>
    ⟨l, xs, v, rfl, rfl, g.h l _ (by simp) hl, Evl.sz_lt hz, k v G1 H1 g x (g.any.write (Or.inl (by simp)) (g.n l _ hl hn)) (g.n l _ hl hn)⟩⟩
/-! sequences -/
theorem q_asg (h : EvD te σ G H d) (s : Sb G H) (k : ∀ v G1 H1, Gr [] G H G1 H1 → Dx G1 v d → tz D (σ.set i (some v)) H1) : tSeq (tAsg te (gName i)) tz D σ H := s_asg (D := { D with nx := tz D }) h s k
theorem q_asgP {P : PyData → Prop} (h : EvP te σ G H P) (s : Sb G H) (k : ∀ v d G1 H1, Gr [] G H G1 H1 → P d → Dx G1 v d → tz D (σ.set i (some v)) H1) : tSeq (tAsg te (gName i)) tz D σ H := s_asgP (D := { D with nx := tz D }) h s k
theorem q_asgM (h : EvM te σ G H ds) (s : Sb G H) (k : ∀ p xs G1 H1, Gr [] G H G1 H1 → H p = none → G1 p = none → H1 p = some (.lst xs) → Dxs G1 xs ds → tz D (σ.set i (some (.ref p))) H1) : tSeq (tAsg te (gName i)) tz D σ H := s_asgM (D := { D with nx := tz D }) h s k
theorem q_if (h : EvT tt σ G H b) (s : Sb G H) (h1 : b = true → ∀ G1 H1, Gr [] G H G1 H1 → tu { D with nx := tz D } σ H1) (h2 : b = false → ∀ G1 H1, Gr [] G H G1 H1 → tw { D with nx := tz D } σ H1) : tSeq (tIfS tt tu tw) tz D σ H := s_if (D := { D with nx := tz D }) h s h1 h2
theorem q_when (h : EvT tt σ G H b) (s : Sb G H) (h1 : b = true → ∀ G1 H1, Gr [] G H G1 H1 → tu { D with nx := tz D } σ H1) (h2 : b = false → ∀ G1 H1, Gr [] G H G1 H1 → tz D σ H1) : tSeq (tIfS tt tu tNext) tz D σ H := s_if (D := { D with nx := tz D }) h s h1 h2
theorem q_drop (h : EvD te σ G H d) (s : Sb G H) (k : ∀ G1 H1, Gr [] G H G1 H1 → tz D σ H1) : tSeq (tDrop te) tz D σ H := s_drop (D := { D with nx := tz D }) h s k
theorem q_app {l : Addr} {xs : List V} (hv : σ[i]? = some (some (.ref l))) (hl : H l = some (.lst xs)) (hn : G l = none) (h : EvD te σ G H d) (s : Sb G H) (hz : xs.length < 100000)
    (k : ∀ v G1 H1, Gr [] G H G1 H1 → Dx G1 v d → Gr [l] G H G1 (upd H1 l (.lst (xs ++ [v]))) → G1 l = none → tz D σ (upd H1 l (.lst (xs ++ [v])))) :
    tSeq (tDrop (tBM K "list" rAppend (tVar i) (tCons te tNil))) tz D σ H := s_app (D := { D with nx := tz D }) hv hl hn h s hz k
/-! loops: I, a word of the turn, the slots, the data heap and the heap -/
def Nx (M : List Addr) (G H : Hp) (I : Nat → L2.St → Hp → Hp → Prop) (n : Nat) : L2.St → Hp → Prop := fun σ' H' => ∃ G', Gr M G H G' H' ∧ I n σ' G' H'
theorem s_forL {tl : TE} {g : TG} (M : List Addr) (I : Nat → L2.St → Hp → Hp → Prop) (h : EvD tl σ G H (.list ds)) (s : Sb G H) (h0 : ∀ G1 H1, Gr [] G H G1 H1 → I 0 σ G1 H1)
    (hs : ∀ G1 H1, Gr [] G H G1 H1 → ∀ n d v σ' G' H', ds[n]? = some d → Dx G' v d → Gr M G1 H1 G' H' → I n σ' G' H' → g v σ' H' fun σ2 H2 => tu { D with nx := Nx M G1 H1 I (n + 1), ct := Nx M G1 H1 I (n + 1), bk := D.nx } σ2 H2)
    (hd : ∀ σ' G' H', Gr M G H G' H' → I ds.length σ' G' H' → D.nx σ' H') : tFor (iList K tl) g tu D σ H :=
  h G H (.refl s) _ fun v G1 H1 g1 x => by
    obtain ⟨a, xs, rfl, ha, dxs⟩ := x.lst_eq
    refine ⟨a, rfl, ⟨xs, Or.inl (Or.inl (g1.s _ _ ha))⟩, for_list (xs := xs) (Nx M G1 H1 I) ⟨G1, .refl g1.s, h0 G1 H1 g1⟩ (fun n σ' H' _ p => ?_) (fun n x σ' H' hx p => ?_) (fun σ' H' p => ?_)⟩
    · obtain ⟨G', g', _⟩ := p
      exact Or.inl (Or.inl (g'.s _ _ (g'.g _ _ ha)))
    · obtain ⟨G', g', w⟩ := p
      obtain ⟨d, hd1, hd2⟩ := dxs.getV hx
      exact hs G1 H1 g1 n d x σ' G' H' hd1 (hd2.mono g'.g) g' w
    · obtain ⟨G', g', w⟩ := p
      rw [dxs.len] at w
      exact hd σ' G' H' (g1.any.trans g') w
theorem s_forT {tl : TE} {g : TG} (M : List Addr) (I : Nat → L2.St → Hp → Hp → Prop) (h : EvD tl σ G H (.tuple ds)) (s : Sb G H) (h0 : ∀ G1 H1, Gr [] G H G1 H1 → I 0 σ G1 H1)
    (hs : ∀ G1 H1, Gr [] G H G1 H1 → ∀ n d v σ' G' H', ds[n]? = some d → Dx G' v d → Gr M G1 H1 G' H' → I n σ' G' H' → g v σ' H' fun σ2 H2 => tu { D with nx := Nx M G1 H1 I (n + 1), ct := Nx M G1 H1 I (n + 1), bk := D.nx } σ2 H2)
    (hd : ∀ σ' G' H', Gr M G H G' H' → I ds.length σ' G' H' → D.nx σ' H') : tFor (iTup K tl) g tu D σ H :=
  h G H (.refl s) _ fun v G1 H1 g1 x => by
    obtain ⟨a, xs, rfl, ha, dxs⟩ := x.tup_eq
    refine ⟨a, rfl, ⟨xs, Or.inl (Or.inl (g1.s _ _ ha))⟩, for_tup (xs := xs) (Nx M G1 H1 I) ⟨G1, .refl g1.s, h0 G1 H1 g1⟩ (fun n σ' H' _ p => ?_) (fun n x σ' H' hx p => ?_) (fun σ' H' p => ?_)⟩
    · obtain ⟨G', g', _⟩ := p
      exact Or.inl (Or.inl (g'.s _ _ (g'.g _ _ ha)))
    · obtain ⟨G', g', w⟩ := p
      obtain ⟨d, hd1, hd2⟩ := dxs.getV hx
      exact hs G1 H1 g1 n d x σ' G' H' hd1 (hd2.mono g'.g) g' w
    · obtain ⟨G', g', w⟩ := p
      rw [dxs.len] at w
      exact hd σ' G' H' (g1.any.trans g') w
/-- for i in range(m) -/
theorem s_forR {t : TA} {j : Nat} {m : Int} (M : List Addr) (I : Nat → L2.St → Hp → Hp → Prop) (h : EvA t σ G H [.int m]) (hm : 0 ≤ m ∧ m ≤ 100000) (s : Sb G H) (h0 : ∀ G1 H1, Gr [] G H G1 H1 → I 0 σ G1 H1)
    (hs : ∀ G1 H1, Gr [] G H G1 H1 → ∀ (n : Nat) σ' G' H', (n : Int) < m → Gr M G1 H1 G' H' → I n σ' G' H' → tu { D with nx := Nx M G1 H1 I (n + 1), ct := Nx M G1 H1 I (n + 1), bk := D.nx } (σ'.set j (some (.int (n : Int)))) H')
    (hd : ∀ σ' G' H', Gr M G H G' H' → I m.toNat σ' G' H' → D.nx σ' H') : tFor (iRng1 t) (gName j) tu D σ H :=
  h G H (.refl s) _ fun vs G1 H1 g1 x => by
    obtain ⟨v, rfl, hv⟩ := dxs1 x
    refine ⟨m, by rw [hv.int_eq], by omega, by omega, for_range (lo := 0) (n := m.toNat) (Nx M G1 H1 I) ⟨G1, .refl g1.s, h0 G1 H1 g1⟩ (fun n σ' H' hn p => ?_) (fun σ' H' p => ?_)⟩
    · obtain ⟨G', g', w⟩ := p
      have e0 : (0 : Int) + (n : Int) = (n : Int) := Int.zero_add _
      show tu _ (σ'.set j (some (.int ((0 : Int) + (n : Int))))) H'
      rw [e0]
      exact hs G1 H1 g1 n σ' G' H' (by omega) g' w
    · obtain ⟨G', g', w⟩ := p
      exact hd σ' G' H' (g1.any.trans g') w
theorem q_forL {tl : TE} {g : TG} (M : List Addr) (I : Nat → L2.St → Hp → Hp → Prop) (h : EvD tl σ G H (.list ds)) (s : Sb G H) (h0 : ∀ G1 H1, Gr [] G H G1 H1 → I 0 σ G1 H1)
    (hs : ∀ G1 H1, Gr [] G H G1 H1 → ∀ n d v σ' G' H', ds[n]? = some d → Dx G' v d → Gr M G1 H1 G' H' → I n σ' G' H' → g v σ' H' fun σ2 H2 => tu { D with nx := Nx M G1 H1 I (n + 1), ct := Nx M G1 H1 I (n + 1), bk := tz D } σ2 H2)
    (hd : ∀ σ' G' H', Gr M G H G' H' → I ds.length σ' G' H' → tz D σ' H') : tSeq (tFor (iList K tl) g tu) tz D σ H := s_forL (D := { D with nx := tz D }) M I h s h0 hs hd
theorem q_forT {tl : TE} {g : TG} (M : List Addr) (I : Nat → L2.St → Hp → Hp → Prop) (h : EvD tl σ G H (.tuple ds)) (s : Sb G H) (h0 : ∀ G1 H1, Gr [] G H G1 H1 → I 0 σ G1 H1)
    (hs : ∀ G1 H1, Gr [] G H G1 H1 → ∀ n d v σ' G' H', ds[n]? = some d → Dx G' v d → Gr M G1 H1 G' H' → I n σ' G' H' → g v σ' H' fun σ2 H2 => tu { D with nx := Nx M G1 H1 I (n + 1), ct := Nx M G1 H1 I (n + 1), bk := tz D } σ2 H2)
    (hd : ∀ σ' G' H', Gr M G H G' H' → I ds.length σ' G' H' → tz D σ' H') : tSeq (tFor (iTup K tl) g tu) tz D σ H := s_forT (D := { D with nx := tz D }) M I h s h0 hs hd
theorem q_forR {t : TA} {j : Nat} {m : Int} (M : List Addr) (I : Nat → L2.St → Hp → Hp → Prop) (h : EvA t σ G H [.int m]) (hm : 0 ≤ m ∧ m ≤ 100000) (s : Sb G H) (h0 : ∀ G1 H1, Gr [] G H G1 H1 → I 0 σ G1 H1)
    (hs : ∀ G1 H1, Gr [] G H G1 H1 → ∀ (n : Nat) σ' G' H', (n : Int) < m → Gr M G1 H1 G' H' → I n σ' G' H' → tu { D with nx := Nx M G1 H1 I (n + 1), ct := Nx M G1 H1 I (n + 1), bk := tz D } (σ'.set j (some (.int (n : Int)))) H')
    (hd : ∀ σ' G' H', Gr M G H G' H' → I m.toNat σ' G' H' → tz D σ' H') : tSeq (tFor (iRng1 t) (gName j) tu) tz D σ H := s_forR (D := { D with nx := tz D }) M I h hm s h0 hs hd
end

/-! ### comprehensions -/
def given {β : Type} (n : Nat) (f : Nat → Bool) (v : Nat → β) : List β := ((List.range n).filter f).map v
theorem given_yes {β : Type} {n : Nat} {f : Nat → Bool} {v : Nat → β} (h : f n = true) : given (n + 1) f v = given n f v ++ [v n] := by
  unfold given
  rw [List.range_succ, List.filter_append, List.map_append, List.filter_cons, if_pos h] <;> rfl
theorem given_no {β : Type} {n : Nat} {f : Nat → Bool} {v : Nat → β} (h : f n = false) : given (n + 1) f v = given n f v := by
  unfold given
  rw [List.range_succ, List.filter_append, List.map_append, List.filter_cons, if_neg (by rw [h]; decide)]
  show _ ++ [] = _
  rw [List.append_nil]
theorem given_len {β : Type} (n : Nat) (f : Nat → Bool) (v : Nat → β) : (given n f v).length ≤ n := by
  unfold given
  rw [List.length_map]
  have h := List.length_filter_le f (List.range n)
  rw [List.length_range] at h
  exact h
section
variable {K : PySem.W.Frag} {σ : L2.St} {G H : Hp} {ta tb te : TE} {tt : TT} {d : PyData} {ds : List PyData}
/-- while the new list at l is being filled -/
def Cw (G H : Hp) (f : Nat → Bool) (v : Nat → PyData) (l : Addr) (i : Nat) (H' : Hp) : Prop := ∃ G' xs, Gr [] G H G' H' ∧ G' l = none ∧ H' l = some (.lst xs) ∧ Dxs G' xs (given i f v)
theorem cw_turn {H' : Hp} {f : Nat → Bool} {v : Nat → PyData} {l : Addr} {i : Nat} {σ2 : L2.St} (hl : H l = none) (p : Cw G H f v l i H') (hi : i < 50000)
    (ht : EvT tt σ2 G H (f i)) (he : f i = true → EvD te σ2 G H (v i)) :
    tt σ2 H' fun b H3 => if b = true then te σ2 H3 fun y H4 => ∃ acc, H4 l = some (.lst acc) ∧ acc.length < sizeLine ∧ Cw G H f v l (i + 1) (upd H4 l (.lst (acc ++ [y]))) else Cw G H f v l (i + 1) H3 := by
  obtain ⟨G', xs, g, hn', hx, dx⟩ := p
  refine ht G' H' g _ fun G3 H3 g3 => ?_
  cases hf : f i with
  | true =>
    refine iteT (he hf G3 H3 (g.trans g3) _ fun y G4 H4 g4 hy => ?_)
    have g34 := g3.trans g4
    refine ⟨xs, g34.h l _ (by simp) hx, Evl.sz_lt (by rw [dx.len]; have := given_len i f v; omega), G4, xs ++ [y], ?_, g34.n l _ hx hn', upd_same, ?_⟩
    · exact (g.trans g34).write (Or.inr hl) (g34.n l _ hx hn')
    · rw [given_yes hf]
      exact (dx.mono g34.g).app (Dxs.one hy)
  | false =>
    refine iteF ⟨G3, xs, g.trans g3, g3.n l _ hx hn', g3.h l _ (by simp) hx, ?_⟩
    rw [given_no hf]
    exact dx.mono g3.g
/-- [e for j in range(m) if t] -/
theorem ev_lcR {t : TA} {j : Nat} {vs : List Nat} {m : Int} (f : Nat → Bool) (v : Nat → PyData) (h : EvA t σ G H [.int m]) (hm : 0 ≤ m ∧ m ≤ 40000) (hw : ∀ x, wipe ((wipe σ vs).set j (some x)) vs = wipe σ vs)
    (ht : ∀ (i : Nat), (i : Int) < m → EvT tt ((wipe σ vs).set j (some (.int (i : Int)))) G H (f i)) (he : ∀ (i : Nat), (i : Int) < m → f i = true → EvD te ((wipe σ vs).set j (some (.int (i : Int)))) G H (v i)) :
    EvM (tLc (iRng1 t) (gName j) tt te vs) σ G H (given m.toNat f v) := fun G0 H0 a Q q => h G0 H0 a _ fun us G1 H1 g1 x => by
  obtain ⟨u, rfl, hu⟩ := dxs1 x
  have gg := a.trans g1
  refine ⟨m, by rw [hu.int_eq], by omega, by omega, fun l hl => lc_range (lo := 0) (n := m.toNat) (Cw G1 H1 f v l) ⟨G1, [], (Gr.refl g1.s).own hl, g1.s.none hl, upd_same, by exact .nil⟩ (fun i H' hi p => ?_) (fun H' p => ?_)⟩
  · have e0 : (0 : Int) + (i : Int) = (i : Int) := Int.zero_add _
    show wipe ((wipe σ vs).set j (some (.int ((0 : Int) + (i : Int))))) vs = wipe σ vs ∧ tt ((wipe σ vs).set j (some (.int ((0 : Int) + (i : Int))))) H' _
    rw [e0]
    exact ⟨hw _, cw_turn hl p (by omega) ((ht i (by omega)).mono gg) (fun hf => (he i (by omega) hf).mono gg)⟩
  · obtain ⟨G', xs, k1, k2, k3, k4⟩ := p
    exact q l xs G' H' (g1.trans k1) (g1.free hl) k2 k3 k4
/-- [e for x in xs if t], the target any -/
theorem ev_lcL {tl : TE} {g : TG} {vs : List Nat} (f : Nat → Bool) (v : Nat → PyData) (h : EvD tl σ G H (.list ds)) (hz : ds.length ≤ 40000)
    (ht : ∀ (i : Nat) (d : PyData) (x : V) G1 H1 H' (Q : L2.St → Hp → Prop), Gr [] G H G1 H1 → ds[i]? = some d → Dx G1 x d → Sb G1 H' → (∀ σ2, wipe σ2 vs = wipe σ vs → EvT tt σ2 G1 H1 (f i) → (f i = true → EvD te σ2 G1 H1 (v i)) → Q σ2 H') → g x (wipe σ vs) H' Q) :
    EvM (tLc (iList K tl) g tt te vs) σ G H (given ds.length f v) := fun G0 H0 a Q q => h G0 H0 a _ fun u G1 H1 g1 x => by
  obtain ⟨p, xs, rfl, hp, dxs⟩ := x.lst_eq
  refine ⟨p, rfl, ⟨xs, Or.inl (Or.inl (g1.s _ _ hp))⟩, fun l hl => lc_list (xs := xs) (Cw G1 H1 f v l) ⟨G1, [], (Gr.refl g1.s).own hl, g1.s.none hl, upd_same, by exact .nil⟩ (fun i H' _ w => ?_) (fun i x H' hx w => ?_) (fun H' w => ?_)⟩
  · obtain ⟨G', ys, gg, _, _⟩ := w
    exact Or.inl (Or.inl (gg.s _ _ (gg.g _ _ hp)))
  · obtain ⟨d, hd1, hd2⟩ := dxs.getV hx
    have hi : i < ds.length := (List.getElem?_eq_some_iff.mp hd1).1
    have w0 := w
    obtain ⟨G', ys, gg, _, _⟩ := w0
    refine ht i d x G1 H1 H' _ (a.trans g1) hd1 hd2 (gg.g.trans gg.s) fun σ2 hw h1 h2 => ⟨hw, ?_⟩
    exact cw_turn hl w (by omega) h1 h2
  · rw [dxs.len] at w
    obtain ⟨G', xs, k1, k2, k3, k4⟩ := w
    exact q l xs G' H' (g1.trans k1) (g1.free hl) k2 k3 k4
theorem ev_lcT {tl : TE} {g : TG} {vs : List Nat} (f : Nat → Bool) (v : Nat → PyData) (h : EvD tl σ G H (.tuple ds)) (hz : ds.length ≤ 40000)
    (ht : ∀ (i : Nat) (d : PyData) (x : V) G1 H1 H' (Q : L2.St → Hp → Prop), Gr [] G H G1 H1 → ds[i]? = some d → Dx G1 x d → Sb G1 H' → (∀ σ2, wipe σ2 vs = wipe σ vs → EvT tt σ2 G1 H1 (f i) → (f i = true → EvD te σ2 G1 H1 (v i)) → Q σ2 H') → g x (wipe σ vs) H' Q) :
    EvM (tLc (iTup K tl) g tt te vs) σ G H (given ds.length f v) := fun G0 H0 a Q q => h G0 H0 a _ fun u G1 H1 g1 x => by
  obtain ⟨p, xs, rfl, hp, dxs⟩ := x.tup_eq
  refine ⟨p, rfl, ⟨xs, Or.inl (Or.inl (g1.s _ _ hp))⟩, fun l hl => lc_tup (xs := xs) (Cw G1 H1 f v l) ⟨G1, [], (Gr.refl g1.s).own hl, g1.s.none hl, upd_same, by exact .nil⟩ (fun i H' _ w => ?_) (fun i x H' hx w => ?_) (fun H' w => ?_)⟩
  · obtain ⟨G', ys, gg, _, _⟩ := w
    exact Or.inl (Or.inl (gg.s _ _ (gg.g _ _ hp)))
  · obtain ⟨d, hd1, hd2⟩ := dxs.getV hx
    have hi : i < ds.length := (List.getElem?_eq_some_iff.mp hd1).1
    have w0 := w
    obtain ⟨G', ys, gg, _, _⟩ := w0
    refine ht i d x G1 H1 H' _ (a.trans g1) hd1 hd2 (gg.g.trans gg.s) fun σ2 hw h1 h2 => ⟨hw, ?_⟩
    exact cw_turn hl w (by omega) h1 h2
  · rw [dxs.len] at w
    obtain ⟨G', xs, k1, k2, k3, k4⟩ := w
    exact q l xs G' H' (g1.trans k1) (g1.free hl) k2 k3 k4
/-- .. the target a name -/
theorem ev_lcLn {tl : TE} {j : Nat} {vs : List Nat} (f : Nat → Bool) (v : Nat → PyData) (h : EvD tl σ G H (.list ds)) (hz : ds.length ≤ 40000) (hw : ∀ x, wipe ((wipe σ vs).set j (some x)) vs = wipe σ vs)
    (ht : ∀ (i : Nat) (d : PyData) (x : V) G1 H1, Gr [] G H G1 H1 → ds[i]? = some d → Dx G1 x d → EvT tt ((wipe σ vs).set j (some x)) G1 H1 (f i)) (he : ∀ (i : Nat) (d : PyData) (x : V) G1 H1, Gr [] G H G1 H1 → ds[i]? = some d → Dx G1 x d → f i = true → EvD te ((wipe σ vs).set j (some x)) G1 H1 (v i)) :
    EvM (tLc (iList K tl) (gName j) tt te vs) σ G H (given ds.length f v) := ev_lcL f v h hz fun i d x G1 H1 H' Q s hd hx _ q => q _ (hw x) (ht i d x G1 H1 s hd hx) (he i d x G1 H1 s hd hx)
theorem ev_lcTn {tl : TE} {j : Nat} {vs : List Nat} (f : Nat → Bool) (v : Nat → PyData) (h : EvD tl σ G H (.tuple ds)) (hz : ds.length ≤ 40000) (hw : ∀ x, wipe ((wipe σ vs).set j (some x)) vs = wipe σ vs)
    (ht : ∀ (i : Nat) (d : PyData) (x : V) G1 H1, Gr [] G H G1 H1 → ds[i]? = some d → Dx G1 x d → EvT tt ((wipe σ vs).set j (some x)) G1 H1 (f i)) (he : ∀ (i : Nat) (d : PyData) (x : V) G1 H1, Gr [] G H G1 H1 → ds[i]? = some d → Dx G1 x d → f i = true → EvD te ((wipe σ vs).set j (some x)) G1 H1 (v i)) :
    EvM (tLc (iTup K tl) (gName j) tt te vs) σ G H (given ds.length f v) := ev_lcT f v h hz fun i d x G1 H1 H' Q s hd hx _ q => q _ (hw x) (ht i d x G1 H1 s hd hx) (he i d x G1 H1 s hd hx)
end

/-! ### names of the built-ins -/
structure Bi (mg : Str → Option Value) : Prop where
  len : mg "len" = none
  range : mg "range" = none
  abs : mg "abs" = none
  int_ : mg "int" = none
  sum : mg "sum" = none
  isinstance : mg "isinstance" = none
  tuple : mg "tuple" = none
  list : mg "list" = none
  all : mg "all" = none
  bool : mg "bool" = none
  max : mg "max" = none
  enumerate : mg "enumerate" = none
  sorted : mg "sorted" = none
  str_ : mg "str" = none
/-! ### lists beside the data -/
theorem sq_gr {K : PySem.W.Frag} {M : List Addr} {G H G' H' : Hp} {a : Addr} {xs : List V} (g : Gr M G H G' H') (hm : a ∉ M) (h : SqL K H a xs) : SqL K H' a xs := by
  rcases h with (h | ⟨o, h⟩) | h
  · exact Or.inl (Or.inl (g.h a _ hm h))
  · exact Or.inl (Or.inr ⟨o, g.h a _ hm h⟩)
  · exact Or.inr h
theorem rd_fdivW {i j : Int} (h : CDivW i j) : RD (rI CDivW fun i j => .int (i / j)) (.int i) (.int j) (.int (i / j)) := rd_I h fun _ => .int _
theorem atI_int {ns : List Int} {i : Int} (h0 : 0 ≤ i) (h : i < ns.length) : atI (ns.map PyData.int) i = some (.int (ns.getD i.toNat 0)) := by
  obtain ⟨k, rfl⟩ : ∃ k : Nat, i = (k : Int) := ⟨i.toNat, by omega⟩
  have hk : k < ns.length := by omega
  refine atI_nat ?_
  rw [List.getElem?_map, List.getElem?_eq_getElem hk]
  show some (PyData.int ns[k]) = some (PyData.int (ns.getD k 0))
  rw [List.getD_eq_getElem?_getD, List.getElem?_eq_getElem hk]
  rfl

/-! ### one own list at l, seen from (B, C) where it was not yet written so -/
structure Ow (B C G H : Hp) (l : Addr) (xs : List V) : Prop where
  g : Gr [l] B C G H
  hl : H l = some (.lst xs)
  hn : G l = none
theorem Ow.s {B C G H : Hp} {l : Addr} {xs : List V} (o : Ow B C G H l xs) : Sb G H := o.g.s
theorem Ow.mk0 {B C G H : Hp} {l : Addr} {xs : List V} (g : Gr [] B C G H) (hl : H l = some (.lst xs)) (hn : G l = none) : Ow B C G H l xs := ⟨g.any, hl, hn⟩
theorem Ow.step {B C G H G' H' : Hp} {l : Addr} {xs : List V} (o : Ow B C G H l xs) (g : Gr [] G H G' H') : Ow B C G' H' l xs := ⟨o.g.trans g.any, g.h l _ (by simp) o.hl, g.n l _ o.hl o.hn⟩
theorem Ow.put {B C G H G' H' : Hp} {l : Addr} {xs : List V} (o : Ow B C G H l xs) (g : Gr [] G H G' H') (ys : List V) : Ow B C G' (upd H' l (.lst ys)) l ys :=
  ⟨(o.g.trans g.any).write (Or.inl (by simp)) (o.step g).hn, upd_same, (o.step g).hn⟩
/-- a list that is read stays while l is written -/
theorem Ow.sq {K : PySem.W.Frag} {B C G H : Hp} {l a : Addr} {xs ys : List V} (o : Ow B C G H l xs) (h0 : C l = none) (h : SqL K C a ys) : SqL K H a ys := sq_gr (o.g.drop h0) (by simp) h
theorem q_app' {K : PySem.W.Frag} {σ : L2.St} {B C G H : Hp} {te : TE} {d : PyData} {D : Ends} {tz : TS} {i : Nat} {l : Addr} {xs : List V} (o : Ow B C G H l xs) (hv : σ[i]? = some (some (.ref l))) (h : EvD te σ G H d) (hz : xs.length < 100000)
    (k : ∀ v G1 H1, Dx G1 v d → Gr [] G H G1 H1 → Ow B C G1 (upd H1 l (.lst (xs ++ [v]))) l (xs ++ [v]) → tz D σ (upd H1 l (.lst (xs ++ [v])))) :
    tSeq (tDrop (tBM K "list" rAppend (tVar i) (tCons te tNil))) tz D σ H := q_app hv o.hl o.hn h o.s hz fun v G1 H1 g x _ _ => k v G1 H1 x g (o.put g _)
theorem s_app' {K : PySem.W.Frag} {σ : L2.St} {B C G H : Hp} {te : TE} {d : PyData} {D : Ends} {i : Nat} {l : Addr} {xs : List V} (o : Ow B C G H l xs) (hv : σ[i]? = some (some (.ref l))) (h : EvD te σ G H d) (hz : xs.length < 100000)
    (k : ∀ v G1 H1, Dx G1 v d → Gr [] G H G1 H1 → Ow B C G1 (upd H1 l (.lst (xs ++ [v]))) l (xs ++ [v]) → D.nx σ (upd H1 l (.lst (xs ++ [v])))) :
    tDrop (tBM K "list" rAppend (tVar i) (tCons te tNil)) D σ H := s_app hv o.hl o.hn h o.s hz fun v G1 H1 g x _ _ => k v G1 H1 x g (o.put g _)

/-! ### isinstance -/
def tyN : PyData → String
  | .none => "NoneType"
  | .bool _ => "bool"
  | .int _ => "int"
  | .str _ => "str"
  | .list _ => "list"
  | .tuple _ => "tuple"
  | .dict _ => "dict"
theorem dx_ty {K : PySem.W.Frag} {G H : Hp} {v : V} {d : PyData} (s : Sb G H) (x : Dx G v d) : TyX K H v (.type (tyN d)) := by
  cases x with
  | non => exact .base .non
  | bl b => exact .base (.bl b)
  | int i => exact .base (.int i)
  | str z => exact .base (.str z)
  | lst h _ => exact .base (.lst (s _ _ h))
  | tup h _ => exact .base (.tup (s _ _ h))
section
variable {K : PySem.W.Frag} {σ : L2.St} {G H : Hp} {ta : TE} {d : PyData}
theorem ev_isi {T : String} {b : Bool} (h : EvD ta σ G H d) (hb : kitB (tyN d) T = some b) : EvD (tCB (rIsi K) (tCons ta (tCons (tC (.ty T)) tNil))) σ G H (.bool b) := fun G1 H1 a Q q =>
  h G1 H1 a _ fun v G2 H2 g x => ⟨v, .ty T, .type (tyN d), .type T, b, rfl, .ty T, dx_ty g.s x, kit_ty hb, q _ G2 H2 g (.bl _)⟩
theorem ev_isiT2 {T U : String} {b c : Bool} (h : EvD ta σ G H d) (hb : kitB (tyN d) T = some b) (hc : kitB (tyN d) U = some c) :
    EvD (tCB (rIsiT K) (tCons ta (tCons (tTup (tCons (tC (.ty T)) (tCons (tC (.ty U)) tNil))) tNil))) σ G H (.bool (b || c)) := fun G1 H1 a Q q =>
  h G1 H1 a _ fun v G2 H2 g x => ⟨by show 2 ≤ sizeLine; decide, fun p hp => ⟨v, p, [.ty T, .ty U], .type (tyN d), [.type T, .type U], b || c, rfl, upd_same, .cons (.ty T) (.cons (.ty U) .nil),
    dx_ty (Sb.new hp) (x.mono g.s), kitAny_cons (kit_ty hb) (fun e => kitAny_cons (kit_ty hc) (fun e2 => by rw [e, e2]; rfl) (fun e2 => by rw [e, e2]; rfl)) (fun e => by rw [e]; rfl),
    q _ G2 _ (g.own hp) (.bl _)⟩⟩
end
theorem kit_NoneType_bool : kitB "NoneType" "bool" = some false := by decide +kernel
theorem kit_NoneType_int : kitB "NoneType" "int" = some false := by decide +kernel
theorem kit_NoneType_str : kitB "NoneType" "str" = some false := by decide +kernel
theorem kit_NoneType_list : kitB "NoneType" "list" = some false := by decide +kernel
theorem kit_NoneType_tuple : kitB "NoneType" "tuple" = some false := by decide +kernel
theorem kit_bool_bool : kitB "bool" "bool" = some true := by decide +kernel
theorem kit_bool_int : kitB "bool" "int" = some true := by decide +kernel
theorem kit_bool_str : kitB "bool" "str" = some false := by decide +kernel
theorem kit_bool_list : kitB "bool" "list" = some false := by decide +kernel
theorem kit_bool_tuple : kitB "bool" "tuple" = some false := by decide +kernel
theorem kit_int_bool : kitB "int" "bool" = some false := by decide +kernel
theorem kit_int_int : kitB "int" "int" = some true := by decide +kernel
theorem kit_int_str : kitB "int" "str" = some false := by decide +kernel
theorem kit_int_list : kitB "int" "list" = some false := by decide +kernel
theorem kit_int_tuple : kitB "int" "tuple" = some false := by decide +kernel
theorem kit_str_bool : kitB "str" "bool" = some false := by decide +kernel
theorem kit_str_int : kitB "str" "int" = some false := by decide +kernel
theorem kit_str_str : kitB "str" "str" = some true := by decide +kernel
theorem kit_str_list : kitB "str" "list" = some false := by decide +kernel
theorem kit_str_tuple : kitB "str" "tuple" = some false := by decide +kernel
theorem kit_list_bool : kitB "list" "bool" = some false := by decide +kernel
theorem kit_list_int : kitB "list" "int" = some false := by decide +kernel
theorem kit_list_str : kitB "list" "str" = some false := by decide +kernel
theorem kit_list_list : kitB "list" "list" = some true := by decide +kernel
theorem kit_list_tuple : kitB "list" "tuple" = some false := by decide +kernel
theorem kit_tuple_bool : kitB "tuple" "bool" = some false := by decide +kernel
theorem kit_tuple_int : kitB "tuple" "int" = some false := by decide +kernel
theorem kit_tuple_str : kitB "tuple" "str" = some false := by decide +kernel
theorem kit_tuple_list : kitB "tuple" "list" = some false := by decide +kernel
theorem kit_tuple_tuple : kitB "tuple" "tuple" = some true := by decide +kernel
/-! ### texts -/
theorem rd_leS {y z : Str} : RD (fun x y H Q => ∃ i j, x = .str i ∧ y = .str j ∧ Q (.bl (!decide (j.cps.toList < i.cps.toList))) H) (.str y) (.str z) (.bool (!decide (z.cps.toList < y.cps.toList))) := fun G1 _ _ _ s hx hy _ q =>
  ⟨y, z, hx.str_eq, hy.str_eq, q _ G1 _ (.refl s) (.bl _)⟩
theorem rd_ltS {y z : Str} : RD (fun x y H Q => ∃ i j, x = .str i ∧ y = .str j ∧ Q (.bl (decide (i.cps.toList < j.cps.toList))) H) (.str y) (.str z) (.bool (decide (y.cps.toList < z.cps.toList))) := fun G1 _ _ _ s hx hy _ q =>
  ⟨y, z, hx.str_eq, hy.str_eq, q _ G1 _ (.refl s) (.bl _)⟩
theorem rd_InC {c : Nat} {z : Str} : RD (fun x y H Q => ∃ (c : Nat) (z : Str), x = .str ⟨#[c]⟩ ∧ y = .str z ∧ Q (.bl (decide (c ∈ z.cps.toList))) H) (.str ⟨#[c]⟩) (.str z) (.bool (decide (c ∈ z.cps.toList))) := fun G1 _ _ _ s hx hy _ q =>
  ⟨c, z, hx.str_eq, hy.str_eq, q _ G1 _ (.refl s) (.bl _)⟩
def repS (z : Str) (n : Int) : Str := if (n == 1 || z.length == 0) = true then z else ⟨(List.replicate n.toNat z.cps).foldl (· ++ ·) #[]⟩
theorem rep_size (a : Array Nat) : ∀ (k : Nat) (acc : Array Nat), ((List.replicate k a).foldl (· ++ ·) acc).size = acc.size + k * a.size
  | 0, acc => by simp
  | k + 1, acc => by
    rw [List.replicate_succ, List.foldl_cons, rep_size a k, Array.size_append, Nat.succ_mul]; omega
theorem repS_len {z : Str} {n : Int} (h : 1 ≤ n) : (repS z n).length = z.length * n.toNat := by
  unfold repS
  split
  · rename_i h2
    rw [Bool.or_eq_true] at h2
    rcases h2 with h2 | h2
    · have e : n = 1 := by simpa using h2
      subst e; simp
    · have e : z.length = 0 := by simpa using h2
      rw [e]; simp
  · show ((List.replicate n.toNat z.cps).foldl (· ++ ·) #[]).size = z.cps.size * n.toNat
    rw [rep_size]; simp [Nat.mul_comm]
theorem repS_mem {z : Str} {n : Int} {P : Nat → Prop} (h : ∀ c ∈ z.cps.toList, P c) : ∀ c ∈ (repS z n).cps.toList, P c := by
  have go : ∀ (k : Nat) (acc : Array Nat), (∀ c ∈ acc.toList, P c) → ∀ c ∈ ((List.replicate k z.cps).foldl (· ++ ·) acc).toList, P c := by
    intro k
    induction k with
    | zero => intro acc ha c hc; exact ha c hc
    | succ k ih =>
      intro acc ha c hc
      rw [List.replicate_succ, List.foldl_cons] at hc
      refine ih _ (fun c hc => ?_) c hc
      rw [Array.toList_append] at hc
      rcases List.mem_append.mp hc with h1 | h1
      · exact ha c h1
      · exact h c h1
  unfold repS
  split
  · exact h
  · exact go _ _ (by simp)
def rRepS : R2 := fun x y H Q => ∃ (z : Str) (n : Int), x = .str z ∧ y = .int n ∧ (1 ≤ n ∧ n ≤ 1000 ∧ z.length ≤ 1000) ∧ Q (.str (repS z n)) H
theorem op_repS {X : Cx} : OpR X (binaryOp .Mult) rRepS := by
  intro pins s σ H x y v u Q I rx ry h
  obtain ⟨z, n, rfl, rfl, ⟨h1, h2, h3⟩, q⟩ := h
  obtain ⟨t, rfl⟩ := rx
  obtain ⟨t', rfl⟩ := ry
  have e1 : decide (n < -(2 ^ 63 : Int)) = false := decide_eq_false (by omega)
  have e2 : decide (n ≥ (2 ^ 63 : Int)) = false := decide_eq_false (by omega)
  have hm : z.length * n.toNat ≤ 1000 * 1000 := Nat.mul_le_mul h3 (by omega)
  refine PySem.P.mul_str (by rw [e1, e2]; rfl) (fun _ _ => ?_) (fun _ _ => ?_) ?_
  · have h4 : (2 ^ 63 - 1 : Int) / n ≥ 1000 := by
      refine Int.le_ediv_of_mul_le (by omega) ?_
      have : (1000 : Int) * n ≤ 1000 * 1000 := by omega
      omega
    omega
  · unfold PySem.Builtin.Str.tooLong
    exact decide_eq_false (by have : (sizeLine : Nat) ≥ 1000000 := by decide
                              omega)
  · rw [if_neg (by omega)]
    by_cases e : (n == 1 || z.length == 0) = true
    · rw [if_pos e]
      have er : repS z n = z := if_pos e
      rw [er] at q
      exact ⟨.str z, H, I, ⟨_, rfl⟩, q⟩
    · rw [if_neg e]
      have eq : repS z n = ⟨(List.replicate n.toNat z.cps).foldl (· ++ ·) #[]⟩ := if_neg e
      rw [eq] at q
      have el := repS_len (z := z) h1
      rw [eq] at el
      exact ⟨by rw [el]; exact Nat.le_trans hm (by decide), .str _, H, I.tok _, ⟨_, rfl⟩, q⟩
theorem rd_repS {z : Str} {n : Int} (h : 1 ≤ n ∧ n ≤ 1000 ∧ z.length ≤ 1000) : RD rRepS (.str z) (.int n) (.str (repS z n)) := fun G1 _ _ _ s hx hy _ q =>
  ⟨z, n, hx.str_eq, hy.int_eq, h, q _ G1 _ (.refl s) (.str _)⟩
/-- a text walked by a comprehension -/
theorem lc_str {z : Str} {g : TG} {tt : TT} {te : TE} {vs : List Nat} {σ : L2.St} {H1 : Hp} {D : Addr} {Qd : Hp → Prop} (Pv : Nat → Hp → Prop) (h0 : Pv 0 (upd H1 D (.lst [])))
    (hs : ∀ i c H, z.cps[i]? = some c → Pv i H → g (.str ⟨#[c]⟩) (wipe σ vs) H fun σ2 H2 => wipe σ2 vs = wipe σ vs ∧ tt σ2 H2 fun b H3 =>
      if b = true then te σ2 H3 fun y H4 => ∃ acc, H4 D = some (.lst acc) ∧ acc.length < sizeLine ∧ Pv (i + 1) (upd H4 D (.lst (acc ++ [y]))) else Pv (i + 1) H3) (hd : ∀ H, Pv z.cps.size H → Qd H) :
    ∃ W : Nat → Nat → Hp → Prop, (∃ m, W 0 m (upd H1 D (.lst []))) ∧ ∀ i m H, W i m H →
      ((Its z).stop i H ∧ Qd H) ∨ ((Its z).go i H ∧ ∃ Nx : Hp → Prop, (∀ H', Nx H' → ∃ m', m' < m ∧ W (i + 1) m' H') ∧ ∀ x H', (Its z).yld i H x H' → g x (wipe σ vs) H' fun σ2 H2 => wipe σ2 vs = wipe σ vs ∧ tt σ2 H2 fun b H3 =>
        if b = true then te σ2 H3 fun y H4 => ∃ acc, H4 D = some (.lst acc) ∧ acc.length < sizeLine ∧ Nx (upd H4 D (.lst (acc ++ [y]))) else Nx H3) := by
  refine ⟨fun i m H => m = z.cps.size - i ∧ i ≤ z.cps.size ∧ Pv i H, ⟨z.cps.size, by simp, Nat.zero_le _, h0⟩, ?_⟩
  rintro i m H ⟨rfl, hi, p⟩
  by_cases hlt : i < z.cps.size
  · refine Or.inr ⟨hlt, Pv (i + 1), fun H' p' => ⟨z.cps.size - (i + 1), by omega, rfl, hlt, p'⟩, fun x H' y => ?_⟩
    obtain ⟨rfl, c, hc, rfl⟩ := y
    exact hs i c _ hc p
  · have e : i = z.cps.size := by omega
    subst e
    exact Or.inl ⟨Nat.le_refl _, hd H p⟩
section
variable {K : PySem.W.Frag} {σ : L2.St} {G H : Hp} {ta te : TE} {tt : TT} {d : PyData}
theorem ev_lcS {tl : TE} {z : Str} {j : Nat} {vs : List Nat} (f : Nat → Bool) (v : Nat → PyData) (h : EvD tl σ G H (.str z)) (hz : z.length ≤ 40000) (hw : ∀ x, wipe ((wipe σ vs).set j (some x)) vs = wipe σ vs)
    (ht : ∀ (i : Nat) (c : Nat), z.cps[i]? = some c → EvT tt ((wipe σ vs).set j (some (.str ⟨#[c]⟩))) G H (f i)) (he : ∀ (i : Nat) (c : Nat), z.cps[i]? = some c → f i = true → EvD te ((wipe σ vs).set j (some (.str ⟨#[c]⟩))) G H (v i)) :
    EvM (tLc (iStr tl) (gName j) tt te vs) σ G H (given z.length f v) := fun G0 H0 a Q q => h G0 H0 a _ fun u G1 H1 g1 x => by
  have hz' : z.cps.size ≤ 40000 := hz
  have gg := a.trans g1
  refine ⟨z, x.str_eq, fun l hl => lc_str (z := z) (Cw G1 H1 f v l) ⟨G1, [], (Gr.refl g1.s).own hl, g1.s.none hl, upd_same, by exact .nil⟩ (fun i c H' hc p => ?_) (fun H' p => ?_)⟩
  · have hi : i < z.cps.size := (Array.getElem?_eq_some_iff.mp hc).1
    exact ⟨hw _, cw_turn hl p (by omega) ((ht i c hc).mono gg) (fun hf => (he i c hc hf).mono gg)⟩
  · obtain ⟨G', xs, k1, k2, k3, k4⟩ := p
    exact q l xs G' H' (g1.trans k1) (g1.free hl) k2 k3 k4
end
theorem cd_all' {K : PySem.W.Frag} {ds : List PyData} {bs : List Bool} (h : ds = bs.map .bool) : CD (rAll K) [.list ds] (.bool (bs.all id)) := by rw [h]; exact cd_all
/-! promises whose value is one of several -/
def SpR {α : Type} (args : α → List PyData) (pre : α → Prop) (R : α → PyData → Prop) : Sp := fun vs H Q _ => ∃ G x, Sb G H ∧ Dxs G vs (args x) ∧ pre x ∧ ∀ v d G' H', Gr [] G H G' H' → R x d → Dx G' v d → Q v H'
theorem ev_callR {σ : L2.St} {G H : Hp} {E : XK} {t : TA} {α : Type} {args : α → List PyData} {pre : α → Prop} {R : α → PyData → Prop} (x : α) (h : EvA t σ G H (args x)) (hp : pre x) : EvP (tCall (SpR args pre R) [] E t) σ G H (R x) := fun G1 H1 a Q q =>
  h G1 H1 a _ fun vs G2 H2 g xs => ⟨G2, x, g.s, by rw [List.append_nil]; exact xs, hp, fun v d G3 H3 g3 r z => q v d G3 H3 (g.trans g3) r z⟩

/-! ### the rules with the written part said -/
section
variable {X : Cx} {K : PySem.W.Frag}
theorem ix_listK (h : X.K = K := by rfl) : IxR X (rIxL K) := by subst h; exact ix_list
theorem ix_tupK (h : X.K = K := by rfl) : IxR X (rIxT K) := by subst h; exact ix_tup
theorem ix_seqK (h : X.K = K := by rfl) : IxR X (rIx K) := by subst h; exact ix_seq
theorem op_eqDK (hu : X.A.units + 64 < cLine) (h : X.K = K := by rfl) : OpR X (compareOp .Eq) (rEqD K) := by subst h; exact op_eqD hu
theorem op_neDK (hu : X.A.units + 64 < cLine) (h : X.K = K := by rfl) : OpR X (compareOp .NotEq) (rNeD K) := by subst h; exact op_neD hu
theorem op_inK (h : X.K = K := by rfl) : OpR X (compareOp .In) (rIn K false) := by subst h; exact op_in_seq
theorem op_ninK (h : X.K = K := by rfl) : OpR X (compareOp .NotIn) (rIn K true) := by subst h; exact op_notIn_seq
theorem sl_listK (h : X.K = K := by rfl) : SlR X (rSlL K) := by subst h; exact sl_list
theorem cr_sumK (hc : X.calm = true) (h : X.K = K := by rfl) : CallR X (.builtin "sum") (rSum K) := by subst h; exact cr_sum hc
theorem cr_allK (hc : X.calm = true) (h : X.K = K := by rfl) : CallR X (.builtin "all") (rAll K) := by subst h; exact cr_all hc
theorem call_lenK (h : X.K = K := by rfl) : CallR X (.builtin "len") (fun xs H Q => ∃ p ys, xs = [.ref p] ∧ (SqL K H p ys ∨ SqT K H p ys) ∧ Q (.int ys.length) H) := by subst h; exact call_len_seq
theorem call_listK (h : X.K = K := by rfl) : CallR X (.type "list") (fun xs H Q => ∃ p ys, xs = [.ref p] ∧ (SqL K H p ys ∨ SqT K H p ys) ∧ ∀ l, H l = none → Q (.ref l) (upd H l (.lst ys))) := by subst h; exact call_list_of
theorem call_isiKK (h : X.K = K := by rfl) : CallR X (.builtin "isinstance") (rIsi K) := by subst h; exact call_isi
theorem call_isiTK (h : X.K = K := by rfl) : CallR X (.builtin "isinstance") (rIsiT K) := by subst h; exact call_isiT
end
theorem rd_isN {d : PyData} : RD (fun x y H Q => y = .non ∧ Q (.bl (decide (x = .non))) H) d .none (.bool (isNone d)) := fun G1 _ x y s hx hy _ q => by
  have e : decide (x = V.non) = isNone d := by cases hx <;> rfl
  refine ⟨hy.non_eq, ?_⟩
  rw [e]; exact q _ G1 _ (.refl s) (.bl _)
theorem rd_notN {d : PyData} : RD (fun x y H Q => y = .non ∧ Q (.bl (!decide (x = .non))) H) d .none (.bool (!isNone d)) := fun G1 _ x y s hx hy _ q => by
  have e : decide (x = V.non) = isNone d := by cases hx <;> rfl
  refine ⟨hy.non_eq, ?_⟩
  rw [e]; exact q _ G1 _ (.refl s) (.bl _)

/-! ### enumerate, targets that are tuples -/
section
variable {K : PySem.W.Frag} {σ : L2.St} {G H : Hp} {tz tu : TS} {D : Ends}
theorem g_nn {i j : Nat} {v : V} {d1 d2 : PyData} {Q : L2.St → Hp → Prop} (x : Dx G v (.tuple [d1, d2])) (s : Sb G H) (k : ∀ v1 v2, Dx G v1 d1 → Dx G v2 d2 → Q ((σ.set i (some v1)).set j (some v2)) H) : gTup K 2 (gCons (gName i) (gCons (gName j) gNil)) v σ H Q := by
  obtain ⟨a, xs, rfl, ha, dxs⟩ := x.tup_eq
  obtain ⟨v1, v2, rfl, h1, h2⟩ := dxs2 dxs
  exact ⟨a, [v1, v2], rfl, Or.inl (Or.inl (s _ _ ha)), rfl, v1, [v2], rfl, v2, [], rfl, rfl, k v1 v2 h1 h2⟩
theorem g_n_nn {i j l : Nat} {v : V} {d1 d2 d3 : PyData} {Q : L2.St → Hp → Prop} (x : Dx G v (.tuple [d1, .tuple [d2, d3]])) (s : Sb G H) (k : ∀ v1 v2 v3, Dx G v1 d1 → Dx G v2 d2 → Dx G v3 d3 → Q (((σ.set i (some v1)).set j (some v2)).set l (some v3)) H) :
    gTup K 2 (gCons (gName i) (gCons (gTup K 2 (gCons (gName j) (gCons (gName l) gNil))) gNil)) v σ H Q := by
  obtain ⟨a, xs, rfl, ha, dxs⟩ := x.tup_eq
  obtain ⟨v1, v2, rfl, h1, h2⟩ := dxs2 dxs
  obtain ⟨b, ys, rfl, hb, dys⟩ := h2.tup_eq
  obtain ⟨w1, w2, rfl, k1, k2⟩ := dxs2 dys
  exact ⟨a, [v1, .ref b], rfl, Or.inl (Or.inl (s _ _ ha)), rfl, v1, [.ref b], rfl, .ref b, [], rfl, ⟨b, [w1, w2], rfl, Or.inl (Or.inl (s _ _ hb)), rfl, w1, [w2], rfl, w2, [], rfl, rfl, rfl, k v1 w1 w2 h1 k1 k2⟩⟩
theorem for_enum {a : Addr} {xs : List V} {g : TG} {tb : TS} {D : Ends} {σ : L2.St} {H : Hp} (Pv : Nat → L2.St → Hp → Prop) (h0 : Pv 0 σ H) (hl : ∀ i σ H, i ≤ xs.length → Pv i σ H → SqL K H a xs)
    (hs : ∀ i x σ H T, xs[i]? = some x → Pv i σ H → H T = none → g (.ref T) σ (upd H T (.tup [.int (i : Nat), x])) fun σ2 H2 => tb { D with nx := Pv (i + 1), ct := Pv (i + 1), bk := D.nx } σ2 H2) (hd : ∀ σ H, Pv xs.length σ H → D.nx σ H) :
    ∃ W : Nat → Nat → L2.St → Hp → Prop, (∃ m, W 0 m σ H) ∧ ∀ i m σ H, W i m σ H →
      ((Ite K a).stop i H ∧ D.nx σ H) ∨ ((Ite K a).go i H ∧ ∃ N : L2.St → Hp → Prop, (∀ σ' H', N σ' H' → ∃ m', m' < m ∧ W (i + 1) m' σ' H') ∧ ∀ x H', (Ite K a).yld i H x H' → g x σ H' fun σ2 H2 => tb { D with nx := N, ct := N, bk := D.nx } σ2 H2) := by
  refine ⟨fun i m σ H => m = xs.length - i ∧ i ≤ xs.length ∧ Pv i σ H, ⟨xs.length, by simp, Nat.zero_le _, h0⟩, ?_⟩
  rintro i m σ H ⟨rfl, hi, p⟩
  have q := hl i σ H hi p
  by_cases hlt : i < xs.length
  · refine Or.inr ⟨⟨xs, xs[i], q, by simp [hlt]⟩, Pv (i + 1), fun σ' H' p' => ⟨xs.length - (i + 1), by omega, rfl, hlt, p'⟩, fun x H' y => ?_⟩
    obtain ⟨T, u, rfl, hT, rfl, hu⟩ := y
    exact hs i u σ H T (hu xs q) p hT
  · have e : i = xs.length := by omega
    subst e
    exact Or.inl ⟨⟨xs, q, Nat.le_refl _⟩, hd σ H p⟩
theorem s_forE {t : TA} {g : TG} {ds : List PyData} (M : List Addr) (I : Nat → L2.St → Hp → Hp → Prop) (h : EvA t σ G H [.list ds]) (s : Sb G H) (h0 : ∀ G1 H1, Gr [] G H G1 H1 → I 0 σ G1 H1)
    (hs : ∀ G1 H1, Gr [] G H G1 H1 → ∀ (n : Nat) d v σ' G' H' G2 H2, ds[n]? = some d → Gr M G1 H1 G' H' → I n σ' G' H' → Gr [] G' H' G2 H2 → Dx G2 v (.tuple [.int (n : Int), d]) → g v σ' H2 fun σ2 H3 => tu { D with nx := Nx M G1 H1 I (n + 1), ct := Nx M G1 H1 I (n + 1), bk := D.nx } σ2 H3)
    (hd : ∀ σ' G' H', Gr M G H G' H' → I ds.length σ' G' H' → D.nx σ' H') : tFor (iEnum K t) g tu D σ H :=
  h G H (.refl s) _ fun vs G1 H1 g1 x => by
    obtain ⟨v, rfl, hv⟩ := dxs1 x
    obtain ⟨a, xs, rfl, ha, dxs⟩ := hv.lst_eq
    refine ⟨a, xs, rfl, Or.inl (Or.inl (g1.s _ _ ha)), for_enum (xs := xs) (Nx M G1 H1 I) ⟨G1, .refl g1.s, h0 G1 H1 g1⟩ (fun n σ' H' _ p => ?_) (fun n x σ' H' T hx p hT => ?_) (fun σ' H' p => ?_)⟩
    · obtain ⟨G', g', _⟩ := p
      exact Or.inl (Or.inl (g'.s _ _ (g'.g _ _ ha)))
    · obtain ⟨G', g', w⟩ := p
      obtain ⟨d, hd1, hd2⟩ := dxs.getV hx
      have hn := g'.s.none hT
      refine hs G1 H1 g1 n d (.ref T) σ' G' H' (upd G' T (.tup [.int (n : Nat), x])) _ hd1 g' w ((Gr.refl g'.s).data hT) (.tup upd_same (.cons (.int _) (.cons ?_ .nil)))
      exact (hd2.mono g'.g).mono (Sb.new hn)
    · obtain ⟨G', g', w⟩ := p
      rw [dxs.len] at w
      exact hd σ' G' H' (g1.any.trans g') w
theorem q_forE {t : TA} {g : TG} {ds : List PyData} (M : List Addr) (I : Nat → L2.St → Hp → Hp → Prop) (h : EvA t σ G H [.list ds]) (s : Sb G H) (h0 : ∀ G1 H1, Gr [] G H G1 H1 → I 0 σ G1 H1)
    (hs : ∀ G1 H1, Gr [] G H G1 H1 → ∀ (n : Nat) d v σ' G' H' G2 H2, ds[n]? = some d → Gr M G1 H1 G' H' → I n σ' G' H' → Gr [] G' H' G2 H2 → Dx G2 v (.tuple [.int (n : Int), d]) → g v σ' H2 fun σ2 H3 => tu { D with nx := Nx M G1 H1 I (n + 1), ct := Nx M G1 H1 I (n + 1), bk := tz D } σ2 H3)
    (hd : ∀ σ' G' H', Gr M G H G' H' → I ds.length σ' G' H' → tz D σ' H') : tSeq (tFor (iEnum K t) g tu) tz D σ H := s_forE (D := { D with nx := tz D }) M I h s h0 hs hd
end

/-! ### several own objects become data at once -/
open Classical in
noncomputable def addAll (S : Addr → Prop) (G H : Hp) : Hp := fun a => if S a then H a else G a
theorem addAll_in {S : Addr → Prop} {G H : Hp} {a : Addr} (h : S a) : addAll S G H a = H a := if_pos h
theorem addAll_out {S : Addr → Prop} {G H : Hp} {a : Addr} (h : ¬ S a) : addAll S G H a = G a := if_neg h
theorem Sb.addAll {S : Addr → Prop} {G H : Hp} (h : ∀ a, S a → G a = Option.none) : Sb G (addAll S G H) := fun a o e => by
  by_cases q : S a
  · rw [h a q] at e; cases e
  · rw [addAll_out q]; exact e
theorem Gr.freezeAll {M : List Addr} {G H G' H' : Hp} (x : Gr M G H G' H') (S : Addr → Prop) (hn : ∀ a, S a → G' a = none) (h0 : ∀ a, S a → H a = none) : Gr M G H (addAll S G' H') H' :=
  ⟨x.g.trans (Sb.addAll hn), fun a o e => by
    by_cases q : S a
    · rw [addAll_in q] at e; exact e
    · rw [addAll_out q] at e; exact x.s a o e, x.h, x.t, fun a u e e0 => by
    by_cases q : S a
    · rw [h0 a q] at e; cases e
    · rw [addAll_out q]; exact x.n a u e e0⟩
/-- data for a while, several objects -/
theorem Gr.thawAll {M : List Addr} {S : Addr → Prop} {G H G2 H2 : Hp} (x : Gr M (addAll S G H) H G2 H2) (hn : ∀ a, S a → G a = none) : Gr M G H G H2 :=
  ⟨Sb.refl G, ((Sb.addAll hn).trans x.g).trans x.s, x.h, x.t, fun _ _ _ e => e⟩
section
variable {K : PySem.W.Frag} {σ : L2.St} {G H : Hp}
theorem ea_star {te : TE} {tr : TA} {ds es : List PyData} (h : EvD te σ G H (.list ds)) (hr : EvA tr σ G H es) : EvA (StX.tStar K te tr) σ G H (ds ++ es) := fun G1 H1 a _ q =>
  h G1 H1 a _ fun v G2 H2 g x => by
    obtain ⟨p, xs, rfl, hp, dxs⟩ := x.lst_eq
    exact ⟨p, xs, rfl, Or.inr (Or.inl (Or.inl (g.s _ _ hp))), hr G2 H2 (a.trans g) _ fun vs G3 H3 g3 ys => q _ G3 H3 (g.trans g3) ((dxs.mono g3.g).app ys)⟩
theorem inV_str {z : Str} : ∀ zs : List Str, inV (.str z) (zs.map V.str) = decide (z ∈ zs)
  | [] => by simp [inV]
  | y :: ys => by
    have ih := inV_str (z := z) ys
    unfold inV at ih ⊢
    rw [List.map_cons, List.any_cons, ih]
    have e : eqV (V.str y) (V.str z) = decide (y = z) := by
      show (y == z) = decide (y = z)
      rfl
    rw [e]
    by_cases h : y = z
    · subst h; simp
    · simp [h, Ne.symm h]
      first
        | done
        | (intro h2; exact absurd h2.symm h)
theorem all_flat : ∀ zs : List Str, (zs.map V.str).all flatV = true
  | [] => rfl
  | y :: ys => by rw [List.map_cons, List.all_cons, all_flat ys]; rfl
theorem rd_InL {z : Str} {zs : List Str} : RD (rIn K false) (.str z) (.list (zs.map .str)) (.bool (decide (z ∈ zs))) := fun G1 H1 x y s hx hy Q q => by
  obtain ⟨a, xs, rfl, ha, dxs⟩ := hy.lst_eq
  rw [dxs.strs_eq] at ha
  rw [hx.str_eq]
  refine ⟨a, _, rfl, Or.inl (Or.inl (Or.inl (s _ _ ha))), rfl, all_flat zs, ?_⟩
  show Q (.bl (inV (.str z) (zs.map V.str))) H1
  rw [inV_str]; exact q _ G1 H1 (.refl s) (.bl _)
end

section
variable {K : PySem.W.Frag} {σ : L2.St} {B C G H : Hp} {te tb : TE} {ds es : List PyData} {D : Ends} {tz : TS} {i : Nat} {l : Addr} {xs : List V}
theorem et_truL (h : EvD te σ G H (.list ds)) : EvT (fun σ H Q => te σ H fun x H' => ∃ k, TruV K x H' k ∧ Q k H') σ G H (!ds.isEmpty) := fun G1 H1 a Q q =>
  h G1 H1 a _ fun v G2 H2 g x => by
    obtain ⟨p, xs, rfl, hp, dxs⟩ := x.lst_eq
    refine ⟨!ds.isEmpty, Or.inl ⟨xs, Or.inl (Or.inl (g.s _ _ hp)), ?_⟩, q G2 H2 g⟩
    have := dxs.len
    cases xs <;> cases ds <;> first | rfl | cases this
/-- xs.append(e), e a new list that stays own -/
theorem s_appM (o : Ow B C G H l xs) (hv : σ[i]? = some (some (.ref l))) (h : EvM te σ G H ds) (hz : xs.length < 100000)
    (k : ∀ q ys G1 H1, Gr [] G H G1 H1 → H q = none → G1 q = none → H1 q = some (.lst ys) → Dxs G1 ys ds → Ow B C G1 (upd H1 l (.lst (xs ++ [.ref q]))) l (xs ++ [.ref q]) → D.nx σ (upd H1 l (.lst (xs ++ [.ref q])))) :
    tDrop (tBM K "list" rAppend (tVar i) (tCons te tNil)) D σ H :=
  ⟨.ref l, hv, Or.inl ⟨rfl, xs, Or.inl (Or.inl o.hl)⟩, h G H (.refl o.s) _ fun q ys G1 H1 g h0 hn h1 hx =>
    ⟨l, xs, .ref q, rfl, rfl, g.h l _ (by simp) o.hl, Evl.sz_lt hz, k q ys G1 H1 g h0 hn h1 hx (o.put g _)⟩⟩
theorem s_retLM (h : EvM te σ G H ds) (s : Sb G H) (k : ∀ q ys G1 H1 l, Gr [] G H G1 H1 → H q = none → G1 q = none → H1 q = some (.lst ys) → Dxs G1 ys ds → H1 l = none → D.rt (.ref l) (upd H1 l (.lst [.ref q]))) : tRet (tLst (tCons te tNil)) D σ H :=
  h G H (.refl s) _ fun q ys G1 H1 g q0 qn hq hx => ⟨by show 1 ≤ sizeLine; decide, fun l hl => k q ys G1 H1 l g q0 qn hq hx hl⟩
/-- own list + list -/
theorem ev_catO (h : σ[i]? = some (some (.ref l))) (hl : H l = some (.lst xs)) (hx : Dxs G xs ds) (hb : EvD tb σ G H (.list es)) (hz : ds.length + es.length ≤ 100000) : EvM (tOp rCat (tVar i) tb) σ G H (ds ++ es) := fun G1 H1 a Q q =>
  ⟨.ref l, h, hb G1 H1 a _ fun v G2 H2 g x => by
    obtain ⟨p, ys, rfl, hp, dys⟩ := x.lst_eq
    have dxs := hx.mono (a.trans g).g
    exact ⟨l, p, xs, ys, rfl, rfl, (a.trans g).h l _ (by simp) hl, g.s _ _ hp, Evl.sz_of (by rw [dxs.len, dys.len]; exact hz), fun r hr => q r _ G2 _ (g.own hr) (g.free hr) (g.s.none hr) upd_same (dxs.app dys)⟩⟩
end
theorem paired_app {α β : Type} {F : α → β → Prop} : ∀ {a c : List α} {b d : List β}, Paired F a b → Paired F c d → Paired F (a ++ c) (b ++ d)
  | _, _, _, _, .nil, t => t
  | _, _, _, _, .cons h t, u => .cons h (paired_app t u)
theorem paired_mono {α β : Type} {F E : α → β → Prop} (h : ∀ a b, F a b → E a b) : ∀ {a : List α} {b : List β}, Paired F a b → Paired E a b
  | _, _, .nil => .nil
  | _, _, .cons r t => .cons (h _ _ r) (paired_mono h t)
theorem given_list {α β : Type} (L : List α) (d : α) (φ : α → Bool) (ψ : α → β) : given L.length (fun i => φ (L.getD i d)) (fun i => ψ (L.getD i d)) = (L.filter φ).map ψ := by
  have e : (List.range L.length).map (fun i => L.getD i d) = L := by
    apply List.ext_getElem
    · simp
    · intro i h1 h2
      simp only [List.getElem_map, List.getElem_range]
      rw [List.getD_eq_getElem?_getD, List.getElem?_eq_getElem h2]; rfl
  have e2 : L.filter φ = ((List.range L.length).filter (φ ∘ fun i => L.getD i d)).map (fun i => L.getD i d) := by
    conv => lhs; rw [← e]
    rw [List.filter_map]
  unfold given
  rw [e2, List.map_map]
  rfl

section
variable {K : PySem.W.Frag} {σ : L2.St} {G H : Hp} {tz tu : TS} {D : Ends} {ds : List PyData}
/-- over a list that a name holds -/
theorem q_forV {g : TG} {i : Nat} {v : V} (M : List Addr) (I : Nat → L2.St → Hp → Hp → Prop) (hv : σ[i]? = some (some v)) (x : Dx G v (.list ds)) (s : Sb G H) (h0 : I 0 σ G H)
    (hs : ∀ n d v σ' G' H', ds[n]? = some d → Dx G' v d → Gr M G H G' H' → I n σ' G' H' → g v σ' H' fun σ2 H2 => tu { D with nx := Nx M G H I (n + 1), ct := Nx M G H I (n + 1), bk := tz D } σ2 H2)
    (hd : ∀ σ' G' H', Gr M G H G' H' → I ds.length σ' G' H' → tz D σ' H') : tSeq (tFor (iList K (tVar i)) g tu) tz D σ H := by
  obtain ⟨a, xs, rfl, ha, dxs⟩ := x.lst_eq
  refine ⟨.ref a, hv, a, rfl, ⟨xs, Or.inl (Or.inl (s _ _ ha))⟩, for_list (xs := xs) (Nx M G H I) ⟨G, .refl s, h0⟩ (fun n σ' H' _ p => ?_) (fun n x σ' H' hx p => ?_) (fun σ' H' p => ?_)⟩
  · obtain ⟨G', g', _⟩ := p
    exact Or.inl (Or.inl (g'.s _ _ (g'.g _ _ ha)))
  · obtain ⟨G', g', w⟩ := p
    obtain ⟨d, hd1, hd2⟩ := dxs.getV hx
    exact hs n d x σ' G' H' hd1 (hd2.mono g'.g) g' w
  · obtain ⟨G', g', w⟩ := p
    rw [dxs.len] at w
    exact hd σ' G' H' g' w
end

section
variable {K : PySem.W.Frag} {σ : L2.St} {B C G H : Hp} {te : TE} {ds : List PyData} {D : Ends} {tz : TS} {i : Nat} {l : Addr} {xs : List V}
theorem q_appM (o : Ow B C G H l xs) (hv : σ[i]? = some (some (.ref l))) (h : EvM te σ G H ds) (hz : xs.length < 100000)
    (k : ∀ q ys G1 H1, Gr [] G H G1 H1 → H q = none → G1 q = none → H1 q = some (.lst ys) → Dxs G1 ys ds → Ow B C G1 (upd H1 l (.lst (xs ++ [.ref q]))) l (xs ++ [.ref q]) → tz D σ (upd H1 l (.lst (xs ++ [.ref q])))) :
    tSeq (tDrop (tBM K "list" rAppend (tVar i) (tCons te tNil))) tz D σ H := s_appM (D := { D with nx := tz D }) o hv h hz k
/-- xs[0].append(c), xs an own list of own lists -/
theorem q_app0 {q : Addr} {rest ys : List V} {c : V} (hv : σ[i]? = some (some (.ref l))) (hl : H l = some (.lst (.ref q :: rest))) (hq : H q = some (.lst ys)) (hz : ys.length < 100000)
    (k : tz D σ (upd H q (.lst (ys ++ [c])))) : tSeq (tDrop (tBM K "list" rAppend (tOp (rIxL K) (tVar i) (tC (.int 0))) (tCons (tC c) tNil))) tz D σ H :=
  ⟨.ref l, hv, l, _, 0, .ref q, rfl, rfl, Or.inl (Or.inl hl), atI_nat (j := 0) rfl, Or.inl ⟨rfl, _, Or.inl (Or.inl hq)⟩, q, ys, c, rfl, rfl, hq, Evl.sz_lt hz, k⟩
end
end Gd

namespace Gd
open PySem PySem.Spec PyProof.Rows L2
/-! ### sum(d.values()), list(d.values()): the view is made for the call alone and is never tracked -/
theorem preSum_take (is : List Int) : ∀ n, n ≤ is.length → preSum (fun i => is.getD i 0) n = (is.take n).sum
  | 0, _ => by simp [preSum]
  | n + 1, h => by
    show preSum (fun i => is.getD i 0) n + is.getD n 0 = _
    rw [preSum_take is n (by omega), List.take_add_one, List.sum_append, List.getD_eq_getElem?_getD, List.getElem?_eq_getElem (by omega : n < is.length)]
    simp
/-- v, a view of the dict at a, which holds kvs -/
structure Vw (X : Cx) (s : Shared) (v a : Addr) (kvs : List (Key × V)) (vs : List (Key × Value)) (ep : Nat) : Prop where
  view : s.heap.IsValuesView v a
  dat : s.heap.DictAt (mixKind X.prog X.w) a vs ep
  kv : KV kvs vs
  sz : kvs.length ≤ sizeLine
def tVals (td : TE) (R : List (Key × V) → Hp → Prop) : L2.St → Hp → Prop := fun σ H => td σ H fun x H1 => ∃ (a : Addr) (kvs : List (Key × V)), x = V.ref a ∧ Rd H1 a (.dK kvs) ∧ R kvs H1
def tSumVals (td : TE) : TE := fun σ H Q => tVals td (fun kvs H1 => ∃ is : List Int, kvs.map (·.2) = is.map V.int ∧ Q (.int is.sum) H1) σ H
def tListVals (td : TE) : TE := fun σ H Q => tVals td (fun kvs H1 => ∀ p, H1 p = none → Q (.ref p) (upd H1 p (.lst (kvs.map (·.2))))) σ H
section
variable {X : Cx} {o : Expr} {p pos apos mpos : Pos} {td : TE} {pins : List (Addr × Obj)} {σ : L2.St} {H : Hp} {s : Shared}
/-- the view as an argument -/
theorem vals_arg {R : List (Key × V) → Hp → Prop} {Q : Value → Shared → Prop} (hd : PE X o td) (hbase : attributeBase o "values" X.env (eval o X.env) = eval o X.env) (hline : (apos.endLine == mpos.line) = true)
    (I : Inv X pins σ H s) (h : tVals td R σ H) (k : ∀ s1 H1 v a kvs vs ep, Inv X pins σ H1 s1 → R kvs H1 → Vw X s1 v a kvs vs ep → Q (.ref v) s1) :
    wpAny (model X.prog X.w) X.A (eval (.Call (.Attribute o "values" apos) [] [] mpos) X.env) Q X.xe s := by
  refine wpAny_Call_method0_late hbase hline (wpAny_mono (hd.run pins s σ H _ I h) (fun u s1 hu => ?_) fun _ _ e => e)
  obtain ⟨x, H1, I1, rx, a, kvs, rfl, ha, q⟩ := hu
  cases (show u = Value.ref a from rx)
  obtain ⟨hz, hsys, vs, rel, dof⟩ := dk_rd I1.hok ha
  obtain ⟨ep, dat⟩ := dof.dictAt
  obtain ⟨ob, es, ho, ex, _⟩ := id dat
  have old : ∀ b u, s1.heap.get? b = some u → (s1.heap.push { cls := .type "dict_values", data := .fields #[.ref a] }).get? b = some u := fun b u e => Heap.get?_push_of_some _ e
  have made := k { s1 with heap := s1.heap.push { cls := .type "dict_values", data := .fields #[.ref a] } } H1 s1.heap.objs.size a kvs vs ep (I1.kept (t' := s1.toks) old) q ⟨⟨_, Heap.get?_push_size _ rfl, rfl, rfl⟩, dat.keep old, rel, hz⟩
  exact ⟨"dict", "dict.values", F.plainAttrs_dict, F.slot_dict_values, F.type_dict_values, ⟨ob, ho, ex.1⟩, fun b e => ⟨ob, by cases e; exact ho, ex.2.1⟩,
    Calls.callWith_builtin rfl (PySem.evalArgs_none (call_meetsIn F.slot_dict_values ⟨ob, ho, ex.1⟩ F.entry_dict_values (F.args_dict_values_1 _) (meets_dict_values (mixKind X.prog X.w) a hsys) ⟨⟨vs, dof⟩, made⟩))⟩
theorem Vw.int {v a : Addr} {kvs : List (Key × V)} {vs : List (Key × Value)} {ep : Nat} (x : Vw X s v a kvs vs ep) {is : List Int} (hv : kvs.map (·.2) = is.map V.int) (i : Nat) (u : Value) (h : ∃ k, vs[i]? = some (k, u)) : ∃ t, u = Value.int (is.getD i 0) t := by
  obtain ⟨k, hk⟩ := h
  obtain ⟨y, h1, h2⟩ := KV.at' x.kv hk
  have e1 : (is.map V.int)[i]? = some y := by rw [← hv, List.getElem?_map, h1]; rfl
  rw [List.getElem?_map] at e1
  cases e2 : is[i]? with
  | none => rw [e2] at e1; cases e1
  | some j =>
    rw [e2] at e1
    cases e1
    obtain ⟨t, e3⟩ := h2
    exact ⟨t, by rw [e3, List.getD_eq_getElem?_getD, e2]; rfl⟩
/-- the sum of a view -/
theorem Vw.sum {v a : Addr} {kvs : List (Key × V)} {vs : List (Key × Value)} {ep : Nat} (x : Vw X s v a kvs vs ep) (hc : X.calm = true) (I : Inv X pins σ H s) {is : List Int} (hv : kvs.map (·.2) = is.map V.int) {Q : VK} (q : Q (.int is.sum) H) :
    wpAny (model X.prog X.w) X.A (call (.builtin "sum") [.ref v]) (EP X pins σ Q) X.xe s := by
  have ha := x.dat.lt_size
  refine call_sum_walkAnyS (wpAny_pyIter_values x.view x.dat ⟨_, _, _, _, vs.length, _, _, fun i => is.getD i 0, rfl,
    (Walks.dictValues (knd := mixKind X.prog X.w) (A := X.A.in1) (I.ok.hd hc) s.heap.objs.size a (Nat.ne_of_lt ha) vs ep).toS, ⟨⟨_, Heap.get?_push_size _ rfl, rfl, rfl⟩, x.dat.push _⟩, ?_, x.int hv, ?_⟩)
  · intro b hb
    have hs : b ≤ s.heap.objs.size := by
      rcases List.mem_cons.mp hb with e | hb
      · exact Nat.le_of_eq e
      · rw [List.mem_singleton.mp hb]; exact Nat.le_of_lt ha
    simpa [Heap.size_push] using Nat.lt_succ_of_le hs
  · intro s' t' mv
    have n : vs.length = is.length := by rw [← x.kv.length, ← List.length_map (as := is) (f := V.int), ← hv, List.length_map]
    have e : preSum (fun i => is.getD i 0) vs.length = is.sum := by rw [n, preSum_take is _ (Nat.le_refl _), List.take_length]
    rw [Moved.eq_with mv, e]
    refine ⟨.int is.sum, H, I.kept (t' := s'.toks) fun b u e => mv.heap b u (fun hb => ?_) (Heap.get?_push_of_some _ e), ⟨t', rfl⟩, q⟩
    rw [List.mem_singleton.mp hb] at e
    exact absurd (Heap.lt_size e) (Nat.lt_irrefl _)
theorem pe_sumVals (hc : X.calm = true) (hg : Gl X "sum") (hm : X.mg "sum" = none) (hd : PE X o td) (hbase : attributeBase o "values" X.env (eval o X.env) = eval o X.env := by rfl) (hline : (apos.endLine == mpos.line) = true := by rfl)
    (hse : starEach [Expr.Call (.Attribute o "values" apos) [] [] mpos] X.env = [(false, eval (Expr.Call (.Attribute o "values" apos) [] [] mpos) X.env)] := by rfl) :
    PE X (.Call (.Name "sum" p) [.Call (.Attribute o "values" apos) [] [] mpos] [] pos) (tSumVals td) := ⟨fun pins s σ H Q I h => by
  refine wpAny_Call_Name_kw (ld_blt I hg hm (u := .builtin "sum") (by decide +kernel) ?_ (by decide +kernel) (by decide +kernel))
  rw [hse]
  exact PySem.callWith_builtin1 (vals_arg hd hbase hline I h fun s1 H1 v a kvs vs ep I1 ⟨is, hv, q⟩ x => x.sum hc I1 hv q)⟩
theorem vals_at : ∀ {kvs : List (Key × V)} {vs : List (Key × Value)} {us : List Value}, KV kvs vs → us.length = vs.length → (∀ (j : Nat) (v : Value), us[j]? = some v → ∃ k, vs[j]? = some (k, v)) → Vals (kvs.map (·.2)) us := by
  intro kvs vs us r
  unfold KV at r
  induction r generalizing us with
  | nil => intro hl _; cases us with
    | nil => exact .nil
    | cons _ _ => cases hl
  | cons h t ih =>
    intro hl hv
    cases us with
    | nil => cases hl
    | cons u us =>
      obtain ⟨k, e⟩ := hv 0 u rfl
      refine .cons ?_ (ih (by simpa using hl) fun j v e => ?_)
      · have e1 := Option.some.inj e
        have e2 : _ = u := congrArg Prod.snd e1
        rw [← e2]; exact h.2
      · obtain ⟨k, e⟩ := hv (j + 1) v (by simpa using e)
        exact ⟨k, by simpa using e⟩
/-- the list of a view -/
theorem Vw.list {v a : Addr} {kvs : List (Key × V)} {vs : List (Key × Value)} {ep : Nat} (x : Vw X s v a kvs vs ep) (hc : X.calm = true) (I : Inv X pins σ H s) {Q : VK} (q : ∀ p, H p = none → Q (.ref p) (upd H p (.lst (kvs.map (·.2))))) :
    wpAny (model X.prog X.w) X.A (call (.type "list") [.ref v]) (EP X pins σ Q) X.xe s :=
  PySem.W.kdl_call PySem.W.kdl_values (I.ok.hd hc) ⟨x.view, x.dat⟩ (by rw [← x.kv.length]; exact x.sz) fun h' tk acc c' hk hD hacc =>
    ⟨.ref _, upd H _ (.lst (kvs.map (·.2))), I.laid (t' := tk) hk (Nat.le_refl _)
      (show ObjOk X.prog X.w _ _ _ (.lst (kvs.map (·.2))) from ⟨by rw [List.length_map]; exact x.sz, acc.toList, c', vals_at x.kv (by rw [Array.length_toList]; exact hacc.1) fun j u e => hacc.2 j u (by rw [← Array.getElem?_toList]; exact e), by rw [Array.toArray_toList]; exact hD⟩),
      rfl, q _ (I.hok.fresh (Nat.le_refl _))⟩
theorem pe_listVals (hc : X.calm = true) (hg : Gl X "list") (hm : X.mg "list" = none) (hd : PE X o td) (hbase : attributeBase o "values" X.env (eval o X.env) = eval o X.env := by rfl) (hline : (apos.endLine == mpos.line) = true := by rfl)
    (hse : starEach [Expr.Call (.Attribute o "values" apos) [] [] mpos] X.env = [(false, eval (Expr.Call (.Attribute o "values" apos) [] [] mpos) X.env)] := by rfl) :
    PE X (.Call (.Name "list" p) [.Call (.Attribute o "values" apos) [] [] mpos] [] pos) (tListVals td) := ⟨fun pins s σ H Q I h => by
  refine wpAny_Call_Name_kw (ld_blt I hg hm (u := .type "list") (by first | rfl | decide +kernel) ?_ (by decide +kernel) (by decide +kernel))
  rw [hse]
  exact PySem.callWith_type1 (vals_arg hd hbase hline I h fun s1 H1 v a kvs vs ep I1 q x => x.list hc I1 q)⟩
end
end Gd

namespace Gd
open PySem PySem.Spec PyProof.Rows L2
/-! ### for (a, b), c in d.items(), the keys of d tuples -/
section
variable {X : Cx} {pins : List (Addr × Obj)} {σ : L2.St} {H : Hp} {st : Shared} {d : Addr} {o : Obj}
theorem lockedT {kvs : List (List Key × V)} (I : L2.Inv X pins σ H st) (h : H d = some (.frz o (.dT kvs))) : (d == sysModules) = false ∧ st.heap.get? d = some o ∧ o.ExactDict ∧
    ∃ (es : Array DictEntry) (ep : Nat), o.data = .dict es ep ∧ es.size = kvs.length ∧ ∀ (i : Nat) (k : List Key) (v : V), kvs[i]? = some (k, v) → ∃ (en : DictEntry) (q : Addr), es[i]? = some en ∧ en.key = .ref q ∧ H q = some (.tup (k.map kV)) ∧ RelV v en.val := by
  have hk := I.hok d _ h
  obtain ⟨h1, _, h2, xs, pr, o', es, ep, h3, h4, h5, h6, _⟩ := hk
  rw [h1] at h3
  obtain rfl := Option.some.inj h3
  have n1 : es.size = xs.length := size_of_entries h6
  have n2 : kvs.length = xs.length := Paired.length pr
  refine ⟨h2, h1, h4, es, ep, h5, n1.trans n2.symm, fun i k v e => ?_⟩
  obtain ⟨b, hb, _, e2, e3⟩ := paired_get pr e
  have q := entry_at h6 i
  rw [hb] at q
  exact ⟨_, b.2.1, q, rfl, e2, e3⟩
end
def Itit (d : Addr) (o : Obj) (kvs : List (List Key × V)) : It where
  go := fun i H => H d = some (.frz o (.dT kvs)) ∧ i < kvs.length
  yld := fun i H x H' => ∃ (T q : Addr) (k : List Key) (v : V), kvs[i]? = some (k, v) ∧ H q = some (.tup (k.map kV)) ∧ x = .ref T ∧ H T = none ∧ H' = upd H T (.tup [.ref q, v])
  stop := fun i H => H d = some (.frz o (.dT kvs)) ∧ kvs.length ≤ i
section
variable {P : Program} {w : World} {K : PySem.W.Frag} {d : Addr} {o : Obj} {es : Array DictEntry} {ep : Nat}
theorem turn_itemsT {kvs : List (List Key × V)} {elts : List Expr} {kk : Nat} {tpos : Pos} (it : Addr) (hod : o.data = .dict es ep) :
    Turn P w K (.Tuple elts kk tpos) (Itit d o kvs) [it] it (fun i h => ∃ ok ov, PySem.IsItemIter h it d i kvs.length ep ok ov) := by
  constructor
  case mem => simp
  case obj =>
    intro i h hst b hb
    obtain rfl : b = it := by simpa using hb
    obtain ⟨ok, ov, e⟩ := hst
    exact ⟨_, e, fun v z => nomatch z⟩
  case keep =>
    intro i h h' hst k
    obtain ⟨ok, ov, e⟩ := hst
    exact ⟨ok, ov, k it (by simp) _ e⟩
  case item =>
    intro X hP hw hK hc i pins st σ H E I hf hst hg
    subst hP hw hK
    obtain ⟨hd, hi⟩ := hg
    obtain ⟨_, hgd, hx, es', ep', hdt, hsz, ent⟩ := lockedT I hd
    obtain ⟨rfl, rfl⟩ := dict_ep hod hdt
    have hkv : kvs[i]? = some (kvs[i].1, kvs[i].2) := List.getElem?_eq_getElem hi
    obtain ⟨en, q, hen, hkey, hq, rv⟩ := ent i _ _ hkv
    obtain ⟨ok, ov, he⟩ := hst
    rw [← hsz] at he
    have hlt : it < st.heap.objs.size := Heap.lt_size he
    have his : i < es'.size := by rw [hsz]; exact hi
    have hei : es'[i] = en := (Array.getElem?_eq_some_iff.mp hen).2
    refine DT.nextI he ⟨o, hgd, hx, hod⟩ his fun h1 ho1 hT1 hz1 hk1 => ?_
    refine ⟨_, rfl, wpAny_letOwnedTupleGo_items (s := { st with heap := h1 }) ho1 fun h2 he2 sb => ?_⟩
    have hT2 := (sb.2 _ (Nat.ne_of_gt hlt)).trans hT1
    rw [hei] at hT2
    have new : ObjOk X.prog X.w (upd H st.heap.objs.size (.tup [.ref q, kvs[i].2])) h2 st.heap.objs.size (.tup [.ref q, kvs[i].2]) :=
      ⟨by show 2 ≤ sizeLine; decide, [en.key, en.val], .cons (show RelV (.ref q) en.key by rw [hkey]; rfl) (.cons rv .nil), ⟨_, hT2, rfl, _, rfl⟩⟩
    have I2 := I.turnedNew (t' := st.toks) (ch := [it]) (fun b ob hb e => (sb.2 b (by simpa using hb)).trans (hk1 b ob (by simpa using hb) e)) hf (Nat.le_refl _) new
    refine ⟨.ref st.heap.objs.size, _, I2, rfl, ⟨_, q, _, _, hkv, hq, rfl, I.hok.fresh (Nat.le_refl _), rfl⟩, ⟨es'[i].key, es'[i].val, ?_⟩, fun b hb => ?_⟩
    · rw [← hsz]; exact he2
    · obtain rfl : b = it := by simpa using hb
      rw [upd_ne (Nat.ne_of_lt hlt)]
      exact (hf _ (by simp)).1
  case done =>
    intro X hP hw hK hc i pins st σ H E I hf hst hg
    subst hP hw hK
    obtain ⟨hd, hi⟩ := hg
    obtain ⟨f0, f1, f2, f3, f4, f5⟩ := hf it (by simp)
    obtain ⟨_, hgd, hx, es', ep', hdt, hsz, ent⟩ := lockedT I hd
    obtain ⟨rfl, rfl⟩ := dict_ep hod hdt
    obtain ⟨ok, ov, he⟩ := hst
    rw [← hsz] at he
    exact DT.endI (I.ok.hd hc) he ⟨o, hgd, hx, hod⟩ (by omega) fun h1 eb => ⟨rfl, I.turned (t' := st.toks) (fun b ob hb e => eb b ob hb e) f0 f1 f3 f4 f5⟩
  case self =>
    intro A i st Q E hst h
    obtain ⟨_, _, e⟩ := hst
    exact PySem.W.kcp_self e h
end
def iItemsT (td : TE) : TI := fun σ H R => td σ H fun x H1 => ∃ (d : Addr) (o : Obj) (kvs : List (List Key × V)), x = .ref d ∧ H1 d = some (.frz o (.dT kvs)) ∧ R (Itit d o kvs) H1
section
variable {X : Cx} {e : Expr} {td : TE} {apos cpos : Pos}
theorem pi_itemsT {elts : List Expr} {kk : Nat} {tpos : Pos} (he : PE X e td) (hbase : attributeBase e "items" X.env (eval e X.env) = eval e X.env := by rfl) (hline : (apos.endLine == cpos.line) = true := by rfl) :
    PI X (.Tuple elts kk tpos) (.Call (.Attribute e "items" apos) [] [] cpos) (iItemsT td) := ⟨fun pins st σ H R I h => by
  refine wpAny_Call_method (T := "dict") (id := "dict.items") hbase rfl hline F.plainAttrs_dict F.slot_dict_items F.type_dict_items (thn (he.run pins st σ H _ I h) fun u s1 hu => ?_)
  obtain ⟨x, H1, I1, rx, d, o, kvs, ex, hd, q⟩ := hu
  subst ex
  obtain rfl : u = Value.ref d := rx
  obtain ⟨hs, hgd, hx, es, ep, hdt, hsz, ent⟩ := lockedT I1 hd
  have hr : DT.Raw s1.heap d es ep := ⟨o, hgd, hx, hdt⟩
  refine ⟨hr.typeIs, fun b eb => ⟨o, by cases eb; exact hgd, hx.2.1⟩, ?_⟩
  have I2 := I1.kept (h' := s1.heap.push { cls := .type "dict_items", data := .fields #[.ref d] }) (t' := s1.toks) fun b ob z => Heap.get?_push_of_some _ z
  have fin : wpAny (model X.prog X.w) X.A (pyIter (.ref s1.heap.objs.size)) (PIE X pins σ (.Tuple elts kk tpos) R) X.xe { s1 with heap := s1.heap.push { cls := .type "dict_items", data := .fields #[.ref d] } } := by
    refine DT.iterI (d := d) (es := es) (ep := ep) ⟨_, Heap.get?_push_size _ rfl, rfl, rfl⟩ (hr.push _) (pi_one (tk := s1.toks) I2 _ (turn_itemsT _ hdt) ⟨.none, .none, ?_⟩ q)
    rw [← hsz]
    exact Heap.get?_push_size _ rfl
  show wpAny _ _ (callWith cpos (.builtin "dict.items") [.ref d] [] []) _ X.xe s1
  exact Calls.callWith_builtin rfl (PySem.evalArgs_none (DT.callItems hs hr fin))⟩
theorem walk_itemsT {d : Addr} {o : Obj} {kvs : List (List Key × V)} : Walk (Itit d o kvs) kvs.length (fun H => H d = some (.frz o (.dT kvs)))
    (fun i H x H' => ∃ (T q : Addr) (k : List Key) (v : V), kvs[i]? = some (k, v) ∧ H q = some (.tup (k.map kV)) ∧ x = .ref T ∧ H T = none ∧ H' = upd H T (.tup [.ref q, v])) where
  goes := fun _ _ hi q => ⟨q, hi⟩
  stops := fun _ q => ⟨q, Nat.le_refl _⟩
  yields := fun _ _ _ _ _ _ y => y
end
/-! ### sorted(xs), xs a list of (text, text, number) -/
abbrev Tri := Str × Str × Int
def triK (t : Tri) : List (Int ⊕ List Nat) := [.inr t.1.cps.toList, .inr t.2.1.cps.toList, .inl t.2.2]
def lt3 (t u : Tri) : Bool := lexLt itemOrd (triK t) (triK u)
def TriAt (H : Hp) (x : V) (t : Tri) : Prop := ∃ a, x = .ref a ∧ H a = some (.tup [.str t.1, .str t.2.1, .int t.2.2])
def sh3 : Nat → Bool := fun i => decide (i < 2)
theorem raw3 {X : Cx} {pins : List (Addr × Obj)} {σ : L2.St} {H : Hp} {st : Shared} (I : L2.Inv X pins σ H st) {a : Addr} {t : Tri} (h : H a = some (.tup [.str t.1, .str t.2.1, .int t.2.2])) :
    (∃ f, TupOf st.heap sh3 (.ref a) f) ∧ G.tupKeyC st.heap sh3 (.ref a) = some (triK t) := by
  obtain ⟨_, its, r, o, ho, hc, n, hd⟩ := I.hok _ _ h
  obtain ⟨v1, r1⟩ : ∃ v, its[0]? = some v := by cases r; exact ⟨_, rfl⟩
  cases r with
  | cons k1 r =>
    cases r with
    | cons k2 r =>
      cases r with
      | cons k3 r =>
        cases r
        obtain ⟨t1, rfl⟩ := k1
        obtain ⟨t2, rfl⟩ := k2
        obtain ⟨t3, rfl⟩ := k3
        refine ⟨⟨_, a, o, _, n, rfl, ho, hc, hd, rfl, fun e => (by cases e), fun _ => ⟨_, _, rfl⟩⟩, ?_⟩
        unfold G.tupKeyC
        have e1 : G.isTupObj st.heap (.ref a) = true := by simp [G.isTupObj, ho, hc]
        rw [if_pos e1]
        simp [tupKey, ho, hd, tupItems, sh3, triK]
def r3 (K : PySem.W.Frag) : List V → Hp → VK → Prop := fun vs H Q => ∃ (a : Addr) (xs : List V), vs = [.ref a] ∧ SqL K H a xs ∧ (∀ x ∈ xs, ∃ t, TriAt H x t) ∧
  ∀ ys p, ys.Perm xs → ys.Pairwise (fun u v => ∀ t t', TriAt H u t → TriAt H v t' → lt3 t' t = false) → H p = none → Q (.ref p) (upd H p (.lst ys))
theorem tups3 {h : Heap} : ∀ {vs : List Value}, (∀ v ∈ vs, ∃ f, TupOf h sh3 v f) → ∃ fs, TupsOf h sh3 vs fs
  | [], _ => ⟨[], .nil⟩
  | v :: vs, k => by
    obtain ⟨f, hf⟩ := k v List.mem_cons_self
    obtain ⟨fs, hfs⟩ := tups3 fun u hu => k u (List.mem_cons_of_mem _ hu)
    exact ⟨f :: fs, .cons hf hfs⟩
theorem cr_sort3 {X : Cx} : CallR X (.builtin "sorted") (r3 X.K) := fun pins st σ H vs us Q I r h => by
  obtain ⟨a, xs, rfl, hs, hx, q⟩ := h
  obtain ⟨its, rv, hl, hz⟩ := I.list hs
  obtain ⟨u, rfl, ru⟩ := vals1 r
  obtain rfl : u = Value.ref a := ru
  obtain ⟨e1, e2⟩ := refs_back rv fun x m => by
    obtain ⟨t, b, e, _⟩ := hx x m
    exact ⟨b, e⟩
  have key : ∀ v ∈ its, ∃ (t : Tri) (b : Addr), v = .ref b ∧ H b = some (.tup [.str t.1, .str t.2.1, .int t.2.2]) := fun v hv => by
    obtain ⟨b, rfl⟩ := e2 v hv
    obtain ⟨t, b', e, hb⟩ := hx (V.ref b) (by rw [e1]; exact List.mem_map.mpr ⟨_, hv, rfl⟩)
    cases e
    exact ⟨t, b, rfl, hb⟩
  obtain ⟨fs, hfs⟩ := tups3 (h := st.heap) (vs := its) fun v hv => by
    obtain ⟨t, b, rfl, hb⟩ := key v hv
    exact (raw3 I hb).1
  refine G.sorted_tups (shape := sh3) (fs := fs) hl.isList hfs (fun v hv => ?_) (by rw [← rv.length]; exact hz) fun st' a1 a2 _ => ?_
  · obtain ⟨t, b, rfl, hb⟩ := key v hv
    exact ⟨_, (raw3 I hb).2⟩
  · have hp : (arrOf st').toList.Perm (its.zip its) := by rw [← pairsOf_toList]; exact Array.perm_iff_toList_perm.mp a1
    have same : ∀ z ∈ (arrOf st').toList, z.1 = z.2 ∧ z.1 ∈ its := fun z hz' => mem_zip_self (hp.mem_iff.mp hz')
    have ho : (((arrOf st').map (·.2)).toList).Perm its := by
      rw [Array.toList_map]
      have := hp.map Prod.snd
      rw [List.map_snd_zip (Nat.le_refl _)] at this
      exact this
    obtain ⟨ep, he'⟩ := PyProof.Rows.sortedAll_at st.heap its ((arrOf st').map (·.2))
    have h3 : ∀ u ∈ ((arrOf st').map (·.2)).toList, ∃ a, u = Value.ref a := fun u hu => e2 u (ho.mem_iff.mp hu)
    have hperm : (((arrOf st').map (·.2)).toList.map backV).Perm xs := by rw [e1]; exact ho.map backV
    refine ⟨.ref _, upd H (st.heap.objs.size + 1) (.lst (((arrOf st').map (·.2)).toList.map backV)), I.laid (t' := st.toks) (fun _ _ => PyProof.Rows.sortedAll_old) (Nat.le_succ _) ⟨by rw [hperm.length_eq]; exact hz, _, ep, vals_back h3, he'⟩, rfl, q _ _ hperm ?_ (I.hok.fresh (Nat.le_succ _))⟩
    rw [List.pairwise_map, Array.toList_map, List.pairwise_map, List.pairwise_iff_getElem]
    intro i j hi hj hij t t' ht ht'
    have hsz : (arrOf st').size = (pairsOf its).size := a1.size_eq
    have hi' : i < (arrOf st').size := by simpa using hi
    have hj' : j < (arrOf st').size := by simpa using hj
    have hk := a2 i j (Nat.le_of_lt hij) (by rw [← hsz]; exact hj')
    have kk : ∀ (m : Nat) (hm : m < (arrOf st').size) (y : Tri), TriAt H (backV ((arrOf st').toList[m]'(by simpa using hm)).2) y → KK (G.tupKindC st.heap sh3) (arrOf st') m = triK y := fun m hm y hy => by
      have hmem : (arrOf st').toList[m]'(by simpa using hm) ∈ (arrOf st').toList := List.getElem_mem _
      obtain ⟨s1, s2⟩ := same _ hmem
      obtain ⟨y', b, eb, hb⟩ := key _ s2
      obtain ⟨b2, ey, hb2⟩ := hy
      rw [← s1, eb] at ey
      cases ey
      rw [hb] at hb2
      have ety : y' = y := by
        obtain ⟨p1, p2, p3⟩ := y
        obtain ⟨r1, r2, r3'⟩ := y'
        simp only [Option.some.injEq, HO.tup.injEq, List.cons.injEq, V.str.injEq, V.int.injEq, and_true] at hb2
        obtain ⟨q1, q2, q3⟩ := hb2
        rw [q1, q2, q3]
      subst ety
      unfold KK
      rw [Array.getElem?_eq_getElem hm]
      show (G.tupKeyC st.heap sh3 ((arrOf st')[m]).1).getD [] = triK y'
      have e5 : ((arrOf st')[m]).1 = Value.ref b := eb
      rw [e5, (raw3 I hb).2]; rfl
    rw [kk i hi' t ht, kk j hj' t' ht'] at hk
    exact hk
theorem cr_sort3K {X : Cx} {K : PySem.W.Frag} (h : X.K = K := by rfl) : CallR X (.builtin "sorted") (r3 K) := by subst h; exact cr_sort3
end Gd

namespace My
open PySem L2 Gd
def top (i : Nat) : Stmt := PySem.Challenge.pw_allonge_k34_the_story.main.body.getD i (.Pass ⟨0, 0, 0, 0⟩)
abbrev s_check_names : Stmt := top 35
abbrev N_check_names : List Str := ["hall", "names", "houses", "name", "at"]
theorem sc_check_names : FnScope N_check_names ["hall", "names"] (defScope s_check_names) := ⟨rfl, rfl, rfl, by decide +kernel, rfl, by decide +kernel, by decide +kernel⟩
abbrev s_stands_there : Stmt := top 36
abbrev N_stands_there : List Str := ["hall", "names", "bill", "drawee", "accepted", "due"]
theorem sc_stands_there : FnScope N_stands_there ["hall", "names", "bill"] (defScope s_stands_there) := ⟨rfl, rfl, rfl, by decide +kernel, rfl, by decide +kernel, by decide +kernel⟩
abbrev s_fair_bills : Stmt := top 37
abbrev N_fair_bills : List Str := ["hall", "names", "bill"]
theorem sc_fair_bills : FnScope N_fair_bills ["hall", "names"] (defScope s_fair_bills) := ⟨rfl, rfl, rfl, by decide +kernel, rfl, by decide +kernel, by decide +kernel⟩
abbrev s_debts : Stmt := top 38
abbrev N_debts : List Str := ["hall", "names", "owed", "bill", "drawee", "holder", "amount", "pair", "coins", "payer", "taker"]
theorem sc_debts : FnScope N_debts ["hall", "names"] (defScope s_debts) := ⟨rfl, rfl, rfl, by decide +kernel, rfl, by decide +kernel, by decide +kernel⟩
abbrev s_paid_by : Stmt := top 39
abbrev N_paid_by : List Str := ["payments", "payer", "giver", "taker", "coins"]
theorem sc_paid_by : FnScope N_paid_by ["payments", "payer"] (defScope s_paid_by) := ⟨rfl, rfl, rfl, by decide +kernel, rfl, by decide +kernel, by decide +kernel⟩
abbrev s_got_by : Stmt := top 40
abbrev N_got_by : List Str := ["payments", "taker", "payer", "getter", "coins"]
theorem sc_got_by : FnScope N_got_by ["payments", "taker"] (defScope s_got_by) := ⟨rfl, rfl, rfl, by decide +kernel, rfl, by decide +kernel, by decide +kernel⟩
abbrev s_payments_of : Stmt := top 41
abbrev N_payments_of : List Str := ["owed", "payers", "debt"]
theorem sc_payments_of : FnScope N_payments_of ["owed", "payers"] (defScope s_payments_of) := ⟨rfl, rfl, rfl, by decide +kernel, rfl, by decide +kernel, by decide +kernel⟩
abbrev s_crowd : Stmt := top 42
abbrev N_crowd : List Str := ["hall", "names", "owed", "left", "coming", "able", "name"]
theorem sc_crowd : FnScope N_crowd ["hall", "names"] (defScope s_crowd) := ⟨rfl, rfl, rfl, by decide +kernel, rfl, by decide +kernel, by decide +kernel⟩
abbrev s_nets : Stmt := top 43
abbrev N_nets : List Str := ["hall", "names", "payments", "name"]
theorem sc_nets : FnScope N_nets ["hall", "names"] (defScope s_nets) := ⟨rfl, rfl, rfl, by decide +kernel, rfl, by decide +kernel, by decide +kernel⟩
abbrev s_paid_bills : Stmt := top 44
abbrev N_paid_bills : List Str := ["hall", "names", "payers", "bill"]
theorem sc_paid_bills : FnScope N_paid_bills ["hall", "names"] (defScope s_paid_bills) := ⟨rfl, rfl, rfl, by decide +kernel, rfl, by decide +kernel, by decide +kernel⟩
abbrev s_check_amount : Stmt := top 46
abbrev N_check_amount : List Str := ["coins"]
theorem sc_check_amount : FnScope N_check_amount ["coins"] (defScope s_check_amount) := ⟨rfl, rfl, rfl, by decide +kernel, rfl, by decide +kernel, by decide +kernel⟩
abbrev s_is_name : Stmt := top 51
abbrev N_is_name : List Str := ["word", "sign"]
theorem sc_is_name : FnScope N_is_name ["word"] (defScope s_is_name) := ⟨rfl, rfl, rfl, by decide +kernel, rfl, by decide +kernel, by decide +kernel⟩
abbrev s_reach : Stmt := top 52
abbrev N_reach : List Str := ["row", "house", "place", "signer", "bound"]
theorem sc_reach : FnScope N_reach ["row", "house"] (defScope s_reach) := ⟨rfl, rfl, rfl, by decide +kernel, rfl, by decide +kernel, by decide +kernel⟩
abbrev s_askable : Stmt := top 53
abbrev N_askable : List Str := ["row", "holder", "protested", "place"]
theorem sc_askable : FnScope N_askable ["row", "holder", "protested"] (defScope s_askable) := ⟨rfl, rfl, rfl, by decide +kernel, rfl, by decide +kernel, by decide +kernel⟩
abbrev s_returned : Stmt := top 54
abbrev N_returned : List Str := ["row", "place"]
theorem sc_returned : FnScope N_returned ["row", "place"] (defScope s_returned) := ⟨rfl, rfl, rfl, by decide +kernel, rfl, by decide +kernel, by decide +kernel⟩
abbrev s_honoured : Stmt := top 55
abbrev N_honoured : List Str := ["row", "place", "drawer"]
theorem sc_honoured : FnScope N_honoured ["row", "place"] (defScope s_honoured) := ⟨rfl, rfl, rfl, by decide +kernel, rfl, by decide +kernel, by decide +kernel⟩
abbrev s_check_returned : Stmt := top 57
abbrev N_check_returned : List Str := ["hall", "bill", "state"]
theorem sc_check_returned : FnScope N_check_returned ["hall", "bill"] (defScope s_check_returned) := ⟨rfl, rfl, rfl, by decide +kernel, rfl, by decide +kernel, by decide +kernel⟩
abbrev s_open_places : Stmt := top 58
abbrev N_open_places : List Str := ["hall", "bill", "state"]
theorem sc_open_places : FnScope N_open_places ["hall", "bill"] (defScope s_open_places) := ⟨rfl, rfl, rfl, by decide +kernel, rfl, by decide +kernel, by decide +kernel⟩
abbrev s_check_coins : Stmt := top 68
abbrev N_check_coins : List Str := ["coins", "least"]
theorem sc_check_coins : FnScope N_check_coins ["coins", "least"] (defScope s_check_coins) := ⟨rfl, rfl, rfl, by decide +kernel, rfl, by decide +kernel, by decide +kernel⟩
abbrev s_check_running : Stmt := top 69
abbrev N_check_running : List Str := ["drawn"]
theorem sc_check_running : FnScope N_check_running ["drawn"] (defScope s_check_running) := ⟨rfl, rfl, rfl, by decide +kernel, rfl, by decide +kernel, by decide +kernel⟩
abbrev s_Lfeed : Stmt := top 72
abbrev N_Lfeed : List Str := ["_law_script", "_law_feed_here", "_law_cell", "_law_left", "_law_turn", "_law_seed"]
theorem sc_Lfeed : FnScope N_Lfeed ["_law_script"] (defScope s_Lfeed) := ⟨rfl, rfl, rfl, by decide +kernel, rfl, by decide +kernel, by decide +kernel⟩
abbrev s_Lname : Stmt := top 73
abbrev N_Lname : List Str := ["_law_pick", "_law_k", "_law_sign", "_law_at", "_law_words", "_law_some"]
theorem sc_Lname : FnScope N_Lname ["_law_pick", "_law_k"] (defScope s_Lname) := ⟨rfl, rfl, rfl, by decide +kernel, rfl, by decide +kernel, by decide +kernel⟩
abbrev s_Lreach : Stmt := top 74
abbrev N_Lreach : List Str := ["_law_row", "_law_house", "_law_place"]
theorem sc_Lreach : FnScope N_Lreach ["_law_row", "_law_house"] (defScope s_Lreach) := ⟨rfl, rfl, rfl, by decide +kernel, rfl, by decide +kernel, by decide +kernel⟩
abbrev s_Laskable : Stmt := top 75
abbrev N_Laskable : List Str := ["_law_row", "_law_holder", "_law_protested", "_law_before", "_law_place"]
theorem sc_Laskable : FnScope N_Laskable ["_law_row", "_law_holder", "_law_protested"] (defScope s_Laskable) := ⟨rfl, rfl, rfl, by decide +kernel, rfl, by decide +kernel, by decide +kernel⟩
abbrev s_Lhouses : Stmt := top 76
abbrev N_Lhouses : List Str := ["_law_feed_here", "_law_scale", "_law_deeds", "_law_k"]
theorem sc_Lhouses : FnScope N_Lhouses ["_law_feed_here"] (defScope s_Lhouses) := ⟨rfl, rfl, rfl, by decide +kernel, rfl, by decide +kernel, by decide +kernel⟩
abbrev s_Lbill_deed : Stmt := top 77
abbrev N_Lbill_deed : List Str := ["_law_feed_here", "_law_at", "_law_state", "_law_word", "_law_to", "_law_many", "_law_number", "_law_copy", "_law_places", "_law_place"]
theorem sc_Lbill_deed : FnScope N_Lbill_deed ["_law_feed_here", "_law_at", "_law_state", "_law_word", "_law_to"] (defScope s_Lbill_deed) := ⟨rfl, rfl, rfl, by decide +kernel, rfl, by decide +kernel, by decide +kernel⟩
abbrev s_Lfair_names : Stmt := top 78
abbrev N_Lfair_names : List Str := ["_law_feed_here", "_law_at", "_law_names", "_law_some", "_law_turn", "_law_extra", "_law_k", "_law_name_here"]
theorem sc_Lfair_names : FnScope N_Lfair_names ["_law_feed_here", "_law_at", "_law_names"] (defScope s_Lfair_names) := ⟨rfl, rfl, rfl, by decide +kernel, rfl, by decide +kernel, by decide +kernel⟩
abbrev s_Ldeed : Stmt := top 79
abbrev N_Ldeed : List Str := ["_law_feed_here", "_law_at", "_law_state", "_law_words", "_law_word", "_law_scale", "_law_names", "_law_some", "_law_name_here", "_law_due", "_law_k"]
theorem sc_Ldeed : FnScope N_Ldeed ["_law_feed_here", "_law_at", "_law_state"] (defScope s_Ldeed) := ⟨rfl, rfl, rfl, by decide +kernel, rfl, by decide +kernel, by decide +kernel⟩
abbrev s_Lsame : Stmt := top 80
abbrev N_Lsame : List Str := ["_law_found", "_law_due", "_law_k"]
theorem sc_Lsame : FnScope N_Lsame ["_law_found", "_law_due"] (defScope s_Lsame) := ⟨rfl, rfl, rfl, by decide +kernel, rfl, by decide +kernel, by decide +kernel⟩
abbrev s_Lopen : Stmt := top 81
abbrev N_Lopen : List Str := ["_law_bill"]
theorem sc_Lopen : FnScope N_Lopen ["_law_bill"] (defScope s_Lopen) := ⟨rfl, rfl, rfl, by decide +kernel, rfl, by decide +kernel, by decide +kernel⟩
abbrev s_Lany_deed : Stmt := top 82
abbrev N_Lany_deed : List Str := ["_law_feed_here", "_law_at", "_law_state"]
theorem sc_Lany_deed : FnScope N_Lany_deed ["_law_feed_here", "_law_at", "_law_state"] (defScope s_Lany_deed) := ⟨rfl, rfl, rfl, by decide +kernel, rfl, by decide +kernel, by decide +kernel⟩
abbrev s_Lseen : Stmt := top 83
abbrev N_Lseen : List Str := ["_law_hall", "_law_coins", "_law_name_here", "_law_bills", "_law_k"]
theorem sc_Lseen : FnScope N_Lseen ["_law_hall"] (defScope s_Lseen) := ⟨rfl, rfl, rfl, by decide +kernel, rfl, by decide +kernel, by decide +kernel⟩
abbrev s_Lpaper_do : Stmt := top 84
abbrev N_Lpaper_do : List Str := ["_law_hall", "_law_deed_here", "_law_word"]
theorem sc_Lpaper_do : FnScope N_Lpaper_do ["_law_hall", "_law_deed_here"] (defScope s_Lpaper_do) := ⟨rfl, rfl, rfl, by decide +kernel, rfl, by decide +kernel, by decide +kernel⟩
abbrev s_Ldo : Stmt := top 85
abbrev N_Ldo : List Str := ["_law_hall", "_law_deed_here", "_law_word", "_law_handed", "_law_told"]
theorem sc_Ldo : FnScope N_Ldo ["_law_hall", "_law_deed_here"] (defScope s_Ldo) := ⟨rfl, rfl, rfl, by decide +kernel, rfl, by decide +kernel, by decide +kernel⟩
abbrev s_Ldid : Stmt := top 86
abbrev N_Ldid : List Str := ["_law_hall", "_law_deed_here", "_law_done"]
theorem sc_Ldid : FnScope N_Ldid ["_law_hall", "_law_deed_here"] (defScope s_Ldid) := ⟨rfl, rfl, rfl, by decide +kernel, rfl, by decide +kernel, by decide +kernel⟩
abbrev s_Law : Stmt := top 87
abbrev N_Law : List Str := ["_law_script", "_law_feed_here", "_law_hall", "_law_story", "_law_deeds", "_law_k", "_law_deed_here", "_law_told"]
theorem sc_Law : FnScope N_Law ["_law_script"] (defScope s_Law) := ⟨rfl, rfl, rfl, by decide +kernel, rfl, by decide +kernel, by decide +kernel⟩
abbrev s_Binit : Stmt := inClass (top 6) 0
abbrev N_Binit : List Str := ["self", "drawer", "drawee", "payee", "amount", "due", "bound"]
theorem sc_Binit : FnScope N_Binit ["self", "drawer", "drawee", "payee", "amount", "due", "bound"] (defScope s_Binit) := ⟨rfl, rfl, rfl, by decide +kernel, rfl, by decide +kernel, by decide +kernel⟩
abbrev s_Bwritten : Stmt := inClass (top 6) 1
abbrev N_Bwritten : List Str := ["self"]
theorem sc_Bwritten : FnScope N_Bwritten ["self"] (defScope s_Bwritten) := ⟨rfl, rfl, rfl, by decide +kernel, rfl, by decide +kernel, by decide +kernel⟩
abbrev s_Minit : Stmt := inClass (top 47) 0
abbrev N_Minit : List Str := ["self"]
theorem sc_Minit : FnScope N_Minit ["self"] (defScope s_Minit) := ⟨rfl, rfl, rfl, by decide +kernel, rfl, by decide +kernel, by decide +kernel⟩
abbrev s_Maddpurse : Stmt := inClass (top 47) 1
abbrev N_Maddpurse : List Str := ["self", "name", "coins"]
theorem sc_Maddpurse : FnScope N_Maddpurse ["self", "name", "coins"] (defScope s_Maddpurse) := ⟨rfl, rfl, rfl, by decide +kernel, rfl, by decide +kernel, by decide +kernel⟩
abbrev s_Mcoins : Stmt := inClass (top 47) 2
abbrev N_Mcoins : List Str := ["self", "name"]
theorem sc_Mcoins : FnScope N_Mcoins ["self", "name"] (defScope s_Mcoins) := ⟨rfl, rfl, rfl, by decide +kernel, rfl, by decide +kernel, by decide +kernel⟩
abbrev s_Mfill : Stmt := inClass (top 47) 3
abbrev N_Mfill : List Str := ["self", "name", "coins", "before"]
theorem sc_Mfill : FnScope N_Mfill ["self", "name", "coins"] (defScope s_Mfill) := ⟨rfl, rfl, rfl, by decide +kernel, rfl, by decide +kernel, by decide +kernel⟩
abbrev s_Mspend : Stmt := inClass (top 47) 4
abbrev N_Mspend : List Str := ["self", "name", "coins", "before"]
theorem sc_Mspend : FnScope N_Mspend ["self", "name", "coins"] (defScope s_Mspend) := ⟨rfl, rfl, rfl, by decide +kernel, rfl, by decide +kernel, by decide +kernel⟩
abbrev s_Mpay : Stmt := inClass (top 47) 5
abbrev N_Mpay : List Str := ["self", "payer", "taker", "coins", "name"]
theorem sc_Mpay : FnScope N_Mpay ["self", "payer", "taker", "coins"] (defScope s_Mpay) := ⟨rfl, rfl, rfl, by decide +kernel, rfl, by decide +kernel, by decide +kernel⟩
abbrev s_Mallnames : Stmt := inClass (top 47) 7
abbrev N_Mallnames : List Str := ["self"]
theorem sc_Mallnames : FnScope N_Mallnames ["self"] (defScope s_Mallnames) := ⟨rfl, rfl, rfl, by decide +kernel, rfl, by decide +kernel, by decide +kernel⟩
abbrev s_Hinit : Stmt := inClass (top 70) 0
abbrev N_Hinit : List Str := ["self"]
theorem sc_Hinit : FnScope N_Hinit ["self"] (defScope s_Hinit) := ⟨rfl, rfl, rfl, by decide +kernel, rfl, by decide +kernel, by decide +kernel⟩
abbrev s_Hcheckhouse : Stmt := inClass (top 70) 1
abbrev N_Hcheckhouse : List Str := ["self", "name"]
theorem sc_Hcheckhouse : FnScope N_Hcheckhouse ["self", "name"] (defScope s_Hcheckhouse) := ⟨rfl, rfl, rfl, by decide +kernel, rfl, by decide +kernel, by decide +kernel⟩
abbrev s_Hcheckstanding : Stmt := inClass (top 70) 2
abbrev N_Hcheckstanding : List Str := ["self", "name"]
theorem sc_Hcheckstanding : FnScope N_Hcheckstanding ["self", "name"] (defScope s_Hcheckstanding) := ⟨rfl, rfl, rfl, by decide +kernel, rfl, by decide +kernel, by decide +kernel⟩
abbrev s_Hcheckpayer : Stmt := inClass (top 70) 3
abbrev N_Hcheckpayer : List Str := ["self", "name", "amount"]
theorem sc_Hcheckpayer : FnScope N_Hcheckpayer ["self", "name", "amount"] (defScope s_Hcheckpayer) := ⟨rfl, rfl, rfl, by decide +kernel, rfl, by decide +kernel, by decide +kernel⟩
abbrev s_Hfindbill : Stmt := inClass (top 70) 4
abbrev N_Hfindbill : List Str := ["self", "bill"]
theorem sc_Hfindbill : FnScope N_Hfindbill ["self", "bill"] (defScope s_Hfindbill) := ⟨rfl, rfl, rfl, by decide +kernel, rfl, by decide +kernel, by decide +kernel⟩
abbrev s_Hfindcopy : Stmt := inClass (top 70) 5
abbrev N_Hfindcopy : List Str := ["self", "bill", "copy", "drawn"]
theorem sc_Hfindcopy : FnScope N_Hfindcopy ["self", "bill", "copy"] (defScope s_Hfindcopy) := ⟨rfl, rfl, rfl, by decide +kernel, rfl, by decide +kernel, by decide +kernel⟩
abbrev s_Hhouse : Stmt := inClass (top 70) 6
abbrev N_Hhouse : List Str := ["self", "name", "coins"]
theorem sc_Hhouse : FnScope N_Hhouse ["self", "name", "coins"] (defScope s_Hhouse) := ⟨rfl, rfl, rfl, by decide +kernel, rfl, by decide +kernel, by decide +kernel⟩
abbrev s_Hputin : Stmt := inClass (top 70) 7
abbrev N_Hputin : List Str := ["self", "name", "coins"]
theorem sc_Hputin : FnScope N_Hputin ["self", "name", "coins"] (defScope s_Hputin) := ⟨rfl, rfl, rfl, by decide +kernel, rfl, by decide +kernel, by decide +kernel⟩
abbrev s_Htakeout : Stmt := inClass (top 70) 8
abbrev N_Htakeout : List Str := ["self", "name", "coins"]
theorem sc_Htakeout : FnScope N_Htakeout ["self", "name", "coins"] (defScope s_Htakeout) := ⟨rfl, rfl, rfl, by decide +kernel, rfl, by decide +kernel, by decide +kernel⟩
abbrev s_Hfail : Stmt := inClass (top 70) 9
abbrev N_Hfail : List Str := ["self", "name"]
theorem sc_Hfail : FnScope N_Hfail ["self", "name"] (defScope s_Hfail) := ⟨rfl, rfl, rfl, by decide +kernel, rfl, by decide +kernel, by decide +kernel⟩
abbrev s_Hmend : Stmt := inClass (top 70) 10
abbrev N_Hmend : List Str := ["self", "name"]
theorem sc_Hmend : FnScope N_Hmend ["self", "name"] (defScope s_Hmend) := ⟨rfl, rfl, rfl, by decide +kernel, rfl, by decide +kernel, by decide +kernel⟩
abbrev s_Hpassdays : Stmt := inClass (top 70) 11
abbrev N_Hpassdays : List Str := ["self", "many"]
theorem sc_Hpassdays : FnScope N_Hpassdays ["self", "many"] (defScope s_Hpassdays) := ⟨rfl, rfl, rfl, by decide +kernel, rfl, by decide +kernel, by decide +kernel⟩
abbrev s_Hdraw : Stmt := inClass (top 70) 12
abbrev N_Hdraw : List Str := ["self", "drawer", "drawee", "payee", "amount", "due", "bound", "name"]
theorem sc_Hdraw : FnScope N_Hdraw ["self", "drawer", "drawee", "payee", "amount", "due", "bound"] (defScope s_Hdraw) := ⟨rfl, rfl, rfl, by decide +kernel, rfl, by decide +kernel, by decide +kernel⟩
abbrev s_Haccept : Stmt := inClass (top 70) 13
abbrev N_Haccept : List Str := ["self", "bill", "copy", "drawn", "drawee", "accepted"]
theorem sc_Haccept : FnScope N_Haccept ["self", "bill", "copy"] (defScope s_Haccept) := ⟨rfl, rfl, rfl, by decide +kernel, rfl, by decide +kernel, by decide +kernel⟩
abbrev s_Hsign : Stmt := inClass (top 70) 14
abbrev N_Hsign : List Str := ["self", "bill", "copy", "to", "bound"]
theorem sc_Hsign : FnScope N_Hsign ["self", "bill", "copy", "to", "bound"] (defScope s_Hsign) := ⟨rfl, rfl, rfl, by decide +kernel, rfl, by decide +kernel, by decide +kernel⟩
abbrev s_Hsignblank : Stmt := inClass (top 70) 15
abbrev N_Hsignblank : List Str := ["self", "bill", "copy", "to", "bound"]
theorem sc_Hsignblank : FnScope N_Hsignblank ["self", "bill", "copy", "to", "bound"] (defScope s_Hsignblank) := ⟨rfl, rfl, rfl, by decide +kernel, rfl, by decide +kernel, by decide +kernel⟩
abbrev s_Hsignon : Stmt := inClass (top 70) 16
abbrev N_Hsignon : List Str := ["self", "bill", "copy", "to", "bound", "blank", "drawn"]
theorem sc_Hsignon : FnScope N_Hsignon ["self", "bill", "copy", "to", "bound", "blank"] (defScope s_Hsignon) := ⟨rfl, rfl, rfl, by decide +kernel, rfl, by decide +kernel, by decide +kernel⟩
abbrev s_Hhand : Stmt := inClass (top 70) 17
abbrev N_Hhand : List Str := ["self", "bill", "copy", "to", "drawn"]
theorem sc_Hhand : FnScope N_Hhand ["self", "bill", "copy", "to"] (defScope s_Hhand) := ⟨rfl, rfl, rfl, by decide +kernel, rfl, by decide +kernel, by decide +kernel⟩
abbrev s_Hlose : Stmt := inClass (top 70) 18
abbrev N_Hlose : List Str := ["self", "bill", "drawn"]
theorem sc_Hlose : FnScope N_Hlose ["self", "bill"] (defScope s_Hlose) := ⟨rfl, rfl, rfl, by decide +kernel, rfl, by decide +kernel, by decide +kernel⟩
abbrev s_Hpresent : Stmt := inClass (top 70) 19
abbrev N_Hpresent : List Str := ["self", "bill", "copy", "drawn", "drawee", "accepted", "own", "paid"]
theorem sc_Hpresent : FnScope N_Hpresent ["self", "bill", "copy"] (defScope s_Hpresent) := ⟨rfl, rfl, rfl, by decide +kernel, rfl, by decide +kernel, by decide +kernel⟩
abbrev s_Hprotest : Stmt := inClass (top 70) 20
abbrev N_Hprotest : List Str := ["self", "bill", "copy", "drawn"]
theorem sc_Hprotest : FnScope N_Hprotest ["self", "bill", "copy"] (defScope s_Hprotest) := ⟨rfl, rfl, rfl, by decide +kernel, rfl, by decide +kernel, by decide +kernel⟩
abbrev s_Hask : Stmt := inClass (top 70) 21
abbrev N_Hask : List Str := ["self", "bill", "copy", "place", "drawn", "payer"]
theorem sc_Hask : FnScope N_Hask ["self", "bill", "copy", "place"] (defScope s_Hask) := ⟨rfl, rfl, rfl, by decide +kernel, rfl, by decide +kernel, by decide +kernel⟩
abbrev s_Hhonour : Stmt := inClass (top 70) 22
abbrev N_Hhonour : List Str := ["self", "bill", "copy", "name", "place", "drawn", "places", "at"]
theorem sc_Hhonour : FnScope N_Hhonour ["self", "bill", "copy", "name", "place"] (defScope s_Hhonour) := ⟨rfl, rfl, rfl, by decide +kernel, rfl, by decide +kernel, by decide +kernel⟩
abbrev s_Hfair : Stmt := inClass (top 70) 23
abbrev N_Hfair : List Str := ["self", "names", "there", "paid", "changes", "bill", "drawn", "name", "net"]
theorem sc_Hfair : FnScope N_Hfair ["self", "names"] (defScope s_Hfair) := ⟨rfl, rfl, rfl, by decide +kernel, rfl, by decide +kernel, by decide +kernel⟩
abbrev s_Hnames : Stmt := inClass (top 70) 24
abbrev N_Hnames : List Str := ["self"]
theorem sc_Hnames : FnScope N_Hnames ["self"] (defScope s_Hnames) := ⟨rfl, rfl, rfl, by decide +kernel, rfl, by decide +kernel, by decide +kernel⟩
abbrev s_Hcoins : Stmt := inClass (top 70) 25
abbrev N_Hcoins : List Str := ["self", "name"]
theorem sc_Hcoins : FnScope N_Hcoins ["self", "name"] (defScope s_Hcoins) := ⟨rfl, rfl, rfl, by decide +kernel, rfl, by decide +kernel, by decide +kernel⟩
abbrev s_Hstands : Stmt := inClass (top 70) 26
abbrev N_Hstands : List Str := ["self", "name"]
theorem sc_Hstands : FnScope N_Hstands ["self", "name"] (defScope s_Hstands) := ⟨rfl, rfl, rfl, by decide +kernel, rfl, by decide +kernel, by decide +kernel⟩
abbrev s_Hcanpay : Stmt := inClass (top 70) 27
abbrev N_Hcanpay : List Str := ["self", "name", "amount"]
theorem sc_Hcanpay : FnScope N_Hcanpay ["self", "name", "amount"] (defScope s_Hcanpay) := ⟨rfl, rfl, rfl, by decide +kernel, rfl, by decide +kernel, by decide +kernel⟩
abbrev s_Htoday : Stmt := inClass (top 70) 28
abbrev N_Htoday : List Str := ["self"]
theorem sc_Htoday : FnScope N_Htoday ["self"] (defScope s_Htoday) := ⟨rfl, rfl, rfl, by decide +kernel, rfl, by decide +kernel, by decide +kernel⟩
abbrev s_Hmanybills : Stmt := inClass (top 70) 29
abbrev N_Hmanybills : List Str := ["self"]
theorem sc_Hmanybills : FnScope N_Hmanybills ["self"] (defScope s_Hmanybills) := ⟨rfl, rfl, rfl, by decide +kernel, rfl, by decide +kernel, by decide +kernel⟩
abbrev s_Hpaper : Stmt := inClass (top 70) 30
abbrev N_Hpaper : List Str := ["self", "bill"]
theorem sc_Hpaper : FnScope N_Hpaper ["self", "bill"] (defScope s_Hpaper) := ⟨rfl, rfl, rfl, by decide +kernel, rfl, by decide +kernel, by decide +kernel⟩
abbrev s_Hstate : Stmt := inClass (top 70) 31
abbrev N_Hstate : List Str := ["self", "bill"]
theorem sc_Hstate : FnScope N_Hstate ["self", "bill"] (defScope s_Hstate) := ⟨rfl, rfl, rfl, by decide +kernel, rfl, by decide +kernel, by decide +kernel⟩
abbrev s_Hholder : Stmt := inClass (top 70) 32
abbrev N_Hholder : List Str := ["self", "bill"]
theorem sc_Hholder : FnScope N_Hholder ["self", "bill"] (defScope s_Hholder) := ⟨rfl, rfl, rfl, by decide +kernel, rfl, by decide +kernel, by decide +kernel⟩
abbrev s_Hcopyof : Stmt := inClass (top 70) 33
abbrev N_Hcopyof : List Str := ["self", "bill"]
theorem sc_Hcopyof : FnScope N_Hcopyof ["self", "bill"] (defScope s_Hcopyof) := ⟨rfl, rfl, rfl, by decide +kernel, rfl, by decide +kernel, by decide +kernel⟩
abbrev s_Hrow : Stmt := inClass (top 70) 35
abbrev N_Hrow : List Str := ["self", "bill"]
theorem sc_Hrow : FnScope N_Hrow ["self", "bill"] (defScope s_Hrow) := ⟨rfl, rfl, rfl, by decide +kernel, rfl, by decide +kernel, by decide +kernel⟩
abbrev s_Hstory : Stmt := inClass (top 70) 36
abbrev N_Hstory : List Str := ["self"]
theorem sc_Hstory : FnScope N_Hstory ["self"] (defScope s_Hstory) := ⟨rfl, rfl, rfl, by decide +kernel, rfl, by decide +kernel, by decide +kernel⟩
abbrev s_Hmoment : Stmt := inClass (top 70) 37
abbrev N_Hmoment : List Str := ["self"]
theorem sc_Hmoment : FnScope N_Hmoment ["self"] (defScope s_Hmoment) := ⟨rfl, rfl, rfl, by decide +kernel, rfl, by decide +kernel, by decide +kernel⟩
structure Ad where
  a_check_names : Addr
  d_check_names : FuncData
  a_stands_there : Addr
  d_stands_there : FuncData
  a_fair_bills : Addr
  d_fair_bills : FuncData
  a_debts : Addr
  d_debts : FuncData
  a_paid_by : Addr
  d_paid_by : FuncData
  a_got_by : Addr
  d_got_by : FuncData
  a_payments_of : Addr
  d_payments_of : FuncData
  a_crowd : Addr
  d_crowd : FuncData
  a_nets : Addr
  d_nets : FuncData
  a_paid_bills : Addr
  d_paid_bills : FuncData
  a_check_amount : Addr
  d_check_amount : FuncData
  a_is_name : Addr
  d_is_name : FuncData
  a_reach : Addr
  d_reach : FuncData
  a_askable : Addr
  d_askable : FuncData
  a_returned : Addr
  d_returned : FuncData
  a_honoured : Addr
  d_honoured : FuncData
  a_check_returned : Addr
  d_check_returned : FuncData
  a_open_places : Addr
  d_open_places : FuncData
  a_check_coins : Addr
  d_check_coins : FuncData
  a_check_running : Addr
  d_check_running : FuncData
  a_Lfeed : Addr
  d_Lfeed : FuncData
  a_Lname : Addr
  d_Lname : FuncData
  a_Lreach : Addr
  d_Lreach : FuncData
  a_Laskable : Addr
  d_Laskable : FuncData
  a_Lhouses : Addr
  d_Lhouses : FuncData
  a_Lbill_deed : Addr
  d_Lbill_deed : FuncData
  a_Lfair_names : Addr
  d_Lfair_names : FuncData
  a_Ldeed : Addr
  d_Ldeed : FuncData
  a_Lsame : Addr
  d_Lsame : FuncData
  a_Lopen : Addr
  d_Lopen : FuncData
  a_Lany_deed : Addr
  d_Lany_deed : FuncData
  a_Lseen : Addr
  d_Lseen : FuncData
  a_Lpaper_do : Addr
  d_Lpaper_do : FuncData
  a_Ldo : Addr
  d_Ldo : FuncData
  a_Ldid : Addr
  d_Ldid : FuncData
  a_Law : Addr
  d_Law : FuncData
  t_RUNNING : Tok
  t_PAID : Tok
  t_UNPAID : Tok
  t_PROTESTED : Tok
  t_LONGEST_NAME : Tok
  t_FIRST_SIGNED : Tok
  t_MOST_COINS : Tok
  t_MOST_HOUSES : Tok
  t_MOST_BILLS : Tok
  t_MOST_COPIES : Tok
  t_MOST_PLACES : Tok
  t_MOST_DAYS : Tok
  t_LAST_DUE : Tok
  t_PROTEST_DAYS : Tok
structure Txt (K : PySem.W.Frag) (mg : Str → Option Value) (A : Ad) : Prop where
  b : Bi mg
  g_RUNNING : mg "RUNNING" = some (.str "running" A.t_RUNNING)
  g_PAID : mg "PAID" = some (.str "paid" A.t_PAID)
  g_UNPAID : mg "UNPAID" = some (.str "unpaid" A.t_UNPAID)
  g_PROTESTED : mg "PROTESTED" = some (.str "protested" A.t_PROTESTED)
  g_LONGEST_NAME : mg "LONGEST_NAME" = some (.int 8 A.t_LONGEST_NAME)
  g_FIRST_SIGNED : mg "FIRST_SIGNED" = some (.int 2 A.t_FIRST_SIGNED)
  g_MOST_COINS : mg "MOST_COINS" = some (.int 1000000000000 A.t_MOST_COINS)
  g_MOST_HOUSES : mg "MOST_HOUSES" = some (.int 9 A.t_MOST_HOUSES)
  g_MOST_BILLS : mg "MOST_BILLS" = some (.int 40 A.t_MOST_BILLS)
  g_MOST_COPIES : mg "MOST_COPIES" = some (.int 3 A.t_MOST_COPIES)
  g_MOST_PLACES : mg "MOST_PLACES" = some (.int 8 A.t_MOST_PLACES)
  g_MOST_DAYS : mg "MOST_DAYS" = some (.int 1000 A.t_MOST_DAYS)
  g_LAST_DUE : mg "LAST_DUE" = some (.int 1000 A.t_LAST_DUE)
  g_PROTEST_DAYS : mg "PROTEST_DAYS" = some (.int 3 A.t_PROTEST_DAYS)
  m_check_names : mg "check_names" = some (.ref A.a_check_names)
  F_check_names : Fun K "check_names" "check_names" s_check_names A.a_check_names A.d_check_names
  b_check_names : Binds K A.d_check_names ["hall", "names"] []
  m_stands_there : mg "stands_there" = some (.ref A.a_stands_there)
  F_stands_there : Fun K "stands_there" "stands_there" s_stands_there A.a_stands_there A.d_stands_there
  b_stands_there : Binds K A.d_stands_there ["hall", "names", "bill"] []
  m_fair_bills : mg "fair_bills" = some (.ref A.a_fair_bills)
  F_fair_bills : Fun K "fair_bills" "fair_bills" s_fair_bills A.a_fair_bills A.d_fair_bills
  b_fair_bills : Binds K A.d_fair_bills ["hall", "names"] []
  m_debts : mg "debts" = some (.ref A.a_debts)
  F_debts : Fun K "debts" "debts" s_debts A.a_debts A.d_debts
  b_debts : Binds K A.d_debts ["hall", "names"] []
  m_paid_by : mg "paid_by" = some (.ref A.a_paid_by)
  F_paid_by : Fun K "paid_by" "paid_by" s_paid_by A.a_paid_by A.d_paid_by
  b_paid_by : Binds K A.d_paid_by ["payments", "payer"] []
  m_got_by : mg "got_by" = some (.ref A.a_got_by)
  F_got_by : Fun K "got_by" "got_by" s_got_by A.a_got_by A.d_got_by
  b_got_by : Binds K A.d_got_by ["payments", "taker"] []
  m_payments_of : mg "payments_of" = some (.ref A.a_payments_of)
  F_payments_of : Fun K "payments_of" "payments_of" s_payments_of A.a_payments_of A.d_payments_of
  b_payments_of : Binds K A.d_payments_of ["owed", "payers"] []
  m_crowd : mg "crowd" = some (.ref A.a_crowd)
  F_crowd : Fun K "crowd" "crowd" s_crowd A.a_crowd A.d_crowd
  b_crowd : Binds K A.d_crowd ["hall", "names"] []
  m_nets : mg "nets" = some (.ref A.a_nets)
  F_nets : Fun K "nets" "nets" s_nets A.a_nets A.d_nets
  b_nets : Binds K A.d_nets ["hall", "names"] []
  m_paid_bills : mg "paid_bills" = some (.ref A.a_paid_bills)
  F_paid_bills : Fun K "paid_bills" "paid_bills" s_paid_bills A.a_paid_bills A.d_paid_bills
  b_paid_bills : Binds K A.d_paid_bills ["hall", "names"] []
  m_check_amount : mg "check_amount" = some (.ref A.a_check_amount)
  F_check_amount : Fun K "check_amount" "check_amount" s_check_amount A.a_check_amount A.d_check_amount
  b_check_amount : Binds K A.d_check_amount ["coins"] []
  m_is_name : mg "is_name" = some (.ref A.a_is_name)
  F_is_name : Fun K "is_name" "is_name" s_is_name A.a_is_name A.d_is_name
  b_is_name : Binds K A.d_is_name ["word"] []
  m_reach : mg "reach" = some (.ref A.a_reach)
  F_reach : Fun K "reach" "reach" s_reach A.a_reach A.d_reach
  b_reach : Binds K A.d_reach ["row", "house"] []
  m_askable : mg "askable" = some (.ref A.a_askable)
  F_askable : Fun K "askable" "askable" s_askable A.a_askable A.d_askable
  b_askable : Binds K A.d_askable ["row", "holder", "protested"] []
  m_returned : mg "returned" = some (.ref A.a_returned)
  F_returned : Fun K "returned" "returned" s_returned A.a_returned A.d_returned
  b_returned : Binds K A.d_returned ["row", "place"] []
  m_honoured : mg "honoured" = some (.ref A.a_honoured)
  F_honoured : Fun K "honoured" "honoured" s_honoured A.a_honoured A.d_honoured
  b_honoured : Binds K A.d_honoured ["row", "place"] []
  m_check_returned : mg "check_returned" = some (.ref A.a_check_returned)
  F_check_returned : Fun K "check_returned" "check_returned" s_check_returned A.a_check_returned A.d_check_returned
  b_check_returned : Binds K A.d_check_returned ["hall", "bill"] []
  m_open_places : mg "open_places" = some (.ref A.a_open_places)
  F_open_places : Fun K "open_places" "open_places" s_open_places A.a_open_places A.d_open_places
  b_open_places : Binds K A.d_open_places ["hall", "bill"] []
  m_check_coins : mg "check_coins" = some (.ref A.a_check_coins)
  F_check_coins : Fun K "check_coins" "check_coins" s_check_coins A.a_check_coins A.d_check_coins
  b_check_coins : Binds K A.d_check_coins ["coins", "least"] []
  m_check_running : mg "check_running" = some (.ref A.a_check_running)
  F_check_running : Fun K "check_running" "check_running" s_check_running A.a_check_running A.d_check_running
  b_check_running : Binds K A.d_check_running ["drawn"] []
  m_Lfeed : mg "_law_feed" = some (.ref A.a_Lfeed)
  F_Lfeed : Fun K "_law_feed" "_law_feed" s_Lfeed A.a_Lfeed A.d_Lfeed
  b_Lfeed : Binds K A.d_Lfeed ["_law_script"] []
  m_Lname : mg "_law_name" = some (.ref A.a_Lname)
  F_Lname : Fun K "_law_name" "_law_name" s_Lname A.a_Lname A.d_Lname
  b_Lname : Binds K A.d_Lname ["_law_pick", "_law_k"] []
  m_Lreach : mg "_law_reach" = some (.ref A.a_Lreach)
  F_Lreach : Fun K "_law_reach" "_law_reach" s_Lreach A.a_Lreach A.d_Lreach
  b_Lreach : Binds K A.d_Lreach ["_law_row", "_law_house"] []
  m_Laskable : mg "_law_askable" = some (.ref A.a_Laskable)
  F_Laskable : Fun K "_law_askable" "_law_askable" s_Laskable A.a_Laskable A.d_Laskable
  b_Laskable : Binds K A.d_Laskable ["_law_row", "_law_holder", "_law_protested"] []
  m_Lhouses : mg "_law_houses" = some (.ref A.a_Lhouses)
  F_Lhouses : Fun K "_law_houses" "_law_houses" s_Lhouses A.a_Lhouses A.d_Lhouses
  b_Lhouses : Binds K A.d_Lhouses ["_law_feed_here"] []
  m_Lbill_deed : mg "_law_bill_deed" = some (.ref A.a_Lbill_deed)
  F_Lbill_deed : Fun K "_law_bill_deed" "_law_bill_deed" s_Lbill_deed A.a_Lbill_deed A.d_Lbill_deed
  b_Lbill_deed : Binds K A.d_Lbill_deed ["_law_feed_here", "_law_at", "_law_state", "_law_word", "_law_to"] []
  m_Lfair_names : mg "_law_fair_names" = some (.ref A.a_Lfair_names)
  F_Lfair_names : Fun K "_law_fair_names" "_law_fair_names" s_Lfair_names A.a_Lfair_names A.d_Lfair_names
  b_Lfair_names : Binds K A.d_Lfair_names ["_law_feed_here", "_law_at", "_law_names"] []
  m_Ldeed : mg "_law_deed" = some (.ref A.a_Ldeed)
  F_Ldeed : Fun K "_law_deed" "_law_deed" s_Ldeed A.a_Ldeed A.d_Ldeed
  b_Ldeed : Binds K A.d_Ldeed ["_law_feed_here", "_law_at", "_law_state"] []
  m_Lsame : mg "_law_same" = some (.ref A.a_Lsame)
  F_Lsame : Fun K "_law_same" "_law_same" s_Lsame A.a_Lsame A.d_Lsame
  b_Lsame : Binds K A.d_Lsame ["_law_found", "_law_due"] []
  m_Lopen : mg "_law_open" = some (.ref A.a_Lopen)
  F_Lopen : Fun K "_law_open" "_law_open" s_Lopen A.a_Lopen A.d_Lopen
  b_Lopen : Binds K A.d_Lopen ["_law_bill"] []
  m_Lany_deed : mg "_law_any_deed" = some (.ref A.a_Lany_deed)
  F_Lany_deed : Fun K "_law_any_deed" "_law_any_deed" s_Lany_deed A.a_Lany_deed A.d_Lany_deed
  b_Lany_deed : Binds K A.d_Lany_deed ["_law_feed_here", "_law_at", "_law_state"] []
  m_Lseen : mg "_law_seen" = some (.ref A.a_Lseen)
  F_Lseen : Fun K "_law_seen" "_law_seen" s_Lseen A.a_Lseen A.d_Lseen
  b_Lseen : Binds K A.d_Lseen ["_law_hall"] []
  m_Lpaper_do : mg "_law_paper_do" = some (.ref A.a_Lpaper_do)
  F_Lpaper_do : Fun K "_law_paper_do" "_law_paper_do" s_Lpaper_do A.a_Lpaper_do A.d_Lpaper_do
  b_Lpaper_do : Binds K A.d_Lpaper_do ["_law_hall", "_law_deed_here"] []
  m_Ldo : mg "_law_do" = some (.ref A.a_Ldo)
  F_Ldo : Fun K "_law_do" "_law_do" s_Ldo A.a_Ldo A.d_Ldo
  b_Ldo : Binds K A.d_Ldo ["_law_hall", "_law_deed_here"] []
  m_Ldid : mg "_law_did" = some (.ref A.a_Ldid)
  F_Ldid : Fun K "_law_did" "_law_did" s_Ldid A.a_Ldid A.d_Ldid
  b_Ldid : Binds K A.d_Ldid ["_law_hall", "_law_deed_here"] []
  m_Law : mg "law" = some (.ref A.a_Law)
  F_Law : Fun K "law" "law" s_Law A.a_Law A.d_Law
  b_Law : Binds K A.d_Law ["_law_script"] []
abbrev veTl : List Value := [.type "ValueError", .type "Exception", .type "BaseException", .type "object"]
inductive Kd | BadName | Taken | BadCoins | Full | NoHouse | NoCoins | Failed | Standing | BadCount | BadDay | NoBill | Void | Closed | Accepted | Same | NotBlank | NotYet | NotPresented | Protested | TooLate | NotBound | CantPay | NotProtested | IsBound | Twice
deriving DecidableEq
structure Bd where
  C_Bill : Addr
  C_Purses : Addr
  C_Hall : Addr
  a_Binit : Addr
  d_Binit : FuncData
  a_Bwritten : Addr
  d_Bwritten : FuncData
  a_Minit : Addr
  d_Minit : FuncData
  a_Maddpurse : Addr
  d_Maddpurse : FuncData
  a_Mcoins : Addr
  d_Mcoins : FuncData
  a_Mfill : Addr
  d_Mfill : FuncData
  a_Mspend : Addr
  d_Mspend : FuncData
  a_Mpay : Addr
  d_Mpay : FuncData
  a_Mallnames : Addr
  d_Mallnames : FuncData
  a_Hinit : Addr
  d_Hinit : FuncData
  a_Hcheckhouse : Addr
  d_Hcheckhouse : FuncData
  a_Hcheckstanding : Addr
  d_Hcheckstanding : FuncData
  a_Hcheckpayer : Addr
  d_Hcheckpayer : FuncData
  a_Hfindbill : Addr
  d_Hfindbill : FuncData
  a_Hfindcopy : Addr
  d_Hfindcopy : FuncData
  a_Hhouse : Addr
  d_Hhouse : FuncData
  a_Hputin : Addr
  d_Hputin : FuncData
  a_Htakeout : Addr
  d_Htakeout : FuncData
  a_Hfail : Addr
  d_Hfail : FuncData
  a_Hmend : Addr
  d_Hmend : FuncData
  a_Hpassdays : Addr
  d_Hpassdays : FuncData
  a_Hdraw : Addr
  d_Hdraw : FuncData
  a_Haccept : Addr
  d_Haccept : FuncData
  a_Hsign : Addr
  d_Hsign : FuncData
  a_Hsignblank : Addr
  d_Hsignblank : FuncData
  a_Hsignon : Addr
  d_Hsignon : FuncData
  a_Hhand : Addr
  d_Hhand : FuncData
  a_Hlose : Addr
  d_Hlose : FuncData
  a_Hpresent : Addr
  d_Hpresent : FuncData
  a_Hprotest : Addr
  d_Hprotest : FuncData
  a_Hask : Addr
  d_Hask : FuncData
  a_Hhonour : Addr
  d_Hhonour : FuncData
  a_Hfair : Addr
  d_Hfair : FuncData
  a_Hnames : Addr
  d_Hnames : FuncData
  a_Hcoins : Addr
  d_Hcoins : FuncData
  a_Hstands : Addr
  d_Hstands : FuncData
  a_Hcanpay : Addr
  d_Hcanpay : FuncData
  a_Htoday : Addr
  d_Htoday : FuncData
  a_Hmanybills : Addr
  d_Hmanybills : FuncData
  a_Hpaper : Addr
  d_Hpaper : FuncData
  a_Hstate : Addr
  d_Hstate : FuncData
  a_Hholder : Addr
  d_Hholder : FuncData
  a_Hcopyof : Addr
  d_Hcopyof : FuncData
  a_Hrow : Addr
  d_Hrow : FuncData
  a_Hstory : Addr
  d_Hstory : FuncData
  a_Hmoment : Addr
  d_Hmoment : FuncData
  cH : Addr
  c_BadName : Addr
  c_Taken : Addr
  c_BadCoins : Addr
  c_Full : Addr
  c_NoHouse : Addr
  c_NoCoins : Addr
  c_Failed : Addr
  c_Standing : Addr
  c_BadCount : Addr
  c_BadDay : Addr
  c_NoBill : Addr
  c_Void : Addr
  c_Closed : Addr
  c_Accepted : Addr
  c_Same : Addr
  c_NotBlank : Addr
  c_NotYet : Addr
  c_NotPresented : Addr
  c_Protested : Addr
  c_TooLate : Addr
  c_NotBound : Addr
  c_CantPay : Addr
  c_NotProtested : Addr
  c_IsBound : Addr
  c_Twice : Addr
def Bd.cls (B : Bd) : Kd → Addr
  | .BadName => B.c_BadName
  | .Taken => B.c_Taken
  | .BadCoins => B.c_BadCoins
  | .Full => B.c_Full
  | .NoHouse => B.c_NoHouse
  | .NoCoins => B.c_NoCoins
  | .Failed => B.c_Failed
  | .Standing => B.c_Standing
  | .BadCount => B.c_BadCount
  | .BadDay => B.c_BadDay
  | .NoBill => B.c_NoBill
  | .Void => B.c_Void
  | .Closed => B.c_Closed
  | .Accepted => B.c_Accepted
  | .Same => B.c_Same
  | .NotBlank => B.c_NotBlank
  | .NotYet => B.c_NotYet
  | .NotPresented => B.c_NotPresented
  | .Protested => B.c_Protested
  | .TooLate => B.c_TooLate
  | .NotBound => B.c_NotBound
  | .CantPay => B.c_CantPay
  | .NotProtested => B.c_NotProtested
  | .IsBound => B.c_IsBound
  | .Twice => B.c_Twice
structure ExT (K : PySem.W.Frag) (mg : Str → Option Value) (n : Str) (C cH : Addr) : Prop where
  g : mg n = some (.ref C)
  x : PySem.W.excIn K C veTl "ValueError.__new__" = true
  k : PySem.W.keepIn K (.ref C) = true
  b : PySem.W.subIn K (.ref C) (.type "BaseException") = some true
  t : PySem.W.typeIn K (.ref C) = some (.type "type")
  e : PySem.W.exmOne K (.ref C) (.ref cH) = some true
structure Ux (K : PySem.W.Frag) (mg : Str → Option Value) (B : Bd) : Prop where
  cl_Bill : Cls K B.C_Bill
  n_Bill_drawee : NoAttr K B.C_Bill "drawee"
  n_Bill_payee : NoAttr K B.C_Bill "payee"
  n_Bill_amount : NoAttr K B.C_Bill "amount"
  n_Bill_due : NoAttr K B.C_Bill "due"
  n_Bill_places : NoAttr K B.C_Bill "places"
  n_Bill_keeper : NoAttr K B.C_Bill "keeper"
  n_Bill_phase : NoAttr K B.C_Bill "phase"
  n_Bill_issue : NoAttr K B.C_Bill "issue"
  n_Bill_blank : NoAttr K B.C_Bill "blank"
  g_Bill : mg "Bill" = some (.ref B.C_Bill)
  mk_Bill : Mk K B.C_Bill B.a_Binit
  cl_Purses : Cls K B.C_Purses
  n_Purses_held : NoAttr K B.C_Purses "held"
  g_Purses : mg "Purses" = some (.ref B.C_Purses)
  mk_Purses : Mk K B.C_Purses B.a_Minit
  cl_Hall : Cls K B.C_Hall
  n_Hall_purses : NoAttr K B.C_Hall "purses"
  n_Hall_failed : NoAttr K B.C_Hall "failed"
  n_Hall_day : NoAttr K B.C_Hall "day"
  n_Hall_bills : NoAttr K B.C_Hall "bills"
  n_Hall_deeds : NoAttr K B.C_Hall "deeds"
  g_Hall : mg "Hall" = some (.ref B.C_Hall)
  mk_Hall : Mk K B.C_Hall B.a_Hinit
  gH : mg "HallError" = some (.ref B.cH)
  F_Binit : Fun K "__init__" "Bill.__init__" s_Binit B.a_Binit B.d_Binit
  b_Binit : Binds K B.d_Binit ["self", "drawer", "drawee", "payee", "amount", "due", "bound"] []
  F_Bwritten : Fun K "written" "Bill.written" s_Bwritten B.a_Bwritten B.d_Bwritten
  b_Bwritten : Binds K B.d_Bwritten ["self"] []
  m_Bwritten : Meth K B.C_Bill "written" B.a_Bwritten
  F_Minit : Fun K "__init__" "Purses.__init__" s_Minit B.a_Minit B.d_Minit
  b_Minit : Binds K B.d_Minit ["self"] []
  F_Maddpurse : Fun K "add_purse" "Purses.add_purse" s_Maddpurse B.a_Maddpurse B.d_Maddpurse
  b_Maddpurse : Binds K B.d_Maddpurse ["self", "name", "coins"] []
  m_Maddpurse : Meth K B.C_Purses "add_purse" B.a_Maddpurse
  F_Mcoins : Fun K "coins" "Purses.coins" s_Mcoins B.a_Mcoins B.d_Mcoins
  b_Mcoins : Binds K B.d_Mcoins ["self", "name"] []
  m_Mcoins : Meth K B.C_Purses "coins" B.a_Mcoins
  F_Mfill : Fun K "fill" "Purses.fill" s_Mfill B.a_Mfill B.d_Mfill
  b_Mfill : Binds K B.d_Mfill ["self", "name", "coins"] []
  m_Mfill : Meth K B.C_Purses "fill" B.a_Mfill
  F_Mspend : Fun K "spend" "Purses.spend" s_Mspend B.a_Mspend B.d_Mspend
  b_Mspend : Binds K B.d_Mspend ["self", "name", "coins"] []
  m_Mspend : Meth K B.C_Purses "spend" B.a_Mspend
  F_Mpay : Fun K "pay" "Purses.pay" s_Mpay B.a_Mpay B.d_Mpay
  b_Mpay : Binds K B.d_Mpay ["self", "payer", "taker", "coins"] []
  m_Mpay : Meth K B.C_Purses "pay" B.a_Mpay
  F_Mallnames : Fun K "all_names" "Purses.all_names" s_Mallnames B.a_Mallnames B.d_Mallnames
  b_Mallnames : Binds K B.d_Mallnames ["self"] []
  m_Mallnames : Meth K B.C_Purses "all_names" B.a_Mallnames
  F_Hinit : Fun K "__init__" "Hall.__init__" s_Hinit B.a_Hinit B.d_Hinit
  b_Hinit : Binds K B.d_Hinit ["self"] []
  F_Hcheckhouse : Fun K "check_house" "Hall.check_house" s_Hcheckhouse B.a_Hcheckhouse B.d_Hcheckhouse
  b_Hcheckhouse : Binds K B.d_Hcheckhouse ["self", "name"] []
  m_Hcheckhouse : Meth K B.C_Hall "check_house" B.a_Hcheckhouse
  F_Hcheckstanding : Fun K "check_standing" "Hall.check_standing" s_Hcheckstanding B.a_Hcheckstanding B.d_Hcheckstanding
  b_Hcheckstanding : Binds K B.d_Hcheckstanding ["self", "name"] []
  m_Hcheckstanding : Meth K B.C_Hall "check_standing" B.a_Hcheckstanding
  F_Hcheckpayer : Fun K "check_payer" "Hall.check_payer" s_Hcheckpayer B.a_Hcheckpayer B.d_Hcheckpayer
  b_Hcheckpayer : Binds K B.d_Hcheckpayer ["self", "name", "amount"] []
  m_Hcheckpayer : Meth K B.C_Hall "check_payer" B.a_Hcheckpayer
  F_Hfindbill : Fun K "find_bill" "Hall.find_bill" s_Hfindbill B.a_Hfindbill B.d_Hfindbill
  b_Hfindbill : Binds K B.d_Hfindbill ["self", "bill"] []
  m_Hfindbill : Meth K B.C_Hall "find_bill" B.a_Hfindbill
  F_Hfindcopy : Fun K "find_copy" "Hall.find_copy" s_Hfindcopy B.a_Hfindcopy B.d_Hfindcopy
  b_Hfindcopy : Binds K B.d_Hfindcopy ["self", "bill", "copy"] []
  m_Hfindcopy : Meth K B.C_Hall "find_copy" B.a_Hfindcopy
  F_Hhouse : Fun K "house" "Hall.house" s_Hhouse B.a_Hhouse B.d_Hhouse
  b_Hhouse : Binds K B.d_Hhouse ["self", "name", "coins"] []
  m_Hhouse : Meth K B.C_Hall "house" B.a_Hhouse
  F_Hputin : Fun K "put_in" "Hall.put_in" s_Hputin B.a_Hputin B.d_Hputin
  b_Hputin : Binds K B.d_Hputin ["self", "name", "coins"] []
  m_Hputin : Meth K B.C_Hall "put_in" B.a_Hputin
  F_Htakeout : Fun K "take_out" "Hall.take_out" s_Htakeout B.a_Htakeout B.d_Htakeout
  b_Htakeout : Binds K B.d_Htakeout ["self", "name", "coins"] []
  m_Htakeout : Meth K B.C_Hall "take_out" B.a_Htakeout
  F_Hfail : Fun K "fail" "Hall.fail" s_Hfail B.a_Hfail B.d_Hfail
  b_Hfail : Binds K B.d_Hfail ["self", "name"] []
  m_Hfail : Meth K B.C_Hall "fail" B.a_Hfail
  F_Hmend : Fun K "mend" "Hall.mend" s_Hmend B.a_Hmend B.d_Hmend
  b_Hmend : Binds K B.d_Hmend ["self", "name"] []
  m_Hmend : Meth K B.C_Hall "mend" B.a_Hmend
  F_Hpassdays : Fun K "pass_days" "Hall.pass_days" s_Hpassdays B.a_Hpassdays B.d_Hpassdays
  b_Hpassdays : Binds K B.d_Hpassdays ["self", "many"] []
  m_Hpassdays : Meth K B.C_Hall "pass_days" B.a_Hpassdays
  F_Hdraw : Fun K "draw" "Hall.draw" s_Hdraw B.a_Hdraw B.d_Hdraw
  b_Hdraw : Binds K B.d_Hdraw ["self", "drawer", "drawee", "payee", "amount", "due", "bound"] []
  m_Hdraw : Meth K B.C_Hall "draw" B.a_Hdraw
  F_Haccept : Fun K "accept" "Hall.accept" s_Haccept B.a_Haccept B.d_Haccept
  b_Haccept : Binds K B.d_Haccept ["self", "bill", "copy"] []
  m_Haccept : Meth K B.C_Hall "accept" B.a_Haccept
  F_Hsign : Fun K "sign" "Hall.sign" s_Hsign B.a_Hsign B.d_Hsign
  b_Hsign : Binds K B.d_Hsign ["self", "bill", "copy", "to", "bound"] []
  m_Hsign : Meth K B.C_Hall "sign" B.a_Hsign
  F_Hsignblank : Fun K "sign_blank" "Hall.sign_blank" s_Hsignblank B.a_Hsignblank B.d_Hsignblank
  b_Hsignblank : Binds K B.d_Hsignblank ["self", "bill", "copy", "to", "bound"] []
  m_Hsignblank : Meth K B.C_Hall "sign_blank" B.a_Hsignblank
  F_Hsignon : Fun K "sign_on" "Hall.sign_on" s_Hsignon B.a_Hsignon B.d_Hsignon
  b_Hsignon : Binds K B.d_Hsignon ["self", "bill", "copy", "to", "bound", "blank"] []
  m_Hsignon : Meth K B.C_Hall "sign_on" B.a_Hsignon
  F_Hhand : Fun K "hand" "Hall.hand" s_Hhand B.a_Hhand B.d_Hhand
  b_Hhand : Binds K B.d_Hhand ["self", "bill", "copy", "to"] []
  m_Hhand : Meth K B.C_Hall "hand" B.a_Hhand
  F_Hlose : Fun K "lose" "Hall.lose" s_Hlose B.a_Hlose B.d_Hlose
  b_Hlose : Binds K B.d_Hlose ["self", "bill"] []
  m_Hlose : Meth K B.C_Hall "lose" B.a_Hlose
  F_Hpresent : Fun K "present" "Hall.present" s_Hpresent B.a_Hpresent B.d_Hpresent
  b_Hpresent : Binds K B.d_Hpresent ["self", "bill", "copy"] []
  m_Hpresent : Meth K B.C_Hall "present" B.a_Hpresent
  F_Hprotest : Fun K "protest" "Hall.protest" s_Hprotest B.a_Hprotest B.d_Hprotest
  b_Hprotest : Binds K B.d_Hprotest ["self", "bill", "copy"] []
  m_Hprotest : Meth K B.C_Hall "protest" B.a_Hprotest
  F_Hask : Fun K "ask" "Hall.ask" s_Hask B.a_Hask B.d_Hask
  b_Hask : Binds K B.d_Hask ["self", "bill", "copy", "place"] []
  m_Hask : Meth K B.C_Hall "ask" B.a_Hask
  F_Hhonour : Fun K "honour" "Hall.honour" s_Hhonour B.a_Hhonour B.d_Hhonour
  b_Hhonour : Binds K B.d_Hhonour ["self", "bill", "copy", "name", "place"] []
  m_Hhonour : Meth K B.C_Hall "honour" B.a_Hhonour
  F_Hfair : Fun K "fair" "Hall.fair" s_Hfair B.a_Hfair B.d_Hfair
  b_Hfair : Binds K B.d_Hfair ["self", "names"] []
  m_Hfair : Meth K B.C_Hall "fair" B.a_Hfair
  F_Hnames : Fun K "names" "Hall.names" s_Hnames B.a_Hnames B.d_Hnames
  b_Hnames : Binds K B.d_Hnames ["self"] []
  m_Hnames : Meth K B.C_Hall "names" B.a_Hnames
  F_Hcoins : Fun K "coins" "Hall.coins" s_Hcoins B.a_Hcoins B.d_Hcoins
  b_Hcoins : Binds K B.d_Hcoins ["self", "name"] []
  m_Hcoins : Meth K B.C_Hall "coins" B.a_Hcoins
  F_Hstands : Fun K "stands" "Hall.stands" s_Hstands B.a_Hstands B.d_Hstands
  b_Hstands : Binds K B.d_Hstands ["self", "name"] []
  m_Hstands : Meth K B.C_Hall "stands" B.a_Hstands
  F_Hcanpay : Fun K "can_pay" "Hall.can_pay" s_Hcanpay B.a_Hcanpay B.d_Hcanpay
  b_Hcanpay : Binds K B.d_Hcanpay ["self", "name", "amount"] []
  m_Hcanpay : Meth K B.C_Hall "can_pay" B.a_Hcanpay
  F_Htoday : Fun K "today" "Hall.today" s_Htoday B.a_Htoday B.d_Htoday
  b_Htoday : Binds K B.d_Htoday ["self"] []
  m_Htoday : Meth K B.C_Hall "today" B.a_Htoday
  F_Hmanybills : Fun K "many_bills" "Hall.many_bills" s_Hmanybills B.a_Hmanybills B.d_Hmanybills
  b_Hmanybills : Binds K B.d_Hmanybills ["self"] []
  m_Hmanybills : Meth K B.C_Hall "many_bills" B.a_Hmanybills
  F_Hpaper : Fun K "paper" "Hall.paper" s_Hpaper B.a_Hpaper B.d_Hpaper
  b_Hpaper : Binds K B.d_Hpaper ["self", "bill"] []
  m_Hpaper : Meth K B.C_Hall "paper" B.a_Hpaper
  F_Hstate : Fun K "state" "Hall.state" s_Hstate B.a_Hstate B.d_Hstate
  b_Hstate : Binds K B.d_Hstate ["self", "bill"] []
  m_Hstate : Meth K B.C_Hall "state" B.a_Hstate
  F_Hholder : Fun K "holder" "Hall.holder" s_Hholder B.a_Hholder B.d_Hholder
  b_Hholder : Binds K B.d_Hholder ["self", "bill"] []
  m_Hholder : Meth K B.C_Hall "holder" B.a_Hholder
  F_Hcopyof : Fun K "copy_of" "Hall.copy_of" s_Hcopyof B.a_Hcopyof B.d_Hcopyof
  b_Hcopyof : Binds K B.d_Hcopyof ["self", "bill"] []
  m_Hcopyof : Meth K B.C_Hall "copy_of" B.a_Hcopyof
  F_Hrow : Fun K "row" "Hall.row" s_Hrow B.a_Hrow B.d_Hrow
  b_Hrow : Binds K B.d_Hrow ["self", "bill"] []
  m_Hrow : Meth K B.C_Hall "row" B.a_Hrow
  F_Hstory : Fun K "story" "Hall.story" s_Hstory B.a_Hstory B.d_Hstory
  b_Hstory : Binds K B.d_Hstory ["self"] []
  m_Hstory : Meth K B.C_Hall "story" B.a_Hstory
  F_Hmoment : Fun K "moment" "Hall.moment" s_Hmoment B.a_Hmoment B.d_Hmoment
  b_Hmoment : Binds K B.d_Hmoment ["self"] []
  m_Hmoment : Meth K B.C_Hall "moment" B.a_Hmoment
  x_BadName : ExT K mg "BadName" B.c_BadName B.cH
  x_Taken : ExT K mg "Taken" B.c_Taken B.cH
  x_BadCoins : ExT K mg "BadCoins" B.c_BadCoins B.cH
  x_Full : ExT K mg "Full" B.c_Full B.cH
  x_NoHouse : ExT K mg "NoHouse" B.c_NoHouse B.cH
  x_NoCoins : ExT K mg "NoCoins" B.c_NoCoins B.cH
  x_Failed : ExT K mg "Failed" B.c_Failed B.cH
  x_Standing : ExT K mg "Standing" B.c_Standing B.cH
  x_BadCount : ExT K mg "BadCount" B.c_BadCount B.cH
  x_BadDay : ExT K mg "BadDay" B.c_BadDay B.cH
  x_NoBill : ExT K mg "NoBill" B.c_NoBill B.cH
  x_Void : ExT K mg "Void" B.c_Void B.cH
  x_Closed : ExT K mg "Closed" B.c_Closed B.cH
  x_Accepted : ExT K mg "Accepted" B.c_Accepted B.cH
  x_Same : ExT K mg "Same" B.c_Same B.cH
  x_NotBlank : ExT K mg "NotBlank" B.c_NotBlank B.cH
  x_NotYet : ExT K mg "NotYet" B.c_NotYet B.cH
  x_NotPresented : ExT K mg "NotPresented" B.c_NotPresented B.cH
  x_Protested : ExT K mg "Protested" B.c_Protested B.cH
  x_TooLate : ExT K mg "TooLate" B.c_TooLate B.cH
  x_NotBound : ExT K mg "NotBound" B.c_NotBound B.cH
  x_CantPay : ExT K mg "CantPay" B.c_CantPay B.cH
  x_NotProtested : ExT K mg "NotProtested" B.c_NotProtested B.cH
  x_IsBound : ExT K mg "IsBound" B.c_IsBound B.cH
  x_Twice : ExT K mg "Twice" B.c_Twice B.cH
theorem Ux.hall {K : PySem.W.Frag} {mg : Str → Option Value} {B : Bd} (U : Ux K mg B) (k : Kd) : PySem.W.exmOne K (.ref (B.cls k)) (.ref B.cH) = some true := by
  cases k
  · exact U.x_BadName.e
  · exact U.x_Taken.e
  · exact U.x_BadCoins.e
  · exact U.x_Full.e
  · exact U.x_NoHouse.e
  · exact U.x_NoCoins.e
  · exact U.x_Failed.e
  · exact U.x_Standing.e
  · exact U.x_BadCount.e
  · exact U.x_BadDay.e
  · exact U.x_NoBill.e
  · exact U.x_Void.e
  · exact U.x_Closed.e
  · exact U.x_Accepted.e
  · exact U.x_Same.e
  · exact U.x_NotBlank.e
  · exact U.x_NotYet.e
  · exact U.x_NotPresented.e
  · exact U.x_Protested.e
  · exact U.x_TooLate.e
  · exact U.x_NotBound.e
  · exact U.x_CantPay.e
  · exact U.x_NotProtested.e
  · exact U.x_IsBound.e
  · exact U.x_Twice.e

-- feed3.txt
section

local macro_rules | `(tactic| walk_at "arith") => `(tactic| first | omega | decide | (unfold CMul; omega) | (unfold CDiv; omega) | (unfold CPow; decide) | (refine ⟨?_, ?_⟩ <;> omega) | (simp; done) | (simp; omega))
local macro_rules | `(tactic| walk_at "wide") => `(tactic| exact ⟨by decide, by decide +kernel⟩)
section
variable {P : Program} {w : World} {K : PySem.W.Frag} {mg : Str → Option Value} {base : Heap} {A : Ad}
structure FeedOk (fs : List Int) : Prop where
  lo : 270 ≤ fs.length
  hi : fs.length ≤ 400
  el : ∀ x ∈ fs, 0 ≤ x ∧ x < 55440
def spFeed (K : PySem.W.Frag) : Sp := fun vs H Q _ => ∃ (G : Hp) (a : Addr) (ns : List Int), vs = [.ref a] ∧ Sb G H ∧ SqL K H a (ns.map V.int) ∧ ns.length ≤ 63 ∧
  ∀ p (fs : List Int) G' H', FeedOk fs → Gr [] G H G' H' → H p = none → G' p = none → H' p = some (.lst (fs.map V.int)) → Q (.ref p) H'
theorem ints_app {fs : List Int} {z : Int} : fs.map V.int ++ [V.int z] = (fs ++ [z]).map V.int := by simp
theorem el_app {fs : List Int} {z : Int} (h : ∀ x ∈ fs, 0 ≤ x ∧ x < 55440) (hz : 0 ≤ z ∧ z < 55440) : ∀ x ∈ fs ++ [z], 0 ≤ x ∧ x < 55440 := fun x hx => by
  rcases List.mem_append.mp hx with h1 | h1
  · exact h x h1
  · rw [List.mem_singleton.mp h1]; exact hz
theorem mod_ok (z : Int) : 0 ≤ z % 55440 ∧ z % 55440 < 55440 := ⟨Int.emod_nonneg _ (by decide), Int.emod_lt_of_pos _ (by decide)⟩
theorem abs_nn (z : Int) : 0 ≤ (if z < 0 then -z else z) := by split <;> omega
theorem ok_Lfeed (T : Txt K mg A) : FnOk P w K mg base CX0 1 A.a_Lfeed A.d_Lfeed ["_law_script"] (spFeed K) := by
  refine T.F_Lfeed.ok sc_Lfeed (fun vs H Q E h => ?_) (fun cdv A' outer s H vs Q E hr h => ?_)
  · obtain ⟨G, a, ns, rfl, _⟩ := h
    rfl
  · obtain ⟨G, a, ns, rfl, s0, hS, hlen, k⟩ := h
    refine ⟨_, (pss_cons (ps_set (i := 1) sc_Lfeed.nd rfl (Or.inl rfl) (pe_lst pa_nil))
      (pss_cons (ps_for PassesOwn.never rfl (pi_list (pv 0)) (pg_name (i := 2) sc_Lfeed.nd rfl (Or.inl rfl))
      (pss_one (ps_if (pt_cmpR op_lt (pe_callB (call_lenK (K := K)) (by rfl) T.b.len (by decide +kernel) (pa_cons (pv 1) pa_nil)) pe_int (nomark _))
      (pss_cons (ps_set (i := 3) sc_Lfeed.nd rfl (Or.inl rfl) (pe_callB call_abs (by rfl) T.b.abs (by decide +kernel) (pa_cons (pv 2) pa_nil)))
      (pss_one (ps_if (pt_cmpR op_ge (pv 3) (pe_op op_pow pe_int pe_int) (nomark _))
      (pss_one (ps_for PassesOwn.never rfl (pi_range1 (by rfl) T.b.range (pa_cons pe_int pa_nil)) (pg_name (i := 4) sc_Lfeed.nd rfl (Or.inl rfl))
      (pss_one (ps_if (pt_cmpR op_gt (pv 3) pe_int (nomark _))
      (pss_cons (ps_expr (pe_bm PySem.F.plainAttrs_list PySem.F.slot_list_append PySem.F.type_list_append mt_append (pv 1) (pa_cons (pe_op op_mod (pv 3) pe_int) pa_nil)))
      (pss_one (ps_set (i := 3) sc_Lfeed.nd rfl (Or.inl rfl) (pe_op op_fdivW (pv 3) pe_int))))
      pss_nil))))
      (pss_cons (ps_set (i := 5) sc_Lfeed.nd rfl (Or.inl rfl) (pe_op op_mod (pe_op op_add (pe_op op_mul (pe_op op_add (pe_op op_mul pe_int (pv 3)) (pe_callTy call_int1 (by rfl) T.b.int_ (by decide +kernel) (pa_cons (pe_cmpR op_lt (pv 2) pe_int (nomark _)) pa_nil))) pe_int) pe_int) pe_int))
      (pss_one (ps_for PassesOwn.never rfl (pi_range1 (by rfl) T.b.range (pa_cons pe_int pa_nil)) (pg_name (i := 4) sc_Lfeed.nd rfl (Or.inl rfl))
      (pss_cons (ps_set (i := 5) sc_Lfeed.nd rfl (Or.inl rfl) (pe_op op_mod (pe_op op_add (pe_op op_mul (pv 5) pe_int) pe_int) pe_int))
      (pss_one (ps_expr (pe_bm PySem.F.plainAttrs_list PySem.F.slot_list_append PySem.F.type_list_append mt_append (pv 1) (pa_cons (pe_op op_mod (pe_op op_fdiv (pv 5) pe_int) pe_int) pa_nil)))))))))))
      pss_nil)))
      (pss_cons (ps_set (i := 5) sc_Lfeed.nd rfl (Or.inl rfl) (pe_op op_add (pe_op op_add pe_int (pe_callB (call_lenK (K := K)) (by rfl) T.b.len (by decide +kernel) (pa_cons (pv 1) pa_nil))) (pe_callB (cr_sumK (K := K) rfl) (by rfl) T.b.sum (by decide +kernel) (pa_cons (pv 1) pa_nil))))
      (pss_cons (ps_for PassesOwn.never rfl (pi_range1 (by rfl) T.b.range (pa_cons pe_int pa_nil)) (pg_name (i := 4) sc_Lfeed.nd rfl (Or.inl rfl))
      (pss_one (ps_if (pt_cmpR op_lt (pe_callB (call_lenK (K := K)) (by rfl) T.b.len (by decide +kernel) (pa_cons (pv 1) pa_nil)) pe_int (nomark _))
      (pss_cons (ps_set (i := 5) sc_Lfeed.nd rfl (Or.inl rfl) (pe_op op_mod (pe_op op_add (pe_op op_mul (pv 5) pe_int) pe_int) pe_int))
      (pss_one (ps_expr (pe_bm PySem.F.plainAttrs_list PySem.F.slot_list_append PySem.F.type_list_append mt_append (pv 1) (pa_cons (pe_op op_mod (pe_op op_fdiv (pv 5) pe_int) pe_int) pa_nil)))))
      pss_nil)))
      (pss_one (ps_ret (pv 1))))))), ?_⟩
    refine q_asgM (ev_lst ea_nil (by walk_at "arith")) s0 fun l xs G1 H1 g1 h0 hn hl hx => ?_
    cases hx
    have hS1 : SqL K H1 a (ns.map V.int) := sq_gr g1 (by simp) hS
    have o1 : Ow G H G1 H1 l ([] : List V) := Ow.mk0 g1 hl hn
    refine ⟨_, rfl, a, rfl, ⟨_, hS1⟩, for_list (K := K) (a := a) (xs := ns.map V.int) (fun i σ' H' => ∃ (fs : List Int) (v2 v3 v4 v5 : Option V) (G' : Hp), σ' = [some (.ref a), some (.ref l), v2, v3, v4, v5] ∧ Ow G H G' H' l (fs.map V.int) ∧ fs.length ≤ 329 ∧ ∀ x ∈ fs, 0 ≤ x ∧ x < 55440)
      ⟨[], none, none, none, none, G1, rfl, o1, by simp, by simp⟩ (fun i σ' H' _ p => ?_) (fun i x σ' H' hx p => ?_) (fun σ' H' p => ?_)⟩
    · obtain ⟨fs, v2, v3, v4, v5, G', rfl, o, _⟩ := p
      exact o.sq h0 hS
    · obtain ⟨fs, v2, v3, v4, v5, G', rfl, hl_feed_here, hf, he⟩ := p
      obtain ⟨z, rfl⟩ : ∃ z, x = V.int z := by
        rw [List.getElem?_map] at hx
        cases e : ns[i]? with
        | none => rw [e] at hx; cases hx
        | some u => rw [e] at hx; exact ⟨u, (Option.some.inj hx).symm⟩
      have h_cell : ∀ G, Dx G (.int z) (.int z) := fun _ => .int z
      refine s_if (et_test (ev_op (ev_lenO rfl hl_feed_here.hl) ev_int rd_lt)) hl_feed_here.s (fun hb G2 H2 g2 => ?_) (fun hb G2 H2 g2 => ?_)
      · have hb := of_decide_eq_true hb
        rw [List.length_map] at hb
        replace hl_feed_here := hl_feed_here.step g2
        refine q_asg ((fun h_cell => (ev_cb (ea_cons (ev_var rfl h_cell) ea_nil) cd_abs)) (h_cell _)) hl_feed_here.s fun v G3 H3 g3 hv => ?_
        obtain rfl := hv.int_eq
        replace hl_feed_here := hl_feed_here.step g3
        have hz0 := abs_nn z
        generalize (if z < 0 then -z else z) = y at hz0 ⊢
        have h_left : ∀ G, Dx G (.int y) (.int y) := fun _ => .int y
        refine s_if ((fun h_left => (et_test (ev_op (ev_var rfl h_left) (ev_op ev_int ev_int (rd_pow (by walk_at "arith"))) rd_ge))) (h_left _)) hl_feed_here.s (fun hy G4 H4 g4 => ?_) (fun hy G4 H4 g4 => ?_)
        · replace hl_feed_here := hl_feed_here.step g4
          refine s_forR [l] (fun n σ' G' H' => ∃ (gs : List Int) (y : Int) (v4 : Option V), σ' = [some (.ref a), some (.ref l), some (.int z), some (.int y), v4, v5] ∧ Ow G H G' H' l (gs.map V.int) ∧ gs.length ≤ fs.length + n ∧ ∀ x ∈ gs, 0 ≤ x ∧ x < 55440)
            (ea_cons ev_int ea_nil) (by omega) hl_feed_here.s (fun G5 H5 g5 => ⟨fs, y, v4, rfl, hl_feed_here.step g5, by omega, he⟩) (fun G5 H5 g5 n σ' G' H' hn2 gg p => ?_) (fun σ' G' H' gg p => ?_)
          · obtain ⟨gs, y, v4, rfl, hl_feed_here, hg, he⟩ := p
            have h_left : ∀ G, Dx G (.int y) (.int y) := fun _ => .int y
            refine s_if ((fun h_left => (et_test (ev_op (ev_var rfl h_left) ev_int rd_gt))) (h_left _)) hl_feed_here.s (fun hy G6 H6 g6 => ?_) (fun hy G6 H6 g6 => ?_)
            · replace hl_feed_here' := hl_feed_here.step g6
              refine q_app' hl_feed_here' rfl ((fun h_left => (ev_op (ev_var rfl h_left) ev_int (rd_mod (by walk_at "arith")))) (h_left _)) (by rw [List.length_map]; omega) fun v G7 H7 hv g7 o7 => ?_
              obtain rfl := hv.int_eq
              rw [ints_app] at o7 ⊢
              refine s_asg ((fun h_left => (ev_op (ev_var rfl h_left) ev_int (rd_fdivW (by walk_at "wide")))) (h_left _)) o7.s fun v G8 H8 g8 hv => ?_
              obtain rfl := hv.int_eq
              refine ⟨G8, ?_, _, _, _, rfl, o7.step g8, by rw [List.length_append, List.length_singleton]; omega, el_app he (mod_ok y)⟩
              exact ((((gg.trans g6.any).trans g7.any).write (Or.inl (by simp)) o7.hn)).trans g8.any
            · exact ⟨G6, gg.trans g6.any, gs, y, _, rfl, hl_feed_here.step g6, by omega, he⟩
          · obtain ⟨gs, y, v4, rfl, o, hg, he⟩ := p
            exact ⟨gs, _, _, _, _, G', rfl, o, by have : (60 : Int).toNat = 60 := rfl; omega, he⟩
        · replace hl_feed_here := hl_feed_here.step g4
          have hy := of_decide_eq_false hy
          have hy1 : y < 1000000000000000000 := by
            have e : ((10 : Int) ^ (18 : Int).toNat) = 1000000000000000000 := by decide
            rw [e] at hy; omega
          refine q_asg ((fun h_left h_cell => (ev_op (ev_op (ev_op (ev_op (ev_op ev_int (ev_var rfl h_left) (rd_mul (by walk_at "arith"))) (ev_cb (ea_cons (ev_op (ev_var rfl h_cell) ev_int rd_lt) ea_nil) cd_intB) rd_add) ev_int (rd_mul (by walk_at "arith"))) ev_int rd_add) ev_int (rd_mod (by walk_at "arith")))) (h_left _) (h_cell _)) hl_feed_here.s fun v G5 H5 g5 hv => ?_
          obtain rfl := hv.int_eq
          replace hl_feed_here := hl_feed_here.step g5
          have hs0 : ∀ u : Int, 0 ≤ u % 2147483629 ∧ u % 2147483629 < 2147483647 := fun u => ⟨by omega, by omega⟩
          have hs1 := hs0 ((2 * y + (if decide (z < 0) then 1 else 0)) * 69621 + 11)
          generalize ((2 * y + (if decide (z < 0) then 1 else 0)) * 69621 + 11) % 2147483629 = sd at hs1 ⊢
          refine s_forR [l] (fun n σ' G' H' => ∃ (gs : List Int) (sd : Int) (v4 : Option V), σ' = [some (.ref a), some (.ref l), some (.int z), some (.int y), v4, some (.int sd)] ∧ (0 ≤ sd ∧ sd < 2147483647) ∧ Ow G H G' H' l (gs.map V.int) ∧ gs.length ≤ fs.length + n ∧ ∀ x ∈ gs, 0 ≤ x ∧ x < 55440)
            (ea_cons ev_int ea_nil) (by omega) hl_feed_here.s (fun G6 H6 g6 => ⟨fs, sd, v4, rfl, hs1, hl_feed_here.step g6, by omega, he⟩) (fun G6 H6 g6 n σ' G' H' hn2 gg p => ?_) (fun σ' G' H' gg p => ?_)
          · obtain ⟨gs, sd, v4, rfl, hs1, hl_feed_here, hg, he⟩ := p
            have h_seed : ∀ G, Dx G (.int sd) (.int sd) := fun _ => .int sd
            refine q_asg ((fun h_seed => (ev_op (ev_op (ev_op (ev_var rfl h_seed) ev_int (rd_mul (by walk_at "arith"))) ev_int rd_add) ev_int (rd_mod (by walk_at "arith")))) (h_seed _)) hl_feed_here.s fun v G7 H7 g7 hv => ?_
            obtain rfl := hv.int_eq
            have hl_feed_here' := hl_feed_here.step g7
            have hs2 : 0 ≤ (sd * 48271 + 7919) % 2147483647 ∧ (sd * 48271 + 7919) % 2147483647 < 2147483647 := by omega
            generalize (sd * 48271 + 7919) % 2147483647 = sd2 at hs2 ⊢
            have h_seed : ∀ G, Dx G (.int sd2) (.int sd2) := fun _ => .int sd2
            refine s_app' hl_feed_here' rfl ((fun h_seed => (ev_op (ev_op (ev_var rfl h_seed) ev_int (rd_fdiv (by walk_at "arith"))) ev_int (rd_mod (by walk_at "arith")))) (h_seed _)) (by rw [List.length_map]; omega) fun v G8 H8 hv g8 o8 => ?_
            obtain rfl := hv.int_eq
            rw [ints_app] at o8 ⊢
            refine ⟨G8, ?_, _, _, _, rfl, hs2, o8, by rw [List.length_append, List.length_singleton]; omega, el_app he (mod_ok _)⟩
            exact (((gg.trans g7.any).trans g8.any).write (Or.inl (by simp)) o8.hn)
          · obtain ⟨gs, sd, v4, rfl, _, o, hg, he⟩ := p
            exact ⟨gs, _, _, _, _, G', rfl, o, by have : (6 : Int).toNat = 6 := rfl; omega, he⟩
      · exact ⟨fs, _, _, _, _, G2, rfl, hl_feed_here.step g2, hf, he⟩
    · obtain ⟨fs, v2, v3, v4, v5, G', rfl, hl_feed_here, hf, he⟩ := p
      refine q_asg (ev_op (ev_op ev_int (ev_lenO rfl hl_feed_here.hl) rd_add) (ev_sumO rfl hl_feed_here.hl (Dxs.ints _)) rd_add) hl_feed_here.s fun v G2 H2 g2 hv => ?_
      obtain rfl := hv.int_eq
      replace hl_feed_here := hl_feed_here.step g2
      have hsum : ∀ fs : List Int, (∀ x ∈ fs, 0 ≤ x ∧ x < 55440) → 0 ≤ fs.sum ∧ fs.sum ≤ 55440 * (fs.length : Int) := by
        intro fs
        induction fs with
        | nil => intro _; simp
        | cons x r ih =>
          intro h
          have h1 := h x (by simp)
          have h2 := ih fun y hy => h y (by simp [hy])
          rw [List.sum_cons, List.length_cons]
          omega
      have hs1 := hsum fs he
      rw [List.length_map]
      have hs2 : 0 ≤ 271 + (fs.length : Int) + fs.sum ∧ 271 + (fs.length : Int) + fs.sum < 2147483647 := by omega
      generalize 271 + (fs.length : Int) + fs.sum = sd at hs2 ⊢
      refine q_forR [l] (fun n σ' G' H' => ∃ (gs : List Int) (sd : Int) (v4 : Option V), σ' = [some (.ref a), some (.ref l), v2, v3, v4, some (.int sd)] ∧ (0 ≤ sd ∧ sd < 2147483647) ∧ Ow G H G' H' l (gs.map V.int) ∧ (n ≤ gs.length ∧ gs.length ≤ 329) ∧ ∀ x ∈ gs, 0 ≤ x ∧ x < 55440)
        (ea_cons ev_int ea_nil) (by omega) hl_feed_here.s (fun G6 H6 g6 => ⟨fs, sd, v4, rfl, hs2, hl_feed_here.step g6, by omega, he⟩) (fun G6 H6 g6 n σ' G' H' hn2 gg p => ?_) (fun σ' G' H' gg p => ?_)
      · obtain ⟨gs, sd, v4, rfl, hs1, hl_feed_here, hg, he⟩ := p
        refine s_if (et_test (ev_op (ev_lenO rfl hl_feed_here.hl) ev_int rd_lt)) hl_feed_here.s (fun hb G7 H7 g7 => ?_) (fun hb G7 H7 g7 => ?_)
        · have hb := of_decide_eq_true hb
          rw [List.length_map] at hb
          have h_seed : ∀ G, Dx G (.int sd) (.int sd) := fun _ => .int sd
          have o7 := hl_feed_here.step g7
          refine q_asg ((fun h_seed => (ev_op (ev_op (ev_op (ev_var rfl h_seed) ev_int (rd_mul (by walk_at "arith"))) ev_int rd_add) ev_int (rd_mod (by walk_at "arith")))) (h_seed _)) o7.s fun v G8 H8 g8 hv => ?_
          obtain rfl := hv.int_eq
          have hs3 : 0 ≤ (sd * 48271 + 12345) % 2147483629 ∧ (sd * 48271 + 12345) % 2147483629 < 2147483647 := by omega
          generalize (sd * 48271 + 12345) % 2147483629 = sd2 at hs3 ⊢
          have h_seed : ∀ G, Dx G (.int sd2) (.int sd2) := fun _ => .int sd2
          refine s_app' (o7.step g8) rfl ((fun h_seed => (ev_op (ev_op (ev_var rfl h_seed) ev_int (rd_fdiv (by walk_at "arith"))) ev_int (rd_mod (by walk_at "arith")))) (h_seed _)) (by rw [List.length_map]; omega) fun v G9 H9 hv g9 o9 => ?_
          obtain rfl := hv.int_eq
          rw [ints_app] at o9 ⊢
          refine ⟨G9, ?_, _, _, _, rfl, hs3, o9, by rw [List.length_append, List.length_singleton]; omega, el_app he (mod_ok _)⟩
          exact ((((gg.trans g7.any).trans g8.any).trans g9.any).write (Or.inl (by simp)) o9.hn)
        · have hb := of_decide_eq_false hb
          rw [List.length_map] at hb
          exact ⟨G7, gg.trans g7.any, gs, sd, _, rfl, hs1, hl_feed_here.step g7, by omega, he⟩
      · obtain ⟨gs, sd, v4, rfl, _, o, hg, he⟩ := p
        refine ⟨.ref l, rfl, k l gs G' H' ⟨by have : (270 : Int).toNat = 270 := rfl; omega, by omega, he⟩ (o.g.drop h0) h0 o.hn o.hl⟩
theorem q_feed {K : PySem.W.Frag} {E : XK} {σ : L2.St} {H : Hp} {tz : TS} {D : Ends} {i j : Nat} {a : Addr} {ns : List Int} (hv : σ[i]? = some (some (.ref a))) (hS : SqL K H a (ns.map V.int)) (hlen : ns.length ≤ 63)
    (k : ∀ l fs G1 H1, FeedOk fs → Gr [] (fun _ => none) H G1 H1 → Dx G1 (.ref l) (.list (fs.map .int)) → tz D (σ.set j (some (.ref l))) H1) : tSeq (tAsg (tCall (spFeed K) [] E (tCons (tVar i) tNil)) (gName j)) tz D σ H :=
  ⟨.ref a, hv, (fun _ => none), a, ns, rfl, (fun _ _ e => nomatch e), hS, hlen, fun l fs _ H1 hok g1 h0 hn hl => k l fs _ H1 hok (g1.freeze hl hn h0) (.lst upd_same (Dxs.ints fs))⟩

end
end

-- rows3.txt
section

local macro_rules | `(tactic| walk_at "arith") => `(tactic| first | omega | decide | (unfold CMul; omega) | (unfold CDiv; omega) | (unfold CPow; decide) | (refine ⟨?_, ?_⟩ <;> omega) | (simp; done) | (simp; omega))
local macro_rules | `(tactic| walk_at "wide") => `(tactic| exact ⟨by decide, by decide +kernel⟩)
section
variable {P : Program} {w : World} {K : PySem.W.Frag} {mg : Str → Option Value} {base : Heap} {A : Ad}
/-! ### the mathematics of names and rows -/
theorem given_map {β : Type} (n : Nat) (v : Nat → β) : given n (fun _ => true) v = (List.range n).map v := by
  unfold given
  rw [List.filter_eq_self.mpr (fun _ _ => rfl)]
abbrev alpha : Str := "abcdefghijklmnopqrstuvwxyz"
abbrev mistral : Str := "mistral"
def words : List Str := ["ask", "bound", "in", "fair", "free", "none", "house", "a", "paid"]
def Sm (z : Str) : Prop := ∀ c ∈ z.cps.toList, c < 128
theorem Sm.ok {z : Str} (h : Sm z) : PyData.strOk z = true := by
  unfold PyData.strOk
  rw [Array.all_eq_true]
  intro i hi
  have := h z.cps[i] (by simp)
  exact decide_eq_true (by omega)
theorem Sm.app {y z : Str} (h : Sm y) (k : Sm z) : Sm (y ++ z) := fun c hc => by
  have e : (y ++ z).cps.toList = y.cps.toList ++ z.cps.toList := Array.toList_append
  rw [e] at hc
  rcases List.mem_append.mp hc with q | q
  · exact h c q
  · exact k c q
theorem Sm.cut {z : Str} {lo hi : Option Int} (h : Sm z) : Sm (cutS z lo hi) := fun c hc => by
  unfold cutS at hc
  exact h c (List.mem_of_mem_drop (List.mem_of_mem_take hc))
theorem atI_sign {z : Str} {i : Int} (h0 : 0 ≤ i) (h : i < z.length) : atI z.cps.toList i = some (z.cps.toList.getD i.toNat 0) := by
  obtain ⟨k, rfl⟩ : ∃ k : Nat, i = (k : Int) := ⟨i.toNat, by omega⟩
  have hk : k < z.cps.toList.length := by
    have : z.cps.toList.length = z.length := rfl
    omega
  refine atI_nat ?_
  show z.cps.toList[k]? = some (z.cps.toList.getD k 0)
  rw [List.getD_eq_getElem?_getD, List.getElem?_eq_getElem hk]; rfl
theorem atI_strs {zs : List Str} {i : Int} (h0 : 0 ≤ i) (h : i < zs.length) : atI (zs.map PyData.str) i = some (.str (zs.getD i.toNat default)) := by
  obtain ⟨k, rfl⟩ : ∃ k : Nat, i = (k : Int) := ⟨i.toNat, by omega⟩
  have hk : k < zs.length := by omega
  refine atI_nat ?_
  rw [List.getElem?_map, List.getElem?_eq_getElem hk]
  show some (PyData.str zs[k]) = some (PyData.str (zs.getD k default))
  rw [List.getD_eq_getElem?_getD, List.getElem?_eq_getElem hk]; rfl
theorem getD_of {α : Type} {xs : List α} {i : Nat} {d : α} {P : α → Prop} (h : ∀ x ∈ xs, P x) (hi : i < xs.length) : P (xs.getD i d) := by
  rw [List.getD_eq_getElem?_getD, List.getElem?_eq_getElem hi]
  exact h _ (List.getElem_mem hi)
def nmSign (p k : Int) : Str := ⟨#[alpha.cps.toList.getD ((p / 32 + 11 * k) % 26).toNat 0]⟩
def nmL (p k : Int) : List Str := [nmSign p k, cutS mistral none (some (p / 4 % 8)) ++ nmSign p k ++ cutS mistral (some (p / 4 % 8)) none, repS (nmSign p k) (1 + (p / 4 % 8 + 3 * k) % 8), words.getD ((p / 4 % 8 + k) % 9).toNat default]
def nm (p k : Int) : Str := (nmL p k).getD (p % 4).toNat default
theorem alpha_eq : alpha.cps.toList = [97, 98, 99, 100, 101, 102, 103, 104, 105, 106, 107, 108, 109, 110, 111, 112, 113, 114, 115, 116, 117, 118, 119, 120, 121, 122] := by decide +kernel
theorem alpha_len : alpha.cps.toList.length = 26 := by rw [alpha_eq]; rfl
theorem mistral_len : mistral.length = 7 := by decide +kernel
theorem cutS_len (z : Str) (lo hi : Option Int) : (cutS z lo hi).length ≤ z.length := by
  unfold cutS
  show ((z.cps.toList.drop _).take _).length ≤ z.cps.toList.length
  rw [List.length_take, List.length_drop]
  omega
theorem cut2_len (z : Str) (n : Nat) (h : n ≤ z.length) : (cutS z none (some (n : Int))).length + (cutS z (some (n : Int)) none).length = z.length := by
  unfold cutS
  show ((z.cps.toList.drop _).take _).length + ((z.cps.toList.drop _).take _).length = z.cps.toList.length
  have hz : z.cps.toList.length = z.length := rfl
  rw [HT.sIx_nat, HT.sIx_nat, HT.sIx_none, HT.sIx_none, List.length_take, List.length_drop, List.length_take, List.length_drop]
  omega
theorem nmSign_sm (p k : Int) : Sm (nmSign p k) := fun c hc => by
  have e : (nmSign p k).cps.toList = [alpha.cps.toList.getD ((p / 32 + 11 * k) % 26).toNat 0] := rfl
  rw [e, List.mem_singleton] at hc
  rw [hc]
  have go : ∀ c ∈ alpha.cps.toList, c < 128 := by rw [alpha_eq]; decide
  exact getD_of go (by rw [alpha_len]; omega)
theorem words_ok : ∀ z ∈ words, (z.length ≤ 8 ∧ z ≠ "nobody") ∧ z.cps.toList.all (fun c => decide (c < 128)) = true := by decide +kernel
theorem nobody_len : ("nobody" : Str).length = 6 := by decide +kernel
theorem nobody_cps : ("nobody" : Str).cps.toList = [110, 111, 98, 111, 100, 121] := by decide +kernel
structure NmOk (z : Str) : Prop where
  sm : Sm z
  len : z.length ≤ 8
  ne : z ≠ "nobody"
theorem nm_ok (p k : Int) : NmOk (nm p k) := by
  have hm : Sm mistral := by
    have : ∀ c ∈ mistral.cps.toList, c < 128 := by decide +kernel
    exact this
  have h1 : (nmSign p k).length = 1 := rfl
  have a0 : 0 ≤ p / 4 % 8 ∧ p / 4 % 8 < 8 := by omega
  refine getD_of (xs := nmL p k) (fun z hz => ?_) (by show (p % 4).toNat < 4; omega)
  unfold nmL at hz
  simp only [List.mem_cons, List.not_mem_nil, or_false] at hz
  rcases hz with rfl | rfl | rfl | rfl
  · exact ⟨nmSign_sm p k, by omega, fun e => by rw [e, nobody_len] at h1; cases h1⟩
  · obtain ⟨n, hn⟩ : ∃ n : Nat, p / 4 % 8 = (n : Int) := ⟨(p / 4 % 8).toNat, by omega⟩
    have hl : (cutS mistral none (some (p / 4 % 8)) ++ nmSign p k ++ cutS mistral (some (p / 4 % 8)) none).length = 8 := by
      have e : (cutS mistral none (some (p / 4 % 8)) ++ nmSign p k ++ cutS mistral (some (p / 4 % 8)) none).length = (cutS mistral none (some (p / 4 % 8))).length + (nmSign p k).length + (cutS mistral (some (p / 4 % 8)) none).length := by
        show ((cutS mistral none (some (p / 4 % 8))).cps ++ (nmSign p k).cps ++ (cutS mistral (some (p / 4 % 8)) none).cps).size = _
        rw [Array.size_append, Array.size_append]
        rfl
      have c2 := cut2_len mistral n (by rw [mistral_len]; omega)
      rw [mistral_len] at c2
      rw [e, h1, hn]
      omega
    exact ⟨(hm.cut.app (nmSign_sm p k)).app hm.cut, by omega, fun e => by rw [e, nobody_len] at hl; cases hl⟩
  · refine ⟨repS_mem (P := fun c => c < 128) (nmSign_sm p k), ?_, fun e => ?_⟩
    · rw [repS_len (by omega), h1]; omega
    · have hc : ∀ c ∈ (repS (nmSign p k) (1 + (p / 4 % 8 + 3 * k) % 8)).cps.toList, c = alpha.cps.toList.getD ((p / 32 + 11 * k) % 26).toNat 0 := repS_mem (P := fun c => c = alpha.cps.toList.getD ((p / 32 + 11 * k) % 26).toNat 0) (fun c hc => List.mem_singleton.mp hc)
      rw [e, nobody_cps] at hc
      have q1 := hc 110 (by simp)
      have q2 := hc 111 (by simp)
      omega
  · refine getD_of (P := NmOk) (fun z hz => ?_) (by show ((p / 4 % 8 + k) % 9).toNat < 9; omega)
    obtain ⟨⟨w1, w2⟩, w3⟩ := words_ok z hz
    exact ⟨fun c hc => of_decide_eq_true (List.all_eq_true.mp w3 c hc), w1, w2⟩
abbrev Rw := List (Str × Bool)
def encP (p : Str × Bool) : PyData := .tuple [.str p.1, .bool p.2]
def encR (r : Rw) : List PyData := r.map encP
def nth (fs : List Int) (i : Int) : Int := fs.getD i.toNat 0
def rowAt (fs : List Int) (k : Nat) : Str × Bool := (nm (nth fs 2) (nth fs (4 + k) % (1 + nth fs 0 % 9)), decide (0 < nth fs (13 + k) % 4))
def rowM (fs : List Int) : Rw := (List.range (2 + nth fs 3 % 7).toNat).map (rowAt fs)
theorem nth_ok {fs : List Int} (h : FeedOk fs) {i : Int} (h0 : 0 ≤ i) (hi : i < 270) : 0 ≤ nth fs i ∧ nth fs i < 55440 := getD_of (P := fun x => 0 ≤ x ∧ x < 55440) h.el (by have := h.lo; omega)
structure RowOk (r : Rw) : Prop where
  lo : 2 ≤ r.length
  hi : r.length ≤ 8
  nm : ∀ p ∈ r, NmOk p.1
theorem rowM_ok {fs : List Int} : RowOk (rowM fs) := by
  have hl : (rowM fs).length = (2 + nth fs 3 % 7).toNat := by unfold rowM; rw [List.length_map, List.length_range]
  refine ⟨by rw [hl]; omega, by rw [hl]; omega, fun p hp => ?_⟩
  unfold rowM at hp
  obtain ⟨k, _, rfl⟩ := List.mem_map.mp hp
  exact nm_ok _ _
theorem atI_feed {fs : List Int} (h : FeedOk fs) {i : Int} (h0 : 0 ≤ i) (hi : i < 270) : atI (fs.map PyData.int) i = some (.int (nth fs i)) := atI_int h0 (by have := h.lo; omega)
theorem atI_row {r : Rw} {i : Nat} {p : Str × Bool} (h : r[i]? = some p) : atI (encR r) (i : Int) = some (encP p) := atI_nat (by unfold encR; rw [List.getElem?_map, h]; rfl)
theorem encR_get {r : Rw} {i : Nat} {d : PyData} (h : (encR r)[i]? = some d) : ∃ p, r[i]? = some p ∧ d = encP p := by
  unfold encR at h
  rw [List.getElem?_map] at h
  cases e : r[i]? with
  | none => rw [e] at h; cases h
  | some p => rw [e] at h; exact ⟨p, rfl, (Option.some.inj h).symm⟩
theorem shaped_p {p : Str × Bool} (h : NmOk p.1) : SeqAt.shaped (encP p) = true := by
  have hc : PyData.strOk p.1 = true := h.sm.ok
  unfold SeqAt.shaped encP
  simp [PyData.canLay0, PyData.canLayAll0, hc, PyData.depth, PyData.depthAll]
theorem eqv_p {p q : Str × Bool} : PyData.eqv (encP p) (encP q) = (decide (p.1 = q.1) && decide (p.2 = q.2)) := by
  unfold encP
  obtain ⟨a, b⟩ := p
  obtain ⟨c, d⟩ := q
  cases b <;> cases d <;> simp [PyData.eqv, PyData.eqvAll] <;> rfl
theorem canLay_row {r : Rw} (h : ∀ p ∈ r, NmOk p.1) : PyData.canLayAll0 (encR r) = true := by
  induction r with
  | nil => rfl
  | cons p r ih =>
    have h1 : PyData.strOk p.1 = true := (h p (by simp)).sm.ok
    have h2 := ih fun q hq => h q (by simp [hq])
    show PyData.canLayAll0 (encP p :: encR r) = true
    rw [PyData.canLayAll0, h2]
    unfold encP
    simp [PyData.canLay0, PyData.canLayAll0, h1]
theorem depth_row {r : Rw} : PyData.depthAll (encR r) ≤ 4 := by
  induction r with
  | nil => show PyData.depthAll [] ≤ 4; unfold PyData.depthAll; omega
  | cons p r ih =>
    show PyData.depthAll (encP p :: encR r) ≤ 4
    unfold encP
    simp only [PyData.depthAll, PyData.depth]
    omega
theorem shaped_row {r : Rw} (h : ∀ p ∈ r, NmOk p.1) : SeqAt.shaped (.list (encR r)) = true := by
  unfold SeqAt.shaped
  have h1 := canLay_row h
  have h2 := depth_row (r := r)
  rw [Bool.and_eq_true]
  refine ⟨by rw [PyData.canLay0]; exact h1, decide_eq_true ?_⟩
  unfold PyData.depth
  omega
theorem eqv_row {r : Rw} (h : ∀ p ∈ r, NmOk p.1) : PyData.eqv (.list (encR r)) (.list (encR r)) = true := SeqAt.eqv_refl _ (by rw [PyData.canLay0]; exact canLay_row h)
def reachM (r : Rw) (h : Str) : Nat := r.findIdx fun p => p.2 && decide (p.1 = h)
theorem reachM_at {r : Rw} {h : Str} {n : Nat} {p : Str × Bool} (hp : r[n]? = some p) (h1 : ∀ j q, j < n → r[j]? = some q → (q.2 && decide (q.1 = h)) = false) (h2 : (p.2 && decide (p.1 = h)) = true) : reachM r h = n := by
  have hn : n < r.length := (List.getElem?_eq_some_iff.mp hp).1
  unfold reachM
  rw [List.findIdx_eq hn]
  refine ⟨?_, fun j hj => ?_⟩
  · have e : r[n] = p := (List.getElem?_eq_some_iff.mp hp).2
    rw [e]; exact h2
  · exact h1 j _ hj (List.getElem?_eq_getElem (by omega))
theorem reachM_end {r : Rw} {h : Str} (h1 : ∀ j q, j < r.length → r[j]? = some q → (q.2 && decide (q.1 = h)) = false) : reachM r h = r.length := by
  unfold reachM
  rw [List.findIdx_eq_length]
  intro x hx
  obtain ⟨j, hj, rfl⟩ := List.getElem_of_mem hx
  exact h1 j _ hj (List.getElem?_eq_getElem hj)
theorem reachM_le (r : Rw) (h : Str) : reachM r h ≤ r.length := List.findIdx_le_length
local macro_rules | `(tactic| walk_at "at") => `(tactic| first | exact atI_feed ‹FeedOk _› (by omega) (by omega) | exact atI_sign (by omega) (by first | omega | (refine Int.lt_of_lt_of_le (Int.emod_lt_of_pos _ (by decide)) (by decide +kernel))))
local macro_rules | `(tactic| walk_at "arith") => `(tactic| first | omega | decide | (unfold CMul; omega) | (unfold CDiv; omega) | (unfold CPow; decide) | (refine ⟨?_, ?_⟩ <;> omega) | decide +kernel | (simp; done) | (simp; omega))

end
end

-- pm3.txt
section

local macro_rules | `(tactic| walk_at "arith") => `(tactic| first | omega | decide | (unfold CMul; omega) | (unfold CDiv; omega) | (unfold CPow; decide) | (refine ⟨?_, ?_⟩ <;> omega) | (simp; done) | (simp; omega))
local macro_rules | `(tactic| walk_at "wide") => `(tactic| exact ⟨by decide, by decide +kernel⟩)
section
variable {P : Program} {w : World} {K : PySem.W.Frag} {mg : Str → Option Value} {base : Heap} {A : Ad}
/-! ### purses as lists of names and coins -/
abbrev Mp := List (Str × Int)
def kvM (m : Mp) : List (Key × V) := m.map fun q => (Sum.inr q.1, V.int q.2)
def get : Mp → Str → Option Int
  | [], _ => none
  | q :: r, n => if q.1 = n then some q.2 else get r n
def repl (m : Mp) (n : Str) (c : Int) : Mp := m.map fun q => if q.1 = n then (q.1, c) else q
def put (m : Mp) (n : Str) (c : Int) : Mp := if (get m n).isSome then repl m n c else m ++ [(n, c)]
theorem val_kvM (n : Str) : ∀ m : Mp, valV (kvM m) (Sum.inr n) = (get m n).map V.int
  | [] => rfl
  | q :: r => by
    show valV ((Sum.inr q.1, V.int q.2) :: kvM r) (Sum.inr n) = _
    by_cases h : q.1 = n
    · rw [valV_pos (by rw [h])]
      unfold get; rw [if_pos h]; rfl
    · rw [valV_neg (fun e => h (Sum.inr.inj e)), val_kvM n r]
      conv => rhs; unfold get
      rw [if_neg h]
theorem repl_kvM (n : Str) (c : Int) : ∀ m : Mp, ((kvM m).map fun kv => if kv.1 = Sum.inr n then (kv.1, V.int c) else kv) = kvM (repl m n c)
  | [] => rfl
  | q :: r => by
    have ih := repl_kvM n c r
    unfold kvM repl at ih ⊢
    simp only [List.map_cons]
    rw [ih]
    by_cases h : q.1 = n
    · rw [if_pos h, if_pos (by rw [h])]
    · rw [if_neg h, if_neg (fun e => h (Sum.inr.inj e))]
theorem put_kvM (m : Mp) (n : Str) (c : Int) : putK (kvM m) (Sum.inr n) (V.int c) = kvM (put m n c) := by
  unfold putK put
  rw [valV_any, val_kvM, Option.isSome_map]
  by_cases h : (get m n).isSome = true
  · rw [if_pos h, if_pos h]; exact repl_kvM n c m
  · rw [if_neg h, if_neg h]; unfold kvM; rw [List.map_append]; rfl
theorem len_kvM (m : Mp) : (kvM m).length = m.length := by unfold kvM; rw [List.length_map]
theorem len_put (m : Mp) (n : Str) (c : Int) : (put m n c).length ≤ m.length + 1 := by
  unfold put repl
  split
  · rw [List.length_map]; omega
  · rw [List.length_append]; simp
theorem get_repl (n k : Str) (c : Int) : ∀ m : Mp, get (repl m n c) k = if k = n then (get m n).map fun _ => c else get m k
  | [] => by
    show (none : Option Int) = if k = n then none else none
    split <;> rfl
  | q :: r => by
    have ih := get_repl n k c r
    unfold repl at ih ⊢
    simp only [List.map_cons]
    by_cases h : q.1 = n
    · rw [if_pos h]
      by_cases e : q.1 = k
      · have e2 : k = n := e.symm.trans h
        unfold get; rw [if_pos (by exact e), if_pos e2, if_pos h]; rfl
      · have e2 : ¬ k = n := fun z => e (h.trans z.symm)
        rw [if_neg e2] at ih ⊢
        unfold get; rw [if_neg (by exact e), if_neg e]; exact ih
    · rw [if_neg h]
      by_cases e : q.1 = k
      · have e2 : ¬ k = n := fun z => h (e.trans z)
        unfold get; rw [if_pos e, if_neg e2, if_pos e]
      · by_cases e2 : k = n
        · rw [if_pos e2] at ih ⊢
          unfold get; rw [if_neg e, if_neg h]; exact ih
        · rw [if_neg e2] at ih ⊢
          unfold get; rw [if_neg e, if_neg e]; exact ih
theorem get_snoc (n k : Str) (c : Int) : ∀ m : Mp, get m n = none → get (m ++ [(n, c)]) k = if k = n then some c else get m k
  | [], _ => by
    show get [(n, c)] k = _
    unfold get
    by_cases e : k = n
    · rw [if_pos e, if_pos e.symm]
    · rw [if_neg e, if_neg (fun z => e z.symm)]; unfold get; rfl
  | q :: r, h => by
    unfold get at h
    by_cases hq : q.1 = n
    · rw [if_pos hq] at h; cases h
    · rw [if_neg hq] at h
      have ih := get_snoc n k c r h
      rw [List.cons_append]
      by_cases e : q.1 = k
      · have e2 : ¬ k = n := fun z => hq (e.trans z)
        unfold get; rw [if_pos e, if_neg e2, if_pos e]
      · unfold get; rw [if_neg e, if_neg e]; exact ih
theorem get_put (m : Mp) (n k : Str) (c : Int) : get (put m n c) k = if k = n then some c else get m k := by
  unfold put
  by_cases h : (get m n).isSome = true
  · rw [if_pos h, get_repl]
    by_cases e : k = n
    · rw [if_pos e, if_pos e]
      cases q : get m n with
      | none => rw [q] at h; cases h
      | some x => rfl
    · rw [if_neg e, if_neg e]
  · rw [if_neg h]
    exact get_snoc n k c m (by cases q : get m n with
      | none => rfl
      | some x => rw [q] at h; exact (h rfl).elim)
def addR (m : Mp) (n : Str) (c : Int) : Except Kd Mp := if (get m n).isSome then .error .Taken else if c < 0 then .error .BadCoins else .ok (put m n c)
def fillR (m : Mp) (n : Str) (c : Int) : Except Kd Mp := match get m n with
  | none => .error .NoHouse
  | some b => if c < 0 then .error .BadCoins else .ok (put m n (b + c))
def spendR (m : Mp) (n : Str) (c : Int) : Except Kd Mp := match get m n with
  | none => .error .NoHouse
  | some b => if c < 0 then .error .BadCoins else if b < c then .error .NoCoins else .ok (put m n (b - c))
def payR (m : Mp) (a b : Str) (c : Int) : Except Kd Mp := if (get m a).isNone then .error .NoHouse else if (get m b).isNone then .error .NoHouse else match spendR m a c with
  | .error k => .error k
  | .ok m1 => fillR m1 b c
/-- a deed of a purses object at p with its dict at d -/
def PuAt (C : Addr) (H : Hp) (p d : Addr) (m : Mp) : Prop := (∃ dx, H p = some (.ins C dx [("held", .ref d)])) ∧ H d = some (.dK (kvM m)) ∧ m.length < 1000 ∧ p ≠ d
def Deed (B : Bd) (C : Addr) (p d : Addr) (m : Mp) (r : Except Kd Mp) (H : Hp) (Q : VK) (E : XK) : Prop := PuAt C H p d m ∧
  (∀ k, r = .error k → ∀ H', Sb H H' → E (.ref (B.cls k)) none H') ∧ (∀ m', r = .ok m' → ∀ H', Sb H H' → Q .non (upd H' d (.dK (kvM m'))))
theorem Deed.err {B : Bd} {C p d : Addr} {m : Mp} {r : Except Kd Mp} {H : Hp} {Q : VK} {E : XK} (x : Deed B C p d m r H Q E) {k : Kd} (h : r = .error k) : E (.ref (B.cls k)) none H := x.2.1 k h H (Sb.refl H)
theorem PuAt.sb {C : Addr} {H H' : Hp} {p d : Addr} {m : Mp} (x : PuAt C H p d m) (s : Sb H H') : PuAt C H' p d m := by
  obtain ⟨⟨dx, h1⟩, h2, h3⟩ := x
  exact ⟨⟨dx, s _ _ h1⟩, s _ _ h2, h3⟩
theorem get_some {m : Mp} {n : Str} {c : Int} (h : get m n = some c) {H : Hp} {d : Addr} (hd : H d = some (.dK (kvM m))) : DGet H d (.str n) (some (.int c)) := by
  have := DGet.k (k := Sum.inr n) hd
  rw [val_kvM, h] at this
  exact this
theorem get_any {m : Mp} {H : Hp} {d : Addr} (hd : H d = some (.dK (kvM m))) (n : Str) : DGet H d (.str n) ((get m n).map .int) := by
  have := DGet.k (k := Sum.inr n) hd
  rw [val_kvM] at this
  exact this
theorem put_any {m : Mp} {H : Hp} {d : Addr} (hd : H d = some (.dK (kvM m))) (hl : m.length < 1000) (n : Str) (c : Int) : DPut H d (.str n) (.int c) (upd H d (.dK (kvM (put m n c)))) := by
  have := DPut.k (k := Sum.inr n) (v := .int c) hd (by rw [len_kvM]; exact Nat.lt_of_lt_of_le hl (by rw [sizeLine_eq]; omega))
  rw [put_kvM] at this
  exact this
theorem upd_upd {H : Hp} {d : Addr} {a b : HO} : upd (upd H d a) d b = upd H d b := by
  funext x
  by_cases h : x = d
  · subst h; rw [upd_same, upd_same]
  · rw [upd_ne h, upd_ne h, upd_ne h]
theorem upd_keep {H : Hp} {d : Addr} {o : HO} (h : H d = some o) : upd H d o = H := by
  funext x
  by_cases e : x = d
  · subst e; rw [upd_same, h]
  · rw [upd_ne e]

end
end

-- hw.txt
section

local macro_rules | `(tactic| walk_at "arith") => `(tactic| first | omega | decide | (unfold CMul; omega) | (unfold CDiv; omega) | (unfold CPow; decide) | (refine ⟨?_, ?_⟩ <;> omega) | (simp; done) | (simp; omega))
local macro_rules | `(tactic| walk_at "wide") => `(tactic| exact ⟨by decide, by decide +kernel⟩)
section
variable {P : Program} {w : World} {K : PySem.W.Frag} {mg : Str → Option Value} {base : Heap} {A : Ad}
/-! ### values that are no data; what may raise -/
theorem sb_of {G H G' H' : Hp} (g : Gr [] G H G' H') : Sb H H' := fun a o e => g.h a o (by simp) e
theorem emp_sb {H : Hp} : Sb (fun _ => none) H := fun _ _ e => by cases e
theorem gr_sb {G H H' : Hp} (s : Sb G H) (s' : Sb H H') : Gr [] G H G H' := ⟨Sb.refl G, s.trans s', fun a o _ e => s' a o e, fun a o e => ⟨o, s' a o e⟩, fun _ _ _ e => e⟩
def EvV (te : TE) (σ : L2.St) (G H : Hp) (v : V) : Prop := ∀ G1 H1, Gr [] G H G1 H1 → ∀ Q : VK, (∀ G2 H2, Gr [] G1 H1 G2 H2 → Q v H2) → te σ H1 Q
def EvX (te : TE) (σ : L2.St) (G H : Hp) (B : Bd) (E : XK) (r : Except Kd PyData) : Prop := ∀ G1 H1, Gr [] G H G1 H1 → ∀ Q : VK, (∀ k, r = .error k → ∀ G2 H2, Gr [] G1 H1 G2 H2 → E (.ref (B.cls k)) none H2) →
  (∀ d, r = .ok d → ∀ v G2 H2, Gr [] G1 H1 G2 H2 → Dx G2 v d → Q v H2) → te σ H1 Q
def EvXM (te : TE) (σ : L2.St) (G H : Hp) (B : Bd) (E : XK) (r : Except Kd (List PyData)) : Prop := ∀ G1 H1, Gr [] G H G1 H1 → ∀ Q : VK, (∀ k, r = .error k → ∀ G2 H2, Gr [] G1 H1 G2 H2 → E (.ref (B.cls k)) none H2) →
  (∀ ds, r = .ok ds → ∀ p xs G2 H2, Gr [] G1 H1 G2 H2 → H1 p = none → G2 p = none → H2 p = some (.lst xs) → Dxs G2 xs ds → Q (.ref p) H2) → te σ H1 Q
def EvXV (te : TE) (σ : L2.St) (G H : Hp) (B : Bd) (E : XK) (r : Except Kd V) : Prop := ∀ G1 H1, Gr [] G H G1 H1 → ∀ Q : VK, (∀ k, r = .error k → ∀ G2 H2, Gr [] G1 H1 G2 H2 → E (.ref (B.cls k)) none H2) →
  (∀ v, r = .ok v → ∀ G2 H2, Gr [] G1 H1 G2 H2 → Q v H2) → te σ H1 Q
section
variable {σ : L2.St} {G H G' H' : Hp} {te : TE} {B : Bd} {E : XK} {i : Nat} {v : V} {d : PyData} {ds : List PyData} {D : Ends} {tz : TS} {K : PySem.W.Frag}
theorem evv_var (h : σ[i]? = some (some v)) : EvV (tVar i) σ G H v := fun G1 _ a _ q => ⟨v, h, q G1 _ (.refl a.s)⟩
theorem EvV.mono (h : EvV te σ G H v) (s : Gr [] G H G' H') : EvV te σ G' H' v := fun G1 H1 a Q q => h G1 H1 (s.trans a) Q q
theorem evv_fld {p C dx : Addr} {fs : List (Str × V)} {f : Str} (h : EvV te σ G H (.ref p)) (hp : H p = some (.ins C dx fs)) (c : Cls K C) (n : NoAttr K C f) (l : fs.lookup f = some v) : EvV (tFld K te f) σ G H v := fun G1 H1 a Q q =>
  h G1 H1 a _ fun G2 H2 g => ⟨p, C, dx, fs, v, rfl, sb_of (a.trans g) _ _ hp, c, n, l, q G2 H2 g⟩
theorem ev_fld {p C dx : Addr} {fs : List (Str × V)} {f : Str} (h : EvV te σ G H (.ref p)) (hp : H p = some (.ins C dx fs)) (c : Cls K C) (n : NoAttr K C f) (l : fs.lookup f = some v) (x : Dx G v d) : EvD (tFld K te f) σ G H d := fun G1 H1 a Q q =>
  h G1 H1 a _ fun G2 H2 g => ⟨p, C, dx, fs, v, rfl, sb_of (a.trans g) _ _ hp, c, n, l, q v G2 H2 g (x.mono (a.g.trans g.g))⟩
theorem EvXV.fld {r : Except Kd V} {f : Str} {d' : V → PyData} (h : EvXV te σ G H B E r) (hf : ∀ u, r = .ok u → ∃ p C dx fs v, u = .ref p ∧ H p = some (.ins C dx fs) ∧ Cls K C ∧ NoAttr K C f ∧ fs.lookup f = some v ∧ Dx G v (d' u)) : EvX (tFld K te f) σ G H B E (r.map d') := fun G1 H1 a Q e q =>
  h G1 H1 a _ (fun k hk => e k (by rw [hk]; rfl)) fun u hu G2 H2 g => by
    obtain ⟨p, C, dx, fs, v, rfl, hp, c, n, l, x⟩ := hf u hu
    exact ⟨p, C, dx, fs, v, rfl, sb_of (a.trans g) _ _ hp, c, n, l, q _ (by rw [hu]; rfl) v G2 H2 g (x.mono (a.g.trans g.g))⟩
theorem EvX.ok {r : Except Kd PyData} (h : EvX te σ G H B E r) (e : r = .ok d) : EvD te σ G H d := fun G1 H1 a Q q =>
  h G1 H1 a Q (fun k hk => by rw [e] at hk; cases hk) fun d' hd v G2 H2 g x => q v G2 H2 g (by rw [e] at hd; cases hd; exact x)
theorem EvXM.ok {r : Except Kd (List PyData)} (h : EvXM te σ G H B E r) (e : r = .ok ds) : EvM te σ G H ds := fun G1 H1 a Q q =>
  h G1 H1 a Q (fun k hk => by rw [e] at hk; cases hk) fun d' hd p xs G2 H2 g h0 hn hl x => q p xs G2 H2 g h0 hn hl (by rw [e] at hd; cases hd; exact x)
theorem EvXV.ok {r : Except Kd V} (h : EvXV te σ G H B E r) (e : r = .ok v) : EvV te σ G H v := fun G1 H1 a Q q =>
  h G1 H1 a Q (fun k hk => by rw [e] at hk; cases hk) fun d' hd G2 H2 g => by rw [e] at hd; cases hd; exact q G2 H2 g
theorem EvXM.dat {r : Except Kd (List PyData)} (h : EvXM te σ G H B E r) : EvX te σ G H B E (r.map .list) := fun G1 H1 a Q e q =>
  h G1 H1 a Q (fun k hk => e k (by rw [hk]; rfl)) fun ds hd p xs G2 H2 g h0 hn hl x => q (.list ds) (by rw [hd]; rfl) (.ref p) _ H2 (g.freeze hl hn h0) (.lst upd_same (x.mono (Sb.new hn)))
theorem EvX.err {r : Except Kd PyData} {k : Kd} (h : EvX te σ G H B E r) (s : Sb G H) (e : r = .error k) (hE : ∀ G1 H1, Gr [] G H G1 H1 → E (.ref (B.cls k)) none H1) (Q : VK) : te σ H Q := h G H (.refl s) Q (fun k' hk G1 H1 g => by rw [e] at hk; cases hk; exact hE G1 H1 g) fun d hd => by rw [e] at hd; cases hd
theorem EvX.is {r r' : Except Kd PyData} (h : EvX te σ G H B E r) (e : r = r') : EvX te σ G H B E r' := e ▸ h
theorem EvX.mono {r : Except Kd PyData} (h : EvX te σ G H B E r) (s : Gr [] G H G' H') : EvX te σ G' H' B E r := fun G1 H1 a Q e q => h G1 H1 (s.trans a) Q e q
/-! statements -/
theorem s_dropX {r : Except Kd PyData} (h : EvX te σ G H B E r) (s : Sb G H) (e : ∀ k, r = .error k → ∀ G1 H1, Gr [] G H G1 H1 → E (.ref (B.cls k)) none H1) (k : ∀ d, r = .ok d → ∀ G1 H1, Gr [] G H G1 H1 → D.nx σ H1) : tDrop te D σ H := h G H (.refl s) _ e fun d hd _ G1 H1 g _ => k d hd G1 H1 g
theorem q_dropX {r : Except Kd PyData} (h : EvX te σ G H B E r) (s : Sb G H) (e : ∀ k, r = .error k → ∀ G1 H1, Gr [] G H G1 H1 → E (.ref (B.cls k)) none H1) (k : ∀ d, r = .ok d → ∀ G1 H1, Gr [] G H G1 H1 → tz D σ H1) : tSeq (tDrop te) tz D σ H := s_dropX (D := { D with nx := tz D }) h s e k
theorem s_asgX {r : Except Kd PyData} (h : EvX te σ G H B E r) (s : Sb G H) (e : ∀ k, r = .error k → ∀ G1 H1, Gr [] G H G1 H1 → E (.ref (B.cls k)) none H1) (k : ∀ d, r = .ok d → ∀ v G1 H1, Gr [] G H G1 H1 → Dx G1 v d → D.nx (σ.set i (some v)) H1) : tAsg te (gName i) D σ H := h G H (.refl s) _ e fun d hd v G1 H1 g x => k d hd v G1 H1 g x
theorem q_asgX {r : Except Kd PyData} (h : EvX te σ G H B E r) (s : Sb G H) (e : ∀ k, r = .error k → ∀ G1 H1, Gr [] G H G1 H1 → E (.ref (B.cls k)) none H1) (k : ∀ d, r = .ok d → ∀ v G1 H1, Gr [] G H G1 H1 → Dx G1 v d → tz D (σ.set i (some v)) H1) : tSeq (tAsg te (gName i)) tz D σ H := s_asgX (D := { D with nx := tz D }) h s e k
theorem q_asgXV {r : Except Kd V} (h : EvXV te σ G H B E r) (s : Sb G H) (e : ∀ k, r = .error k → ∀ G1 H1, Gr [] G H G1 H1 → E (.ref (B.cls k)) none H1) (k : ∀ v, r = .ok v → ∀ G1 H1, Gr [] G H G1 H1 → tz D (σ.set i (some v)) H1) : tSeq (tAsg te (gName i)) tz D σ H := h G H (.refl s) _ e fun v hv G1 H1 g => k v hv G1 H1 g
theorem q_asgXM {r : Except Kd (List PyData)} (h : EvXM te σ G H B E r) (s : Sb G H) (e : ∀ k, r = .error k → ∀ G1 H1, Gr [] G H G1 H1 → E (.ref (B.cls k)) none H1) (k : ∀ ds, r = .ok ds → ∀ p xs G1 H1, Gr [] G H G1 H1 → H p = none → G1 p = none → H1 p = some (.lst xs) → Dxs G1 xs ds → tz D (σ.set i (some (.ref p))) H1) : tSeq (tAsg te (gName i)) tz D σ H := h G H (.refl s) _ e k
theorem s_retX {r : Except Kd PyData} (h : EvX te σ G H B E r) (s : Sb G H) (e : ∀ k, r = .error k → ∀ G1 H1, Gr [] G H G1 H1 → E (.ref (B.cls k)) none H1) (k : ∀ d, r = .ok d → ∀ v G1 H1, Gr [] G H G1 H1 → Dx G1 v d → D.rt v H1) : tRet te D σ H := h G H (.refl s) _ e fun d hd v G1 H1 g x => k d hd v G1 H1 g x
theorem s_retXM {r : Except Kd (List PyData)} (h : EvXM te σ G H B E r) (s : Sb G H) (e : ∀ k, r = .error k → ∀ G1 H1, Gr [] G H G1 H1 → E (.ref (B.cls k)) none H1) (k : ∀ ds, r = .ok ds → ∀ p xs G1 H1, Gr [] G H G1 H1 → H p = none → G1 p = none → H1 p = some (.lst xs) → Dxs G1 xs ds → D.rt (.ref p) H1) : tRet te D σ H := h G H (.refl s) _ e k
end
theorem ifT {c : Bool} {X Y : Prop} (hc : c = true) (h : X) : if c = true then X else Y := by rw [if_pos hc]; exact h
theorem ifF {c : Bool} {X Y : Prop} (hc : c = false) (h : Y) : if c = true then X else Y := by rw [hc, if_neg Bool.false_ne_true]; exact h
theorem hu1 {k : Nat} {A : Around} (hr : Room k A) : A.units + 1 < cLine := Nat.lt_of_le_of_lt (by omega) hr.units
theorem nxI {D : Ends} {σ : L2.St} {H : Hp} (h : D.nx σ H) : tNext D σ H := h
theorem retI {D : Ends} {σ : L2.St} {H : Hp} {te : TE} (h : te σ H D.rt) : tRet te D σ H := h
theorem seqI {D : Ends} {σ : L2.St} {H : Hp} {t u : TS} (h : t { D with nx := u D } σ H) : tSeq t u D σ H := h
theorem one_le : (1 : Nat) ≤ sizeLine := by rw [sizeLine_eq]; omega
theorem lk1 {k : Str} {v : V} {r : List (Str × V)} : List.lookup k ((k, v) :: r) = some v := by
  have e : (k == k) = true := beq_self_eq_true k
  simp only [List.lookup, e]
theorem lk2 {k g : Str} {v : V} {r : List (Str × V)} (h : (k == g) = false) : List.lookup k ((g, v) :: r) = List.lookup k r := by
  simp only [List.lookup, h]
theorem look_none {m : Str} : ∀ {fs : List (Str × V)} {ks : List Str}, fs.map (·.1) = ks → ks.all (fun k => !(m == k)) = true → List.lookup m fs = none
  | [], _, _, _ => rfl
  | (g, v) :: r, [], h, _ => by cases h
  | (g, v) :: r, k :: ks, h, ha => by
    have h1 := (List.cons.inj h)
    rw [List.all_cons, Bool.and_eq_true] at ha
    have hg : (m == g) = false := by
      have := ha.1
      rw [← h1.1] at this
      simpa using this
    rw [lk2 hg]
    exact look_none h1.2 ha.2
/-! ### the world of a hall -/
structure Bil where
  drawee : Str
  payee : Str
  amount : Int
  due : Int
  places : Rw
  keeper : Str
  phase : Str
  issue : Int
  blank : Bool
structure Hl where
  m : Mp
  fl : List Str
  day : Int
  bs : List Bil
  ds : List PyData
structure Ha where
  h : Addr
  pu : Addr
  hd : Addr
  fl : Addr
  bl : Addr
  dl : Addr
  ba : List Addr
  pa : List Addr
inductive Ix | h | pu | hd | fl | bl | dl | b (i : Nat) | p (i : Nat)
deriving DecidableEq
def Ha.at (a : Ha) : Ix → Option Addr
  | .h => some a.h
  | .pu => some a.pu
  | .hd => some a.hd
  | .fl => some a.fl
  | .bl => some a.bl
  | .dl => some a.dl
  | .b i => a.ba[i]?
  | .p i => a.pa[i]?
def Ha.In (a : Ha) (x : Addr) : Prop := ∃ i, a.at i = some x
def Ha.mut (a : Ha) : List Addr := a.h :: a.pu :: a.hd :: a.fl :: a.bl :: a.dl :: (a.ba ++ a.pa)
theorem Ha.in_mut {a : Ha} {x : Addr} (h : a.In x) : x ∈ a.mut := by
  obtain ⟨i, h⟩ := h
  unfold Ha.mut
  cases i with
  | b i => have := List.mem_of_getElem? (show a.ba[i]? = some x from h); simp [this]
  | p i => have := List.mem_of_getElem? (show a.pa[i]? = some x from h); simp [this]
  | _ => cases h; simp
theorem Ha.mut_in {a : Ha} {x : Addr} (h : x ∈ a.mut) : a.In x := by
  unfold Ha.mut at h
  simp only [List.mem_cons, List.mem_append] at h
  rcases h with h | h | h | h | h | h | h | h
  · exact ⟨.h, congrArg some h.symm⟩
  · exact ⟨.pu, congrArg some h.symm⟩
  · exact ⟨.hd, congrArg some h.symm⟩
  · exact ⟨.fl, congrArg some h.symm⟩
  · exact ⟨.bl, congrArg some h.symm⟩
  · exact ⟨.dl, congrArg some h.symm⟩
  · obtain ⟨i, hi, e⟩ := List.getElem_of_mem h
    exact ⟨.b i, by show a.ba[i]? = some x; rw [List.getElem?_eq_getElem hi, e]⟩
  · obtain ⟨i, hi, e⟩ := List.getElem_of_mem h
    exact ⟨.p i, by show a.pa[i]? = some x; rw [List.getElem?_eq_getElem hi, e]⟩
def bilF (b : Bil) (q : Addr) : List (Str × V) := [("drawee", .str b.drawee), ("payee", .str b.payee), ("amount", .int b.amount), ("due", .int b.due), ("places", .ref q), ("keeper", .str b.keeper), ("phase", .str b.phase), ("issue", .int b.issue), ("blank", .bl b.blank)]
def hallF (a : Ha) (d : Int) : List (Str × V) := [("purses", .ref a.pu), ("failed", .ref a.fl), ("day", .int d), ("bills", .ref a.bl), ("deeds", .ref a.dl)]
def Cn (B : Bd) (G : Hp) (a : Ha) (s : Hl) : Ix → HO → Prop
  | .h, o => ∃ dx, o = .ins B.C_Hall dx (hallF a s.day)
  | .pu, o => ∃ dx, o = .ins B.C_Purses dx [("held", .ref a.hd)]
  | .hd, o => o = .dK (kvM s.m)
  | .fl, o => o = .lst (s.fl.map V.str)
  | .bl, o => o = .lst (a.ba.map V.ref)
  | .dl, o => ∃ vs, o = .lst vs ∧ Dxs G vs s.ds
  | .b i, o => ∃ b q dx, s.bs[i]? = some b ∧ a.pa[i]? = some q ∧ o = .ins B.C_Bill dx (bilF b q)
  | .p i, o => ∃ b vs, s.bs[i]? = some b ∧ o = .lst vs ∧ Dxs G vs (encR b.places)
structure W (B : Bd) (G H : Hp) (a : Ha) (s : Hl) : Prop where
  sb : Sb G H
  la : a.ba.length = s.bs.length
  lp : a.pa.length = s.bs.length
  inj : ∀ i j x, a.at i = some x → a.at j = some x → i = j
  ct : ∀ i x, a.at i = some x → ∃ o, H x = some o ∧ Cn B G a s i o
  ng : ∀ i x, a.at i = some x → G x = none
section
variable {B : Bd} {G H G' H' : Hp} {a : Ha} {s : Hl}
theorem Cn.mono (g : Sb G G') {i : Ix} {o : HO} (h : Cn B G a s i o) : Cn B G' a s i o := by
  cases i with
  | dl => obtain ⟨vs, e, x⟩ := h; exact ⟨vs, e, x.mono g⟩
  | p i => obtain ⟨b, vs, e1, e2, x⟩ := h; exact ⟨b, vs, e1, e2, x.mono g⟩
  | _ => exact h
theorem W.step (w : W B G H a s) (g : Gr [] G H G' H') : W B G' H' a s :=
  ⟨g.s, w.la, w.lp, w.inj, fun i x h => by obtain ⟨o, e, c⟩ := w.ct i x h; exact ⟨o, sb_of g _ _ e, c.mono g.g⟩,
   fun i x h => by obtain ⟨o, e, c⟩ := w.ct i x h; exact g.n _ _ e (w.ng i x h)⟩
theorem W.write (w : W B G H a s) (j : Ix) {x : Addr} (hx : a.at j = some x) {o' : HO} {s' : Hl} (hc : Cn B G a s' j o') (hk : ∀ i, i ≠ j → ∀ o, Cn B G a s i o → Cn B G a s' i o) (hl : s'.bs.length = s.bs.length) : W B G (upd H x o') a s' :=
  ⟨w.sb.mut (w.ng j x hx), w.la.trans hl.symm, w.lp.trans hl.symm, w.inj, fun i y h => by
    by_cases e : i = j
    · subst e
      rw [h] at hx; cases hx
      exact ⟨o', upd_same, hc⟩
    · obtain ⟨o, e1, c⟩ := w.ct i y h
      have ne : y ≠ x := fun z => e (w.inj i j x (by rw [← z]; exact h) hx)
      exact ⟨o, (upd_ne ne).trans e1, hk i e o c⟩, w.ng⟩
theorem W.hh (w : W B G H a s) : ∃ dx, H a.h = some (.ins B.C_Hall dx (hallF a s.day)) := by
  obtain ⟨o, e, dx, rfl⟩ := w.ct .h a.h rfl
  exact ⟨dx, e⟩
theorem W.hp (w : W B G H a s) : ∃ dx, H a.pu = some (.ins B.C_Purses dx [("held", .ref a.hd)]) := by
  obtain ⟨o, e, dx, rfl⟩ := w.ct .pu a.pu rfl
  exact ⟨dx, e⟩
theorem W.hm (w : W B G H a s) : H a.hd = some (.dK (kvM s.m)) := by
  obtain ⟨o, e, rfl⟩ := w.ct .hd a.hd rfl
  exact e
theorem W.hf (w : W B G H a s) : H a.fl = some (.lst (s.fl.map V.str)) := by
  obtain ⟨o, e, rfl⟩ := w.ct .fl a.fl rfl
  exact e
theorem W.hb (w : W B G H a s) : H a.bl = some (.lst (a.ba.map V.ref)) := by
  obtain ⟨o, e, rfl⟩ := w.ct .bl a.bl rfl
  exact e
theorem W.hl (w : W B G H a s) : ∃ vs, H a.dl = some (.lst vs) ∧ Dxs G vs s.ds := by
  obtain ⟨o, e, vs, rfl, x⟩ := w.ct .dl a.dl rfl
  exact ⟨vs, e, x⟩
/-- the bill i stands at p, its places at q -/
structure BilAt (B : Bd) (G H : Hp) (a : Ha) (s : Hl) (i : Nat) (p q : Addr) (b : Bil) : Prop where
  hb : s.bs[i]? = some b
  ap : a.ba[i]? = some p
  aq : a.pa[i]? = some q
  hp : ∃ dx, H p = some (.ins B.C_Bill dx (bilF b q))
  hq : ∃ vs, H q = some (.lst vs) ∧ Dxs G vs (encR b.places)
theorem W.bil (w : W B G H a s) {i : Nat} (h : i < s.bs.length) : ∃ p q b, BilAt B G H a s i p q b := by
  have h1 : i < a.ba.length := by rw [w.la]; exact h
  have h2 : i < a.pa.length := by rw [w.lp]; exact h
  have e1 : a.ba[i]? = some a.ba[i] := List.getElem?_eq_getElem h1
  have e2 : a.pa[i]? = some a.pa[i] := List.getElem?_eq_getElem h2
  obtain ⟨o, e, b, q, dx, hb, hq, rfl⟩ := w.ct (.b i) _ e1
  obtain ⟨o2, e3, b2, vs, hb2, rfl, x⟩ := w.ct (.p i) _ e2
  rw [e2] at hq; cases hq
  rw [hb] at hb2; cases hb2
  exact ⟨_, _, b, hb, e1, e2, ⟨dx, e⟩, vs, e3, x⟩
theorem BilAt.step {i : Nat} {p q : Addr} {b : Bil} (x : BilAt B G H a s i p q b) (g : Gr [] G H G' H') : BilAt B G' H' a s i p q b := by
  obtain ⟨x1, x2, x3, ⟨dx, x4⟩, vs, x5, x6⟩ := x
  exact ⟨x1, x2, x3, ⟨dx, sb_of g _ _ x4⟩, vs, sb_of g _ _ x5, x6.mono g.g⟩
end
/-! ### what a deed may change -/
structure Ch (a : Ha) (G H : Hp) (a' : Ha) (G' H' : Hp) : Prop where
  g : Sb G G'
  s : Sb G' H'
  h : ∀ x o, ¬ a.In x → H x = some o → H' x = some o
  t : ∀ x o, H x = some o → ∃ o', H' x = some o'
  n : ∀ x o, H x = some o → G x = none → G' x = none
  f : ∀ x, a'.In x → a.In x ∨ H x = none
section
variable {B : Bd} {G H G1 H1 G2 H2 : Hp} {a a1 a2 : Ha} {s : Hl}
theorem Ch.refl (h : Sb G H) : Ch a G H a G H := ⟨Sb.refl G, h, fun _ _ _ e => e, fun x o e => ⟨o, e⟩, fun _ _ _ e => e, fun x h => Or.inl h⟩
theorem Ch.trans (x : Ch a G H a1 G1 H1) (y : Ch a1 G1 H1 a2 G2 H2) : Ch a G H a2 G2 H2 :=
  ⟨x.g.trans y.g, y.s, fun z o m e => y.h z o (fun q => by
    rcases x.f z q with q | q
    · exact m q
    · rw [q] at e; cases e) (x.h z o m e), fun z o e => by obtain ⟨o', e'⟩ := x.t z o e; exact y.t z o' e',
   fun z o e e0 => by obtain ⟨o', e'⟩ := x.t z o e; exact y.n z o' e' (x.n z o e e0), fun z q => by
    rcases y.f z q with q | q
    · exact x.f z q
    · refine Or.inr ?_
      cases e : H z with
      | none => rfl
      | some o => obtain ⟨o', e'⟩ := x.t z o e; rw [e'] at q; cases q⟩
theorem Ch.of (g : Gr [] G H G1 H1) : Ch a G H a G1 H1 := ⟨g.g, g.s, fun x o _ e => sb_of g x o e, g.t, g.n, fun x h => Or.inl h⟩
theorem Ch.gr (x : Ch a G H a1 G1 H1) : Gr a.mut G H G1 H1 := ⟨x.g, x.s, fun z o m e => x.h z o (fun q => m (Ha.in_mut q)) e, x.t, x.n⟩
theorem Ch.write (w : W B G H a s) {j : Ix} {x : Addr} (hx : a.at j = some x) {o : HO} : Ch a G H a G (upd H x o) :=
  ⟨Sb.refl G, w.sb.mut (w.ng j x hx), fun z o' m e => (upd_ne (fun q => m (by subst q; exact ⟨j, hx⟩))).trans e, fun z o' e => by
    by_cases q : z = x
    · subst q; exact ⟨o, upd_same⟩
    · exact ⟨o', (upd_ne q).trans e⟩, fun _ _ _ e => e, fun z h => Or.inl h⟩
end

end
end

-- pmeth3.txt
section

local macro_rules | `(tactic| walk_at "arith") => `(tactic| first | omega | decide | (unfold CMul; omega) | (unfold CDiv; omega) | (unfold CPow; decide) | (refine ⟨?_, ?_⟩ <;> omega) | (simp; done) | (simp; omega))
local macro_rules | `(tactic| walk_at "wide") => `(tactic| exact ⟨by decide, by decide +kernel⟩)
section
variable {P : Program} {w : World} {K : PySem.W.Frag} {mg : Str → Option Value} {base : Heap} {A : Ad}
theorem rd_held {K : PySem.W.Frag} {mg : Str → Option Value} {B : Bd} (U : Ux K mg B) {σ : L2.St} {H : Hp} {p d : Addr} {m : Mp} {i : Nat} {Q : VK} (hv : σ[i]? = some (some (.ref p))) (h : PuAt B.C_Purses H p d m) (k : Q (.ref d) H) : tFld K (tVar i) "held" σ H Q := by
  obtain ⟨⟨dx, h1⟩, _⟩ := h
  exact ⟨_, hv, p, B.C_Purses, dx, _, _, rfl, h1, U.cl_Purses, U.n_Purses_held, lk1, k⟩
theorem no_meth {d : V} {k : Str} (h : (k == ("held" : Str)) = false) : List.lookup k [(("held" : Str), d)] = none := (lk2 h).trans rfl
abbrev spAmt (B : Bd) : Sp := fun vs H Q E => ∃ c : Int, vs = [.int c] ∧ (c < 0 → E (.ref B.c_BadCoins) none H) ∧ (¬ c < 0 → Q .non H)
abbrev spInit (B : Bd) : Sp := fun vs H Q _ => ∃ p dx : Addr, vs = [.ref p] ∧ H p = some (.ins B.C_Purses dx []) ∧ ∀ d, H d = none → Q .non (upd (upd H d (.dK [])) p (.ins B.C_Purses dx [("held", .ref d)]))
abbrev spCoins (B : Bd) : Sp := fun vs H Q E => ∃ (p d : Addr) (m : Mp) (n : Str), vs = [.ref p, .str n] ∧ PuAt B.C_Purses H p d m ∧ (get m n = none → E (.ref B.c_NoHouse) none H) ∧ (∀ c, get m n = some c → Q (.int c) H)
abbrev spAdd (B : Bd) : Sp := fun vs H Q E => ∃ (p d : Addr) (m : Mp) (n : Str) (c : Int), vs = [.ref p, .str n, .int c] ∧ Deed B B.C_Purses p d m (addR m n c) H Q E
abbrev spFill (B : Bd) : Sp := fun vs H Q E => ∃ (p d : Addr) (m : Mp) (n : Str) (c : Int), vs = [.ref p, .str n, .int c] ∧ Deed B B.C_Purses p d m (fillR m n c) H Q E
abbrev spSpend (B : Bd) : Sp := fun vs H Q E => ∃ (p d : Addr) (m : Mp) (n : Str) (c : Int), vs = [.ref p, .str n, .int c] ∧ Deed B B.C_Purses p d m (spendR m n c) H Q E
abbrev spPay (B : Bd) : Sp := fun vs H Q E => ∃ (p d : Addr) (m : Mp) (a b : Str) (c : Int), vs = [.ref p, .str a, .str b, .int c] ∧ Deed B B.C_Purses p d m (payR m a b c) H Q E
def tot (m : Mp) : Int := (m.map (·.2)).sum
def nms (m : Mp) : List Str := m.map (·.1)
abbrev spMNames (B : Bd) : Sp := fun vs H Q _ => ∃ (p d : Addr) (m : Mp), vs = [.ref p] ∧ PuAt B.C_Purses H p d m ∧ m.length < 64 ∧ ∀ ys l, ys.Perm (nms m) → PyProof.Rows.sortedS ys = true → H l = none → Q (.ref l) (upd H l (.lst (ys.map V.str)))
theorem ok_amt {B : Bd} (T : Txt K mg A) (U : Ux K mg B) : FnOk P w K mg base (L2.CX P w) 1 A.a_check_amount A.d_check_amount ["coins"] (spAmt B) := by
  refine T.F_check_amount.okX sc_check_amount (fun vs H Q E h => ?_) (fun cdv A' outer s H vs Q E hr h => ?_)
  · obtain ⟨c, rfl, _⟩ := h; rfl
  · obtain ⟨c, rfl, kE, kQ⟩ := h
    refine ⟨_, pss_one (ps_if (pt_cmpR op_lt (pv 0) pe_int (nomark _)) (pss_one (ps_raise rfl (takes_of rfl rfl rfl rfl) (pmk_own PySem.F.excBase_ValueError U.x_BadCoins.x U.x_BadCoins.g U.x_BadCoins.k (raises_own U.x_BadCoins.b U.x_BadCoins.t) (by exact rfl)))) pss_nil), ?_⟩
    refine ⟨_, rfl, _, _, rfl, rfl, _, rfl, ?_⟩
    by_cases hc : c < 0
    · exact ifT (decide_eq_true hc) (kE hc)
    · exact ifF (decide_eq_false hc) (kQ hc)
theorem ok_Minit {B : Bd} (T : Txt K mg A) (U : Ux K mg B) : FnOk P w K mg base CX0 1 B.a_Minit B.d_Minit ["self"] (spInit B) := by
  refine U.F_Minit.ok sc_Minit (fun vs H Q E h => ?_) (fun cdv A' outer s H vs Q E hr h => ?_)
  · obtain ⟨p, dx, rfl, _⟩ := h; rfl
  · obtain ⟨p, dx, rfl, hp, k⟩ := h
    refine ⟨_, pss_one (ps_fld (pv 0) pe_dnewK rfl), ?_⟩
    intro d hd
    have hne : p ≠ d := ne_of_none hp hd
    refine ⟨_, rfl, p, B.C_Purses, dx, [], rfl, (upd_ne hne).trans hp, U.cl_Purses, U.n_Purses_held, (by show 0 < 1000; decide), ?_⟩
    exact k d hd
theorem ok_Mcoins {B : Bd} (T : Txt K mg A) (U : Ux K mg B) : FnOk P w K mg base (L2.CX P w) 1 B.a_Mcoins B.d_Mcoins ["self", "name"] (spCoins B) := by
  refine U.F_Mcoins.okX sc_Mcoins (fun vs H Q E h => ?_) (fun cdv A' outer s H vs Q E hr h => ?_)
  · obtain ⟨_, _, _, _, rfl, _⟩ := h; rfl
  · obtain ⟨p, d, m, n, rfl, hp, kE, kQ⟩ := h
    refine ⟨_, pss_cons (ps_if (pt_cmp (pc_dnotin (hu1 hr) (pv 1) (pe_fld (pv 0) rfl)) rfl) (pss_one (ps_raise rfl (takes_of rfl rfl rfl rfl) (pmk_ownA PySem.F.excBase_ValueError U.x_NoHouse.x U.x_NoHouse.g U.x_NoHouse.k (raises_own U.x_NoHouse.b U.x_NoHouse.t) (by exact rfl) (pa_cons (pv 1) pa_nil)))) pss_nil)
      (pss_one (ps_ret (pe_dget (hu1 hr) (pe_fld (pv 0) rfl) (pv 1) (fun _ _ => rfl)))), ?_⟩
    refine ⟨_, rfl, rd_held U rfl hp ⟨d, _, rfl, get_any hp.2.1 n, _, rfl, ?_⟩⟩
    cases hc : get m n with
    | none => exact ifT rfl ⟨_, rfl, one_le, kE hc⟩
    | some c =>
      refine ifF rfl (nxI ?_)
      dsimp only
      exact retI <| rd_held U rfl hp ⟨_, rfl, d, _, rfl, get_some hc hp.2.1, kQ c hc⟩
theorem ok_Madd {B : Bd} (T : Txt K mg A) (U : Ux K mg B) : FnOk P w K mg base (L2.CX P w) 2 B.a_Maddpurse B.d_Maddpurse ["self", "name", "coins"] (spAdd B) := by
  have G_amt := ok_amt (P := P) (w := w) (base := base) T U
  refine U.F_Maddpurse.okX sc_Maddpurse (fun vs H Q E h => ?_) (fun cdv A' outer s H vs Q E hr h => ?_)
  · obtain ⟨_, _, _, _, _, rfl, _⟩ := h; rfl
  · obtain ⟨p, d, m, n, c, rfl, x⟩ := h
    have hp := x.1
    refine ⟨_, pss_cons (ps_if (pt_cmp (pc_din (hu1 hr) (pv 1) (pe_fld (pv 0) rfl)) rfl) (pss_one (ps_raise rfl (takes_of rfl rfl rfl rfl) (pmk_ownA PySem.F.excBase_ValueError U.x_Taken.x U.x_Taken.g U.x_Taken.k (raises_own U.x_Taken.b U.x_Taken.t) (by exact rfl) (pa_cons (pv 1) pa_nil)))) pss_nil)
      (pss_cons (ps_expr (pe_call G_amt hr (by rfl) T.m_check_amount T.F_check_amount.kp T.b_check_amount .nil (passes_call (takes_of rfl rfl rfl rfl) fun _ _ _ _ z => z) (pa_cons (pv 2) pa_nil)))
      (pss_one (ps_dput (hu1 hr) (pe_fld (pv 0) rfl) (pv 1) (pv 2) rfl))), ?_⟩
    refine ⟨_, rfl, rd_held U rfl hp ⟨d, _, rfl, get_any hp.2.1 n, _, rfl, ?_⟩⟩
    by_cases hg : (get m n).isSome = true
    · exact ifT (by rw [Option.isSome_map]; exact hg) ⟨_, rfl, one_le, x.err (k := .Taken) (by unfold addR; rw [if_pos hg])⟩
    · refine ifF (by rw [Option.isSome_map]; exact Bool.eq_false_iff.mpr hg) ?_
      show tSeq _ _ _ _ _
      refine ⟨_, rfl, c, rfl, fun hc => x.err (k := .BadCoins) (by unfold addR; rw [if_neg hg, if_pos hc]), fun hc => ?_⟩
      exact ⟨_, rfl, rd_held U rfl hp ⟨_, rfl, d, _, rfl, put_any hp.2.1 hp.2.2.1 n c, x.2.2 _ (by unfold addR; rw [if_neg hg, if_neg hc]) H (Sb.refl H)⟩⟩
theorem ok_Mnames {B : Bd} (T : Txt K mg A) (U : Ux K mg B) : FnOk P w K mg base CX0 1 B.a_Mallnames B.d_Mallnames ["self"] (spMNames B) := by
  refine U.F_Mallnames.ok sc_Mallnames (fun vs H Q E h => ?_) (fun cdv A' outer s H vs Q E hr h => ?_)
  · obtain ⟨_, _, _, rfl, _⟩ := h; rfl
  · obtain ⟨p, d, m, rfl, hp, hl, k⟩ := h
    refine ⟨_, pss_one (ps_ret (pe_callB (call_sortedD rfl) (by rfl) T.b.sorted (by decide +kernel) (pa_cons (pe_fld (pv 0) rfl) pa_nil))), ?_⟩
    exact retI (rd_held U rfl hp ⟨d, _, nms m, rfl, Or.inl hp.2.1, by unfold kvM nms; rw [List.map_map, List.map_map]; rfl, by unfold nms; rw [List.length_map]; exact hl, k⟩)
theorem fill_none {m : Mp} {n : Str} {c : Int} (h : get m n = none) : fillR m n c = .error .NoHouse := by unfold fillR; rw [h]
theorem fill_bad {m : Mp} {n : Str} {b c : Int} (h : get m n = some b) (hc : c < 0) : fillR m n c = .error .BadCoins := by unfold fillR; rw [h]; exact if_pos hc
theorem fill_ok {m : Mp} {n : Str} {b c : Int} (h : get m n = some b) (hc : ¬ c < 0) : fillR m n c = .ok (put m n (b + c)) := by unfold fillR; rw [h]; exact if_neg hc
theorem spend_none {m : Mp} {n : Str} {c : Int} (h : get m n = none) : spendR m n c = .error .NoHouse := by unfold spendR; rw [h]
theorem spend_bad {m : Mp} {n : Str} {b c : Int} (h : get m n = some b) (hc : c < 0) : spendR m n c = .error .BadCoins := by unfold spendR; rw [h]; exact if_pos hc
theorem spend_short {m : Mp} {n : Str} {b c : Int} (h : get m n = some b) (hc : ¬ c < 0) (hs : b < c) : spendR m n c = .error .NoCoins := by unfold spendR; rw [h]; exact (if_neg hc).trans (if_pos hs)
theorem spend_ok {m : Mp} {n : Str} {b c : Int} (h : get m n = some b) (hc : ¬ c < 0) (hs : ¬ b < c) : spendR m n c = .ok (put m n (b - c)) := by unfold spendR; rw [h]; exact (if_neg hc).trans (if_neg hs)
theorem ok_Mfill {B : Bd} (T : Txt K mg A) (U : Ux K mg B) : FnOk P w K mg base (L2.CX P w) 2 B.a_Mfill B.d_Mfill ["self", "name", "coins"] (spFill B) := by
  have G_amt := ok_amt (P := P) (w := w) (base := base) T U
  have G_coins := ok_Mcoins (P := P) (w := w) (base := base) T U
  refine U.F_Mfill.okX sc_Mfill (fun vs H Q E h => ?_) (fun cdv A' outer s H vs Q E hr h => ?_)
  · obtain ⟨_, _, _, _, _, rfl, _⟩ := h; rfl
  · obtain ⟨p, d, m, n, c, rfl, x⟩ := h
    have hp := x.1
    obtain ⟨dx, hi⟩ := hp.1
    refine ⟨_, pss_cons (ps_set (i := 3) sc_Mfill.nd rfl (Or.inl rfl) (pe_meth (pv 0) U.cl_Purses U.m_Mcoins G_coins hr U.b_Mcoins .nil (passes_call (takes_of rfl rfl rfl rfl) fun _ _ _ _ z => z) (by exact (pa_cons (pv 1) pa_nil))))
      (pss_cons (ps_expr (pe_call G_amt hr (by rfl) T.m_check_amount T.F_check_amount.kp T.b_check_amount .nil (passes_call (takes_of rfl rfl rfl rfl) fun _ _ _ _ z => z) (pa_cons (pv 2) pa_nil)))
      (pss_one (ps_dput (hu1 hr) (pe_fld (pv 0) rfl) (pv 1) (pe_op op_add (pv 3) (pv 2)) rfl))), ?_⟩
    refine ⟨_, rfl, p, dx, _, rfl, hi, no_meth (by decide +kernel), _, rfl, p, d, m, n, rfl, hp, fun hn => x.err (fill_none hn), fun b hb => ?_⟩
    refine ⟨_, rfl, c, rfl, fun hc => x.err (fill_bad hb hc), fun hc => ?_⟩
    exact ⟨_, rfl, _, rfl, _, _, rfl, rfl, rd_held U rfl hp ⟨_, rfl, d, _, rfl, put_any hp.2.1 hp.2.2.1 n (b + c), x.2.2 _ (fill_ok hb hc) H (Sb.refl H)⟩⟩
theorem ok_Mspend {B : Bd} (T : Txt K mg A) (U : Ux K mg B) : FnOk P w K mg base (L2.CX P w) 2 B.a_Mspend B.d_Mspend ["self", "name", "coins"] (spSpend B) := by
  have G_amt := ok_amt (P := P) (w := w) (base := base) T U
  have G_coins := ok_Mcoins (P := P) (w := w) (base := base) T U
  refine U.F_Mspend.okX sc_Mspend (fun vs H Q E h => ?_) (fun cdv A' outer s H vs Q E hr h => ?_)
  · obtain ⟨_, _, _, _, _, rfl, _⟩ := h; rfl
  · obtain ⟨p, d, m, n, c, rfl, x⟩ := h
    have hp := x.1
    obtain ⟨dx, hi⟩ := hp.1
    refine ⟨_, pss_cons (ps_set (i := 3) sc_Mspend.nd rfl (Or.inl rfl) (pe_meth (pv 0) U.cl_Purses U.m_Mcoins G_coins hr U.b_Mcoins .nil (passes_call (takes_of rfl rfl rfl rfl) fun _ _ _ _ z => z) (by exact (pa_cons (pv 1) pa_nil))))
      (pss_cons (ps_expr (pe_call G_amt hr (by rfl) T.m_check_amount T.F_check_amount.kp T.b_check_amount .nil (passes_call (takes_of rfl rfl rfl rfl) fun _ _ _ _ z => z) (pa_cons (pv 2) pa_nil)))
      (pss_cons (ps_if (pt_cmpR op_lt (pv 3) (pv 2) (nomark _)) (pss_one (ps_raise rfl (takes_of rfl rfl rfl rfl) (pmk_ownA PySem.F.excBase_ValueError U.x_NoCoins.x U.x_NoCoins.g U.x_NoCoins.k (raises_own U.x_NoCoins.b U.x_NoCoins.t) (by exact rfl) (pa_cons (pv 1) pa_nil)))) pss_nil)
      (pss_one (ps_dput (hu1 hr) (pe_fld (pv 0) rfl) (pv 1) (pe_op op_sub (pv 3) (pv 2)) rfl)))), ?_⟩
    refine ⟨_, rfl, p, dx, _, rfl, hi, no_meth (by decide +kernel), _, rfl, p, d, m, n, rfl, hp, fun hn => x.err (spend_none hn), fun b hb => ?_⟩
    refine ⟨_, rfl, c, rfl, fun hc => x.err (spend_bad hb hc), fun hc => ?_⟩
    refine ⟨_, rfl, _, rfl, _, _, rfl, rfl, _, rfl, ?_⟩
    by_cases hs : b < c
    · exact ifT (decide_eq_true hs) ⟨_, rfl, one_le, x.err (k := .NoCoins) (spend_short hb hc hs)⟩
    · refine ifF (decide_eq_false hs) (nxI ?_)
      exact ⟨_, rfl, _, rfl, _, _, rfl, rfl, rd_held U rfl hp ⟨_, rfl, d, _, rfl, put_any hp.2.1 hp.2.2.1 n (b - c), x.2.2 _ (spend_ok hb hc hs) H (Sb.refl H)⟩⟩
theorem pay_n1 {m : Mp} {a b : Str} {c : Int} (h : get m a = none) : payR m a b c = .error .NoHouse := by unfold payR; rw [h]; rfl
theorem pay_n2 {m : Mp} {a b : Str} {c : Int} (h : get m b = none) : payR m a b c = .error .NoHouse := by
  unfold payR
  rw [h]
  split <;> rfl
theorem pay_go {m : Mp} {a b : Str} {c : Int} (h1 : (get m a).isSome = true) (h2 : (get m b).isSome = true) : payR m a b c = match spendR m a c with
  | .error k => .error k
  | .ok m1 => fillR m1 b c := by
  unfold payR
  have e1 : (get m a).isNone = false := by cases q : get m a with
    | none => rw [q] at h1; cases h1
    | some x => rfl
  have e2 : (get m b).isNone = false := by cases q : get m b with
    | none => rw [q] at h2; cases h2
    | some x => rfl
  rw [e1, e2]
  rfl
theorem len_spend {m m1 : Mp} {a : Str} {c : Int} (h : spendR m a c = .ok m1) : m1.length = m.length := by
  unfold spendR at h
  split at h
  · cases h
  · rename_i b hb
    split at h
    · cases h
    · split at h
      · cases h
      · cases h
        unfold put
        rw [hb]
        show (repl m a _).length = _
        unfold repl
        rw [List.length_map]
theorem ok_Mpay {B : Bd} (T : Txt K mg A) (U : Ux K mg B) : FnOk P w K mg base (L2.CX P w) 3 B.a_Mpay B.d_Mpay ["self", "payer", "taker", "coins"] (spPay B) := by
  have G_fill := ok_Mfill (P := P) (w := w) (base := base) T U
  have G_spend := ok_Mspend (P := P) (w := w) (base := base) T U
  refine U.F_Mpay.okX sc_Mpay (fun vs H Q E h => ?_) (fun cdv A' outer s H vs Q E hr h => ?_)
  · obtain ⟨_, _, _, _, _, _, rfl, _⟩ := h; rfl
  · obtain ⟨p, d, m, a, b, c, rfl, x⟩ := h
    have hp := x.1
    refine ⟨_, pss_cons (ps_for (passes_of rfl) rfl (pi_tup (pe_tup (pa_cons (pv 1) (pa_cons (pv 2) pa_nil)))) (pg_name (i := 4) sc_Mpay.nd rfl (Or.inl rfl))
        (pss_one (ps_if (pt_cmp (pc_dnotin (hu1 hr) (pv 4) (pe_fld (pv 0) rfl)) rfl) (pss_one (ps_raise rfl (takes_of rfl rfl rfl rfl) (pmk_ownA PySem.F.excBase_ValueError U.x_NoHouse.x U.x_NoHouse.g U.x_NoHouse.k (raises_own U.x_NoHouse.b U.x_NoHouse.t) (by exact rfl) (pa_cons (pv 4) pa_nil)))) pss_nil)))
      (pss_cons (ps_expr (pe_meth (pv 0) U.cl_Purses U.m_Mspend G_spend hr U.b_Mspend .nil (passes_call (takes_of rfl rfl rfl rfl) fun _ _ _ _ z => z) (by exact (pa_cons (pv 1) (pa_cons (pv 3) pa_nil)))))
      (pss_one (ps_expr (pe_meth (pv 0) U.cl_Purses U.m_Mfill G_fill hr U.b_Mfill .nil (passes_call (takes_of rfl rfl rfl rfl) fun _ _ _ _ z => z) (by exact (pa_cons (pv 2) (pa_cons (pv 3) pa_nil))))))), ?_⟩
    refine q_forT (G := fun _ => none) (ds := [.str a, .str b]) [] (fun n σ' G' H' => (∃ v, σ' = [some (.ref p), some (.str a), some (.str b), some (.int c), v]) ∧ (0 < n → (get m a).isSome = true) ∧ (1 < n → (get m b).isSome = true))
      (ev_tup (ea_cons (ev_var rfl (.str a)) (ea_cons (ev_var rfl (.str b)) ea_nil)) (by show 2 ≤ 100000; decide)) emp_sb (fun G1 H1 g1 => ⟨⟨none, rfl⟩, fun h => absurd h (by omega), fun h => absurd h (by omega)⟩) (fun G1 H1 g1 n e v σ' G' H' he hv gg I => ?_) (fun σ' G' H' gg I => ?_)
    · obtain ⟨⟨w0, rfl⟩, i1, i2⟩ := I
      have hs : Sb H H' := (sb_of g1).trans (sb_of gg)
      have hp' := hp.sb hs
      obtain ⟨z, rfl, hz⟩ : ∃ z : Str, v = .str z ∧ e = .str z := by
        match n, he with
        | 0, he => cases he; exact ⟨a, hv.str_eq, rfl⟩
        | 1, he => cases he; exact ⟨b, hv.str_eq, rfl⟩
        | n + 2, he => cases he
      refine ⟨_, rfl, rd_held U rfl hp' ⟨d, _, rfl, get_any hp'.2.1 z, _, rfl, ?_⟩⟩
      by_cases hg : (get m z).isSome = true
      · refine ifF (by rw [Option.isSome_map, hg]; rfl) (nxI ?_)
        refine ⟨G', gg, ⟨_, rfl⟩, fun h => ?_, fun h => ?_⟩
        · match n, he with
          | 0, he => cases he; cases hz; exact hg
          | 1, he => exact i1 (by omega)
          | n + 2, he => cases he
        · match n, he with
          | 0, he => omega
          | 1, he => cases he; cases hz; exact hg
          | n + 2, he => cases he
      · have hn : get m z = none := by cases q : get m z with
          | none => rfl
          | some y => rw [q] at hg; exact (hg rfl).elim
        refine ifT (by rw [Option.isSome_map, hn]; rfl) ⟨_, rfl, one_le, x.2.1 .NoHouse ?_ H' hs⟩
        match n, he with
        | 0, he => cases he; cases hz; exact pay_n1 hn
        | 1, he => cases he; cases hz; exact pay_n2 hn
        | n + 2, he => cases he
    · obtain ⟨⟨w0, rfl⟩, i1, i2⟩ := I
      have hs : Sb H H' := sb_of gg
      have hp' := hp.sb hs
      have e0 := pay_go (c := c) (i1 (by show 0 < 2; decide)) (i2 (by show 1 < 2; decide))
      obtain ⟨dx, hi⟩ := hp'.1
      refine ⟨_, rfl, p, dx, _, rfl, hi, no_meth (by decide +kernel), _, rfl, _, rfl, p, d, m, a, c, rfl, hp', fun k e H2 s2 => x.2.1 k (by rw [e0, e]) H2 (hs.trans s2), fun m1 e H2 s2 => ?_⟩
      have hi2 : (upd H2 d (.dK (kvM m1))) p = some (.ins B.C_Purses dx [("held", .ref d)]) := (upd_ne hp.2.2.2).trans (s2 _ _ hi)
      have hl1 := len_spend e
      refine ⟨_, rfl, p, dx, _, rfl, hi2, no_meth (by decide +kernel), _, rfl, _, rfl, p, d, m1, b, c, rfl, ⟨⟨dx, hi2⟩, upd_same, by rw [hl1]; exact hp.2.2.1, hp.2.2.2⟩, fun k e2 H3 s3 => ?_, fun m2 e2 H3 s3 => ?_⟩
      · exfalso
        have hc : ¬ c < 0 := fun hc => by
          unfold spendR at e
          split at e
          · cases e
          · rw [if_pos hc] at e; cases e
        have hb1 : (get m1 b).isSome = true := by
          unfold spendR at e
          split at e
          · cases e
          · rw [if_neg hc] at e
            split at e
            · cases e
            · cases e
              rw [get_put]
              split
              · rfl
              · exact i2 (by show 1 < 2; decide)
        cases q : get m1 b with
        | none => rw [q] at hb1; cases hb1
        | some y => rw [fill_ok q hc] at e2; cases e2
      · have sH : Sb H (upd H3 d (.dK (kvM m))) := fun z o hz => by
          by_cases hd : z = d
          · subst hd; rw [hp.2.1] at hz; cases hz; exact upd_same
          · rw [upd_ne hd]; exact s3 _ _ ((upd_ne hd).trans (s2 _ _ (hs _ _ hz)))
        have r := x.2.2 m2 (by rw [e0, e]; exact e2) _ sH
        rw [upd_upd] at r
        exact r

end
end

-- hq.txt
section

local macro_rules | `(tactic| walk_at "arith") => `(tactic| first | omega | decide | (unfold CMul; omega) | (unfold CDiv; omega) | (unfold CPow; decide) | (refine ⟨?_, ?_⟩ <;> omega) | (simp; done) | (simp; omega))
local macro_rules | `(tactic| walk_at "wide") => `(tactic| exact ⟨by decide, by decide +kernel⟩)
section
variable {P : Program} {w : World} {K : PySem.W.Frag} {mg : Str → Option Value} {base : Heap} {A : Ad}
/-! ### more readings -/
theorem dxs_strs {G : Hp} : ∀ zs : List Str, Dxs G (zs.map V.str) (zs.map PyData.str)
  | [] => .nil
  | z :: r => .cons (.str z) (dxs_strs r)
theorem strs_inj {zs : List Str} {G : Hp} : ∀ {vs : List V}, Dxs G vs (zs.map PyData.str) → vs = zs.map V.str := fun h => h.strs_eq
theorem inV_int {z : Int} : ∀ zs : List Int, inV (.int z) (zs.map V.int) = decide (z ∈ zs)
  | [] => by simp [inV]
  | y :: ys => by
    have ih := inV_int (z := z) ys
    unfold inV at ih ⊢
    rw [List.map_cons, List.any_cons, ih]
    have e : eqV (V.int y) (V.int z) = decide (y = z) := rfl
    rw [e]
    by_cases h : y = z
    · subst h; simp
    · simp [h, Ne.symm h]
      first
        | done
        | (intro h2; exact absurd h2.symm h)
theorem all_flatI : ∀ zs : List Int, (zs.map V.int).all flatV = true
  | [] => rfl
  | y :: ys => by rw [List.map_cons, List.all_cons, all_flatI ys]; rfl
section
variable {K : PySem.W.Frag} {σ : L2.St} {G H : Hp} {ta tb : TE} {z : Str} {zs : List Str} {n : Int} {ns : List Int} {p : Addr} {neg : Bool}
theorem sqS (s : Sb G H) {v : V} (x : Dx G v (.list (zs.map .str))) : ∃ a, v = .ref a ∧ H a = some (.lst (zs.map V.str)) := by
  obtain ⟨a, xs, rfl, ha, dxs⟩ := x.lst_eq
  rw [dxs.strs_eq] at ha
  exact ⟨a, rfl, s _ _ ha⟩
theorem sqI (s : Sb G H) {v : V} (x : Dx G v (.list (ns.map .int))) : ∃ a, v = .ref a ∧ H a = some (.lst (ns.map V.int)) := by
  obtain ⟨a, xs, rfl, ha, dxs⟩ := x.lst_eq
  rw [dxs.ints_eq] at ha
  exact ⟨a, rfl, s _ _ ha⟩
theorem ev_inS (h : EvD ta σ G H (.str z)) (hb : EvD tb σ G H (.list (zs.map .str))) : EvD (tOp (rIn K neg) ta tb) σ G H (.bool (if neg then !decide (z ∈ zs) else decide (z ∈ zs))) := fun G1 H1 a Q q =>
  h G1 H1 a _ fun v G2 H2 g x => hb G2 H2 (a.trans g) _ fun u G3 H3 g3 y => by
    obtain ⟨p, rfl, hp⟩ := sqS g3.s y
    refine ⟨p, _, rfl, Or.inl (Or.inl (Or.inl hp)), by rw [x.str_eq]; rfl, all_flat zs, ?_⟩
    rw [x.str_eq, inV_str]
    exact q _ G3 H3 (g.trans g3) (.bl _)
theorem ev_inI (h : EvD ta σ G H (.int n)) (hb : EvD tb σ G H (.list (ns.map .int))) : EvD (tOp (rIn K neg) ta tb) σ G H (.bool (if neg then !decide (n ∈ ns) else decide (n ∈ ns))) := fun G1 H1 a Q q =>
  h G1 H1 a _ fun v G2 H2 g x => hb G2 H2 (a.trans g) _ fun u G3 H3 g3 y => by
    obtain ⟨p, rfl, hp⟩ := sqI g3.s y
    refine ⟨p, _, rfl, Or.inl (Or.inl (Or.inl hp)), by rw [x.int_eq]; rfl, all_flatI ns, ?_⟩
    rw [x.int_eq, inV_int]
    exact q _ G3 H3 (g.trans g3) (.bl _)
/-- in a list that stands in H, no data -/
theorem ev_inV (h : EvD ta σ G H (.str z)) (hb : EvV tb σ G H (.ref p)) (hp : H p = some (.lst (zs.map V.str))) : EvD (tOp (rIn K neg) ta tb) σ G H (.bool (if neg then !decide (z ∈ zs) else decide (z ∈ zs))) := fun G1 H1 a Q q =>
  h G1 H1 a _ fun v G2 H2 g x => hb G2 H2 (a.trans g) _ fun G3 H3 g3 => by
    refine ⟨p, _, rfl, Or.inl (Or.inl (Or.inl (sb_of (a.trans (g.trans g3)) _ _ hp))), by rw [x.str_eq]; rfl, all_flat zs, ?_⟩
    rw [x.str_eq, inV_str]
    exact q _ G3 H3 (g.trans g3) (.bl _)
theorem ev_inT (h : EvD ta σ G H (.str z)) (hb : EvD tb σ G H (.tuple (zs.map .str))) : EvD (tOp (rIn K neg) ta tb) σ G H (.bool (if neg then !decide (z ∈ zs) else decide (z ∈ zs))) := fun G1 H1 a Q q =>
  h G1 H1 a _ fun v G2 H2 g x => hb G2 H2 (a.trans g) _ fun u G3 H3 g3 y => by
    obtain ⟨p, xs, rfl, hp, dxs⟩ := y.tup_eq
    rw [dxs.strs_eq] at hp
    refine ⟨p, _, rfl, Or.inr (Or.inl (Or.inl (g3.s _ _ hp))), by rw [x.str_eq]; rfl, all_flat zs, ?_⟩
    rw [x.str_eq, inV_str]
    exact q _ G3 H3 (g.trans g3) (.bl _)
theorem ev_lenV {vs : List V} (hb : EvV tb σ G H (.ref p)) (hp : H p = some (.lst vs)) : EvD (tCB (fun xs H Q => ∃ p ys, xs = [.ref p] ∧ (SqL K H p ys ∨ SqT K H p ys) ∧ Q (.int ys.length) H) (tCons tb tNil)) σ G H (.int vs.length) := fun G1 H1 a Q q =>
  hb G1 H1 a _ fun G2 H2 g => ⟨p, vs, rfl, Or.inl (Or.inl (Or.inl (sb_of (a.trans g) _ _ hp))), q _ G2 H2 g (.int _)⟩
theorem ev_listV {vs : List V} {ds : List PyData} (hb : EvV tb σ G H (.ref p)) (hp : H p = some (.lst vs)) (hx : Dxs G vs ds) : EvM (tCB (fun xs H Q => ∃ p ys, xs = [.ref p] ∧ (SqL K H p ys ∨ SqT K H p ys) ∧ ∀ l, H l = none → Q (.ref l) (upd H l (.lst ys))) (tCons tb tNil)) σ G H ds := fun G1 H1 a Q q =>
  hb G1 H1 a _ fun G2 H2 g => ⟨p, vs, rfl, Or.inl (Or.inl (Or.inl (sb_of (a.trans g) _ _ hp))), fun l hl => q l vs G2 _ (g.own hl) (g.free hl) (g.s.none hl) upd_same (hx.mono (a.trans g).g)⟩
theorem ev_ixV {vs : List V} {ds : List PyData} {d : PyData} {k : Int} (hb : EvV tb σ G H (.ref p)) (hp : H p = some (.lst vs)) (hx : Dxs G vs ds) (hk : EvD ta σ G H (.int k)) (e : atI ds k = some d) : EvD (tOp (rIxL K) tb ta) σ G H d := fun G1 H1 a Q q =>
  hb G1 H1 a _ fun G2 H2 g => hk G2 H2 (a.trans g) _ fun v G3 H3 g3 x => by
    have gg := a.trans (g.trans g3)
    obtain ⟨u, hu, du⟩ := atI_dx (hx.mono gg.g) e
    exact ⟨p, vs, k, u, rfl, x.int_eq, Or.inl (Or.inl (sb_of gg _ _ hp)), hu, q u G3 H3 (g.trans g3) du⟩
/-- an item that is no data -/
theorem evv_ix {vs : List V} {u : V} {k : Int} (hb : EvV tb σ G H (.ref p)) (hp : H p = some (.lst vs)) (hk : EvD ta σ G H (.int k)) (e : atI vs k = some u) : EvV (tOp (rIxL K) tb ta) σ G H u := fun G1 H1 a Q q =>
  hb G1 H1 a _ fun G2 H2 g => hk G2 H2 (a.trans g) _ fun v G3 H3 g3 x => ⟨p, vs, k, u, rfl, x.int_eq, Or.inl (Or.inl (sb_of (a.trans (g.trans g3)) _ _ hp)), e, q G3 H3 (g.trans g3)⟩
end
/-! ### names in order -/
def leS (a b : Str) : Bool := !decide (b.cps.toList < a.cps.toList)
theorem leS_iff {a b : Str} : leS a b = true ↔ a.cps.toList ≤ b.cps.toList := by
  unfold leS
  rw [Bool.not_eq_true', decide_eq_false_iff_not]
  exact List.not_lt
def srt (l : List Str) : List Str := l.mergeSort leS
theorem srt_perm (l : List Str) : (srt l).Perm l := List.mergeSort_perm l _
theorem srt_pw (l : List Str) : (srt l).Pairwise (fun a b => a.cps.toList ≤ b.cps.toList) := by
  refine List.Pairwise.imp (fun {a b} h => leS_iff.mp h) (List.pairwise_mergeSort (le := leS) (fun a b c h1 h2 => leS_iff.mpr (List.le_trans (leS_iff.mp h1) (leS_iff.mp h2))) (fun a b => ?_) l)
  rw [Bool.or_eq_true, leS_iff, leS_iff]
  exact List.le_total _ _
theorem rises_pw : ∀ (l : List Str) (p : Str), PyProof.Rows.risingS p l = true → (∀ y ∈ l, p.cps.toList ≤ y.cps.toList) ∧ l.Pairwise (fun a b => a.cps.toList ≤ b.cps.toList)
  | [], _, _ => ⟨fun _ h => (by cases h), List.Pairwise.nil⟩
  | x :: r, p, h => by
    unfold PyProof.Rows.risingS at h
    rw [Bool.and_eq_true] at h
    obtain ⟨h1, h2⟩ := h
    rw [PyProof.Rows.ltCps_eq] at h1
    have h3 : p.cps.toList ≤ x.cps.toList := by
      have : ¬ x.cps.toList < p.cps.toList := by simpa using h1
      exact List.not_lt.mp this
    obtain ⟨a, b⟩ := rises_pw r x h2
    refine ⟨fun y hy => ?_, List.Pairwise.cons a b⟩
    rcases List.mem_cons.mp hy with e | hy
    · subst e; exact h3
    · exact List.le_trans h3 (a y hy)
theorem sorted_pw {l : List Str} (h : PyProof.Rows.sortedS l = true) : l.Pairwise (fun a b => a.cps.toList ≤ b.cps.toList) := by
  cases l with
  | nil => exact List.Pairwise.nil
  | cons x r => obtain ⟨a, b⟩ := rises_pw r x h; exact List.Pairwise.cons a b
theorem cps_inj {a b : Str} (e : a.cps.toList = b.cps.toList) : a = b := by
  obtain ⟨⟨x⟩⟩ := a
  obtain ⟨⟨y⟩⟩ := b
  simp only at e
  rw [e]
theorem srt_of {l m : List Str} (h1 : l.Perm m) (s1 : PyProof.Rows.sortedS l = true) : l = srt m :=
  List.Perm.eq_of_pairwise (le := fun a b : Str => a.cps.toList ≤ b.cps.toList) (fun a b _ _ h h' => cps_inj (List.le_antisymm h h')) (sorted_pw s1) (srt_pw m) (h1.trans (srt_perm m).symm)
theorem mem_srt {l : List Str} {z : Str} : z ∈ srt l ↔ z ∈ l := (srt_perm l).mem_iff
theorem len_srt (l : List Str) : (srt l).length = l.length := (srt_perm l).length_eq
theorem mem_nms {m : Mp} {z : Str} : z ∈ nms m ↔ (get m z).isSome = true := by
  induction m with
  | nil => simp [nms, get]
  | cons q r ih =>
    unfold nms at ih ⊢
    rw [List.map_cons, List.mem_cons, ih]
    by_cases e : q.1 = z
    · have h1 : get (q :: r) z = some q.2 := by unfold get; exact if_pos e
      rw [h1]; simp [e]
    · have h1 : get (q :: r) z = get r z := by conv => lhs; unfold get; rw [if_neg e]
      rw [h1]
      have : ¬ z = q.1 := fun h => e h.symm
      simp [this]
/-! ### the bounds of a hall -/
mutual
def noL : PyData → Bool
  | .list _ => false
  | .dict _ => false
  | .tuple ds => noLs ds
  | _ => true
def noLs : List PyData → Bool
  | [] => true
  | d :: r => noL d && noLs r
end
structure Ok (s : Hl) : Prop where
  m : s.m.length ≤ 9
  f : s.fl.length ≤ s.ds.length
  b : s.bs.length ≤ 40
  d : s.ds.length ≤ 5000
  pl : ∀ b ∈ s.bs, 2 ≤ b.places.length ∧ b.places.length ≤ 8
  sm : ∀ z ∈ nms s.m, Sm z
  am : ∀ b ∈ s.bs, 0 ≤ b.amount
  nl : ∀ d ∈ s.ds, noL d = true
def rowHas (s : Hl) (z : Str) : Bool := (get s.m z).isSome
section
variable {B : Bd} {G H : Hp} {a : Ha} {s : Hl} {K : PySem.W.Frag} {mg : Str → Option Value} {σ : L2.St} {te : TE}
theorem W.pu (w : W B G H a s) (o : Ok s) : PuAt B.C_Purses H a.pu a.hd s.m :=
  ⟨w.hp, w.hm, by have := o.m; omega, fun e => by have := w.inj .pu .hd a.hd (congrArg some e) rfl; cases this⟩
theorem W.pu' (w : W B G H a s) (o : s.m.length ≤ 9) : PuAt B.C_Purses H a.pu a.hd s.m :=
  ⟨w.hp, w.hm, by omega, fun e => by have := w.inj .pu .hd a.hd (congrArg some e) rfl; cases this⟩
theorem hall_look {m : Str} {a : Ha} {d : Int} (h : (["purses", "failed", "day", "bills", "deeds"] : List Str).all (fun k => !(m == k)) = true) : List.lookup m (hallF a d) = none := look_none rfl h
theorem bil_look {m : Str} {b : Bil} {q : Addr} (h : (["drawee", "payee", "amount", "due", "places", "keeper", "phase", "issue", "blank"] : List Str).all (fun k => !(m == k)) = true) : List.lookup m (bilF b q) = none := look_none rfl h
theorem lkP {a : Ha} {d : Int} : List.lookup ("purses" : Str) (hallF a d) = some (V.ref a.pu) := lk1
theorem lkF {a : Ha} {d : Int} : List.lookup ("failed" : Str) (hallF a d) = some (V.ref a.fl) := (lk2 (by decide +kernel)).trans lk1
theorem lkD {a : Ha} {d : Int} : List.lookup ("day" : Str) (hallF a d) = some (V.int d) := (lk2 (by decide +kernel)).trans ((lk2 (by decide +kernel)).trans lk1)
theorem lkB {a : Ha} {d : Int} : List.lookup ("bills" : Str) (hallF a d) = some (V.ref a.bl) := (lk2 (by decide +kernel)).trans ((lk2 (by decide +kernel)).trans ((lk2 (by decide +kernel)).trans lk1))
theorem lkS {a : Ha} {d : Int} : List.lookup ("deeds" : Str) (hallF a d) = some (V.ref a.dl) := (lk2 (by decide +kernel)).trans ((lk2 (by decide +kernel)).trans ((lk2 (by decide +kernel)).trans ((lk2 (by decide +kernel)).trans lk1)))
theorem W.e_pu (w : W B G H a s) (U : Ux K mg B) (h : EvV te σ G H (.ref a.h)) : EvV (tFld K te "purses") σ G H (.ref a.pu) := by
  obtain ⟨dx, e⟩ := w.hh
  exact evv_fld h e U.cl_Hall U.n_Hall_purses lkP
theorem W.e_fl (w : W B G H a s) (U : Ux K mg B) (h : EvV te σ G H (.ref a.h)) : EvV (tFld K te "failed") σ G H (.ref a.fl) := by
  obtain ⟨dx, e⟩ := w.hh
  exact evv_fld h e U.cl_Hall U.n_Hall_failed lkF
theorem W.e_bl (w : W B G H a s) (U : Ux K mg B) (h : EvV te σ G H (.ref a.h)) : EvV (tFld K te "bills") σ G H (.ref a.bl) := by
  obtain ⟨dx, e⟩ := w.hh
  exact evv_fld h e U.cl_Hall U.n_Hall_bills lkB
theorem W.e_dl (w : W B G H a s) (U : Ux K mg B) (h : EvV te σ G H (.ref a.h)) : EvV (tFld K te "deeds") σ G H (.ref a.dl) := by
  obtain ⟨dx, e⟩ := w.hh
  exact evv_fld h e U.cl_Hall U.n_Hall_deeds lkS
theorem W.e_day (w : W B G H a s) (U : Ux K mg B) (h : EvV te σ G H (.ref a.h)) : EvD (tFld K te "day") σ G H (.int s.day) := by
  obtain ⟨dx, e⟩ := w.hh
  exact ev_fld h e U.cl_Hall U.n_Hall_day lkD (.int _)
section
variable {i : Nat} {p q : Addr} {b : Bil}
theorem BilAt.e_drawee (x : BilAt B G H a s i p q b) (U : Ux K mg B) (h : EvV te σ G H (.ref p)) : EvD (tFld K te "drawee") σ G H (.str b.drawee) := by
  obtain ⟨dx, e⟩ := x.hp
  exact ev_fld h e U.cl_Bill U.n_Bill_drawee lk1 (.str _)
theorem BilAt.e_payee (x : BilAt B G H a s i p q b) (U : Ux K mg B) (h : EvV te σ G H (.ref p)) : EvD (tFld K te "payee") σ G H (.str b.payee) := by
  obtain ⟨dx, e⟩ := x.hp
  exact ev_fld h e U.cl_Bill U.n_Bill_payee ((lk2 (by decide +kernel)).trans lk1) (.str _)
theorem BilAt.e_amount (x : BilAt B G H a s i p q b) (U : Ux K mg B) (h : EvV te σ G H (.ref p)) : EvD (tFld K te "amount") σ G H (.int b.amount) := by
  obtain ⟨dx, e⟩ := x.hp
  exact ev_fld h e U.cl_Bill U.n_Bill_amount ((lk2 (by decide +kernel)).trans ((lk2 (by decide +kernel)).trans lk1)) (.int _)
theorem BilAt.e_due (x : BilAt B G H a s i p q b) (U : Ux K mg B) (h : EvV te σ G H (.ref p)) : EvD (tFld K te "due") σ G H (.int b.due) := by
  obtain ⟨dx, e⟩ := x.hp
  exact ev_fld h e U.cl_Bill U.n_Bill_due ((lk2 (by decide +kernel)).trans ((lk2 (by decide +kernel)).trans ((lk2 (by decide +kernel)).trans lk1))) (.int _)
theorem BilAt.e_places (x : BilAt B G H a s i p q b) (U : Ux K mg B) (h : EvV te σ G H (.ref p)) : EvV (tFld K te "places") σ G H (.ref q) := by
  obtain ⟨dx, e⟩ := x.hp
  exact evv_fld h e U.cl_Bill U.n_Bill_places ((lk2 (by decide +kernel)).trans ((lk2 (by decide +kernel)).trans ((lk2 (by decide +kernel)).trans ((lk2 (by decide +kernel)).trans lk1))))
theorem BilAt.e_keeper (x : BilAt B G H a s i p q b) (U : Ux K mg B) (h : EvV te σ G H (.ref p)) : EvD (tFld K te "keeper") σ G H (.str b.keeper) := by
  obtain ⟨dx, e⟩ := x.hp
  exact ev_fld h e U.cl_Bill U.n_Bill_keeper ((lk2 (by decide +kernel)).trans ((lk2 (by decide +kernel)).trans ((lk2 (by decide +kernel)).trans ((lk2 (by decide +kernel)).trans ((lk2 (by decide +kernel)).trans lk1))))) (.str _)
theorem BilAt.e_phase (x : BilAt B G H a s i p q b) (U : Ux K mg B) (h : EvV te σ G H (.ref p)) : EvD (tFld K te "phase") σ G H (.str b.phase) := by
  obtain ⟨dx, e⟩ := x.hp
  exact ev_fld h e U.cl_Bill U.n_Bill_phase ((lk2 (by decide +kernel)).trans ((lk2 (by decide +kernel)).trans ((lk2 (by decide +kernel)).trans ((lk2 (by decide +kernel)).trans ((lk2 (by decide +kernel)).trans ((lk2 (by decide +kernel)).trans lk1)))))) (.str _)
theorem BilAt.e_issue (x : BilAt B G H a s i p q b) (U : Ux K mg B) (h : EvV te σ G H (.ref p)) : EvD (tFld K te "issue") σ G H (.int b.issue) := by
  obtain ⟨dx, e⟩ := x.hp
  exact ev_fld h e U.cl_Bill U.n_Bill_issue ((lk2 (by decide +kernel)).trans ((lk2 (by decide +kernel)).trans ((lk2 (by decide +kernel)).trans ((lk2 (by decide +kernel)).trans ((lk2 (by decide +kernel)).trans ((lk2 (by decide +kernel)).trans ((lk2 (by decide +kernel)).trans lk1))))))) (.int _)
theorem BilAt.e_blank (x : BilAt B G H a s i p q b) (U : Ux K mg B) (h : EvV te σ G H (.ref p)) : EvD (tFld K te "blank") σ G H (.bool b.blank) := by
  obtain ⟨dx, e⟩ := x.hp
  exact ev_fld h e U.cl_Bill U.n_Bill_blank ((lk2 (by decide +kernel)).trans ((lk2 (by decide +kernel)).trans ((lk2 (by decide +kernel)).trans ((lk2 (by decide +kernel)).trans ((lk2 (by decide +kernel)).trans ((lk2 (by decide +kernel)).trans ((lk2 (by decide +kernel)).trans ((lk2 (by decide +kernel)).trans lk1)))))))) (.bl _)
end
end
/-! ### questions: promises and calls -/
abbrev spQ (B : Bd) {α : Type} (f : Hl → α → Except Kd PyData) (args : α → List PyData) : Sp := fun vs H Q E => ∃ (G : Hp) (a : Ha) (s : Hl) (x : α) (us : List V), vs = .ref a.h :: us ∧ Dxs G us (args x) ∧ W B G H a s ∧ Ok s ∧
  (∀ k, f s x = .error k → ∀ G' H', Gr [] G H G' H' → E (.ref (B.cls k)) none H') ∧ (∀ d, f s x = .ok d → ∀ v G' H', Gr [] G H G' H' → Dx G' v d → Q v H')
abbrev spQM (B : Bd) {α : Type} (f : Hl → α → Except Kd (List PyData)) (args : α → List PyData) : Sp := fun vs H Q E => ∃ (G : Hp) (a : Ha) (s : Hl) (x : α) (us : List V), vs = .ref a.h :: us ∧ Dxs G us (args x) ∧ W B G H a s ∧ Ok s ∧
  (∀ k, f s x = .error k → ∀ G' H', Gr [] G H G' H' → E (.ref (B.cls k)) none H') ∧ (∀ ds, f s x = .ok ds → ∀ p xs G' H', Gr [] G H G' H' → H p = none → G' p = none → H' p = some (.lst xs) → Dxs G' xs ds → Q (.ref p) H')
section
variable {B : Bd} {G H : Hp} {a : Ha} {s : Hl} {σ : L2.St} {te : TE} {t : TA} {E : XK} {α : Type} {args : α → List PyData} {m : Str}
theorem x_meth {f : Hl → α → Except Kd PyData} (x : α) (h0 : EvV te σ G H (.ref a.h)) (w : W B G H a s) (o : Ok s) (ht : EvA t σ G H (args x)) (hm : (["purses", "failed", "day", "bills", "deeds"] : List Str).all (fun k => !(m == k)) = true := by decide +kernel) :
    EvX (tMeth B.C_Hall m (spQ B f args) [] E te t) σ G H B E (f s x) := fun G1 H1 g Q e q => h0 G1 H1 g _ fun G2 H2 g2 => by
  obtain ⟨dx, hh⟩ := (w.step (g.trans g2)).hh
  refine ⟨a.h, dx, _, rfl, hh, hall_look hm, ht G2 H2 (g.trans g2) _ fun vs G3 H3 g3 xs => ?_⟩
  exact ⟨G3, a, s, x, vs, by rw [List.append_nil], xs, w.step (g.trans (g2.trans g3)), o, fun k hk G4 H4 g4 => e k hk G4 H4 (g2.trans (g3.trans g4)), fun d hd v G4 H4 g4 y => q d hd v G4 H4 (g2.trans (g3.trans g4)) y⟩
theorem xm_meth {f : Hl → α → Except Kd (List PyData)} (x : α) (h0 : EvV te σ G H (.ref a.h)) (w : W B G H a s) (o : Ok s) (ht : EvA t σ G H (args x)) (hm : (["purses", "failed", "day", "bills", "deeds"] : List Str).all (fun k => !(m == k)) = true := by decide +kernel) :
    EvXM (tMeth B.C_Hall m (spQM B f args) [] E te t) σ G H B E (f s x) := fun G1 H1 g Q e q => h0 G1 H1 g _ fun G2 H2 g2 => by
  obtain ⟨dx, hh⟩ := (w.step (g.trans g2)).hh
  refine ⟨a.h, dx, _, rfl, hh, hall_look hm, ht G2 H2 (g.trans g2) _ fun vs G3 H3 g3 xs => ?_⟩
  exact ⟨G3, a, s, x, vs, by rw [List.append_nil], xs, w.step (g.trans (g2.trans g3)), o, fun k hk G4 H4 g4 => e k hk G4 H4 (g2.trans (g3.trans g4)), fun d hd p ys G4 H4 g4 h0 hn hl y => q d hd p ys G4 H4 (g2.trans (g3.trans g4)) ((g2.trans g3).free h0) hn hl y⟩
theorem x_call {f : Hl → α → Except Kd PyData} (x : α) (h0 : EvV te σ G H (.ref a.h)) (w : W B G H a s) (o : Ok s) (ht : EvA t σ G H (args x)) : EvX (tCall (spQ B f args) [] E (tCons te t)) σ G H B E (f s x) := fun G1 H1 g Q e q => h0 G1 H1 g _ fun G2 H2 g2 =>
  ht G2 H2 (g.trans g2) _ fun vs G3 H3 g3 xs => ⟨G3, a, s, x, vs, by rw [List.append_nil], xs, w.step (g.trans (g2.trans g3)), o, fun k hk G4 H4 g4 => e k hk G4 H4 (g2.trans (g3.trans g4)), fun d hd v G4 H4 g4 y => q d hd v G4 H4 (g2.trans (g3.trans g4)) y⟩
theorem xm_call {f : Hl → α → Except Kd (List PyData)} (x : α) (h0 : EvV te σ G H (.ref a.h)) (w : W B G H a s) (o : Ok s) (ht : EvA t σ G H (args x)) : EvXM (tCall (spQM B f args) [] E (tCons te t)) σ G H B E (f s x) := fun G1 H1 g Q e q => h0 G1 H1 g _ fun G2 H2 g2 =>
  ht G2 H2 (g.trans g2) _ fun vs G3 H3 g3 xs => ⟨G3, a, s, x, vs, by rw [List.append_nil], xs, w.step (g.trans (g2.trans g3)), o, fun k hk G4 H4 g4 => e k hk G4 H4 (g2.trans (g3.trans g4)), fun d hd p ys G4 H4 g4 h0 hn hl y => q d hd p ys G4 H4 (g2.trans (g3.trans g4)) ((g2.trans g3).free h0) hn hl y⟩
end

end
end

-- hs1.txt
section

local macro_rules | `(tactic| walk_at "arith") => `(tactic| first | omega | decide | (unfold CMul; omega) | (unfold CDiv; omega) | (unfold CPow; decide) | (refine ⟨?_, ?_⟩ <;> omega) | (simp; done) | (simp; omega))
local macro_rules | `(tactic| walk_at "wide") => `(tactic| exact ⟨by decide, by decide +kernel⟩)
section
variable {P : Program} {w : World} {K : PySem.W.Frag} {mg : Str → Option Value} {base : Heap} {A : Ad}
/-! ### the hall's questions -/
abbrev spP (B : Bd) {α : Type} (f : α → Except Kd PyData) (args : α → List PyData) : Sp := fun vs H Q E => ∃ (G : Hp) (x : α), Sb G H ∧ Dxs G vs (args x) ∧
  (∀ k, f x = .error k → ∀ G' H', Gr [] G H G' H' → E (.ref (B.cls k)) none H') ∧ (∀ d, f x = .ok d → ∀ v G' H', Gr [] G H G' H' → Dx G' v d → Q v H')
theorem x_fn {B : Bd} {G H : Hp} {σ : L2.St} {t : TA} {E : XK} {α : Type} {args : α → List PyData} {f : α → Except Kd PyData} (x : α) (ht : EvA t σ G H (args x)) : EvX (tCall (spP B f args) [] E t) σ G H B E (f x) := fun G1 H1 g Q e q =>
  ht G1 H1 g _ fun vs G2 H2 g2 xs => ⟨G2, x, g2.s, by rw [List.append_nil]; exact xs, fun k hk G4 H4 g4 => e k hk G4 H4 (g2.trans g4), fun d hd v G4 H4 g4 y => q d hd v G4 H4 (g2.trans g4) y⟩
def chkCoins (x : Int × Int) : Except Kd PyData := if x.2 ≤ x.1 ∧ x.1 ≤ 1000000000000 then .ok .none else .error .BadCoins
abbrev spChk (B : Bd) : Sp := spP B chkCoins fun x => [.int x.1, .int x.2]
theorem ok_check_coins {B : Bd} (T : Txt K mg A) (U : Ux K mg B) : FnOk P w K mg base (L2.CX P w) 1 A.a_check_coins A.d_check_coins ["coins", "least"] (spChk B) := by
  refine T.F_check_coins.okX sc_check_coins (fun vs H Q E h => ?_) (fun cdv A' outer st H vs Q E hr h => ?_)
  · obtain ⟨_, _, _, hx, _⟩ := h; exact hx.len
  · obtain ⟨G, ⟨c, l⟩, s0, hx, kE, kQ⟩ := h
    obtain ⟨v0, v1, rfl, h_coins, h_least⟩ := dxs2 hx
    refine ⟨_, (pss_one (ps_if (pt_not (pt_chain op_le op_le (pv 1) (pv 0) (pe_glob (v := .int 1000000000000) (by rfl) T.g_MOST_COINS ⟨_, rfl⟩)))
      (pss_one (ps_raise rfl (takes_of rfl rfl rfl rfl) (pmk_own PySem.F.excBase_ValueError U.x_BadCoins.x U.x_BadCoins.g U.x_BadCoins.k (raises_own U.x_BadCoins.b U.x_BadCoins.t) (by exact rfl))))
      pss_nil)), ?_⟩
    refine s_if (b := !(decide (l ≤ c) && decide (c ≤ 1000000000000))) (et_not (et_test (ev_chain (ev_var rfl h_least) (ev_var rfl h_coins) rd_le (fun _ => ev_int) (fun _ => rd_le)))) s0 (fun hb G1 H1 g1 => ?_) (fun hb G1 H1 g1 => ?_)
    · refine kE .BadCoins ?_ G1 H1 g1
      have hn : ¬ (l ≤ c ∧ c ≤ 1000000000000) := fun ⟨h1, h2⟩ => by
        rw [decide_eq_true h1, decide_eq_true h2] at hb; cases hb
      exact if_neg hn
    · refine kQ .none ?_ .non G1 H1 g1 .non
      unfold chkCoins
      rw [if_pos (by simpa using hb)]
def runR (b : Bil) : Except Kd PyData := if b.phase = "running" then .ok .none else .error .Closed
abbrev spRun (B : Bd) : Sp := fun vs H Q E => ∃ (G : Hp) (a : Ha) (s : Hl) (i : Nat) (p q : Addr) (b : Bil), vs = [.ref p] ∧ W B G H a s ∧ BilAt B G H a s i p q b ∧
  (∀ k, runR b = .error k → ∀ G' H', Gr [] G H G' H' → E (.ref (B.cls k)) none H') ∧ (∀ d, runR b = .ok d → ∀ v G' H', Gr [] G H G' H' → Dx G' v d → Q v H')
theorem x_run {B : Bd} {G H : Hp} {σ : L2.St} {te : TE} {E : XK} {a : Ha} {s : Hl} {i : Nat} {p q : Addr} {b : Bil} (h0 : EvV te σ G H (.ref p)) (w : W B G H a s) (x : BilAt B G H a s i p q b) : EvX (tCall (spRun B) [] E (tCons te tNil)) σ G H B E (runR b) := fun G1 H1 g Q e q' =>
  h0 G1 H1 g _ fun G2 H2 g2 => ⟨G2, a, s, i, p, q, b, rfl, w.step (g.trans g2), x.step (g.trans g2), fun k hk G4 H4 g4 => e k hk G4 H4 (g2.trans g4), fun d hd v G4 H4 g4 y => q' d hd v G4 H4 (g2.trans g4) y⟩
theorem ok_check_running {B : Bd} (T : Txt K mg A) (U : Ux K mg B) : FnOk P w K mg base (L2.CX P w) 1 A.a_check_running A.d_check_running ["drawn"] (spRun B) := by
  refine T.F_check_running.okX sc_check_running (fun vs H Q E h => ?_) (fun cdv A' outer st H vs Q E hr h => ?_)
  · obtain ⟨_, _, _, _, _, _, _, rfl, _⟩ := h; rfl
  · obtain ⟨G, a, s, i, p, q, b, rfl, hW, hB, kE, kQ⟩ := h
    refine ⟨_, (pss_one (ps_if (pt_cmpR op_ne (pe_fld (pv 0) rfl) (pe_glob (v := .str "running") (by rfl) T.g_RUNNING ⟨_, rfl⟩) (nomark _))
      (pss_one (ps_raise rfl (takes_of rfl rfl rfl rfl) (pmk_own PySem.F.excBase_ValueError U.x_Closed.x U.x_Closed.g U.x_Closed.k (raises_own U.x_Closed.b U.x_Closed.t) (by exact rfl))))
      pss_nil)), ?_⟩
    refine s_if (b := !decide (b.phase = "running")) (et_test (ev_op (hB.e_phase U (evv_var rfl)) ev_str rd_neS)) hW.sb (fun hb G1 H1 g1 => ?_) (fun hb G1 H1 g1 => ?_)
    · exact kE .Closed (by unfold runR; rw [if_neg (by simpa using hb)]) G1 H1 g1
    · exact kQ .none (by unfold runR; rw [if_pos (by simpa using hb)]) .non G1 H1 g1 .non
section
variable {B : Bd} {G H : Hp} {a : Ha} {s : Hl} {σ : L2.St} {te ta : TE} {t : TA} {E : XK}
theorem em_names (w : W B G H a s) (o : Ok s) (h0 : EvV te σ G H (.ref a.pu)) : EvM (tMeth B.C_Purses "all_names" (spMNames B) [] E te tNil) σ G H ((srt (nms s.m)).map .str) := fun G1 H1 g Q q => h0 G1 H1 g _ fun G2 H2 g2 => by
  have w2 := w.step (g.trans g2)
  obtain ⟨dx, hp⟩ := w2.hp
  have om := o.m
  refine ⟨a.pu, dx, _, rfl, hp, no_meth (by decide +kernel), a.pu, a.hd, s.m, rfl, w2.pu o, by omega, fun ys l hy hs hl => ?_⟩
  rw [srt_of hy hs]
  exact q l _ G2 _ (g2.own hl) (g2.free hl) (g2.s.none hl) upd_same (dxs_strs _)
def coinsR (s : Hl) (z : Str) : Except Kd PyData := match get s.m z with
  | none => .error .NoHouse
  | some c => .ok (.int c)
theorem x_mcoins {z : Str} (w : W B G H a s) (o : Ok s) (h0 : EvV te σ G H (.ref a.pu)) (ha : EvA t σ G H [.str z]) : EvX (tMeth B.C_Purses "coins" (spCoins B) [] E te t) σ G H B E (coinsR s z) := fun G1 H1 g Q e q => h0 G1 H1 g _ fun G2 H2 g2 => by
  obtain ⟨dx, hp⟩ := (w.step (g.trans g2)).hp
  refine ⟨a.pu, dx, _, rfl, hp, no_meth (by decide +kernel), ha G2 H2 (g.trans g2) _ fun vs G3 H3 g3 xs => ?_⟩
  obtain ⟨v, rfl, hv⟩ := dxs1 xs
  obtain rfl := hv.str_eq
  refine ⟨a.pu, a.hd, s.m, z, rfl, (w.step (g.trans (g2.trans g3))).pu o, fun hn => ?_, fun c hc => ?_⟩
  · exact e .NoHouse (by unfold coinsR; rw [hn]) G3 H3 (g2.trans g3)
  · exact q (.int c) (by unfold coinsR; rw [hc]) (.int c) G3 H3 (g2.trans g3) (.int c)
end
def houseR (s : Hl) (z : Str) : Except Kd PyData := if (get s.m z).isSome = true then .ok .none else .error .NoHouse
abbrev aS : Str → List PyData := fun z => [.str z]
theorem ok_Hcheckhouse {B : Bd} (T : Txt K mg A) (U : Ux K mg B) : FnOk P w K mg base (L2.CX P w) 2 B.a_Hcheckhouse B.d_Hcheckhouse ["self", "name"] (spQ B houseR aS) := by
  have G_Mallnames := ok_Mnames (P := P) (w := w) (base := base) T U
  refine U.F_Hcheckhouse.okX sc_Hcheckhouse (fun vs H Q E h => ?_) (fun cdv A' outer st H vs Q E hr h => ?_)
  · obtain ⟨_, _, _, _, _, rfl, hx, _⟩ := h
    show _ + 1 = 2
    rw [hx.len]; rfl
  · obtain ⟨G, a, s, z, us, rfl, hx, hW, hO, kE, kQ⟩ := h
    obtain ⟨v1, rfl, h_name⟩ := dxs1 hx
    refine ⟨_, (pss_one (ps_if (pt_cmpR (op_ninK (K := K)) (pv 1) (pe_meth0 (pe_fld (pv 0) rfl) U.cl_Purses U.m_Mallnames G_Mallnames (hr.mono (by omega)) U.b_Mallnames .nil pass0) rfl)
      (pss_one (ps_raise rfl (takes_of rfl rfl rfl rfl) (pmk_ownA PySem.F.excBase_ValueError U.x_NoHouse.x U.x_NoHouse.g U.x_NoHouse.k (raises_own U.x_NoHouse.b U.x_NoHouse.t) (by exact rfl) (pa_cons (pv 1) pa_nil))))
      pss_nil)), ?_⟩
    refine s_if (b := !decide (z ∈ srt (nms s.m))) (et_test (ev_inS (neg := true) (ev_var rfl h_name) (em_names hW hO (hW.e_pu U (evv_var rfl))).dat)) hW.sb (fun hb G1 H1 g1 => ?_) (fun hb G1 H1 g1 => ?_)
    · refine ⟨_, rfl, one_le, kE .NoHouse ?_ G1 H1 g1⟩
      unfold houseR
      rw [if_neg (by rw [← mem_nms, ← mem_srt]; simpa using hb)]
    · refine kQ .none ?_ .non G1 H1 g1 .non
      unfold houseR
      rw [if_pos (by rw [← mem_nms, ← mem_srt]; simpa using hb)]
def standingR (s : Hl) (z : Str) : Except Kd PyData := if z ∈ s.fl then .error .Failed else .ok .none
theorem ok_Hcheckstanding {B : Bd} (T : Txt K mg A) (U : Ux K mg B) : FnOk P w K mg base (L2.CX P w) 1 B.a_Hcheckstanding B.d_Hcheckstanding ["self", "name"] (spQ B standingR aS) := by
  refine U.F_Hcheckstanding.okX sc_Hcheckstanding (fun vs H Q E h => ?_) (fun cdv A' outer st H vs Q E hr h => ?_)
  · obtain ⟨_, _, _, _, _, rfl, hx, _⟩ := h
    show _ + 1 = 2
    rw [hx.len]; rfl
  · obtain ⟨G, a, s, z, us, rfl, hx, hW, hO, kE, kQ⟩ := h
    obtain ⟨v1, rfl, h_name⟩ := dxs1 hx
    refine ⟨_, (pss_one (ps_if (pt_cmpR (op_inK (K := K)) (pv 1) (pe_fld (pv 0) rfl) rfl)
      (pss_one (ps_raise rfl (takes_of rfl rfl rfl rfl) (pmk_ownA PySem.F.excBase_ValueError U.x_Failed.x U.x_Failed.g U.x_Failed.k (raises_own U.x_Failed.b U.x_Failed.t) (by exact rfl) (pa_cons (pv 1) pa_nil))))
      pss_nil)), ?_⟩
    refine s_if (b := decide (z ∈ s.fl)) (et_test (ev_inV (neg := false) (ev_var rfl h_name) (hW.e_fl U (evv_var rfl)) hW.hf)) hW.sb (fun hb G1 H1 g1 => ?_) (fun hb G1 H1 g1 => ?_)
    · refine ⟨_, rfl, one_le, kE .Failed ?_ G1 H1 g1⟩
      unfold standingR
      rw [if_pos (by simpa using hb)]
    · refine kQ .none ?_ .non G1 H1 g1 .non
      unfold standingR
      rw [if_neg (by simpa using hb)]
abbrev spHnames (B : Bd) : Sp := spQM B (α := Unit) (fun s _ => .ok ((srt (nms s.m)).map .str)) fun _ => []
theorem ok_Hnames {B : Bd} (T : Txt K mg A) (U : Ux K mg B) : FnOk P w K mg base CX0 2 B.a_Hnames B.d_Hnames ["self"] (spHnames B) := by
  have G_Mallnames := ok_Mnames (P := P) (w := w) (base := base) T U
  refine U.F_Hnames.ok sc_Hnames (fun vs H Q E h => ?_) (fun cdv A' outer st H vs Q E hr h => ?_)
  · obtain ⟨_, _, _, _, _, rfl, hx, _⟩ := h
    show _ + 1 = 1
    rw [hx.len]; rfl
  · obtain ⟨G, a, s, z, us, rfl, hx, hW, hO, kE, kQ⟩ := h
    cases hx
    refine ⟨_, (pss_one (ps_ret (pe_meth0 (pe_fld (pv 0) rfl) U.cl_Purses U.m_Mallnames G_Mallnames (hr.mono (by omega)) U.b_Mallnames .nil pass0))), ?_⟩
    exact s_retM (em_names hW hO (hW.e_pu U (evv_var rfl))) hW.sb fun p xs G1 H1 g1 h0 hn hl hx => kQ _ rfl p xs G1 H1 g1 h0 hn hl hx
theorem ok_Hcoins {B : Bd} (T : Txt K mg A) (U : Ux K mg B) : FnOk P w K mg base (L2.CX P w) 2 B.a_Hcoins B.d_Hcoins ["self", "name"] (spQ B coinsR aS) := by
  have G_Mcoins := ok_Mcoins (P := P) (w := w) (base := base) T U
  refine U.F_Hcoins.okX sc_Hcoins (fun vs H Q E h => ?_) (fun cdv A' outer st H vs Q E hr h => ?_)
  · obtain ⟨_, _, _, _, _, rfl, hx, _⟩ := h
    show _ + 1 = 2
    rw [hx.len]; rfl
  · obtain ⟨G, a, s, z, us, rfl, hx, hW, hO, kE, kQ⟩ := h
    obtain ⟨v1, rfl, h_name⟩ := dxs1 hx
    refine ⟨_, (pss_one (ps_ret (pe_meth (pe_fld (pv 0) rfl) U.cl_Purses U.m_Mcoins G_Mcoins (hr.mono (by omega)) U.b_Mcoins .nil (passes_call (takes_of rfl rfl rfl rfl) fun _ _ _ _ z => z) (by exact (pa_cons (pv 1) pa_nil))))), ?_⟩
    exact s_retX (x_mcoins hW hO (hW.e_pu U (evv_var rfl)) (ea_cons (ev_var rfl h_name) ea_nil)) hW.sb kE fun d hd v G1 H1 g1 x => kQ d hd v G1 H1 g1 x
def standsS (s : Hl) (z : Str) : Str := if z ∈ s.fl then "failed" else "open"
def standsR (s : Hl) (z : Str) : Except Kd PyData := if (get s.m z).isSome = true then .ok (.str (standsS s z)) else .error .NoHouse
theorem ok_Hstands {B : Bd} (T : Txt K mg A) (U : Ux K mg B) : FnOk P w K mg base (L2.CX P w) 3 B.a_Hstands B.d_Hstands ["self", "name"] (spQ B standsR aS) := by
  have G_Hcheckhouse := ok_Hcheckhouse (P := P) (w := w) (base := base) T U
  refine U.F_Hstands.okX sc_Hstands (fun vs H Q E h => ?_) (fun cdv A' outer st H vs Q E hr h => ?_)
  · obtain ⟨_, _, _, _, _, rfl, hx, _⟩ := h
    show _ + 1 = 2
    rw [hx.len]; rfl
  · obtain ⟨G, a, s, z, us, rfl, hx, hW, hO, kE, kQ⟩ := h
    obtain ⟨v1, rfl, h_name⟩ := dxs1 hx
    refine ⟨_, (pss_cons (ps_expr (pe_meth (pv 0) U.cl_Hall U.m_Hcheckhouse G_Hcheckhouse (hr.mono (by omega)) U.b_Hcheckhouse .nil (passes_call (takes_of rfl rfl rfl rfl) fun _ _ _ _ z => z) (by exact (pa_cons (pv 1) pa_nil))))
      (pss_one (ps_ret (pe_ifExp (pt_cmpR (op_inK (K := K)) (pv 1) (pe_fld (pv 0) rfl) rfl) pe_str pe_str)))), ?_⟩
    refine q_dropX (x_meth z (evv_var rfl) hW hO (ea_cons (ev_var rfl h_name) ea_nil)) hW.sb (fun k hk G1 H1 g1 => kE k ?_ G1 H1 g1) fun d hd G1 H1 g1 => ?_
    · unfold houseR at hk
      unfold standsR
      split at hk
      · cases hk
      · rename_i h; cases hk; rw [if_neg h]
    · have hh : (get s.m z).isSome = true := by
        unfold houseR at hd
        split at hd
        · assumption
        · cases hd
      have hW := hW.step g1
      have h_name := h_name.mono g1.g
      refine s_ret (d := .str (standsS s z)) (ev_if (b := decide (z ∈ s.fl)) (et_test (ev_inV (neg := false) (ev_var rfl h_name) (hW.e_fl U (evv_var rfl)) hW.hf)) (fun hb => ev_is ev_str (by unfold standsS; rw [if_pos (of_decide_eq_true hb)])) (fun hb => ev_is ev_str (by unfold standsS; rw [if_neg (of_decide_eq_false hb)]))) hW.sb fun v G2 H2 g2 hv => ?_
      exact kQ _ (by unfold standsR; rw [if_pos hh]) v G2 H2 (g1.trans g2) hv
def canB (s : Hl) (z : Str) (c : Int) : Bool := !decide (z ∈ s.fl) && decide (c ≤ (get s.m z).getD 0)
def canR (s : Hl) (x : Str × Int) : Except Kd PyData := if (get s.m x.1).isSome = true then .ok (.bool (canB s x.1 x.2)) else .error .NoHouse
abbrev aSI : Str × Int → List PyData := fun x => [.str x.1, .int x.2]
theorem stands_open {s : Hl} {z : Str} : decide (standsS s z = "open") = !decide (z ∈ s.fl) := by
  unfold standsS
  by_cases h : z ∈ s.fl
  · rw [if_pos h, decide_eq_true h]; decide +kernel
  · rw [if_neg h, decide_eq_false h]; decide +kernel
theorem ok_Hcanpay {B : Bd} (T : Txt K mg A) (U : Ux K mg B) : FnOk P w K mg base (L2.CX P w) 4 B.a_Hcanpay B.d_Hcanpay ["self", "name", "amount"] (spQ B canR aSI) := by
  have G_Hstands := ok_Hstands (P := P) (w := w) (base := base) T U
  have G_Hcoins := ok_Hcoins (P := P) (w := w) (base := base) T U
  refine U.F_Hcanpay.okX sc_Hcanpay (fun vs H Q E h => ?_) (fun cdv A' outer st H vs Q E hr h => ?_)
  · obtain ⟨_, _, _, _, _, rfl, hx, _⟩ := h
    show _ + 1 = 3
    rw [hx.len]; rfl
  · obtain ⟨G, a, s, ⟨z, c⟩, us, rfl, hx, hW, hO, kE, kQ⟩ := h
    obtain ⟨v1, v2, rfl, h_name, h_amount⟩ := dxs2 hx
    refine ⟨_, (pss_one (ps_ret (pe_and (pe_cmpR op_eq (pe_meth (pv 0) U.cl_Hall U.m_Hstands G_Hstands (hr.mono (by omega)) U.b_Hstands .nil (passes_call (takes_of rfl rfl rfl rfl) fun _ _ _ _ z => z) (by exact (pa_cons (pv 1) pa_nil))) pe_str (nomark _)) (pe_one (pe_cmpR op_ge (pe_meth (pv 0) U.cl_Hall U.m_Hcoins G_Hcoins (hr.mono (by omega)) U.b_Hcoins .nil (passes_call (takes_of rfl rfl rfl rfl) fun _ _ _ _ z => z) (by exact (pa_cons (pv 1) pa_nil))) (pv 2) (nomark _)))))), ?_⟩
    cases hg : get s.m z with
    | none =>
      have hk : standsR s z = .error .NoHouse := by unfold standsR; rw [hg]; rfl
      have hk2 : canR s (z, c) = .error .NoHouse := by unfold canR; rw [hg]; rfl
      exact (x_meth (f := standsR) (args := aS) z (evv_var rfl) hW hO (ea_cons (ev_var rfl h_name) ea_nil)).err hW.sb hk (fun G1 H1 g1 => kE _ hk2 G1 H1 g1) _
    | some y =>
      have h1 : standsR s z = .ok (.str (standsS s z)) := by unfold standsR; rw [hg]; rfl
      have h2 : coinsR s z = .ok (.int y) := by unfold coinsR; rw [hg]
      refine s_ret (d := .bool (canB s z c)) (ev_is (ev_andV (b := decide (standsS s z = "open")) (c := decide (c ≤ y)) (ev_op ((x_meth (f := standsR) (args := aS) z (evv_var rfl) hW hO (ea_cons (ev_var rfl h_name) ea_nil)).ok h1) ev_str rd_eqS)
        (fun _ => ev_op ((x_meth (f := coinsR) (args := aS) z (evv_var rfl) hW hO (ea_cons (ev_var rfl h_name) ea_nil)).ok h2) (ev_var rfl h_amount) rd_ge)) (by unfold canB; rw [stands_open, hg]; rfl)) hW.sb fun v G2 H2 g2 hv => ?_
      exact kQ _ (by unfold canR; rw [hg]; rfl) v G2 H2 g2 hv
def payerR (s : Hl) (x : Str × Int) : Except Kd PyData := if (get s.m x.1).isSome = true then (if canB s x.1 x.2 = true then .ok .none else .error .CantPay) else .error .NoHouse
theorem ok_Hcheckpayer {B : Bd} (T : Txt K mg A) (U : Ux K mg B) : FnOk P w K mg base (L2.CX P w) 5 B.a_Hcheckpayer B.d_Hcheckpayer ["self", "name", "amount"] (spQ B payerR aSI) := by
  have G_Hcanpay := ok_Hcanpay (P := P) (w := w) (base := base) T U
  refine U.F_Hcheckpayer.okX sc_Hcheckpayer (fun vs H Q E h => ?_) (fun cdv A' outer st H vs Q E hr h => ?_)
  · obtain ⟨_, _, _, _, _, rfl, hx, _⟩ := h
    show _ + 1 = 3
    rw [hx.len]; rfl
  · obtain ⟨G, a, s, ⟨z, c⟩, us, rfl, hx, hW, hO, kE, kQ⟩ := h
    obtain ⟨v1, v2, rfl, h_name, h_amount⟩ := dxs2 hx
    refine ⟨_, (pss_one (ps_if (pt_not (pt_val (pe_meth (pv 0) U.cl_Hall U.m_Hcanpay G_Hcanpay (hr.mono (by omega)) U.b_Hcanpay .nil (passes_call (takes_of rfl rfl rfl rfl) fun _ _ _ _ z => z) (by exact (pa_cons (pv 1) (pa_cons (pv 2) pa_nil))))))
      (pss_one (ps_raise rfl (takes_of rfl rfl rfl rfl) (pmk_ownA PySem.F.excBase_ValueError U.x_CantPay.x U.x_CantPay.g U.x_CantPay.k (raises_own U.x_CantPay.b U.x_CantPay.t) (by exact rfl) (pa_cons (pv 1) pa_nil))))
      pss_nil)), ?_⟩
    by_cases hg : (get s.m z).isSome = true
    · have h1 : canR s (z, c) = .ok (.bool (canB s z c)) := by unfold canR; rw [if_pos hg]
      refine s_if (b := !canB s z c) (et_not (et_B ((x_meth (f := canR) (args := aSI) (z, c) (evv_var rfl) hW hO (ea_cons (ev_var rfl h_name) (ea_cons (ev_var rfl h_amount) ea_nil))).ok h1))) hW.sb (fun hb G1 H1 g1 => ?_) (fun hb G1 H1 g1 => ?_)
      · refine ⟨_, rfl, one_le, kE .CantPay ?_ G1 H1 g1⟩
        unfold payerR
        rw [if_pos hg, if_neg (by simpa using hb)]
      · refine kQ .none ?_ .non G1 H1 g1 .non
        unfold payerR
        rw [if_pos hg, if_pos (by simpa using hb)]
    · have hk : canR s (z, c) = .error .NoHouse := by unfold canR; rw [if_neg hg]
      have hk2 : payerR s (z, c) = .error .NoHouse := by unfold payerR; rw [if_neg hg]
      exact (x_meth (f := canR) (args := aSI) (z, c) (evv_var rfl) hW hO (ea_cons (ev_var rfl h_name) (ea_cons (ev_var rfl h_amount) ea_nil))).err hW.sb hk (fun G1 H1 g1 => kE _ hk2 G1 H1 g1) _

end
end

-- hs2.txt
section

local macro_rules | `(tactic| walk_at "arith") => `(tactic| first | omega | decide | (unfold CMul; omega) | (unfold CDiv; omega) | (unfold CPow; decide) | (refine ⟨?_, ?_⟩ <;> omega) | (simp; done) | (simp; omega))
local macro_rules | `(tactic| walk_at "wide") => `(tactic| exact ⟨by decide, by decide +kernel⟩)
section
variable {P : Program} {w : World} {K : PySem.W.Frag} {mg : Str → Option Value} {base : Heap} {A : Ad}
/-! ### a bill by its number -/
instance : Inhabited Bil := ⟨⟨"", "", 0, 0, [], "", "", 0, false⟩⟩
def bilOf (s : Hl) (i : Nat) : Bil := s.bs.getD i default
theorem bilOf_eq {s : Hl} {i : Nat} {b : Bil} (h : s.bs[i]? = some b) : bilOf s i = b := by unfold bilOf; rw [List.getD_eq_getElem?_getD, h]; rfl
def findR (s : Hl) (n : Int) : Except Kd Nat := if 1 ≤ n ∧ n ≤ s.bs.length then .ok (n - 1).toNat else .error .NoBill
theorem findR_lt {s : Hl} {n : Int} {i : Nat} (h : findR s n = .ok i) : i < s.bs.length := by
  unfold findR at h
  split at h
  · cases h; omega
  · cases h
def copyR (s : Hl) (x : Int × Int) : Except Kd Nat := match findR s x.1 with
  | .error k => .error k
  | .ok i => if x.2 = (bilOf s i).issue then .ok i else .error .Void
theorem copyR_lt {s : Hl} {x : Int × Int} {i : Nat} (h : copyR s x = .ok i) : i < s.bs.length := by
  unfold copyR at h
  split at h
  · cases h
  · rename_i j hj
    split at h
    · cases h; exact findR_lt hj
    · cases h
abbrev spFind (B : Bd) {α : Type} (f : Hl → α → Except Kd Nat) (args : α → List PyData) : Sp := fun vs H Q E => ∃ (G : Hp) (a : Ha) (s : Hl) (x : α) (us : List V), vs = .ref a.h :: us ∧ Dxs G us (args x) ∧ W B G H a s ∧ Ok s ∧
  (∀ k, f s x = .error k → ∀ G' H', Gr [] G H G' H' → E (.ref (B.cls k)) none H') ∧ (∀ i, f s x = .ok i → ∀ p, a.ba[i]? = some p → ∀ G' H', Gr [] G H G' H' → Q (.ref p) H')
def tK (v : V) : TE := fun _ H Q => Q v H
section
variable {B : Bd} {G H : Hp} {a : Ha} {s : Hl} {σ : L2.St} {te : TE} {t : TA} {E : XK} {α : Type} {args : α → List PyData} {m : Str} {f : Hl → α → Except Kd Nat} {D : Ends} {tz : TS} {K : PySem.W.Frag} {mg : Str → Option Value}
theorem evv_K {v : V} : EvV (tK v) σ G H v := fun G1 H1 g Q q => q G1 H1 (.refl g.s)
theorem x_find (x : α) (h0 : EvV te σ G H (.ref a.h)) (w : W B G H a s) (o : Ok s) (ht : EvA t σ G H (args x)) (hi : ∀ i, f s x = .ok i → i < s.bs.length) (hm : (["purses", "failed", "day", "bills", "deeds"] : List Str).all (fun k => !(m == k)) = true := by decide +kernel)
    {G1 H1 : Hp} (g : Gr [] G H G1 H1) (Q : VK) (e : ∀ k, f s x = .error k → ∀ G2 H2, Gr [] G1 H1 G2 H2 → E (.ref (B.cls k)) none H2) (q : ∀ i p q b, f s x = .ok i → ∀ G2 H2, Gr [] G1 H1 G2 H2 → BilAt B G2 H2 a s i p q b → Q (.ref p) H2) :
    tMeth B.C_Hall m (spFind B f args) [] E te t σ H1 Q := h0 G1 H1 g _ fun G2 H2 g2 => by
  obtain ⟨dx, hh⟩ := (w.step (g.trans g2)).hh
  refine ⟨a.h, dx, _, rfl, hh, hall_look hm, ht G2 H2 (g.trans g2) _ fun vs G3 H3 g3 xs => ?_⟩
  refine ⟨G3, a, s, x, vs, by rw [List.append_nil], xs, w.step (g.trans (g2.trans g3)), o, fun k hk G4 H4 g4 => e k hk G4 H4 (g2.trans (g3.trans g4)), fun i hk p hp G4 H4 g4 => ?_⟩
  obtain ⟨p', q', b, hb⟩ := (w.step (g.trans (g2.trans (g3.trans g4)))).bil (hi i hk)
  have hp2 := hb.ap
  rw [hp] at hp2; cases hp2
  exact q i p q' b hk G4 H4 (g2.trans (g3.trans g4)) hb
theorem q_find {j : Nat} (x : α) (h0 : EvV te σ G H (.ref a.h)) (w : W B G H a s) (o : Ok s) (ht : EvA t σ G H (args x)) (hi : ∀ i, f s x = .ok i → i < s.bs.length)
    (e : ∀ k, f s x = .error k → ∀ G2 H2, Gr [] G H G2 H2 → E (.ref (B.cls k)) none H2) (q : ∀ i p q b, f s x = .ok i → ∀ G2 H2, Gr [] G H G2 H2 → BilAt B G2 H2 a s i p q b → tz D (σ.set j (some (.ref p))) H2) (hm : (["purses", "failed", "day", "bills", "deeds"] : List Str).all (fun k => !(m == k)) = true := by decide +kernel) :
    tSeq (tAsg (tMeth B.C_Hall m (spFind B f args) [] E te t) (gName j)) tz D σ H := x_find x h0 w o ht hi hm (.refl w.sb) _ e q
/-- a bill found, and then at once more of it -/
theorem x_findD {F : TE → TE} {d' : Bil → PyData} (x : α) (h0 : EvV te σ G H (.ref a.h)) (w : W B G H a s) (o : Ok s) (ht : EvA t σ G H (args x)) (hi : ∀ i, f s x = .ok i → i < s.bs.length) (hF : ∀ te' σ H Q, F te' σ H Q = te' σ H (fun y H' => F (tK y) σ H' Q))
    (hd : ∀ i p q b G' H', Gr [] G H G' H' → BilAt B G' H' a s i p q b → EvD (F (tK (.ref p))) σ G' H' (d' b)) (hm : (["purses", "failed", "day", "bills", "deeds"] : List Str).all (fun k => !(m == k)) = true := by decide +kernel) :
    EvX (F (tMeth B.C_Hall m (spFind B f args) [] E te t)) σ G H B E ((f s x).map fun i => d' (bilOf s i)) := fun G1 H1 g Q e q => by
  rw [hF]
  refine x_find x h0 w o ht hi hm g _ (fun k hk => e k (by rw [hk]; rfl)) fun i p q' b hk G2 H2 g2 hb => ?_
  exact hd i p q' b G2 H2 (g.trans g2) hb G2 H2 (.refl g2.s) _ fun v G3 H3 g3 y => q (d' b) (by rw [hk, ← bilOf_eq hb.hb]; rfl) v G3 H3 (g2.trans g3) y
theorem x_findM {F : TE → TE} {d' : Bil → List PyData} (x : α) (h0 : EvV te σ G H (.ref a.h)) (w : W B G H a s) (o : Ok s) (ht : EvA t σ G H (args x)) (hi : ∀ i, f s x = .ok i → i < s.bs.length) (hF : ∀ te' σ H Q, F te' σ H Q = te' σ H (fun y H' => F (tK y) σ H' Q))
    (hd : ∀ i p q b G' H', Gr [] G H G' H' → BilAt B G' H' a s i p q b → EvM (F (tK (.ref p))) σ G' H' (d' b)) (hm : (["purses", "failed", "day", "bills", "deeds"] : List Str).all (fun k => !(m == k)) = true := by decide +kernel) :
    EvXM (F (tMeth B.C_Hall m (spFind B f args) [] E te t)) σ G H B E ((f s x).map fun i => d' (bilOf s i)) := fun G1 H1 g Q e q => by
  rw [hF]
  refine x_find x h0 w o ht hi hm g _ (fun k hk => e k (by rw [hk]; rfl)) fun i p q' b hk G2 H2 g2 hb => ?_
  exact hd i p q' b G2 H2 (g.trans g2) hb G2 H2 (.refl g2.s) _ fun v xs G3 H3 g3 h0 hn hl y => q (d' b) (by rw [hk, ← bilOf_eq hb.hb]; rfl) v xs G3 H3 (g2.trans g3) (g2.free h0) hn hl y
end
abbrev aI : Int → List PyData := fun n => [.int n]
abbrev aII : Int × Int → List PyData := fun x => [.int x.1, .int x.2]
theorem ok_Hfindbill {B : Bd} (T : Txt K mg A) (U : Ux K mg B) : FnOk P w K mg base (L2.CX P w) 1 B.a_Hfindbill B.d_Hfindbill ["self", "bill"] (spFind B findR aI) := by
  refine U.F_Hfindbill.okX sc_Hfindbill (fun vs H Q E h => ?_) (fun cdv A' outer st H vs Q E hr h => ?_)
  · obtain ⟨_, _, _, _, _, rfl, hx, _⟩ := h
    show _ + 1 = 2
    rw [hx.len]; rfl
  · obtain ⟨G, a, s, n, us, rfl, hx, hW, hO, kE, kQ⟩ := h
    obtain ⟨v1, rfl, h_bill⟩ := dxs1 hx
    refine ⟨_, (pss_cons (ps_if (pt_not (pt_chain op_le op_le pe_int (pv 1) (pe_callB (call_lenK (K := K)) (by rfl) T.b.len (by decide +kernel) (pa_cons (pe_fld (pv 0) rfl) pa_nil))))
      (pss_one (ps_raise rfl (takes_of rfl rfl rfl rfl) (pmk_own PySem.F.excBase_ValueError U.x_NoBill.x U.x_NoBill.g U.x_NoBill.k (raises_own U.x_NoBill.b U.x_NoBill.t) (by exact rfl))))
      pss_nil)
      (pss_one (ps_ret (pe_ix (ix_listK (K := K)) (pe_fld (pv 0) rfl) (pe_op op_sub (pv 1) pe_int) (fun _ _ => rfl))))), ?_⟩
    refine q_when (b := !(decide (1 ≤ n) && decide (n ≤ (s.bs.length : Int)))) (et_not (et_test (ev_chain ev_int (ev_var rfl h_bill) rd_le (fun _ => ev_is (ev_lenV (hW.e_bl U (evv_var rfl)) hW.hb) (by rw [List.length_map, hW.la])) (fun _ => rd_le)))) hW.sb (fun hb G1 H1 g1 => ?_) (fun hb G1 H1 g1 => ?_)
    · refine kE .NoBill ?_ G1 H1 g1
      have hn : ¬ (1 ≤ n ∧ n ≤ s.bs.length) := fun ⟨h1, h2⟩ => by
        rw [decide_eq_true h1, decide_eq_true h2] at hb; cases hb
      exact if_neg hn
    · have hn : 1 ≤ n ∧ n ≤ s.bs.length := by simpa using hb
      have hf : findR s n = .ok (n - 1).toNat := if_pos hn
      have hW := hW.step g1
      have h_bill := h_bill.mono g1.g
      obtain ⟨p, q, b, hB⟩ := hW.bil (findR_lt hf)
      have hp : (a.ba.map V.ref)[(n - 1).toNat]? = some (V.ref p) := by rw [List.getElem?_map, hB.ap]; rfl
      have e1 : ((n - 1).toNat : Int) = n - 1 := by omega
      exact retI (evv_ix (hW.e_bl U (evv_var rfl)) hW.hb (ev_op (ev_var rfl h_bill) ev_int rd_sub) (by rw [← e1]; exact atI_nat hp) G1 H1 (.refl hW.sb) _ fun G2 H2 g2 => kQ _ hf p hB.ap G2 H2 (g1.trans g2))
theorem ok_Hfindcopy {B : Bd} (T : Txt K mg A) (U : Ux K mg B) : FnOk P w K mg base (L2.CX P w) 2 B.a_Hfindcopy B.d_Hfindcopy ["self", "bill", "copy"] (spFind B copyR aII) := by
  have G_Hfindbill := ok_Hfindbill (P := P) (w := w) (base := base) T U
  refine U.F_Hfindcopy.okX sc_Hfindcopy (fun vs H Q E h => ?_) (fun cdv A' outer st H vs Q E hr h => ?_)
  · obtain ⟨_, _, _, _, _, rfl, hx, _⟩ := h
    show _ + 1 = 3
    rw [hx.len]; rfl
  · obtain ⟨G, a, s, ⟨n, c⟩, us, rfl, hx, hW, hO, kE, kQ⟩ := h
    obtain ⟨v1, v2, rfl, h_bill, h_copy⟩ := dxs2 hx
    refine ⟨_, (pss_cons (ps_set (i := 3) sc_Hfindcopy.nd rfl (Or.inl rfl) (pe_meth (pv 0) U.cl_Hall U.m_Hfindbill G_Hfindbill (hr.mono (by omega)) U.b_Hfindbill .nil (passes_call (takes_of rfl rfl rfl rfl) fun _ _ _ _ z => z) (by exact (pa_cons (pv 1) pa_nil))))
      (pss_cons (ps_if (pt_cmpR op_ne (pv 2) (pe_fld (pv 3) rfl) (nomark _))
      (pss_one (ps_raise rfl (takes_of rfl rfl rfl rfl) (pmk_own PySem.F.excBase_ValueError U.x_Void.x U.x_Void.g U.x_Void.k (raises_own U.x_Void.b U.x_Void.t) (by exact rfl))))
      pss_nil)
      (pss_one (ps_ret (pv 3))))), ?_⟩
    refine q_find (f := findR) (args := aI) n (evv_var rfl) hW hO (ea_cons (ev_var rfl h_bill) ea_nil) (fun i => findR_lt) (fun k hk G1 H1 g1 => kE k (by unfold copyR; rw [hk]) G1 H1 g1) fun i p q b hi G1 H1 g1 hB => ?_
    have h_copy := h_copy.mono g1.g
    refine q_when (b := !decide (c = b.issue)) (et_test (ev_op (ev_var rfl h_copy) (hB.e_issue U (evv_var rfl)) rd_neI)) g1.s (fun hb G2 H2 g2 => ?_) (fun hb G2 H2 g2 => ?_)
    · refine kE .Void ?_ G2 H2 (g1.trans g2)
      have hn : ¬ c = b.issue := by simpa using hb
      unfold copyR
      rw [hi]
      show (if c = (bilOf s i).issue then _ else _) = _
      rw [bilOf_eq hB.hb, if_neg hn]
    · have hn : c = b.issue := by simpa using hb
      refine retI ⟨_, rfl, kQ i ?_ p hB.ap G2 H2 (g1.trans g2)⟩
      unfold copyR
      rw [hi]
      show (if c = (bilOf s i).issue then _ else _) = _
      rw [bilOf_eq hB.hb, if_pos hn]
def writtenD (b : Bil) : PyData := .tuple [.str (b.places.getD 1 ("", false)).1, .str b.drawee, .str b.payee, .int b.amount, .int b.due]
abbrev spBw (B : Bd) : Sp := fun vs H Q E => ∃ (G : Hp) (a : Ha) (s : Hl) (i : Nat) (p q : Addr) (b : Bil), vs = [.ref p] ∧ W B G H a s ∧ BilAt B G H a s i p q b ∧ 2 ≤ b.places.length ∧ ∀ v G' H', Gr [] G H G' H' → Dx G' v (writtenD b) → Q v H'
theorem BilAt.two {B : Bd} {G H : Hp} {a : Ha} {s : Hl} {i : Nat} {p q : Addr} {b : Bil} (x : BilAt B G H a s i p q b) (o : Ok s) : 2 ≤ b.places.length ∧ b.places.length ≤ 8 := o.pl b (List.mem_of_getElem? x.hb)
theorem getR {r : Rw} {i : Nat} (h : i < r.length) : r[i]? = some (r.getD i ("", false)) := by
  rw [List.getD_eq_getElem?_getD, List.getElem?_eq_getElem h]; rfl
section
variable {B : Bd} {G H : Hp} {a : Ha} {s : Hl} {σ : L2.St} {te ta : TE} {i : Nat} {p q : Addr} {b : Bil} {K : PySem.W.Frag} {mg : Str → Option Value}
/-- drawn.places[k] -/
theorem BilAt.e_at {k : Int} {j : Nat} (x : BilAt B G H a s i p q b) (U : Ux K mg B) (h : EvV te σ G H (.ref p)) (hk : EvD ta σ G H (.int k)) (e : k = (j : Int)) (hj : j < b.places.length) : EvD (tOp (rIxL K) (tFld K te "places") ta) σ G H (encP (b.places.getD j ("", false))) := by
  obtain ⟨vs, hq, xs⟩ := x.hq
  subst e
  exact ev_ixV (x.e_places U h) hq xs hk (atI_row (getR hj))
theorem ev_fst {r : Str × Bool} (h : EvD ta σ G H (encP r)) : EvD (tOp (rIxT K) ta (tC (.int 0))) σ G H (.str r.1) := ev_op h ev_int (rd_ixT (atI_nat (j := 0) rfl))
theorem ev_snd {r : Str × Bool} (h : EvD ta σ G H (encP r)) : EvD (tOp (rIxT K) ta (tC (.int 1))) σ G H (.bool r.2) := ev_op h ev_int (rd_ixT (atI_nat (j := 1) rfl))
theorem BilAt.e_written {E : XK} (x : BilAt B G H a s i p q b) (w : W B G H a s) (o : Ok s) (h : EvV te σ G H (.ref p)) : EvD (tMeth B.C_Bill "written" (spBw B) [] E te tNil) σ G H (writtenD b) := fun G1 H1 g Q k => h G1 H1 g _ fun G2 H2 g2 => by
  have x2 := x.step (g.trans g2)
  obtain ⟨dx, hp⟩ := x2.hp
  exact ⟨p, dx, _, rfl, hp, bil_look (by decide +kernel), G2, a, s, i, p, q, b, rfl, w.step (g.trans g2), x2, (x.two o).1, fun v G3 H3 g3 y => k v G3 H3 (g2.trans g3) y⟩
end
theorem ok_Bwritten {B : Bd} (T : Txt K mg A) (U : Ux K mg B) : FnOk P w K mg base CX0 1 B.a_Bwritten B.d_Bwritten ["self"] (spBw B) := by
  refine U.F_Bwritten.ok sc_Bwritten (fun vs H Q E h => ?_) (fun cdv A' outer st H vs Q E hr h => ?_)
  · obtain ⟨_, _, _, _, _, _, _, rfl, _⟩ := h; rfl
  · obtain ⟨G, a, s, i, p, q, b, rfl, hW, hB, h2, k⟩ := h
    refine ⟨_, (pss_one (ps_ret (pe_tup (pa_cons (pe_ix (ix_tupK (K := K)) (pe_ix (ix_listK (K := K)) (pe_fld (pv 0) rfl) pe_int (fun _ _ => rfl)) pe_int (fun _ _ => rfl)) (pa_cons (pe_fld (pv 0) rfl) (pa_cons (pe_fld (pv 0) rfl) (pa_cons (pe_fld (pv 0) rfl) (pa_cons (pe_fld (pv 0) rfl) pa_nil)))))))), ?_⟩
    exact s_ret (d := writtenD b) (ev_tup (ea_cons (ev_fst (hB.e_at U (evv_var rfl) ev_int (j := 1) rfl (by omega))) (ea_cons (hB.e_drawee U (evv_var rfl)) (ea_cons (hB.e_payee U (evv_var rfl)) (ea_cons (hB.e_amount U (evv_var rfl)) (ea_cons (hB.e_due U (evv_var rfl)) ea_nil))))) (by show 5 ≤ 100000; decide)) hW.sb k
def paperR (s : Hl) (n : Int) : Except Kd PyData := (findR s n).map fun i => writtenD (bilOf s i)
def stateR (s : Hl) (n : Int) : Except Kd PyData := (findR s n).map fun i => .str (bilOf s i).phase
def holderR (s : Hl) (n : Int) : Except Kd PyData := (findR s n).map fun i => .str (bilOf s i).keeper
def copyofR (s : Hl) (n : Int) : Except Kd PyData := (findR s n).map fun i => .int (bilOf s i).issue
def rowR (s : Hl) (n : Int) : Except Kd (List PyData) := (findR s n).map fun i => encR (bilOf s i).places
theorem lenQ {B : Bd} {α : Type} {f : Hl → α → Except Kd PyData} {args : α → List PyData} {n : Nat} (hn : ∀ x, (args x).length = n) {vs : List V} {H : Hp} {Q : VK} {E : XK} (h : spQ B f args vs H Q E) : vs.length = n + 1 := by
  obtain ⟨_, _, _, x, _, rfl, hx, _⟩ := h
  show _ + 1 = _
  rw [hx.len, hn x]
theorem lenQM {B : Bd} {α : Type} {f : Hl → α → Except Kd (List PyData)} {args : α → List PyData} {n : Nat} (hn : ∀ x, (args x).length = n) {vs : List V} {H : Hp} {Q : VK} {E : XK} (h : spQM B f args vs H Q E) : vs.length = n + 1 := by
  obtain ⟨_, _, _, x, _, rfl, hx, _⟩ := h
  show _ + 1 = _
  rw [hx.len, hn x]
theorem ok_Hpaper {B : Bd} (T : Txt K mg A) (U : Ux K mg B) : FnOk P w K mg base (L2.CX P w) 2 B.a_Hpaper B.d_Hpaper ["self", "bill"] (spQ B paperR aI) := by
  have G_Hfindbill := ok_Hfindbill (P := P) (w := w) (base := base) T U
  have G_Bwritten := ok_Bwritten (P := P) (w := w) (base := base) T U
  refine U.F_Hpaper.okX sc_Hpaper (fun vs H Q E h => lenQ (n := 1) (fun _ => rfl) h) (fun cdv A' outer st H vs Q E hr h => ?_)
  · obtain ⟨G, a, s, n, us, rfl, hx, hW, hO, kE, kQ⟩ := h
    obtain ⟨v1, rfl, h_bill⟩ := dxs1 hx
    refine ⟨_, (pss_one (ps_ret (pe_meth0 (pe_meth (pv 0) U.cl_Hall U.m_Hfindbill G_Hfindbill (hr.mono (by omega)) U.b_Hfindbill .nil (passes_call (takes_of rfl rfl rfl rfl) fun _ _ _ _ z => z) (by exact (pa_cons (pv 1) pa_nil))) U.cl_Bill U.m_Bwritten G_Bwritten (hr.mono (by omega)) U.b_Bwritten .nil pass0))), ?_⟩
    exact s_retX (x_findD (F := fun te => tMeth B.C_Bill "written" (spBw B) [] _ te tNil) (f := findR) (args := aI) n (evv_var rfl) hW hO (ea_cons (ev_var rfl h_bill) ea_nil) (fun i => findR_lt) (fun _ _ _ _ => rfl) fun i p q b G' H' g hb => hb.e_written (hW.step g) hO evv_K) hW.sb kE fun d hd v G1 H1 g1 x => kQ d hd v G1 H1 g1 x
theorem ok_Hstate {B : Bd} (T : Txt K mg A) (U : Ux K mg B) : FnOk P w K mg base (L2.CX P w) 2 B.a_Hstate B.d_Hstate ["self", "bill"] (spQ B stateR aI) := by
  have G_Hfindbill := ok_Hfindbill (P := P) (w := w) (base := base) T U
  refine U.F_Hstate.okX sc_Hstate (fun vs H Q E h => lenQ (n := 1) (fun _ => rfl) h) (fun cdv A' outer st H vs Q E hr h => ?_)
  · obtain ⟨G, a, s, n, us, rfl, hx, hW, hO, kE, kQ⟩ := h
    obtain ⟨v1, rfl, h_bill⟩ := dxs1 hx
    refine ⟨_, (pss_one (ps_ret (pe_fld (pe_meth (pv 0) U.cl_Hall U.m_Hfindbill G_Hfindbill (hr.mono (by omega)) U.b_Hfindbill .nil (passes_call (takes_of rfl rfl rfl rfl) fun _ _ _ _ z => z) (by exact (pa_cons (pv 1) pa_nil))) rfl))), ?_⟩
    exact s_retX (x_findD (F := fun te => tFld K te "phase") (d' := fun b => .str b.phase) (f := findR) (args := aI) n (evv_var rfl) hW hO (ea_cons (ev_var rfl h_bill) ea_nil) (fun i => findR_lt) (fun _ _ _ _ => rfl) fun i p q b G' H' g hb => hb.e_phase U evv_K) hW.sb kE fun d hd v G1 H1 g1 x => kQ d hd v G1 H1 g1 x
theorem ok_Hholder {B : Bd} (T : Txt K mg A) (U : Ux K mg B) : FnOk P w K mg base (L2.CX P w) 2 B.a_Hholder B.d_Hholder ["self", "bill"] (spQ B holderR aI) := by
  have G_Hfindbill := ok_Hfindbill (P := P) (w := w) (base := base) T U
  refine U.F_Hholder.okX sc_Hholder (fun vs H Q E h => lenQ (n := 1) (fun _ => rfl) h) (fun cdv A' outer st H vs Q E hr h => ?_)
  · obtain ⟨G, a, s, n, us, rfl, hx, hW, hO, kE, kQ⟩ := h
    obtain ⟨v1, rfl, h_bill⟩ := dxs1 hx
    refine ⟨_, (pss_one (ps_ret (pe_fld (pe_meth (pv 0) U.cl_Hall U.m_Hfindbill G_Hfindbill (hr.mono (by omega)) U.b_Hfindbill .nil (passes_call (takes_of rfl rfl rfl rfl) fun _ _ _ _ z => z) (by exact (pa_cons (pv 1) pa_nil))) rfl))), ?_⟩
    exact s_retX (x_findD (F := fun te => tFld K te "keeper") (d' := fun b => .str b.keeper) (f := findR) (args := aI) n (evv_var rfl) hW hO (ea_cons (ev_var rfl h_bill) ea_nil) (fun i => findR_lt) (fun _ _ _ _ => rfl) fun i p q b G' H' g hb => hb.e_keeper U evv_K) hW.sb kE fun d hd v G1 H1 g1 x => kQ d hd v G1 H1 g1 x
theorem ok_Hcopyof {B : Bd} (T : Txt K mg A) (U : Ux K mg B) : FnOk P w K mg base (L2.CX P w) 2 B.a_Hcopyof B.d_Hcopyof ["self", "bill"] (spQ B copyofR aI) := by
  have G_Hfindbill := ok_Hfindbill (P := P) (w := w) (base := base) T U
  refine U.F_Hcopyof.okX sc_Hcopyof (fun vs H Q E h => lenQ (n := 1) (fun _ => rfl) h) (fun cdv A' outer st H vs Q E hr h => ?_)
  · obtain ⟨G, a, s, n, us, rfl, hx, hW, hO, kE, kQ⟩ := h
    obtain ⟨v1, rfl, h_bill⟩ := dxs1 hx
    refine ⟨_, (pss_one (ps_ret (pe_fld (pe_meth (pv 0) U.cl_Hall U.m_Hfindbill G_Hfindbill (hr.mono (by omega)) U.b_Hfindbill .nil (passes_call (takes_of rfl rfl rfl rfl) fun _ _ _ _ z => z) (by exact (pa_cons (pv 1) pa_nil))) rfl))), ?_⟩
    exact s_retX (x_findD (F := fun te => tFld K te "issue") (d' := fun b => .int b.issue) (f := findR) (args := aI) n (evv_var rfl) hW hO (ea_cons (ev_var rfl h_bill) ea_nil) (fun i => findR_lt) (fun _ _ _ _ => rfl) fun i p q b G' H' g hb => hb.e_issue U evv_K) hW.sb kE fun d hd v G1 H1 g1 x => kQ d hd v G1 H1 g1 x
theorem ok_Hrow {B : Bd} (T : Txt K mg A) (U : Ux K mg B) : FnOk P w K mg base (L2.CX P w) 2 B.a_Hrow B.d_Hrow ["self", "bill"] (spQM B rowR aI) := by
  have G_Hfindbill := ok_Hfindbill (P := P) (w := w) (base := base) T U
  refine U.F_Hrow.okX sc_Hrow (fun vs H Q E h => lenQM (n := 1) (fun _ => rfl) h) (fun cdv A' outer st H vs Q E hr h => ?_)
  · obtain ⟨G, a, s, n, us, rfl, hx, hW, hO, kE, kQ⟩ := h
    obtain ⟨v1, rfl, h_bill⟩ := dxs1 hx
    refine ⟨_, (pss_one (ps_ret (pe_callTy (call_listK (K := K)) (by rfl) T.b.list (by decide +kernel) (pa_cons (pe_fld (pe_meth (pv 0) U.cl_Hall U.m_Hfindbill G_Hfindbill (hr.mono (by omega)) U.b_Hfindbill .nil (passes_call (takes_of rfl rfl rfl rfl) fun _ _ _ _ z => z) (by exact (pa_cons (pv 1) pa_nil))) rfl) pa_nil)))), ?_⟩
    exact s_retXM (x_findM (F := fun te => tCB (fun xs H Q => ∃ p ys, xs = [.ref p] ∧ (SqL K H p ys ∨ SqT K H p ys) ∧ ∀ l, H l = none → Q (.ref l) (upd H l (.lst ys))) (tCons (tFld K te "places") tNil)) (d' := fun b => encR b.places) (f := findR) (args := aI) n (evv_var rfl) hW hO (ea_cons (ev_var rfl h_bill) ea_nil) (fun i => findR_lt) (fun _ _ _ _ => rfl) fun i p q b G' H' g hb => by
      obtain ⟨vs, h1, h2⟩ := hb.hq
      exact ev_listV (hb.e_places U evv_K) h1 h2) hW.sb kE fun d hd p xs G1 H1 g1 h0 hn hl x => kQ d hd p xs G1 H1 g1 h0 hn hl x
abbrev spHstory (B : Bd) : Sp := spQM B (α := Unit) (fun s _ => .ok s.ds) fun _ => []
theorem ok_Hstory {B : Bd} (T : Txt K mg A) (U : Ux K mg B) : FnOk P w K mg base CX0 1 B.a_Hstory B.d_Hstory ["self"] (spHstory B) := by
  refine U.F_Hstory.ok sc_Hstory (fun vs H Q E h => lenQM (fun _ => rfl) h) (fun cdv A' outer st H vs Q E hr h => ?_)
  · obtain ⟨G, a, s, z, us, rfl, hx, hW, hO, kE, kQ⟩ := h
    cases hx
    refine ⟨_, (pss_one (ps_ret (pe_callTy (call_listK (K := K)) (by rfl) T.b.list (by decide +kernel) (pa_cons (pe_fld (pv 0) rfl) pa_nil)))), ?_⟩
    obtain ⟨vs, h1, h2⟩ := hW.hl
    exact s_retM (ev_listV (hW.e_dl U (evv_var rfl)) h1 h2) hW.sb fun p xs G1 H1 g1 h0 hn hl hx => kQ _ rfl p xs G1 H1 g1 h0 hn hl hx
abbrev spHmoment (B : Bd) : Sp := spQ B (α := Unit) (fun s _ => .ok (.int s.ds.length)) fun _ => []
theorem ok_Hmoment {B : Bd} (T : Txt K mg A) (U : Ux K mg B) : FnOk P w K mg base CX0 1 B.a_Hmoment B.d_Hmoment ["self"] (spHmoment B) := by
  refine U.F_Hmoment.ok sc_Hmoment (fun vs H Q E h => lenQ (fun _ => rfl) h) (fun cdv A' outer st H vs Q E hr h => ?_)
  · obtain ⟨G, a, s, z, us, rfl, hx, hW, hO, kE, kQ⟩ := h
    cases hx
    refine ⟨_, (pss_one (ps_ret (pe_callB (call_lenK (K := K)) (by rfl) T.b.len (by decide +kernel) (pa_cons (pe_fld (pv 0) rfl) pa_nil)))), ?_⟩
    obtain ⟨vs, h1, h2⟩ := hW.hl
    exact s_ret (ev_is (ev_lenV (hW.e_dl U (evv_var rfl)) h1) (by rw [h2.len])) hW.sb fun v G1 H1 g1 x => kQ _ rfl v G1 H1 g1 x
abbrev spHtoday (B : Bd) : Sp := spQ B (α := Unit) (fun s _ => .ok (.int s.day)) fun _ => []
theorem ok_Htoday {B : Bd} (T : Txt K mg A) (U : Ux K mg B) : FnOk P w K mg base CX0 1 B.a_Htoday B.d_Htoday ["self"] (spHtoday B) := by
  refine U.F_Htoday.ok sc_Htoday (fun vs H Q E h => lenQ (fun _ => rfl) h) (fun cdv A' outer st H vs Q E hr h => ?_)
  · obtain ⟨G, a, s, z, us, rfl, hx, hW, hO, kE, kQ⟩ := h
    cases hx
    refine ⟨_, (pss_one (ps_ret (pe_fld (pv 0) rfl))), ?_⟩
    exact s_ret (hW.e_day U (evv_var rfl)) hW.sb fun v G1 H1 g1 x => kQ _ rfl v G1 H1 g1 x
abbrev spHmany (B : Bd) : Sp := spQ B (α := Unit) (fun s _ => .ok (.int s.bs.length)) fun _ => []
theorem ok_Hmanybills {B : Bd} (T : Txt K mg A) (U : Ux K mg B) : FnOk P w K mg base CX0 1 B.a_Hmanybills B.d_Hmanybills ["self"] (spHmany B) := by
  refine U.F_Hmanybills.ok sc_Hmanybills (fun vs H Q E h => lenQ (fun _ => rfl) h) (fun cdv A' outer st H vs Q E hr h => ?_)
  · obtain ⟨G, a, s, z, us, rfl, hx, hW, hO, kE, kQ⟩ := h
    cases hx
    refine ⟨_, (pss_one (ps_ret (pe_callB (call_lenK (K := K)) (by rfl) T.b.len (by decide +kernel) (pa_cons (pe_fld (pv 0) rfl) pa_nil)))), ?_⟩
    exact s_ret (ev_is (ev_lenV (hW.e_bl U (evv_var rfl)) hW.hb) (by rw [List.length_map, hW.la])) hW.sb fun v G1 H1 g1 x => kQ _ rfl v G1 H1 g1 x

end
end

-- hs3.txt
section

local macro_rules | `(tactic| walk_at "arith") => `(tactic| first | omega | decide | (unfold CMul; omega) | (unfold CDiv; omega) | (unfold CPow; decide) | (refine ⟨?_, ?_⟩ <;> omega) | (simp; done) | (simp; omega))
local macro_rules | `(tactic| walk_at "wide") => `(tactic| exact ⟨by decide, by decide +kernel⟩)
section
variable {P : Program} {w : World} {K : PySem.W.Frag} {mg : Str → Option Value} {base : Heap} {A : Ad}
def isName (z : Str) : Bool := decide (1 ≤ (z.length : Int)) && decide ((z.length : Int) ≤ 8) && ((List.range z.length).map fun i => decide ((z.cps[i]?.getD 0) ∈ alpha.cps.toList)).all id
def low (c : Nat) : Bool := !decide ((⟨#[c]⟩ : Str).cps.toList < ("a" : Str).cps.toList) && !decide (("z" : Str).cps.toList < (⟨#[c]⟩ : Str).cps.toList)
theorem low_eq (c : Nat) : low c = decide (c ∈ alpha.cps.toList) := by
  have ha : ("a" : Str).cps.toList = [97] := by decide +kernel
  have hz : ("z" : Str).cps.toList = [122] := by decide +kernel
  unfold low
  rw [ha, hz, alpha_eq]
  have e1 : decide ((⟨#[c]⟩ : Str).cps.toList < [97]) = decide (c < 97) := decide_eq_decide.mpr (by simp [List.cons_lt_cons_iff])
  have e2 : decide ([122] < (⟨#[c]⟩ : Str).cps.toList) = decide (122 < c) := decide_eq_decide.mpr (by simp [List.cons_lt_cons_iff])
  rw [e1, e2]
  by_cases h : c < 128
  · have go : ∀ c : Nat, c < 128 → (!decide (c < 97) && !decide (122 < c)) = decide (c ∈ [97, 98, 99, 100, 101, 102, 103, 104, 105, 106, 107, 108, 109, 110, 111, 112, 113, 114, 115, 116, 117, 118, 119, 120, 121, 122]) := by decide +kernel
    exact go c h
  · have h1 : decide (122 < c) = true := decide_eq_true (by omega)
    have h2 : c ∉ [97, 98, 99, 100, 101, 102, 103, 104, 105, 106, 107, 108, 109, 110, 111, 112, 113, 114, 115, 116, 117, 118, 119, 120, 121, 122] := by
      simp only [List.mem_cons, List.not_mem_nil, or_false]
      omega
    rw [h1, decide_eq_false h2, Bool.not_true, Bool.and_false]
abbrev spIsName : Sp := SpD (α := Str) (fun z => [.str z]) (fun z => z.length ≤ 100) (fun z => .bool (isName z))
theorem isName_bools {z : Str} (b : Nat → Bool) (hb : ∀ i, i < z.length → b i = decide ((z.cps[i]?.getD 0) ∈ alpha.cps.toList)) : ((List.range z.length).map b).all id = ((List.range z.length).map fun i => decide ((z.cps[i]?.getD 0) ∈ alpha.cps.toList)).all id := by
  congr 1
  exact List.map_congr_left fun i hi => hb i (List.mem_range.mp hi)
theorem ok_is_name (T : Txt K mg A) : FnOk P w K mg base CX0 1 A.a_is_name A.d_is_name ["word"] spIsName := by
  refine T.F_is_name.ok sc_is_name (fun vs H Q E h => ?_) (fun cdv A' outer s H vs Q E hr h => ?_)
  · obtain ⟨G, x, _, hx, _⟩ := h
    exact hx.len
  · obtain ⟨G, z, s0, hx, hz, k⟩ := h
    obtain ⟨v0, rfl, h_word⟩ := dxs1 hx
    refine ⟨_, (pss_cons (ps_if (pt_not (pt_chain op_le op_le pe_int (pe_callB call_len_str (by rfl) T.b.len (by decide +kernel) (pa_cons (pv 0) pa_nil)) (pe_glob (v := .int 8) (by rfl) T.g_LONGEST_NAME ⟨_, rfl⟩)))
      (pss_one (ps_ret pe_bl))
      pss_nil)
      (pss_one (ps_ret (pe_callB (cr_allK (K := K) rfl) (by rfl) T.b.all (by decide +kernel) (pa_cons (pe_lc (own := [("sign", 1)]) (g := gName 1) rfl sc_is_name.nd (pi_str (pv 0)) (blkOk_by (own := [("sign", 1)]) (N := N_is_name) (sc := defScope s_is_name) (by decide +kernel)) (fun _ _ _ _ _ => (pg_name (i := 1) sc_is_name.nd rfl (Or.inl rfl))) (fun _ _ _ _ _ => pts_nil) (fun _ _ _ _ _ => by exact (pe_chain op_le_str op_le_str pe_str (pv 1) pe_str))) pa_nil))))), ?_⟩
    refine q_when (et_not (et_test (ev_chain ev_int (ev_cb (ea_cons (ev_var rfl h_word) ea_nil) (cd_lenS (by walk_at "arith"))) rd_le (fun _ => ev_int) (fun _ => rd_le)))) s0 (fun hb G1 H1 g1 => ?_) (fun hb G1 H1 g1 => ?_)
    · refine s_ret ev_bl g1.s fun v G2 H2 g2 hv => k v G2 H2 (g1.trans g2) ?_
      have e : isName z = false := by
        unfold isName
        rw [Bool.not_eq_true'] at hb
        rw [hb, Bool.false_and]
      show Dx G2 v (.bool (isName z))
      rw [e]; exact hv
    · have h_word := h_word.mono g1.g
      refine s_ret (ev_cb (ea_cons (ev_lcS (fun _ => true) (fun i => .bool (low (z.cps[i]?.getD 0))) (ev_var rfl h_word) (by omega) (fun _ => rfl) (fun i c hc => et_yes)
        (fun i c hc hf => ev_is ((fun h_sign => (ev_chain ev_str (ev_var rfl h_sign) rd_leS (fun _ => ev_str) (fun _ => rd_leS))) (Dx.str ⟨#[c]⟩)) (by rw [hc]; rfl))).dat ea_nil) (cd_all' (bs := (List.range z.length).map fun i => low (z.cps[i]?.getD 0)) (by rw [given_map, List.map_map]; rfl))) g1.s fun v G2 H2 g2 hv => k v G2 H2 (g1.trans g2) ?_
      have e : isName z = ((List.range z.length).map fun i => low (z.cps[i]?.getD 0)).all id := by
        unfold isName
        rw [Bool.not_eq_false'] at hb
        rw [hb, Bool.true_and, isName_bools _ fun i _ => low_eq _]
      show Dx G2 v (.bool (isName z))
      rw [e]; exact hv
abbrev spReach : Sp := SpD (α := Rw × Str) (fun x => [.list (encR x.1), .str x.2]) (fun x => x.1.length ≤ 1000) (fun x => .int (reachM x.1 x.2))
theorem ok_reach (T : Txt K mg A) : FnOk P w K mg base CX0 1 A.a_reach A.d_reach ["row", "house"] spReach := by
  refine T.F_reach.ok sc_reach (fun vs H Q E h => ?_) (fun cdv A' outer s H vs Q E hr h => ?_)
  · obtain ⟨G, x, _, hx, _⟩ := h
    exact hx.len
  · obtain ⟨G, ⟨r, hh⟩, s0, hx, hlen, k⟩ := h
    obtain ⟨v0, v1, rfl, h_row, h_house⟩ := dxs2 hx
    refine ⟨_, (pss_cons (ps_for PassesOwn.never rfl (pi_enum (by rfl) T.b.enumerate (pa_cons (pv 0) pa_nil)) (pg_tup (by rfl) (pgs_cons (pg_name (i := 2) sc_reach.nd rfl (Or.inl rfl)) (pgs_cons (pg_tup (by rfl) (pgs_cons (pg_name (i := 3) sc_reach.nd rfl (Or.inl rfl)) (pgs_cons (pg_name (i := 4) sc_reach.nd rfl (Or.inl rfl)) pgs_nil))) pgs_nil)))
      (pss_one (ps_if (PW.pt (pw_and (pt_val (pv 4)) (pw_and1 (pt_cmpR op_eq (pv 3) (pv 1) (nomark _)))))
      (pss_one (ps_ret (pv 2)))
      pss_nil)))
      (pss_one (ps_ret (pe_callB (call_lenK (K := K)) (by rfl) T.b.len (by decide +kernel) (pa_cons (pv 0) pa_nil))))), ?_⟩
    refine q_forE [] (fun n σ' G' H' => ∃ (v2 v3 v4 : Option V), σ' = [some v0, some v1, v2, v3, v4] ∧ ∀ j q, j < n → r[j]? = some q → (q.2 && decide (q.1 = hh)) = false)
      (ea_cons (ev_var rfl h_row) ea_nil) s0 (fun G1 H1 g1 => ⟨none, none, none, rfl, fun j q hj => absurd hj (Nat.not_lt_zero _)⟩) (fun G1 H1 g1 n d v σ' G' H' G2 H2 hd gg p g2 hv => ?_) (fun σ' G' H' gg p => ?_)
    · obtain ⟨v2, v3, v4, rfl, hp⟩ := p
      obtain ⟨q, hq, rfl⟩ := encR_get hd
      refine g_n_nn hv g2.s fun u1 u2 u3 k1 k2 k3 => ?_
      obtain rfl := k1.int_eq
      have h_house := h_house.mono ((g1.trans gg).trans g2).g
      refine s_if (evt_is (c := q.2 && decide (q.1 = hh)) ((fun h_bound h_signer => (et_and (et_B (ev_var rfl h_bound)) (fun _ => (et_test (ev_op (ev_var rfl h_signer) (ev_var rfl h_house) rd_eqS))))) k3 k2) rfl) g2.s (fun hb G3 H3 g3 => ?_) (fun hb G3 H3 g3 => ?_)
      · have e := reachM_at hq hp hb
        exact s_ret (ev_var rfl (Dx.int (n : Int))) g3.s fun v G4 H4 g4 hv => k v G4 H4 ((((g1.trans gg).trans g2).trans g3).trans g4) (by show Dx G4 v (.int (reachM r hh)); rw [e]; exact hv)
      · refine ⟨G3, (gg.trans g2).trans g3, _, _, _, rfl, fun j q' hj hq' => ?_⟩
        by_cases hjn : j < n
        · exact hp j q' hjn hq'
        · have : j = n := by omega
          subst this
          rw [hq] at hq'; cases hq'; exact hb
    · obtain ⟨v2, v3, v4, rfl, hp⟩ := p
      have el : (encR r).length = r.length := by unfold encR; rw [List.length_map]
      rw [el] at hp
      have h_row := h_row.mono gg.g
      have e := reachM_end hp
      refine s_ret (ev_cb (ea_cons (ev_var rfl h_row) ea_nil) cd_lenL) gg.s fun v G4 H4 g4 hv => k v G4 H4 (gg.trans g4) ?_
      show Dx G4 v (.int (reachM r hh))
      rw [e]; rw [el] at hv; exact hv
def bnd (r : Rw) (i : Nat) : Bool := (r.getD i ("", false)).2
def askF (r : Rw) (p : Bool) (i : Nat) : Bool := bnd r i && (p || decide ((i : Int) = 0))
def askM (r : Rw) (h : Str) (p : Bool) : List PyData := given (reachM r h) (askF r p) fun i => .int (i : Int)
theorem getD_row {r : Rw} {i : Nat} (h : i < r.length) : r[i]? = some (r.getD i ("", false)) := by
  rw [List.getD_eq_getElem?_getD, List.getElem?_eq_getElem h]; rfl
theorem given_ext {β : Type} {n : Nat} {f g : Nat → Bool} {u v : Nat → β} (h : ∀ i, i < n → f i = g i) (k : ∀ i, i < n → u i = v i) : given n f u = given n g v := by
  unfold given
  have e : (List.range n).filter f = (List.range n).filter g := List.filter_congr fun i hi => h i (List.mem_range.mp hi)
  rw [e]
  exact List.map_congr_left fun i hi => k i (List.mem_range.mp (List.mem_filter.mp hi).1)
abbrev spAsk : Sp := SpM (α := Rw × Str × Bool) (fun x => [.list (encR x.1), .str x.2.1, .bool x.2.2]) (fun x => x.1.length ≤ 1000) (fun x => askM x.1 x.2.1 x.2.2)
theorem ok_askable (T : Txt K mg A) : FnOk P w K mg base CX0 2 A.a_askable A.d_askable ["row", "holder", "protested"] spAsk := by
  have G_reach := ok_reach (P := P) (w := w) (base := base) T
  refine T.F_askable.ok sc_askable (fun vs H Q E h => ?_) (fun cdv A' outer s H vs Q E hr h => ?_)
  · obtain ⟨G, x, _, hx, _⟩ := h
    exact hx.len
  · obtain ⟨G, ⟨r, hh, pr⟩, s0, hx, hpre, k⟩ := h
    obtain ⟨v0, v1, v2, rfl, h_row, h_holder, h_protested⟩ := dxs3 hx
    simp only at hpre
    refine ⟨_, (pss_one (ps_ret (pe_lc (own := [("place", 3)]) (g := gName 3) rfl sc_askable.nd (pi_range1 (by rfl) T.b.range (pa_cons (pe_call G_reach (hr.mono (by omega)) (by rfl) T.m_reach T.F_reach.kp T.b_reach .nil pass0 (pa_cons (pv 0) (pa_cons (pv 1) pa_nil))) pa_nil)) (blkOk_by (own := [("place", 3)]) (N := N_askable) (sc := defScope s_askable) (by decide +kernel)) (fun _ _ _ _ _ => (pg_name (i := 3) sc_askable.nd rfl (Or.inl rfl))) (fun _ _ _ _ _ => by exact pts_one (PW.pt (pw_and (pt_val (pe_ix (ix_tupK (K := K)) (pe_ix (ix_listK (K := K)) (pv 0) (pv 3) (fun _ _ => rfl)) pe_int (fun _ _ => rfl))) (pw_and1 (PW.pt (pw_or (pt_val (pv 2)) (pw_or1 (pt_cmpR op_eq (pv 3) pe_int (nomark _))))))))) (fun _ _ _ _ _ => by exact (pv 3))))), ?_⟩
    have hle := reachM_le r hh
    refine s_retM (ev_lcR (askF r pr) (fun i => .int (i : Int)) (ea_cons (ev_callE (d := .int ((reachM r hh : Nat) : Int)) (r, hh) (ea_cons (ev_var rfl h_row) (ea_cons (ev_var rfl h_holder) ea_nil)) hpre rfl) ea_nil) (by have := hpre; omega) (fun _ => rfl)
      (fun i hi => evt_is (et_and (et_B (ev_op (ev_op (ev_var rfl h_row) (ev_var rfl (Dx.int (i : Int))) (rd_ixL (atI_row (getD_row (show i < r.length by omega))))) ev_int (rd_ixT (atI_nat (j := 1) rfl))))
        (fun _ => (fun h_place => (et_or (et_B (ev_var rfl h_protested)) (fun _ => (et_test (ev_op (ev_var rfl h_place) ev_int rd_eqI))))) (Dx.int (i : Int)))) rfl)
      (fun i hi hf => ev_var rfl (Dx.int _))) s0 fun p xs G1 H1 g1 h0 hn hl hx => k p xs G1 H1 g1 h0 hn hl hx
def retM (r : Rw) (p : Nat) : Rw := if p = 0 then r else r.take (max p 2)
def honM (r : Rw) (p : Nat) : Rw := if p = 0 then [r.getD 0 ("", false), ((r.getD 1 ("", false)).1, false)] else r.take (p + 1)
theorem cut_row' {r : Rw} {n : Nat} {i : Int} (hi : i = (n : Int)) : cutD (encR r) none (some i) = encR (r.take n) := by
  subst hi
  have el : (encR r).length = r.length := by unfold encR; rw [List.length_map]
  unfold cutD
  rw [el, HT.sIx_none, HT.sIx_nat]
  unfold encR
  rw [List.drop_zero, Nat.sub_zero, ← List.map_take]
  congr 1
  by_cases h : n ≤ r.length
  · rw [Nat.min_eq_left h]
  · rw [Nat.min_eq_right (by omega), List.take_of_length_le (Nat.le_refl _), List.take_of_length_le (by omega)]
abbrev spRet : Sp := SpM (α := Rw × Nat) (fun x => [.list (encR x.1), .int ((x.2 : Nat) : Int)]) (fun x => x.1.length ≤ 1000) (fun x => encR (retM x.1 x.2))
abbrev spHon : Sp := SpM (α := Rw × Nat) (fun x => [.list (encR x.1), .int ((x.2 : Nat) : Int)]) (fun x => 2 ≤ x.1.length ∧ x.1.length ≤ 1000) (fun x => encR (honM x.1 x.2))
theorem ok_returned (T : Txt K mg A) : FnOk P w K mg base CX0 1 A.a_returned A.d_returned ["row", "place"] spRet := by
  refine T.F_returned.ok sc_returned (fun vs H Q E h => ?_) (fun cdv A' outer s H vs Q E hr h => ?_)
  · obtain ⟨G, x, _, hx, _⟩ := h
    exact hx.len
  · obtain ⟨G, ⟨r, n⟩, s0, hx, hl, k⟩ := h
    obtain ⟨v0, v1, rfl, h_row, h_place⟩ := dxs2 hx
    simp only at hl k h_row h_place
    refine ⟨_, (pss_cons (ps_if (pt_cmpR op_eq (pv 1) pe_int (nomark _))
      (pss_one (ps_ret (pe_callTy (call_listK (K := K)) (by rfl) T.b.list (by decide +kernel) (pa_cons (pv 0) pa_nil))))
      pss_nil)
      (pss_one (ps_ret (pe_slice (sl_listK (K := K)) (pv 0) po_none (po_some (pe_callB (call_max2 rfl) (by rfl) T.b.max (by decide +kernel) (pa_cons (pv 1) (pa_cons (pe_glob (v := .int 2) (by rfl) T.g_FIRST_SIGNED ⟨_, rfl⟩) pa_nil)))))))), ?_⟩
    refine q_when (et_test (ev_op (ev_var rfl h_place) ev_int rd_eqI)) s0 (fun hb G1 H1 g1 => ?_) (fun hb G1 H1 g1 => ?_)
    · have h_row := h_row.mono g1.g
      have hn : n = 0 := by have := of_decide_eq_true hb; omega
      refine s_retM (ev_cbM (ea_cons (ev_var rfl h_row) ea_nil) cd_listL) g1.s fun p xs G2 H2 g2 h0 hn' hl hx => k p xs G2 H2 (g1.trans g2) (g1.free h0) hn' hl ?_
      unfold retM; rw [if_pos hn]; exact hx
    · have h_row := h_row.mono g1.g
      have h_place := h_place.mono g1.g
      have hn : ¬ n = 0 := by have := of_decide_eq_false hb; omega
      refine s_retM (evm_is (ev_sl (ev_var rfl h_row) eo_none (eo_some (ev_cb (ea_cons (ev_var rfl h_place) (ea_cons ev_int ea_nil)) cd_max2))) (cut_row' (r := r) (n := max n 2) (by split <;> omega))) g1.s fun p xs G2 H2 g2 h0 hn' hl hx => k p xs G2 H2 (g1.trans g2) (g1.free h0) hn' hl ?_
      unfold retM; rw [if_neg hn]; exact hx
theorem ok_honoured (T : Txt K mg A) : FnOk P w K mg base CX0 1 A.a_honoured A.d_honoured ["row", "place"] spHon := by
  refine T.F_honoured.ok sc_honoured (fun vs H Q E h => ?_) (fun cdv A' outer s H vs Q E hr h => ?_)
  · obtain ⟨G, x, _, hx, _⟩ := h
    exact hx.len
  · obtain ⟨G, ⟨r, n⟩, s0, hx, ⟨hl2, hl⟩, k⟩ := h
    obtain ⟨v0, v1, rfl, h_row, h_place⟩ := dxs2 hx
    simp only at hl hl2 k h_row h_place
    have q0 := getD_row (r := r) (i := 0) (by omega)
    have q1 := getD_row (r := r) (i := 1) (by omega)
    refine ⟨_, (pss_cons (ps_if (pt_cmpR op_eq (pv 1) pe_int (nomark _))
      (pss_cons (ps_set (i := 2) sc_honoured.nd rfl (Or.inl rfl) (pe_ix (ix_tupK (K := K)) (pe_ix (ix_listK (K := K)) (pv 0) pe_int (fun _ _ => rfl)) pe_int (fun _ _ => rfl)))
      (pss_one (ps_ret (pe_lst (pa_cons (pe_ix (ix_listK (K := K)) (pv 0) pe_int (fun _ _ => rfl)) (pa_cons (pe_tup (pa_cons (pv 2) (pa_cons pe_bl pa_nil))) pa_nil))))))
      pss_nil)
      (pss_one (ps_ret (pe_slice (sl_listK (K := K)) (pv 0) po_none (po_some (pe_op op_add (pv 1) pe_int)))))), ?_⟩
    refine q_when (et_test (ev_op (ev_var rfl h_place) ev_int rd_eqI)) s0 (fun hb G1 H1 g1 => ?_) (fun hb G1 H1 g1 => ?_)
    · have h_row := h_row.mono g1.g
      have hn : n = 0 := by have := of_decide_eq_true hb; omega
      refine q_asg (ev_op (ev_op (ev_var rfl h_row) ev_int (rd_ixL (atI_row (i := 1) q1))) ev_int (rd_ixT (atI_nat (j := 0) rfl))) g1.s fun v G2 H2 g2 h_drawer => ?_
      have h_row := h_row.mono g2.g
      refine s_retM (ev_lst (ea_cons (ev_op (ev_var rfl h_row) ev_int (rd_ixL (atI_row (i := 0) q0))) (ea_cons (ev_tup (ea_cons (ev_var rfl h_drawer) (ea_cons ev_bl ea_nil)) (by walk_at "arith")) ea_nil)) (by show 2 ≤ 100000; decide)) g2.s fun p xs G3 H3 g3 h0 hn' hl hx => k p xs G3 H3 ((g1.trans g2).trans g3) ((g1.trans g2).free h0) hn' hl ?_
      unfold honM; rw [if_pos hn]; exact hx
    · have h_row := h_row.mono g1.g
      have h_place := h_place.mono g1.g
      have hn : ¬ n = 0 := by have := of_decide_eq_false hb; omega
      refine s_retM (evm_is (ev_sl (ev_var rfl h_row) eo_none (eo_some (ev_op (ev_var rfl h_place) ev_int rd_add))) (cut_row' (r := r) (n := n + 1) (by omega))) g1.s fun p xs G2 H2 g2 h0 hn' hl hx => k p xs G2 H2 (g1.trans g2) (g1.free h0) hn' hl ?_
      unfold honM; rw [if_neg hn]; exact hx
/-! ### what came back -/
def returnedR (s : Hl) (n : Int) : Except Kd PyData := match findR s n with
  | .error k => .error k
  | .ok i => if (bilOf s i).phase = "paid" then .error .Closed else if (bilOf s i).phase = "running" then .error .NotPresented else .ok .none
theorem ok_check_returned {B : Bd} (T : Txt K mg A) (U : Ux K mg B) : FnOk P w K mg base (L2.CX P w) 3 A.a_check_returned A.d_check_returned ["hall", "bill"] (spQ B returnedR aI) := by
  have G_Hstate := ok_Hstate (P := P) (w := w) (base := base) T U
  refine T.F_check_returned.okX sc_check_returned (fun vs H Q E h => lenQ (n := 1) (fun _ => rfl) h) (fun cdv A' outer st H vs Q E hr h => ?_)
  · obtain ⟨G, a, s, n, us, rfl, hx, hW, hO, kE, kQ⟩ := h
    obtain ⟨v1, rfl, h_bill⟩ := dxs1 hx
    refine ⟨_, (pss_cons (ps_set (i := 2) sc_check_returned.nd rfl (Or.inl rfl) (pe_meth (pv 0) U.cl_Hall U.m_Hstate G_Hstate (hr.mono (by omega)) U.b_Hstate .nil (passes_call (takes_of rfl rfl rfl rfl) fun _ _ _ _ z => z) (by exact (pa_cons (pv 1) pa_nil))))
      (pss_cons (ps_if (pt_cmpR op_eq (pv 2) (pe_glob (v := .str "paid") (by rfl) T.g_PAID ⟨_, rfl⟩) (nomark _))
      (pss_one (ps_raise rfl (takes_of rfl rfl rfl rfl) (pmk_own PySem.F.excBase_ValueError U.x_Closed.x U.x_Closed.g U.x_Closed.k (raises_own U.x_Closed.b U.x_Closed.t) (by exact rfl))))
      pss_nil)
      (pss_one (ps_if (pt_cmpR op_eq (pv 2) (pe_glob (v := .str "running") (by rfl) T.g_RUNNING ⟨_, rfl⟩) (nomark _))
      (pss_one (ps_raise rfl (takes_of rfl rfl rfl rfl) (pmk_own PySem.F.excBase_ValueError U.x_NotPresented.x U.x_NotPresented.g U.x_NotPresented.k (raises_own U.x_NotPresented.b U.x_NotPresented.t) (by exact rfl))))
      pss_nil)))), ?_⟩
    refine q_asgX (x_meth (f := stateR) (args := aI) n (evv_var rfl) hW hO (ea_cons (ev_var rfl h_bill) ea_nil)) hW.sb (fun k hk G1 H1 g1 => kE k ?_ G1 H1 g1) fun d hd v G1 H1 g1 hv => ?_
    · unfold stateR at hk
      unfold returnedR
      cases hf : findR s n with
      | error k' => rw [hf] at hk; cases hk; rfl
      | ok i => rw [hf] at hk; cases hk
    · unfold stateR at hd
      cases hf : findR s n with
      | error k' => rw [hf] at hd; cases hd
      | ok i =>
        rw [hf] at hd
        cases hd
        obtain rfl := hv.str_eq
        refine q_when (b := decide ((bilOf s i).phase = "paid")) (et_test (ev_op (ev_var rfl (.str _)) ev_str rd_eqS)) g1.s (fun hb G2 H2 g2 => ?_) (fun hb G2 H2 g2 => ?_)
        · refine kE .Closed ?_ G2 H2 (g1.trans g2)
          unfold returnedR
          rw [hf]
          exact if_pos (of_decide_eq_true hb)
        have h1 := of_decide_eq_false hb
        refine s_if (b := decide ((bilOf s i).phase = "running")) (et_test (ev_op (ev_var rfl (.str _)) ev_str rd_eqS)) g2.s (fun hb G3 H3 g3 => ?_) (fun hb G3 H3 g3 => ?_)
        · refine kE .NotPresented ?_ G3 H3 ((g1.trans g2).trans g3)
          unfold returnedR
          rw [hf]
          exact (if_neg h1).trans (if_pos (of_decide_eq_true hb))
        · refine kQ .none ?_ .non G3 H3 ((g1.trans g2).trans g3) .non
          unfold returnedR
          rw [hf]
          exact (if_neg h1).trans (if_neg (of_decide_eq_false hb))
def openL (b : Bil) : List PyData := if b.phase = "paid" ∨ b.phase = "running" then [] else askM b.places b.keeper (decide (b.phase = "protested"))
def openR (s : Hl) (n : Int) : Except Kd (List PyData) := (findR s n).map fun i => openL (bilOf s i)
theorem ok_open_places {B : Bd} (T : Txt K mg A) (U : Ux K mg B) : FnOk P w K mg base (L2.CX P w) 3 A.a_open_places A.d_open_places ["hall", "bill"] (spQM B openR aI) := by
  have G_Hstate := ok_Hstate (P := P) (w := w) (base := base) T U
  have G_Hrow := ok_Hrow (P := P) (w := w) (base := base) T U
  have G_Hholder := ok_Hholder (P := P) (w := w) (base := base) T U
  have G_askable := ok_askable (P := P) (w := w) (base := base) T
  refine T.F_open_places.okX sc_open_places (fun vs H Q E h => lenQM (n := 1) (fun _ => rfl) h) (fun cdv A' outer st H vs Q E hr h => ?_)
  · obtain ⟨G, a, s, n, us, rfl, hx, hW, hO, kE, kQ⟩ := h
    obtain ⟨v1, rfl, h_bill⟩ := dxs1 hx
    refine ⟨_, (pss_cons (ps_set (i := 2) sc_open_places.nd rfl (Or.inl rfl) (pe_meth (pv 0) U.cl_Hall U.m_Hstate G_Hstate (hr.mono (by omega)) U.b_Hstate .nil (passes_call (takes_of rfl rfl rfl rfl) fun _ _ _ _ z => z) (by exact (pa_cons (pv 1) pa_nil))))
      (pss_cons (ps_if (pt_cmpR (op_inK (K := K)) (pv 2) (pe_tup (pa_cons (pe_glob (v := .str "paid") (by rfl) T.g_PAID ⟨_, rfl⟩) (pa_cons (pe_glob (v := .str "running") (by rfl) T.g_RUNNING ⟨_, rfl⟩) pa_nil))) rfl)
      (pss_one (ps_ret (pe_lst pa_nil)))
      pss_nil)
      (pss_one (ps_ret (pe_call G_askable (hr.mono (by omega)) (by rfl) T.m_askable T.F_askable.kp T.b_askable .nil pass0 (pa_cons (pe_meth (pv 0) U.cl_Hall U.m_Hrow G_Hrow (hr.mono (by omega)) U.b_Hrow .nil (passes_call (takes_of rfl rfl rfl rfl) fun _ _ _ _ z => z) (by exact (pa_cons (pv 1) pa_nil))) (pa_cons (pe_meth (pv 0) U.cl_Hall U.m_Hholder G_Hholder (hr.mono (by omega)) U.b_Hholder .nil (passes_call (takes_of rfl rfl rfl rfl) fun _ _ _ _ z => z) (by exact (pa_cons (pv 1) pa_nil))) (pa_cons (pe_cmpR op_eq (pv 2) (pe_glob (v := .str "protested") (by rfl) T.g_PROTESTED ⟨_, rfl⟩) (nomark _)) pa_nil)))))))), ?_⟩
    refine q_asgX (x_meth (f := stateR) (args := aI) n (evv_var rfl) hW hO (ea_cons (ev_var rfl h_bill) ea_nil)) hW.sb (fun k hk G1 H1 g1 => kE k ?_ G1 H1 g1) fun d hd v G1 H1 g1 hv => ?_
    · unfold stateR at hk
      unfold openR
      cases hf : findR s n with
      | error k' => rw [hf] at hk; cases hk; rfl
      | ok i => rw [hf] at hk; cases hk
    · unfold stateR at hd
      cases hf : findR s n with
      | error k' => rw [hf] at hd; cases hd
      | ok i =>
        rw [hf] at hd
        cases hd
        obtain rfl := hv.str_eq
        have hW := hW.step g1
        have h_bill := h_bill.mono g1.g
        have hres : openR s n = .ok (openL (bilOf s i)) := by unfold openR; rw [hf]; rfl
        have hmem : ((bilOf s i).phase ∈ (["paid", "running"] : List Str)) ↔ ((bilOf s i).phase = "paid" ∨ (bilOf s i).phase = "running") := by simp
        refine q_when (b := decide ((bilOf s i).phase ∈ (["paid", "running"] : List Str))) (et_test (ev_inT (neg := false) (zs := ["paid", "running"]) (ev_var rfl (.str _)) (ev_tup (ea_cons ev_str (ea_cons ev_str ea_nil)) (by show 2 ≤ 100000; decide)))) g1.s (fun hb G2 H2 g2 => ?_) (fun hb G2 H2 g2 => ?_)
        · refine s_retM (ev_lst ea_nil (by show 0 ≤ 100000; decide)) g2.s fun p xs G3 H3 g3 h0 hn hl hx => kQ _ hres p xs G3 H3 ((g1.trans g2).trans g3) ((g1.trans g2).free h0) hn hl ?_
          unfold openL
          rw [if_pos (hmem.mp (of_decide_eq_true hb))]
          exact hx
        · have hW := hW.step g2
          have h_bill := h_bill.mono g2.g
          have hp : ¬ ((bilOf s i).phase = "paid" ∨ (bilOf s i).phase = "running") := fun h => of_decide_eq_false hb (hmem.mpr h)
          have e1 : rowR s n = .ok (encR (bilOf s i).places) := by unfold rowR; rw [hf]; rfl
          have e2 : holderR s n = .ok (.str (bilOf s i).keeper) := by unfold holderR; rw [hf]; rfl
          obtain ⟨p0, q0, b0, hB⟩ := hW.bil (findR_lt hf)
          have h2 := (hB.two hO).2
          rw [← bilOf_eq hB.hb] at h2
          refine s_retM (ev_callM (fl := fun x => askM x.1 x.2.1 x.2.2) ((bilOf s i).places, (bilOf s i).keeper, decide ((bilOf s i).phase = "protested")) (ea_cons ((xm_meth (f := rowR) (args := aI) n (evv_var rfl) hW hO (ea_cons (ev_var rfl h_bill) ea_nil)).ok e1).dat (ea_cons ((x_meth (f := holderR) (args := aI) n (evv_var rfl) hW hO (ea_cons (ev_var rfl h_bill) ea_nil)).ok e2) (ea_cons (ev_op (ev_var rfl (.str _)) ev_str rd_eqS) ea_nil))) (by show (bilOf s i).places.length ≤ 1000; omega)) hW.sb fun p xs G3 H3 g3 h0 hn hl hx => kQ _ hres p xs G3 H3 ((g1.trans g2).trans g3) ((g1.trans g2).free h0) hn hl ?_
          unfold openL
          rw [if_neg hp]
          exact hx

end
end

-- hu.txt
section

local macro_rules | `(tactic| walk_at "arith") => `(tactic| first | omega | decide | (unfold CMul; omega) | (unfold CDiv; omega) | (unfold CPow; decide) | (refine ⟨?_, ?_⟩ <;> omega) | (simp; done) | (simp; omega))
local macro_rules | `(tactic| walk_at "wide") => `(tactic| exact ⟨by decide, by decide +kernel⟩)
section
variable {P : Program} {w : World} {K : PySem.W.Frag} {mg : Str → Option Value} {base : Heap} {A : Ad}
/-! ### changes -/
theorem pf1 {f : Str} {v x : V} {r : List (Str × V)} : putF f v ((f, x) :: r) = (f, v) :: r := by
  show (if f = f then _ else _) = _
  rw [if_pos rfl]
theorem pf2 {f g : Str} {v x : V} {r r' : List (Str × V)} (h : (f == g) = false) (k : putF f v r = r') : putF f v ((g, x) :: r) = (g, x) :: r' := by
  show (if g = f then _ else _) = _
  rw [if_neg (fun e => by rw [e, beq_self_eq_true] at h; cases h), k]
section
variable {b : Bil} {q q' : Addr}
theorem pfPlaces : putF "places" (.ref q') (bilF b q) = bilF b q' := pf2 (by decide +kernel) (pf2 (by decide +kernel) (pf2 (by decide +kernel) (pf2 (by decide +kernel) pf1)))
theorem pfKeeper {z : Str} : putF "keeper" (.str z) (bilF b q) = bilF { b with keeper := z } q := pf2 (by decide +kernel) (pf2 (by decide +kernel) (pf2 (by decide +kernel) (pf2 (by decide +kernel) (pf2 (by decide +kernel) pf1))))
theorem pfPhase {z : Str} : putF "phase" (.str z) (bilF b q) = bilF { b with phase := z } q := pf2 (by decide +kernel) (pf2 (by decide +kernel) (pf2 (by decide +kernel) (pf2 (by decide +kernel) (pf2 (by decide +kernel) (pf2 (by decide +kernel) pf1)))))
theorem pfIssue {z : Int} : putF "issue" (.int z) (bilF b q) = bilF { b with issue := z } q := pf2 (by decide +kernel) (pf2 (by decide +kernel) (pf2 (by decide +kernel) (pf2 (by decide +kernel) (pf2 (by decide +kernel) (pf2 (by decide +kernel) (pf2 (by decide +kernel) pf1))))))
theorem pfBlank {z : Bool} : putF "blank" (.bl z) (bilF b q) = bilF { b with blank := z } q := pf2 (by decide +kernel) (pf2 (by decide +kernel) (pf2 (by decide +kernel) (pf2 (by decide +kernel) (pf2 (by decide +kernel) (pf2 (by decide +kernel) (pf2 (by decide +kernel) (pf2 (by decide +kernel) pf1)))))))
theorem pfDay {a : Ha} {d d' : Int} : putF "day" (.int d') (hallF a d) = hallF a d' := pf2 (by decide +kernel) (pf2 (by decide +kernel) pf1)
end
def Hl.setB (s : Hl) (i : Nat) (b : Bil) : Hl := { s with bs := s.bs.set i b }
theorem bs_set {s : Hl} {i j : Nat} {b b' : Bil} (h : s.bs[i]? = some b') : (s.setB i b).bs[j]? = if j = i then some b else s.bs[j]? := by
  show (s.bs.set i b)[j]? = _
  rw [List.getElem?_set]
  have hi := (List.getElem?_eq_some_iff.mp h).1
  by_cases e : j = i
  · subst e; rw [if_pos rfl, if_pos rfl, if_pos hi]
  · rw [if_neg (fun z => e z.symm), if_neg e]
section
variable {B : Bd} {G H G1 H1 : Hp} {a : Ha} {s : Hl}
theorem W.setDay (w : W B G H a s) {dx : Addr} (d : Int) : W B G (upd H a.h (.ins B.C_Hall dx (hallF a d))) a { s with day := d } :=
  w.write .h rfl ⟨dx, rfl⟩ (fun i hi o c => by cases i with
    | h => exact (hi rfl).elim
    | _ => exact c) rfl
theorem W.setM (w : W B G H a s) (m : Mp) : W B G (upd H a.hd (.dK (kvM m))) a { s with m := m } :=
  w.write .hd rfl rfl (fun i hi o c => by cases i with
    | hd => exact (hi rfl).elim
    | _ => exact c) rfl
theorem W.setFl (w : W B G H a s) (f : List Str) : W B G (upd H a.fl (.lst (f.map V.str))) a { s with fl := f } :=
  w.write .fl rfl rfl (fun i hi o c => by cases i with
    | fl => exact (hi rfl).elim
    | _ => exact c) rfl
theorem W.setDs (w : W B G H a s) {vs : List V} {ds : List PyData} (x : Dxs G vs ds) : W B G (upd H a.dl (.lst vs)) a { s with ds := ds } :=
  w.write .dl rfl ⟨vs, rfl, x⟩ (fun i hi o c => by cases i with
    | dl => exact (hi rfl).elim
    | _ => exact c) rfl
theorem W.setBil (w : W B G H a s) {i : Nat} {p q dx : Addr} {b b' : Bil} (x : BilAt B G H a s i p q b) (hp : b'.places = b.places) : W B G (upd H p (.ins B.C_Bill dx (bilF b' q))) a (s.setB i b') := by
  refine w.write (.b i) x.ap ⟨b', q, dx, by rw [bs_set x.hb, if_pos rfl], x.aq, rfl⟩ (fun j hj o c => ?_) (by show (s.bs.set i b').length = _; rw [List.length_set])
  cases j with
  | b j =>
    obtain ⟨b2, q2, dx2, h1, h2, h3⟩ := c
    exact ⟨b2, q2, dx2, by rw [bs_set x.hb, if_neg (fun e => hj (by rw [e]))]; exact h1, h2, h3⟩
  | p j =>
    obtain ⟨b2, vs, h1, h2, h3⟩ := c
    by_cases e : j = i
    · subst e
      rw [x.hb] at h1; cases h1
      exact ⟨b', vs, by rw [bs_set x.hb, if_pos rfl], h2, by rw [hp]; exact h3⟩
    · exact ⟨b2, vs, by rw [bs_set x.hb, if_neg e]; exact h1, h2, h3⟩
  | _ => exact c
theorem W.setPl (w : W B G H a s) {i : Nat} {p q : Addr} {b : Bil} {vs : List V} {r : Rw} (x : BilAt B G H a s i p q b) (hx : Dxs G vs (encR r)) : W B G (upd H q (.lst vs)) a (s.setB i { b with places := r }) := by
  refine w.write (.p i) x.aq ⟨{ b with places := r }, vs, by rw [bs_set x.hb, if_pos rfl], rfl, hx⟩ (fun j hj o c => ?_) (by show (s.bs.set i _).length = _; rw [List.length_set])
  cases j with
  | b j =>
    obtain ⟨b2, q2, dx2, h1, h2, h3⟩ := c
    by_cases e : j = i
    · subst e
      rw [x.hb] at h1; cases h1
      exact ⟨{ b with places := r }, q2, dx2, by rw [bs_set x.hb, if_pos rfl], h2, h3⟩
    · exact ⟨b2, q2, dx2, by rw [bs_set x.hb, if_neg e]; exact h1, h2, h3⟩
  | p j =>
    obtain ⟨b2, vs2, h1, h2, h3⟩ := c
    exact ⟨b2, vs2, by rw [bs_set x.hb, if_neg (fun e => hj (by rw [e]))]; exact h1, h2, h3⟩
  | _ => exact c
/-- a bill gets another list of places, new and its own -/
theorem W.newPl (w : W B G H a s) {i : Nat} {p q q' dx : Addr} {b : Bil} {vs : List V} {r : Rw} (x : BilAt B G H a s i p q b) (hq : H q' = some (.lst vs)) (hn : G q' = none) (ho : ¬ a.In q') (hx : Dxs G vs (encR r)) :
    W B G (upd H p (.ins B.C_Bill dx (bilF { b with places := r } q'))) { a with pa := a.pa.set i q' } (s.setB i { b with places := r }) := by
  have hi : i < a.pa.length := (List.getElem?_eq_some_iff.mp x.aq).1
  have hpa : ∀ j, (a.pa.set i q')[j]? = if j = i then some q' else a.pa[j]? := fun j => by
    rw [List.getElem?_set]
    by_cases e : j = i
    · subst e; rw [if_pos rfl, if_pos rfl, if_pos hi]
    · rw [if_neg (fun z => e z.symm), if_neg e]
  have hat : ∀ j, j ≠ .p i → ({ a with pa := a.pa.set i q' } : Ha).at j = a.at j := fun j hj => by
    cases j with
    | p j => show (a.pa.set i q')[j]? = a.pa[j]?; rw [hpa, if_neg (fun e => hj (by rw [e]))]
    | _ => rfl
  have hat2 : ({ a with pa := a.pa.set i q' } : Ha).at (.p i) = some q' := by show (a.pa.set i q')[i]? = _; rw [hpa, if_pos rfl]
  have npq : q' ≠ p := fun e => ho (by rw [e]; exact ⟨.b i, x.ap⟩)
  refine ⟨w.sb.mut (w.ng (.b i) p x.ap), by rw [w.la]; show _ = (s.bs.set i _).length; rw [List.length_set], ?_, fun j k y h1 h2 => ?_, fun j y h1 => ?_, fun j y h1 => ?_⟩
  · show (a.pa.set i q').length = (s.bs.set i _).length
    rw [List.length_set, List.length_set, w.lp]
  · by_cases e1 : j = .p i
    · subst e1
      rw [hat2] at h1; cases h1
      by_cases e2 : k = .p i
      · exact e2.symm
      · rw [hat k e2] at h2; exact (ho ⟨k, h2⟩).elim
    · rw [hat j e1] at h1
      by_cases e2 : k = .p i
      · subst e2
        rw [hat2] at h2; cases h2
        exact (ho ⟨j, h1⟩).elim
      · rw [hat k e2] at h2
        exact w.inj j k y h1 h2
  · by_cases e1 : j = .p i
    · subst e1
      rw [hat2] at h1; cases h1
      exact ⟨.lst vs, (upd_ne npq).trans hq, { b with places := r }, vs, by rw [bs_set x.hb, if_pos rfl], rfl, hx⟩
    · rw [hat j e1] at h1
      by_cases e2 : j = .b i
      · subst e2
        have hy : y = p := by have h2 := x.ap; rw [show a.at (.b i) = a.ba[i]? from rfl] at h1; rw [h1] at h2; cases h2; rfl
        subst hy
        exact ⟨_, upd_same, { b with places := r }, q', dx, by rw [bs_set x.hb, if_pos rfl], by show (a.pa.set i q')[i]? = _; rw [hpa, if_pos rfl], rfl⟩
      · obtain ⟨o, h3, c⟩ := w.ct j y h1
        have ne : y ≠ p := fun z => e2 (w.inj j (.b i) p (by rw [← z]; exact h1) x.ap)
        refine ⟨o, (upd_ne ne).trans h3, ?_⟩
        cases j with
        | b j =>
          obtain ⟨b2, q2, dx2, k1, k2, k3⟩ := c
          have hji : ¬ j = i := fun e => e2 (by rw [e])
          exact ⟨b2, q2, dx2, by rw [bs_set x.hb, if_neg hji]; exact k1, by show (a.pa.set i q')[j]? = _; rw [hpa, if_neg hji]; exact k2, k3⟩
        | p j =>
          obtain ⟨b2, vs2, k1, k2, k3⟩ := c
          exact ⟨b2, vs2, by rw [bs_set x.hb, if_neg (fun e => e1 (by rw [e]))]; exact k1, k2, k3⟩
        | _ => exact c
  · by_cases e1 : j = .p i
    · subst e1
      rw [hat2] at h1; cases h1
      exact hn
    · rw [hat j e1] at h1
      exact w.ng j y h1
/-- a bill more -/
theorem W.addB (w : W B G H a s) {p q dx : Addr} {b : Bil} {vs : List V} (hp : H p = some (.ins B.C_Bill dx (bilF b q))) (hq : H q = some (.lst vs)) (hpn : G p = none) (hqn : G q = none) (hpq : p ≠ q) (hpo : ¬ a.In p) (hqo : ¬ a.In q) (hx : Dxs G vs (encR b.places)) :
    W B G (upd H a.bl (.lst (a.ba.map V.ref ++ [.ref p]))) { a with ba := a.ba ++ [p], pa := a.pa ++ [q] } { s with bs := s.bs ++ [b] } := by
  have la := w.la
  have lp := w.lp
  have pb : p ≠ a.bl := fun e => hpo ⟨.bl, congrArg some e.symm⟩
  have qb : q ≠ a.bl := fun e => hqo ⟨.bl, congrArg some e.symm⟩
  -- where an address stands
  have sp : ∀ {α : Type} (l : List α) (x : α) (j : Nat), (l ++ [x])[j]? = if j < l.length then l[j]? else if j = l.length then some x else none := fun l x j => by
    by_cases h : j < l.length
    · rw [if_pos h, List.getElem?_append_left h]
    · rw [if_neg h, List.getElem?_append_right (by omega)]
      by_cases e : j = l.length
      · subst e; simp
      · rw [if_neg e]
        exact List.getElem?_eq_none (by show 1 ≤ j - l.length; omega)
  have cs : ∀ j y, ({ a with ba := a.ba ++ [p], pa := a.pa ++ [q] } : Ha).at j = some y → a.at j = some y ∨ (j = .b s.bs.length ∧ y = p) ∨ (j = .p s.bs.length ∧ y = q) := fun j y h => by
    cases j with
    | b j =>
      have h : (a.ba ++ [p])[j]? = some y := h
      rw [sp] at h
      split at h
      · exact Or.inl h
      · split at h
        · rename_i h2; cases h; exact Or.inr (Or.inl ⟨by rw [h2, la], rfl⟩)
        · cases h
    | p j =>
      have h : (a.pa ++ [q])[j]? = some y := h
      rw [sp] at h
      split at h
      · exact Or.inl h
      · split at h
        · rename_i h2; cases h; exact Or.inr (Or.inr ⟨by rw [h2, lp], rfl⟩)
        · cases h
    | _ => exact Or.inl h
  refine ⟨w.sb.mut (w.ng .bl _ rfl), by show (a.ba ++ [p]).length = (s.bs ++ [b]).length; rw [List.length_append, List.length_append, la]; rfl, by show (a.pa ++ [q]).length = (s.bs ++ [b]).length; rw [List.length_append, List.length_append, lp]; rfl, fun j k y h1 h2 => ?_, fun j y h1 => ?_, fun j y h1 => ?_⟩
  · rcases cs j y h1 with c1 | ⟨c1, e1⟩ | ⟨c1, e1⟩ <;> rcases cs k y h2 with c2 | ⟨c2, e2⟩ | ⟨c2, e2⟩
    · exact w.inj j k y c1 c2
    · subst e2; exact (hpo ⟨j, c1⟩).elim
    · subst e2; exact (hqo ⟨j, c1⟩).elim
    · subst e1; exact (hpo ⟨k, c2⟩).elim
    · rw [c1, c2]
    · exact (hpq (e1.symm.trans e2)).elim
    · subst e1; exact (hqo ⟨k, c2⟩).elim
    · exact (hpq (e2.symm.trans e1)).elim
    · rw [c1, c2]
  · rcases cs j y h1 with c1 | ⟨c1, e1⟩ | ⟨c1, e1⟩
    · by_cases e2 : j = .bl
      · subst e2
        cases c1
        exact ⟨_, upd_same, by show _ = HO.lst ((a.ba ++ [p]).map V.ref); rw [List.map_append]; rfl⟩
      · obtain ⟨o, h3, c⟩ := w.ct j y c1
        have ne : y ≠ a.bl := fun z => e2 (w.inj j .bl a.bl (by rw [← z]; exact c1) rfl)
        refine ⟨o, (upd_ne ne).trans h3, ?_⟩
        cases j with
        | b j =>
          obtain ⟨b2, q2, dx2, k1, k2, k3⟩ := c
          have hj := (List.getElem?_eq_some_iff.mp k1).1
          exact ⟨b2, q2, dx2, by show (s.bs ++ [b])[j]? = _; rw [List.getElem?_append_left hj]; exact k1, by show (a.pa ++ [q])[j]? = _; rw [List.getElem?_append_left (by rw [lp]; exact hj)]; exact k2, k3⟩
        | p j =>
          obtain ⟨b2, vs2, k1, k2, k3⟩ := c
          have hj := (List.getElem?_eq_some_iff.mp k1).1
          exact ⟨b2, vs2, by show (s.bs ++ [b])[j]? = _; rw [List.getElem?_append_left hj]; exact k1, k2, k3⟩
        | bl => exact (e2 rfl).elim
        | _ => exact c
    · subst e1; subst c1
      exact ⟨_, (upd_ne pb).trans hp, b, q, dx, by show (s.bs ++ [b])[s.bs.length]? = _; rw [sp, if_neg (Nat.lt_irrefl _), if_pos rfl], by show (a.pa ++ [q])[s.bs.length]? = _; rw [sp, ← lp, if_neg (Nat.lt_irrefl _), if_pos rfl], rfl⟩
    · subst e1; subst c1
      exact ⟨_, (upd_ne qb).trans hq, b, vs, by show (s.bs ++ [b])[s.bs.length]? = _; rw [sp, if_neg (Nat.lt_irrefl _), if_pos rfl], rfl, hx⟩
  · rcases cs j y h1 with c1 | ⟨c1, e1⟩ | ⟨c1, e1⟩
    · exact w.ng j y c1
    · rw [e1]; exact hpn
    · rw [e1]; exact hqn
theorem W.ofs (w : W B G H a s) {s' : Hl} (e : s = s') : W B G H a s' := e ▸ w
end

end
end

-- hv.txt
section

local macro_rules | `(tactic| walk_at "arith") => `(tactic| first | omega | decide | (unfold CMul; omega) | (unfold CDiv; omega) | (unfold CPow; decide) | (refine ⟨?_, ?_⟩ <;> omega) | (simp; done) | (simp; omega))
local macro_rules | `(tactic| walk_at "wide") => `(tactic| exact ⟨by decide, by decide +kernel⟩)
section
variable {P : Program} {w : World} {K : PySem.W.Frag} {mg : Str → Option Value} {base : Heap} {A : Ad}
/-! ### a text taken out of a list -/
def eqz (z : Str) : Value → Bool
  | .str y _ => y.cps.toList == z.cps.toList
  | _ => false
theorem eqz_gives {z : Str} {t : Tok} {us : List Value} {ys : List Str} (h : PyProof.Rows.StrsAre us ys) : ∀ u ∈ us, MeetsSeq.EqGives u (.str z t) (eqz z u) := by
  induction h with
  | nil => intro u hu; cases hu
  | cons y k r ih =>
    intro u hu
    rcases List.mem_cons.mp hu with e | e
    · subst e; exact SeqRoads2.EqGives.str y z k t
    · exact ih u e
theorem strs_at {us : List Value} {ys : List Str} (h : PyProof.Rows.StrsAre us ys) : ∀ {i : Nat} {u : Value}, us[i]? = some u → ∃ y t, ys[i]? = some y ∧ u = .str y t := by
  induction h with
  | nil => intro i u e; cases e
  | cons y k r ih =>
    intro i u e
    cases i with
    | zero => cases e; exact ⟨y, k, rfl, rfl⟩
    | succ i => exact ih e
theorem erase_mapS : ∀ (l : List Str) (j : Nat), (l.map V.str).eraseIdx j = (l.eraseIdx j).map V.str
  | [], _ => rfl
  | _ :: _, 0 => rfl
  | a :: r, j + 1 => congrArg (V.str a :: ·) (erase_mapS r j)
def rRemS : V → List V → Hp → VK → Prop := fun x xs H Q => ∃ (l : Addr) (zs : List Str) (z : Str) (j : Nat), x = .ref l ∧ xs = [.str z] ∧ H l = some (.lst (zs.map V.str)) ∧
  zs[j]? = some z ∧ (∀ m : Nat, m < j → zs[m]? ≠ some z) ∧ Q .non (upd H l (.lst ((zs.eraseIdx j).map V.str)))
section
variable {X : Cx}
theorem mt_removeS : MtM X "list.remove" rRemS := fun pins st σ H x xs v us Q I rx rxs h => by
  obtain ⟨l, zs, z, j, ex, exs, hl0, hat, hfirst, q⟩ := h
  subst ex exs
  cases rx
  obtain ⟨u, hu, ru⟩ := rxs.one
  subst hu
  obtain ⟨t, hu⟩ := ru
  subst hu
  obtain ⟨hz, its, n, rv, hlen, e⟩ := I.lstM hl0
  have hs := rv.strs
  rw [List.length_map] at hlen hz
  have hjz : j < zs.length := (List.getElem?_eq_some_iff.mp hat).1
  have hji : j < its.length := by omega
  have hsz : its.toArray.size = its.length := List.size_toArray
  have hit : eqz z (its.toArray[j]'(by omega)) = true := by
    obtain ⟨y, ty, h1, h2⟩ := strs_at hs (List.getElem?_eq_getElem hji)
    rw [hat] at h1; cases h1
    have e1 : its.toArray[j]'(by omega) = .str z ty := by rw [← h2]; rfl
    rw [e1]
    exact beq_self_eq_true _
  have hno : ∀ m (hm : m < its.toArray.size), m < j → eqz z its.toArray[m] = false := fun m hm hmj => by
    obtain ⟨y, ty, h1, h2⟩ := strs_at hs (List.getElem?_eq_getElem (show m < its.length by omega))
    have e1 : its.toArray[m] = .str y ty := by rw [← h2]; rfl
    rw [e1]
    refine beq_eq_false_iff_ne.mpr fun e2 => hfirst m hmj ?_
    rw [h1, cps_inj e2]
  refine call_meets PySem.F.slot_list_remove ⟨_, e, rfl⟩ PySem.F.entry_list_remove (PySem.F.args_list_remove_2 _ _)
    (MeetsSeq.list_remove l its.toArray n (.str z t) (eqz z) (fun y hy => eqz_gives hs y (by simpa using hy)) j (by omega) hit hno (by omega)) ⟨e, ?_⟩
  have rr := rv.eraseIdx j
  rw [erase_mapS] at rr
  have hle : (zs.eraseIdx j).length ≤ zs.length := List.length_eraseIdx_le zs j
  refine ⟨.non, _, I.lset (its' := its.eraseIdx j) (t' := st.toks) hl0 e ?_ rr (by rw [List.length_map]; omega), rfl, q⟩
  show its.toArray.eraseIdxIfInBounds j = _
  exact List.eraseIdxIfInBounds_toArray ..
end
theorem first_of {zs : List Str} {z : Str} (h : z ∈ zs) : ∃ j, zs[j]? = some z ∧ (∀ m, m < j → zs[m]? ≠ some z) ∧ zs.eraseIdx j = zs.erase z := by
  induction zs with
  | nil => cases h
  | cons y r ih =>
    by_cases e : y = z
    · exact ⟨0, by rw [e]; rfl, fun m hm => absurd hm (Nat.not_lt_zero m), by rw [e, List.erase_cons_head]; rfl⟩
    · obtain ⟨j, h1, h2, h3⟩ := ih (by
        rcases List.mem_cons.mp h with h | h
        · exact (e h.symm).elim
        · exact h)
      refine ⟨j + 1, h1, fun m hm => ?_, ?_⟩
      · cases m with
        | zero => exact fun q => e (Option.some.inj q)
        | succ m => exact h2 m (by omega)
      · rw [List.erase_cons_tail (by simpa using e), ← h3]; rfl
/-! ### statements that change a hall -/
section
variable {B : Bd} {G H : Hp} {a : Ha} {s : Hl} {σ : L2.St} {te th tb : TE} {t : TA} {E : XK} {D : Ends} {tz : TS} {K : PySem.W.Frag} {mg : Str → Option Value} {d : PyData}
theorem s_story (w : W B G H a s) (od : s.ds.length ≤ 5000) (U : Ux K mg B) (h0 : EvV th σ G H (.ref a.h)) (he : EvD te σ G H d) (k : ∀ G1 H1, Ch a G H a G1 H1 → W B G1 H1 a { s with ds := s.ds ++ [d] } → D.nx σ H1) :
    tDrop (tBM K "list" rAppend (tFld K th "deeds") (tCons te tNil)) D σ H := by
  obtain ⟨vs, hl, hx⟩ := w.hl
  have hlen := hx.len
  exact (w.e_dl U h0) G H (.refl w.sb) _ fun G1 H1 g1 => ⟨Or.inl ⟨rfl, vs, Or.inl (Or.inl (sb_of g1 _ _ hl))⟩, he G1 H1 g1 _ fun v G2 H2 g2 x => ⟨a.dl, vs, v, rfl, rfl, sb_of (g1.trans g2) _ _ hl, Evl.sz_lt (by omega),
    k G2 _ ((Ch.of (g1.trans g2)).trans (Ch.write (w.step (g1.trans g2)) (j := .dl) rfl)) ((w.step (g1.trans g2)).setDs ((hx.mono (g1.trans g2).g).app (Dxs.one x)))⟩⟩
theorem q_story (w : W B G H a s) (o : s.ds.length ≤ 5000) (U : Ux K mg B) (h0 : EvV th σ G H (.ref a.h)) (he : EvD te σ G H d) (k : ∀ G1 H1, Ch a G H a G1 H1 → W B G1 H1 a { s with ds := s.ds ++ [d] } → tz D σ H1) :
    tSeq (tDrop (tBM K "list" rAppend (tFld K th "deeds") (tCons te tNil))) tz D σ H := s_story (D := { D with nx := tz D }) w o U h0 he k
theorem deed_w {r : Except Kd Mp} {Q : VK} (w : W B G H a s) (o : s.m.length ≤ 9) (e : ∀ k, r = .error k → ∀ G1 H1, Gr [] G H G1 H1 → E (.ref (B.cls k)) none H1) (k : ∀ m', r = .ok m' → ∀ G1 H1, Ch a G H a G1 H1 → W B G1 H1 a { s with m := m' } → Q .non H1) :
    Deed B B.C_Purses a.pu a.hd s.m r H Q E := ⟨w.pu' o, fun kk hk H' s' => e kk hk G H' (gr_sb w.sb s'), fun m' hm H' s' => by
  have w' := w.step (gr_sb w.sb s')
  exact k m' hm G _ ((Ch.of (gr_sb w.sb s')).trans (Ch.write w' (j := .hd) rfl)) (w'.setM m')⟩
theorem s_mfill {n : Str} {c : Int} (w : W B G H a s) (o : s.m.length ≤ 9) (h0 : EvV th σ G H (.ref a.pu)) (ht : EvA t σ G H [.str n, .int c]) (e : ∀ k, fillR s.m n c = .error k → ∀ G1 H1, Gr [] G H G1 H1 → E (.ref (B.cls k)) none H1)
    (k : ∀ m', fillR s.m n c = .ok m' → ∀ G1 H1, Ch a G H a G1 H1 → W B G1 H1 a { s with m := m' } → D.nx σ H1) : tDrop (tMeth B.C_Purses "fill" (spFill B) [] E th t) D σ H := h0 G H (.refl w.sb) _ fun G1 H1 g1 => by
  obtain ⟨dx, hp⟩ := (w.step g1).hp
  refine ⟨a.pu, dx, _, rfl, hp, no_meth (by decide +kernel), ht G1 H1 g1 _ fun vs G2 H2 g2 xs => ?_⟩
  obtain ⟨v1, v2, rfl, x1, x2⟩ := dxs2 xs
  obtain rfl := x1.str_eq
  obtain rfl := x2.int_eq
  have g := g1.trans g2
  exact ⟨a.pu, a.hd, s.m, n, c, rfl, deed_w (w.step g) o (fun kk hk G3 H3 g3 => e kk hk G3 H3 (g.trans g3)) fun m' hm G3 H3 c3 w3 => k m' hm G3 H3 ((Ch.of g).trans c3) w3⟩
theorem q_mfill {n : Str} {c : Int} (w : W B G H a s) (o : s.m.length ≤ 9) (h0 : EvV th σ G H (.ref a.pu)) (ht : EvA t σ G H [.str n, .int c]) (e : ∀ k, fillR s.m n c = .error k → ∀ G1 H1, Gr [] G H G1 H1 → E (.ref (B.cls k)) none H1)
    (k : ∀ m', fillR s.m n c = .ok m' → ∀ G1 H1, Ch a G H a G1 H1 → W B G1 H1 a { s with m := m' } → tz D σ H1) : tSeq (tDrop (tMeth B.C_Purses "fill" (spFill B) [] E th t)) tz D σ H := s_mfill (D := { D with nx := tz D }) w o h0 ht e k
theorem s_mspend {n : Str} {c : Int} (w : W B G H a s) (o : s.m.length ≤ 9) (h0 : EvV th σ G H (.ref a.pu)) (ht : EvA t σ G H [.str n, .int c]) (e : ∀ k, spendR s.m n c = .error k → ∀ G1 H1, Gr [] G H G1 H1 → E (.ref (B.cls k)) none H1)
    (k : ∀ m', spendR s.m n c = .ok m' → ∀ G1 H1, Ch a G H a G1 H1 → W B G1 H1 a { s with m := m' } → D.nx σ H1) : tDrop (tMeth B.C_Purses "spend" (spSpend B) [] E th t) D σ H := h0 G H (.refl w.sb) _ fun G1 H1 g1 => by
  obtain ⟨dx, hp⟩ := (w.step g1).hp
  refine ⟨a.pu, dx, _, rfl, hp, no_meth (by decide +kernel), ht G1 H1 g1 _ fun vs G2 H2 g2 xs => ?_⟩
  obtain ⟨v1, v2, rfl, x1, x2⟩ := dxs2 xs
  obtain rfl := x1.str_eq
  obtain rfl := x2.int_eq
  have g := g1.trans g2
  exact ⟨a.pu, a.hd, s.m, n, c, rfl, deed_w (w.step g) o (fun kk hk G3 H3 g3 => e kk hk G3 H3 (g.trans g3)) fun m' hm G3 H3 c3 w3 => k m' hm G3 H3 ((Ch.of g).trans c3) w3⟩
theorem q_mspend {n : Str} {c : Int} (w : W B G H a s) (o : s.m.length ≤ 9) (h0 : EvV th σ G H (.ref a.pu)) (ht : EvA t σ G H [.str n, .int c]) (e : ∀ k, spendR s.m n c = .error k → ∀ G1 H1, Gr [] G H G1 H1 → E (.ref (B.cls k)) none H1)
    (k : ∀ m', spendR s.m n c = .ok m' → ∀ G1 H1, Ch a G H a G1 H1 → W B G1 H1 a { s with m := m' } → tz D σ H1) : tSeq (tDrop (tMeth B.C_Purses "spend" (spSpend B) [] E th t)) tz D σ H := s_mspend (D := { D with nx := tz D }) w o h0 ht e k
theorem s_madd {n : Str} {c : Int} (w : W B G H a s) (o : s.m.length ≤ 9) (h0 : EvV th σ G H (.ref a.pu)) (ht : EvA t σ G H [.str n, .int c]) (e : ∀ k, addR s.m n c = .error k → ∀ G1 H1, Gr [] G H G1 H1 → E (.ref (B.cls k)) none H1)
    (k : ∀ m', addR s.m n c = .ok m' → ∀ G1 H1, Ch a G H a G1 H1 → W B G1 H1 a { s with m := m' } → D.nx σ H1) : tDrop (tMeth B.C_Purses "add_purse" (spAdd B) [] E th t) D σ H := h0 G H (.refl w.sb) _ fun G1 H1 g1 => by
  obtain ⟨dx, hp⟩ := (w.step g1).hp
  refine ⟨a.pu, dx, _, rfl, hp, no_meth (by decide +kernel), ht G1 H1 g1 _ fun vs G2 H2 g2 xs => ?_⟩
  obtain ⟨v1, v2, rfl, x1, x2⟩ := dxs2 xs
  obtain rfl := x1.str_eq
  obtain rfl := x2.int_eq
  have g := g1.trans g2
  exact ⟨a.pu, a.hd, s.m, n, c, rfl, deed_w (w.step g) o (fun kk hk G3 H3 g3 => e kk hk G3 H3 (g.trans g3)) fun m' hm G3 H3 c3 w3 => k m' hm G3 H3 ((Ch.of g).trans c3) w3⟩
theorem q_madd {n : Str} {c : Int} (w : W B G H a s) (o : s.m.length ≤ 9) (h0 : EvV th σ G H (.ref a.pu)) (ht : EvA t σ G H [.str n, .int c]) (e : ∀ k, addR s.m n c = .error k → ∀ G1 H1, Gr [] G H G1 H1 → E (.ref (B.cls k)) none H1)
    (k : ∀ m', addR s.m n c = .ok m' → ∀ G1 H1, Ch a G H a G1 H1 → W B G1 H1 a { s with m := m' } → tz D σ H1) : tSeq (tDrop (tMeth B.C_Purses "add_purse" (spAdd B) [] E th t)) tz D σ H := s_madd (D := { D with nx := tz D }) w o h0 ht e k
theorem s_mpay {n n2 : Str} {c : Int} (w : W B G H a s) (o : s.m.length ≤ 9) (h0 : EvV th σ G H (.ref a.pu)) (ht : EvA t σ G H [.str n, .str n2, .int c]) (e : ∀ k, payR s.m n n2 c = .error k → ∀ G1 H1, Gr [] G H G1 H1 → E (.ref (B.cls k)) none H1)
    (k : ∀ m', payR s.m n n2 c = .ok m' → ∀ G1 H1, Ch a G H a G1 H1 → W B G1 H1 a { s with m := m' } → D.nx σ H1) : tDrop (tMeth B.C_Purses "pay" (spPay B) [] E th t) D σ H := h0 G H (.refl w.sb) _ fun G1 H1 g1 => by
  obtain ⟨dx, hp⟩ := (w.step g1).hp
  refine ⟨a.pu, dx, _, rfl, hp, no_meth (by decide +kernel), ht G1 H1 g1 _ fun vs G2 H2 g2 xs => ?_⟩
  obtain ⟨v1, v2, v3, rfl, x1, x2, x3⟩ := dxs3 xs
  obtain rfl := x1.str_eq
  obtain rfl := x2.str_eq
  obtain rfl := x3.int_eq
  have g := g1.trans g2
  exact ⟨a.pu, a.hd, s.m, n, n2, c, rfl, deed_w (w.step g) o (fun kk hk G3 H3 g3 => e kk hk G3 H3 (g.trans g3)) fun m' hm G3 H3 c3 w3 => k m' hm G3 H3 ((Ch.of g).trans c3) w3⟩
theorem q_mpay {n n2 : Str} {c : Int} (w : W B G H a s) (o : s.m.length ≤ 9) (h0 : EvV th σ G H (.ref a.pu)) (ht : EvA t σ G H [.str n, .str n2, .int c]) (e : ∀ k, payR s.m n n2 c = .error k → ∀ G1 H1, Gr [] G H G1 H1 → E (.ref (B.cls k)) none H1)
    (k : ∀ m', payR s.m n n2 c = .ok m' → ∀ G1 H1, Ch a G H a G1 H1 → W B G1 H1 a { s with m := m' } → tz D σ H1) : tSeq (tDrop (tMeth B.C_Purses "pay" (spPay B) [] E th t)) tz D σ H := s_mpay (D := { D with nx := tz D }) w o h0 ht e k
theorem s_fail {z : Str} (w : W B G H a s) (of : s.fl.length ≤ 5000) (U : Ux K mg B) (h0 : EvV th σ G H (.ref a.h)) (he : EvD te σ G H (.str z)) (k : ∀ G1 H1, Ch a G H a G1 H1 → W B G1 H1 a { s with fl := s.fl ++ [z] } → D.nx σ H1) :
    tDrop (tBM K "list" rAppend (tFld K th "failed") (tCons te tNil)) D σ H := by
  exact (w.e_fl U h0) G H (.refl w.sb) _ fun G1 H1 g1 => ⟨Or.inl ⟨rfl, _, Or.inl (Or.inl (sb_of g1 _ _ w.hf))⟩, he G1 H1 g1 _ fun v G2 H2 g2 x => ⟨a.fl, _, v, rfl, rfl, sb_of (g1.trans g2) _ _ w.hf, Evl.sz_lt (by rw [List.length_map]; omega), by
    have := k G2 _ ((Ch.of (g1.trans g2)).trans (Ch.write (w.step (g1.trans g2)) (j := .fl) rfl)) ((w.step (g1.trans g2)).setFl (s.fl ++ [z]))
    rw [List.map_append] at this
    rw [x.str_eq]
    exact this⟩⟩
theorem q_fail {z : Str} (w : W B G H a s) (of : s.fl.length ≤ 5000) (U : Ux K mg B) (h0 : EvV th σ G H (.ref a.h)) (he : EvD te σ G H (.str z)) (k : ∀ G1 H1, Ch a G H a G1 H1 → W B G1 H1 a { s with fl := s.fl ++ [z] } → tz D σ H1) : tSeq (tDrop (tBM K "list" rAppend (tFld K th "failed") (tCons te tNil))) tz D σ H := s_fail (D := { D with nx := tz D }) w of U h0 he k
theorem s_mend {z : Str} (w : W B G H a s) (U : Ux K mg B) (h0 : EvV th σ G H (.ref a.h)) (he : EvD te σ G H (.str z)) (hz : z ∈ s.fl) (k : ∀ G1 H1, Ch a G H a G1 H1 → W B G1 H1 a { s with fl := s.fl.erase z } → D.nx σ H1) :
    tDrop (tBM K "list" rRemS (tFld K th "failed") (tCons te tNil)) D σ H := by
  obtain ⟨j, j1, j2, j3⟩ := first_of hz
  exact (w.e_fl U h0) G H (.refl w.sb) _ fun G1 H1 g1 => ⟨Or.inl ⟨rfl, _, Or.inl (Or.inl (sb_of g1 _ _ w.hf))⟩, he G1 H1 g1 _ fun v G2 H2 g2 x => ⟨a.fl, s.fl, z, j, rfl, by rw [x.str_eq], sb_of (g1.trans g2) _ _ w.hf, j1, j2, by
    rw [j3]
    exact k G2 _ ((Ch.of (g1.trans g2)).trans (Ch.write (w.step (g1.trans g2)) (j := .fl) rfl)) ((w.step (g1.trans g2)).setFl (s.fl.erase z))⟩⟩
theorem q_mend {z : Str} (w : W B G H a s) (U : Ux K mg B) (h0 : EvV th σ G H (.ref a.h)) (he : EvD te σ G H (.str z)) (hz : z ∈ s.fl) (k : ∀ G1 H1, Ch a G H a G1 H1 → W B G1 H1 a { s with fl := s.fl.erase z } → tz D σ H1) : tSeq (tDrop (tBM K "list" rRemS (tFld K th "failed") (tCons te tNil))) tz D σ H := s_mend (D := { D with nx := tz D }) w U h0 he hz k
theorem s_day {n : Int} (w : W B G H a s) (U : Ux K mg B) (h0 : EvV th σ G H (.ref a.h)) (he : EvD te σ G H (.int n)) (k : ∀ G1 H1, Ch a G H a G1 H1 → W B G1 H1 a { s with day := s.day + n } → D.nx σ H1) : sFldAug K th te rAdd "day" D σ H :=
  h0 G H (.refl w.sb) _ fun G1 H1 g1 => by
    obtain ⟨dx, hh⟩ := (w.step g1).hh
    refine ⟨a.h, B.C_Hall, dx, _, .int s.day, rfl, hh, U.cl_Hall, U.n_Hall_day, lkD, he G1 H1 g1 _ fun v G2 H2 g2 x => ?_⟩
    obtain ⟨dx2, hh2⟩ := (w.step (g1.trans g2)).hh
    refine ⟨s.day, n, rfl, x.int_eq, dx2, _, hh2, by show 5 < 1000; decide, ?_⟩
    rw [pfDay]
    exact k G2 _ ((Ch.of (g1.trans g2)).trans (Ch.write (w.step (g1.trans g2)) (j := .h) rfl)) ((w.step (g1.trans g2)).setDay _)
theorem q_day {n : Int} (w : W B G H a s) (U : Ux K mg B) (h0 : EvV th σ G H (.ref a.h)) (he : EvD te σ G H (.int n)) (k : ∀ G1 H1, Ch a G H a G1 H1 → W B G1 H1 a { s with day := s.day + n } → tz D σ H1) : tSeq (sFldAug K th te rAdd "day") tz D σ H := s_day (D := { D with nx := tz D }) w U h0 he k
section
variable {i : Nat} {p q : Addr} {b : Bil}
theorem BilAt.set {G1 H1 : Hp} {b' : Bil} {p' q' : Addr} {a' : Ha} {s' : Hl} (w : W B G1 H1 a' s') (hb : s'.bs[i]? = some b') (hp : a'.ba[i]? = some p') (hq : a'.pa[i]? = some q') : BilAt B G1 H1 a' s' i p' q' b' := by
  obtain ⟨p2, q2, b2, x⟩ := w.bil (List.getElem?_eq_some_iff.mp hb).1
  have e1 := x.hb
  have e2 := x.ap
  have e3 := x.aq
  rw [hb] at e1; cases e1
  rw [hp] at e2; cases e2
  rw [hq] at e3; cases e3
  exact x
/-- drawn.f = e -/
theorem s_bfld {f : Str} {b' : Bil} (w : W B G H a s) (x : BilAt B G H a s i p q b) (U : Ux K mg B) (h0 : EvV tb σ G H (.ref p)) (he : EvD te σ G H d) (n : NoAttr K B.C_Bill f) (hf : ∀ v G', Dx G' v d → putF f v (bilF b q) = bilF b' q) (hp : b'.places = b.places)
    (k : ∀ G1 H1, Ch a G H a G1 H1 → W B G1 H1 a (s.setB i b') → BilAt B G1 H1 a (s.setB i b') i p q b' → D.nx σ H1) : sFld K tb te f D σ H := he G H (.refl w.sb) _ fun v G1 H1 g1 y => h0 G1 H1 g1 _ fun G2 H2 g2 => by
  have g := g1.trans g2
  have x2 := x.step g
  have w2 := w.step g
  obtain ⟨dx, e⟩ := x2.hp
  refine ⟨p, B.C_Bill, dx, _, rfl, e, U.cl_Bill, n, by show 9 < 1000; decide, ?_⟩
  rw [hf v G1 y]
  have w3 := w2.setBil (dx := dx) x2 hp
  exact k G2 _ ((Ch.of g).trans (Ch.write w2 (j := .b i) x2.ap)) w3 (BilAt.set w3 (by rw [bs_set x.hb, if_pos rfl]) x.ap x.aq)
theorem s_keeper {z : Str} (w : W B G H a s) (x : BilAt B G H a s i p q b) (U : Ux K mg B) (h0 : EvV tb σ G H (.ref p)) (he : EvD te σ G H (.str z))
    (k : ∀ G1 H1, Ch a G H a G1 H1 → W B G1 H1 a (s.setB i { b with keeper := z }) → BilAt B G1 H1 a (s.setB i { b with keeper := z }) i p q { b with keeper := z } → D.nx σ H1) : sFld K tb te "keeper" D σ H :=
  s_bfld (b' := { b with keeper := z }) w x U h0 he U.n_Bill_keeper (fun v G' y => by rw [y.str_eq]; exact pfKeeper) rfl k
theorem q_keeper {z : Str} (w : W B G H a s) (x : BilAt B G H a s i p q b) (U : Ux K mg B) (h0 : EvV tb σ G H (.ref p)) (he : EvD te σ G H (.str z))
    (k : ∀ G1 H1, Ch a G H a G1 H1 → W B G1 H1 a (s.setB i { b with keeper := z }) → BilAt B G1 H1 a (s.setB i { b with keeper := z }) i p q { b with keeper := z } → tz D σ H1) : tSeq (sFld K tb te "keeper") tz D σ H := s_keeper (D := { D with nx := tz D }) w x U h0 he k
theorem s_phase {z : Str} (w : W B G H a s) (x : BilAt B G H a s i p q b) (U : Ux K mg B) (h0 : EvV tb σ G H (.ref p)) (he : EvD te σ G H (.str z))
    (k : ∀ G1 H1, Ch a G H a G1 H1 → W B G1 H1 a (s.setB i { b with phase := z }) → BilAt B G1 H1 a (s.setB i { b with phase := z }) i p q { b with phase := z } → D.nx σ H1) : sFld K tb te "phase" D σ H :=
  s_bfld (b' := { b with phase := z }) w x U h0 he U.n_Bill_phase (fun v G' y => by rw [y.str_eq]; exact pfPhase) rfl k
theorem q_phase {z : Str} (w : W B G H a s) (x : BilAt B G H a s i p q b) (U : Ux K mg B) (h0 : EvV tb σ G H (.ref p)) (he : EvD te σ G H (.str z))
    (k : ∀ G1 H1, Ch a G H a G1 H1 → W B G1 H1 a (s.setB i { b with phase := z }) → BilAt B G1 H1 a (s.setB i { b with phase := z }) i p q { b with phase := z } → tz D σ H1) : tSeq (sFld K tb te "phase") tz D σ H := s_phase (D := { D with nx := tz D }) w x U h0 he k
theorem s_blank {z : Bool} (w : W B G H a s) (x : BilAt B G H a s i p q b) (U : Ux K mg B) (h0 : EvV tb σ G H (.ref p)) (he : EvD te σ G H (.bool z))
    (k : ∀ G1 H1, Ch a G H a G1 H1 → W B G1 H1 a (s.setB i { b with blank := z }) → BilAt B G1 H1 a (s.setB i { b with blank := z }) i p q { b with blank := z } → D.nx σ H1) : sFld K tb te "blank" D σ H :=
  s_bfld (b' := { b with blank := z }) w x U h0 he U.n_Bill_blank (fun v G' y => by rw [y.bl_eq]; exact pfBlank) rfl k
theorem q_blank {z : Bool} (w : W B G H a s) (x : BilAt B G H a s i p q b) (U : Ux K mg B) (h0 : EvV tb σ G H (.ref p)) (he : EvD te σ G H (.bool z))
    (k : ∀ G1 H1, Ch a G H a G1 H1 → W B G1 H1 a (s.setB i { b with blank := z }) → BilAt B G1 H1 a (s.setB i { b with blank := z }) i p q { b with blank := z } → tz D σ H1) : tSeq (sFld K tb te "blank") tz D σ H := s_blank (D := { D with nx := tz D }) w x U h0 he k
theorem s_issue {n : Int} (w : W B G H a s) (x : BilAt B G H a s i p q b) (U : Ux K mg B) (h0 : EvV tb σ G H (.ref p)) (he : EvD te σ G H (.int n))
    (k : ∀ G1 H1, Ch a G H a G1 H1 → W B G1 H1 a (s.setB i { b with issue := b.issue + n }) → BilAt B G1 H1 a (s.setB i { b with issue := b.issue + n }) i p q { b with issue := b.issue + n } → D.nx σ H1) : sFldAug K tb te rAdd "issue" D σ H := h0 G H (.refl w.sb) _ fun G1 H1 g1 => by
  obtain ⟨dx, e⟩ := (x.step g1).hp
  refine ⟨p, B.C_Bill, dx, _, .int b.issue, rfl, e, U.cl_Bill, U.n_Bill_issue, ((lk2 (by decide +kernel)).trans ((lk2 (by decide +kernel)).trans ((lk2 (by decide +kernel)).trans ((lk2 (by decide +kernel)).trans ((lk2 (by decide +kernel)).trans ((lk2 (by decide +kernel)).trans ((lk2 (by decide +kernel)).trans lk1))))))), he G1 H1 g1 _ fun v G2 H2 g2 y => ?_⟩
  have g := g1.trans g2
  have x2 := x.step g
  have w2 := w.step g
  obtain ⟨dx2, e2⟩ := x2.hp
  refine ⟨b.issue, n, rfl, y.int_eq, dx2, _, e2, by show 9 < 1000; decide, ?_⟩
  rw [pfIssue]
  have w3 := w2.setBil (dx := dx2) (b' := { b with issue := b.issue + n }) x2 rfl
  exact k G2 _ ((Ch.of g).trans (Ch.write w2 (j := .b i) x2.ap)) w3 (BilAt.set w3 (by rw [bs_set x.hb, if_pos rfl]) x.ap x.aq)
theorem q_issue {n : Int} (w : W B G H a s) (x : BilAt B G H a s i p q b) (U : Ux K mg B) (h0 : EvV tb σ G H (.ref p)) (he : EvD te σ G H (.int n))
    (k : ∀ G1 H1, Ch a G H a G1 H1 → W B G1 H1 a (s.setB i { b with issue := b.issue + n }) → BilAt B G1 H1 a (s.setB i { b with issue := b.issue + n }) i p q { b with issue := b.issue + n } → tz D σ H1) : tSeq (sFldAug K tb te rAdd "issue") tz D σ H := s_issue (D := { D with nx := tz D }) w x U h0 he k
/-- drawn.places.append(e) -/
theorem s_sign {r : Str × Bool} (w : W B G H a s) (h8 : b.places.length ≤ 8) (x : BilAt B G H a s i p q b) (U : Ux K mg B) (h0 : EvV tb σ G H (.ref p)) (he : EvD te σ G H (encP r))
    (k : ∀ G1 H1, Ch a G H a G1 H1 → W B G1 H1 a (s.setB i { b with places := b.places ++ [r] }) → BilAt B G1 H1 a (s.setB i { b with places := b.places ++ [r] }) i p q { b with places := b.places ++ [r] } → D.nx σ H1) :
    tDrop (tBM K "list" rAppend (tFld K tb "places") (tCons te tNil)) D σ H := by
  obtain ⟨vs, hq, hx⟩ := x.hq
  have hlen := hx.len
  have hle : (encR b.places).length = b.places.length := by unfold encR; rw [List.length_map]
  exact (x.e_places U h0) G H (.refl w.sb) _ fun G1 H1 g1 => ⟨Or.inl ⟨rfl, vs, Or.inl (Or.inl (sb_of g1 _ _ hq))⟩, he G1 H1 g1 _ fun v G2 H2 g2 y => ⟨q, vs, v, rfl, rfl, sb_of (g1.trans g2) _ _ hq, Evl.sz_lt (by omega), by
    have g := g1.trans g2
    have x2 := x.step g
    have w2 := w.step g
    have w3 := w2.setPl (r := b.places ++ [r]) x2 (vs := vs ++ [v]) (by
      have := (hx.mono g.g).app (Dxs.one y)
      unfold encR at this ⊢
      rw [List.map_append]
      exact this)
    exact k G2 _ ((Ch.of g).trans (Ch.write w2 (j := .p i) x2.aq)) w3 (BilAt.set w3 (by rw [bs_set x.hb, if_pos rfl]) x.ap x.aq)⟩⟩
theorem q_sign {r : Str × Bool} (w : W B G H a s) (h8 : b.places.length ≤ 8) (x : BilAt B G H a s i p q b) (U : Ux K mg B) (h0 : EvV tb σ G H (.ref p)) (he : EvD te σ G H (encP r))
    (k : ∀ G1 H1, Ch a G H a G1 H1 → W B G1 H1 a (s.setB i { b with places := b.places ++ [r] }) → BilAt B G1 H1 a (s.setB i { b with places := b.places ++ [r] }) i p q { b with places := b.places ++ [r] } → tz D σ H1) : tSeq (tDrop (tBM K "list" rAppend (tFld K tb "places") (tCons te tNil))) tz D σ H := s_sign (D := { D with nx := tz D }) w h8 x U h0 he k
/-- drawn.places[0] = e -/
theorem s_place0 {r : Str × Bool} (w : W B G H a s) (h2 : 2 ≤ b.places.length) (x : BilAt B G H a s i p q b) (U : Ux K mg B) (h0 : EvV tb σ G H (.ref p)) (he : EvD te σ G H (encP r))
    (k : ∀ G1 H1, Ch a G H a G1 H1 → W B G1 H1 a (s.setB i { b with places := b.places.set 0 r }) → BilAt B G1 H1 a (s.setB i { b with places := b.places.set 0 r }) i p q { b with places := b.places.set 0 r } → D.nx σ H1) :
    tAsg te (gSub (tFld K tb "places") (tC (.int 0)) rSetL) D σ H := by
  obtain ⟨vs, hq, hx⟩ := x.hq
  have hlen := hx.len
  have hle : (encR b.places).length = b.places.length := by unfold encR; rw [List.length_map]
  exact he G H (.refl w.sb) _ fun v G1 H1 g1 y => (x.e_places U h0) G1 H1 g1 _ fun G2 H2 g2 => by
    have g := g1.trans g2
    have x2 := x.step g
    have w2 := w.step g
    have w3 := w2.setPl (r := b.places.set 0 r) x2 (vs := vs.set 0 v) (by
      cases vs with
      | nil => exfalso; rw [hle] at hlen; simp at hlen; omega
      | cons v0 vr =>
        cases hbp : b.places with
        | nil => rw [hbp] at h2; simp at h2
        | cons r0 rr =>
          rw [hbp] at hx
          cases hx with
          | cons hx1 hx2 => exact .cons (y.mono g2.g) (hx2.mono g.g))
    refine ⟨q, vs, 0, 0, rfl, rfl, sb_of g _ _ hq, ?_, k G2 _ ((Ch.of g).trans (Ch.write w2 (j := .p i) x2.aq)) w3 (BilAt.set w3 (by rw [bs_set x.hb, if_pos rfl]) x.ap x.aq)⟩
    show (if (0 : Int) ≤ 0 then (if (0 : Int) < (vs.length : Int) then some (0 : Int).toNat else none) else _) = some 0
    rw [if_pos (Int.le_refl 0), if_pos (by omega)]
    rfl
theorem q_place0 {r : Str × Bool} (w : W B G H a s) (h2 : 2 ≤ b.places.length) (x : BilAt B G H a s i p q b) (U : Ux K mg B) (h0 : EvV tb σ G H (.ref p)) (he : EvD te σ G H (encP r))
    (k : ∀ G1 H1, Ch a G H a G1 H1 → W B G1 H1 a (s.setB i { b with places := b.places.set 0 r }) → BilAt B G1 H1 a (s.setB i { b with places := b.places.set 0 r }) i p q { b with places := b.places.set 0 r } → tz D σ H1) : tSeq (tAsg te (gSub (tFld K tb "places") (tC (.int 0)) rSetL)) tz D σ H := s_place0 (D := { D with nx := tz D }) w h2 x U h0 he k
/-- drawn.places = e, e a new list of its own -/
theorem s_places {r : Rw} (w : W B G H a s) (x : BilAt B G H a s i p q b) (U : Ux K mg B) (h0 : EvV tb σ G H (.ref p)) (he : EvM te σ G H (encR r))
    (k : ∀ q' a' G1 H1, Ch a G H a' G1 H1 → a'.ba = a.ba → a'.h = a.h → W B G1 H1 a' (s.setB i { b with places := r }) → BilAt B G1 H1 a' (s.setB i { b with places := r }) i p q' { b with places := r } → D.nx σ H1) : sFld K tb te "places" D σ H := he G H (.refl w.sb) _ fun l xs G1 H1 g1 l0 ln ll lx => h0 G1 H1 g1 _ fun G2 H2 g2 => by
  have g := g1.trans g2
  have x2 := x.step g
  have w2 := w.step g
  obtain ⟨dx, e⟩ := x2.hp
  refine ⟨p, B.C_Bill, dx, _, rfl, e, U.cl_Bill, U.n_Bill_places, by show 9 < 1000; decide, ?_⟩
  rw [pfPlaces]
  have hno : ¬ a.In l := fun ⟨j, hj⟩ => by
    obtain ⟨o', e', _⟩ := w.ct j l hj
    rw [l0] at e'; cases e'
  have hl2 : G2 l = none := g2.n l _ ll ln
  have w3 := w2.newPl (dx := dx) x2 (sb_of g2 _ _ ll) hl2 hno (lx.mono g2.g)
  have hi : i < a.pa.length := (List.getElem?_eq_some_iff.mp x.aq).1
  have c0 : Ch a G H a G2 (upd H2 p (.ins B.C_Bill dx (bilF { b with places := r } l))) := (Ch.of g).trans (Ch.write w2 (j := .b i) x2.ap)
  refine k l { a with pa := a.pa.set i l } G2 _ ⟨c0.g, c0.s, c0.h, c0.t, c0.n, fun y hy => ?_⟩ rfl rfl w3 (BilAt.set w3 (by rw [bs_set x.hb, if_pos rfl]) x.ap (by show (a.pa.set i l)[i]? = some l; rw [List.getElem?_set, if_pos rfl, if_pos hi]))
  obtain ⟨j, hj⟩ := hy
  cases j with
  | p j =>
    have hj : (a.pa.set i l)[j]? = some y := hj
    rw [List.getElem?_set] at hj
    split at hj
    · cases hj; exact Or.inr l0
    · exact Or.inl ⟨.p j, hj⟩
  | b j => exact Or.inl ⟨.b j, hj⟩
  | h => exact Or.inl ⟨.h, hj⟩
  | pu => exact Or.inl ⟨.pu, hj⟩
  | hd => exact Or.inl ⟨.hd, hj⟩
  | fl => exact Or.inl ⟨.fl, hj⟩
  | bl => exact Or.inl ⟨.bl, hj⟩
  | dl => exact Or.inl ⟨.dl, hj⟩
theorem q_places {r : Rw} (w : W B G H a s) (x : BilAt B G H a s i p q b) (U : Ux K mg B) (h0 : EvV tb σ G H (.ref p)) (he : EvM te σ G H (encR r))
    (k : ∀ q' a' G1 H1, Ch a G H a' G1 H1 → a'.ba = a.ba → a'.h = a.h → W B G1 H1 a' (s.setB i { b with places := r }) → BilAt B G1 H1 a' (s.setB i { b with places := r }) i p q' { b with places := r } → tz D σ H1) : tSeq (sFld K tb te "places") tz D σ H := s_places (D := { D with nx := tz D }) w x U h0 he k
end
end

end
end

-- hd1.txt
section

local macro_rules | `(tactic| walk_at "arith") => `(tactic| first | omega | decide | (unfold CMul; omega) | (unfold CDiv; omega) | (unfold CPow; decide) | (refine ⟨?_, ?_⟩ <;> omega) | (simp; done) | (simp; omega))
local macro_rules | `(tactic| walk_at "wide") => `(tactic| exact ⟨by decide, by decide +kernel⟩)
section
variable {P : Program} {w : World} {K : PySem.W.Frag} {mg : Str → Option Value} {base : Heap} {A : Ad}
/-! ### making bills and halls -/
def newBil (dr de pa : Str) (am du : Int) (bo : Bool) : Bil := ⟨de, pa, am, du, [(de, false), (dr, bo)], pa, "running", 1, false⟩
section
variable {G H : Hp} {σ : L2.St} {te : TE} {d : PyData} {ds : List PyData} {D : Ends} {tz : TS} {K : PySem.W.Frag} {p C dx : Addr} {fs : List (Str × V)} {f : Str} {j : Nat}
theorem s_seti (hp : H p = some (.ins C dx fs)) (hn : G p = none) (s : Sb G H) (c : Cls K C) (n : NoAttr K C f) (hl : fs.length < 1000) (he : EvD te σ G H d) (h0 : σ[j]? = some (some (.ref p)))
    (k : ∀ v G1 H1, Gr [p] G H G1 H1 → G1 p = none → Dx G1 v d → H1 p = some (.ins C dx (putF f v fs)) → D.nx σ H1) : sFld K (tVar j) te f D σ H := he G H (.refl s) _ fun v G1 H1 g1 y =>
  ⟨_, h0, p, C, dx, fs, rfl, sb_of g1 _ _ hp, c, n, hl, k v G1 _ (g1.any.write (Or.inl (by simp)) (g1.n _ _ hp hn)) (g1.n _ _ hp hn) y upd_same⟩
theorem q_seti (hp : H p = some (.ins C dx fs)) (hn : G p = none) (s : Sb G H) (c : Cls K C) (n : NoAttr K C f) (hl : fs.length < 1000) (he : EvD te σ G H d) (h0 : σ[j]? = some (some (.ref p)))
    (k : ∀ v G1 H1, Gr [p] G H G1 H1 → G1 p = none → Dx G1 v d → H1 p = some (.ins C dx (putF f v fs)) → tz D σ H1) : tSeq (sFld K (tVar j) te f) tz D σ H := s_seti (D := { D with nx := tz D }) hp hn s c n hl he h0 k
theorem s_setiM (hp : H p = some (.ins C dx fs)) (hn : G p = none) (s : Sb G H) (c : Cls K C) (n : NoAttr K C f) (hl : fs.length < 1000) (he : EvM te σ G H ds) (h0 : σ[j]? = some (some (.ref p)))
    (k : ∀ l xs G1 H1, Gr [p] G H G1 H1 → G1 p = none → H l = none → G1 l = none → H1 l = some (.lst xs) → Dxs G1 xs ds → H1 p = some (.ins C dx (putF f (.ref l) fs)) → D.nx σ H1) : sFld K (tVar j) te f D σ H := he G H (.refl s) _ fun l xs G1 H1 g1 l0 ln ll y =>
  ⟨_, h0, p, C, dx, fs, rfl, sb_of g1 _ _ hp, c, n, hl, k l xs G1 _ (g1.any.write (Or.inl (by simp)) (g1.n _ _ hp hn)) (g1.n _ _ hp hn) l0 ln ((upd_ne (fun e => by rw [e, hp] at l0; cases l0)).trans ll) y upd_same⟩
theorem q_setiM (hp : H p = some (.ins C dx fs)) (hn : G p = none) (s : Sb G H) (c : Cls K C) (n : NoAttr K C f) (hl : fs.length < 1000) (he : EvM te σ G H ds) (h0 : σ[j]? = some (some (.ref p)))
    (k : ∀ l xs G1 H1, Gr [p] G H G1 H1 → G1 p = none → H l = none → G1 l = none → H1 l = some (.lst xs) → Dxs G1 xs ds → H1 p = some (.ins C dx (putF f (.ref l) fs)) → tz D σ H1) : tSeq (sFld K (tVar j) te f) tz D σ H := s_setiM (D := { D with nx := tz D }) hp hn s c n hl he h0 k
end
theorem pf0 {f : Str} {v : V} : putF f v [] = [(f, v)] := rfl
abbrev spBinit (B : Bd) : Sp := fun vs H Q _ => ∃ (G : Hp) (p dx : Addr) (dr de pa : Str) (am du : Int) (bo : Bool), vs = [.ref p, .str dr, .str de, .str pa, .int am, .int du, .bl bo] ∧ Sb G H ∧ H p = some (.ins B.C_Bill dx []) ∧ G p = none ∧
  ∀ G' H' q xs, Gr [p] G H G' H' → G' p = none → H' p = some (.ins B.C_Bill dx (bilF (newBil dr de pa am du bo) q)) → H q = none → G' q = none → H' q = some (.lst xs) → Dxs G' xs (encR (newBil dr de pa am du bo).places) → Q .non H'
theorem ok_Binit {B : Bd} (T : Txt K mg A) (U : Ux K mg B) : FnOk P w K mg base CX0 1 B.a_Binit B.d_Binit ["self", "drawer", "drawee", "payee", "amount", "due", "bound"] (spBinit B) := by
  refine U.F_Binit.ok sc_Binit (fun vs H Q E h => ?_) (fun cdv A' outer st H vs Q E hr h => ?_)
  · obtain ⟨_, _, _, _, _, _, _, _, _, rfl, _⟩ := h; rfl
  · obtain ⟨G, p, dx, dr, de, pa, am, du, bo, rfl, s0, hp, hn, k⟩ := h
    refine ⟨_, (pss_cons (ps_fld (pv 0) (pv 2) rfl)
      (pss_cons (ps_fld (pv 0) (pv 3) rfl)
      (pss_cons (ps_fld (pv 0) (pv 4) rfl)
      (pss_cons (ps_fld (pv 0) (pv 5) rfl)
      (pss_cons (ps_fld (pv 0) (pe_lst (pa_cons (pe_tup (pa_cons (pv 2) (pa_cons pe_bl pa_nil))) (pa_cons (pe_tup (pa_cons (pv 1) (pa_cons (pv 6) pa_nil))) pa_nil))) rfl)
      (pss_cons (ps_fld (pv 0) (pv 3) rfl)
      (pss_cons (ps_fld (pv 0) (pe_glob (v := .str "running") (by rfl) T.g_RUNNING ⟨_, rfl⟩) rfl)
      (pss_cons (ps_fld (pv 0) pe_int rfl)
      (pss_one (ps_fld (pv 0) pe_bl rfl)))))))))), ?_⟩
    refine q_seti hp hn s0 U.cl_Bill U.n_Bill_drawee (by show 0 < 1000; decide) (ev_var rfl (.str de)) rfl fun v1 G1 H1 g1 n1 y1 e1 => ?_
    obtain rfl := y1.str_eq
    rw [pf0] at e1
    refine q_seti e1 n1 g1.s U.cl_Bill U.n_Bill_payee (by show 1 < 1000; decide) (ev_var rfl (.str pa)) rfl fun v2 G2 H2 g2 n2 y2 e2 => ?_
    obtain rfl := y2.str_eq
    rw [pf2 (by decide +kernel) pf0] at e2
    refine q_seti e2 n2 g2.s U.cl_Bill U.n_Bill_amount (by show 2 < 1000; decide) (ev_var rfl (.int am)) rfl fun v3 G3 H3 g3 n3 y3 e3 => ?_
    obtain rfl := y3.int_eq
    rw [pf2 (by decide +kernel) (pf2 (by decide +kernel) pf0)] at e3
    refine q_seti e3 n3 g3.s U.cl_Bill U.n_Bill_due (by show 3 < 1000; decide) (ev_var rfl (.int du)) rfl fun v4 G4 H4 g4 n4 y4 e4 => ?_
    obtain rfl := y4.int_eq
    rw [pf2 (by decide +kernel) (pf2 (by decide +kernel) (pf2 (by decide +kernel) pf0))] at e4
    have g14 := ((g1.trans g2).trans g3).trans g4
    refine q_setiM (ds := [encP (de, false), encP (dr, bo)]) e4 n4 g4.s U.cl_Bill U.n_Bill_places (by show 4 < 1000; decide) (ev_lst (ea_cons (ev_tup (ea_cons (ev_var rfl (.str de)) (ea_cons ev_bl ea_nil)) (by show 2 ≤ 100000; decide)) (ea_cons (ev_tup (ea_cons (ev_var rfl (.str dr)) (ea_cons (ev_var rfl (.bl bo)) ea_nil)) (by show 2 ≤ 100000; decide)) ea_nil)) (by show 2 ≤ 100000; decide)) rfl fun q xs G5 H5 g5 n5 q0 qn ql xs5 e5 => ?_
    have np : q ≠ p := fun e => by rw [e, e4] at q0; cases q0
    rw [pf2 (by decide +kernel) (pf2 (by decide +kernel) (pf2 (by decide +kernel) (pf2 (by decide +kernel) pf0)))] at e5
    refine q_seti e5 n5 g5.s U.cl_Bill U.n_Bill_keeper (by show 5 < 1000; decide) (ev_var rfl (.str pa)) rfl fun v6 G6 H6 g6 n6 y6 e6 => ?_
    obtain rfl := y6.str_eq
    rw [pf2 (by decide +kernel) (pf2 (by decide +kernel) (pf2 (by decide +kernel) (pf2 (by decide +kernel) (pf2 (by decide +kernel) pf0))))] at e6
    refine q_seti e6 n6 g6.s U.cl_Bill U.n_Bill_phase (by show 6 < 1000; decide) ev_str rfl fun v7 G7 H7 g7 n7 y7 e7 => ?_
    obtain rfl := y7.str_eq
    rw [pf2 (by decide +kernel) (pf2 (by decide +kernel) (pf2 (by decide +kernel) (pf2 (by decide +kernel) (pf2 (by decide +kernel) (pf2 (by decide +kernel) pf0)))))] at e7
    refine q_seti e7 n7 g7.s U.cl_Bill U.n_Bill_issue (by show 7 < 1000; decide) ev_int rfl fun v8 G8 H8 g8 n8 y8 e8 => ?_
    obtain rfl := y8.int_eq
    rw [pf2 (by decide +kernel) (pf2 (by decide +kernel) (pf2 (by decide +kernel) (pf2 (by decide +kernel) (pf2 (by decide +kernel) (pf2 (by decide +kernel) (pf2 (by decide +kernel) pf0))))))] at e8
    refine s_seti e8 n8 g8.s U.cl_Bill U.n_Bill_blank (by show 8 < 1000; decide) ev_bl rfl fun v9 G9 H9 g9 n9 y9 e9 => ?_
    obtain rfl := y9.bl_eq
    rw [pf2 (by decide +kernel) (pf2 (by decide +kernel) (pf2 (by decide +kernel) (pf2 (by decide +kernel) (pf2 (by decide +kernel) (pf2 (by decide +kernel) (pf2 (by decide +kernel) (pf2 (by decide +kernel) pf0)))))))] at e9
    have g69 := ((g6.trans g7).trans g8).trans g9
    refine k G9 H9 q xs ((g14.trans g5).trans g69) n9 e9 (g14.free q0) ?_ ?_ (xs5.mono g69.g)
    · exact g69.n q _ ql qn
    · exact g69.h q _ (by simpa using np) ql
def hall0 : Hl := ⟨[], [], 0, [], []⟩
abbrev spHinit (B : Bd) : Sp := fun vs H Q _ => ∃ (G : Hp) (p dx : Addr), vs = [.ref p] ∧ Sb G H ∧ H p = some (.ins B.C_Hall dx []) ∧ G p = none ∧
  ∀ G' H' a, Gr [p] G H G' H' → a.h = p → (∀ x, a.In x → x = p ∨ H x = none) → W B G' H' a hall0 → Q .non H'
theorem ok_Hinit {B : Bd} (T : Txt K mg A) (U : Ux K mg B) : FnOk P w K mg base CX0 3 B.a_Hinit B.d_Hinit ["self"] (spHinit B) := by
  have G_Minit := ok_Minit (P := P) (w := w) (base := base) T U
  refine U.F_Hinit.ok sc_Hinit (fun vs H Q E h => ?_) (fun cdv A' outer st H vs Q E hr h => ?_)
  · obtain ⟨_, _, _, rfl, _⟩ := h; rfl
  · obtain ⟨G, p, dx, rfl, s0, hp, hn, k⟩ := h
    refine ⟨_, (pss_cons (ps_fld (pv 0) (pe_make0 U.mk_Purses G_Minit (hr.mono (by omega)) (by rfl) U.g_Purses U.b_Minit .nil pass0) rfl)
      (pss_cons (ps_fld (pv 0) (pe_lst pa_nil) rfl)
      (pss_cons (ps_fld (pv 0) pe_int rfl)
      (pss_cons (ps_fld (pv 0) (pe_lst pa_nil) rfl)
      (pss_one (ps_fld (pv 0) (pe_lst pa_nil) rfl)))))), ?_⟩
    refine seqI ?_
    show tMake _ _ _ _ _ _ _ _
    intro u ux hu hux hne
    refine ⟨u, ux, rfl, upd_same, fun d hd => ⟨rfl, _, rfl, ?_⟩⟩
    -- the heap behind the purses
    have nup : p ≠ u := fun e => by rw [← e, hp] at hu; cases hu
    have nuxp : p ≠ ux := fun e => by rw [← e, hp] at hux; cases hux
    have hd1 : d ≠ u := fun e => by rw [e, upd_same] at hd; cases hd
    have hd2 : d ≠ ux := fun e => by rw [e, upd_ne (Ne.symm hne.symm), upd_same] at hd; cases hd
    have hd0 : H d = none := by rw [upd_ne hd1, upd_ne hd2] at hd; exact hd
    have ndp : p ≠ d := fun e => by rw [← e, hp] at hd0; cases hd0
    generalize hH1 : upd (upd (upd (upd H ux (.own u)) u (.ins B.C_Purses ux [])) d (.dK [])) u (.ins B.C_Purses ux [("held", .ref d)]) = H1
    have s1 : Sb H H1 := fun x o e => by
      have x1 : x ≠ u := fun z => by rw [z, hu] at e; cases e
      have x2 : x ≠ ux := fun z => by rw [z, hux] at e; cases e
      have x3 : x ≠ d := fun z => by rw [z, hd0] at e; cases e
      rw [← hH1, upd_ne x1, upd_ne x3, upd_ne x1, upd_ne x2]; exact e
    have eu : H1 u = some (.ins B.C_Purses ux [("held", .ref d)]) := by rw [← hH1]; exact upd_same
    have ed : H1 d = some (.dK []) := by rw [← hH1, upd_ne hd1, upd_same]
    have hp1 := s1 _ _ hp
    refine ⟨p, B.C_Hall, dx, [], rfl, hp1, U.cl_Hall, U.n_Hall_purses, by show 0 < 1000; decide, ?_⟩
    rw [pf0]
    dsimp only
    have g1 : Gr [p] G H G (upd H1 p (.ins B.C_Hall dx [("purses", .ref u)])) := (gr_sb s0 s1).any.write (Or.inl (by simp)) hn
    have e1 : upd H1 p (.ins B.C_Hall dx [("purses", .ref u)]) p = some (.ins B.C_Hall dx [("purses", .ref u)]) := upd_same
    have eu1 : upd H1 p (.ins B.C_Hall dx [("purses", .ref u)]) u = _ := (upd_ne nup.symm).trans eu
    have ed1 : upd H1 p (.ins B.C_Hall dx [("purses", .ref u)]) d = _ := (upd_ne ndp.symm).trans ed
    generalize upd H1 p (.ins B.C_Hall dx [("purses", .ref u)]) = H2 at g1 e1 eu1 ed1 ⊢
    refine q_setiM e1 hn g1.s U.cl_Hall U.n_Hall_failed (by show 1 < 1000; decide) (ev_lst ea_nil (by show 0 ≤ 100000; decide)) rfl fun f xs3 G3 H3 g3 n3 f0 fn fl xf e3 => ?_
    cases xf
    rw [pf2 (by decide +kernel) pf0] at e3
    have nfp : f ≠ p := fun e => by rw [e, e1] at f0; cases f0
    refine q_seti e3 n3 g3.s U.cl_Hall U.n_Hall_day (by show 2 < 1000; decide) ev_int rfl fun v4 G4 H4 g4 n4 y4 e4 => ?_
    obtain rfl := y4.int_eq
    rw [pf2 (by decide +kernel) (pf2 (by decide +kernel) pf0)] at e4
    refine q_setiM e4 n4 g4.s U.cl_Hall U.n_Hall_bills (by show 3 < 1000; decide) (ev_lst ea_nil (by show 0 ≤ 100000; decide)) rfl fun bl xs5 G5 H5 g5 n5 b0 bn bll xb e5 => ?_
    cases xb
    rw [pf2 (by decide +kernel) (pf2 (by decide +kernel) (pf2 (by decide +kernel) pf0))] at e5
    have nbp : bl ≠ p := fun e => by rw [e, e4] at b0; cases b0
    refine s_setiM e5 n5 g5.s U.cl_Hall U.n_Hall_deeds (by show 4 < 1000; decide) (ev_lst ea_nil (by show 0 ≤ 100000; decide)) rfl fun dl xs6 G6 H6 g6 n6 d0 dn dll xd e6 => ?_
    cases xd
    rw [pf2 (by decide +kernel) (pf2 (by decide +kernel) (pf2 (by decide +kernel) (pf2 (by decide +kernel) pf0)))] at e6
    have ndlp : dl ≠ p := fun e => by rw [e, e5] at d0; cases d0
    have m1 : ∀ {x : Addr}, x ≠ p → x ∉ [p] := fun h => by simpa using h
    have eu6 := g6.h u _ (m1 nup.symm) (g5.h u _ (m1 nup.symm) (g4.h u _ (m1 nup.symm) (g3.h u _ (m1 nup.symm) eu1)))
    have ed6 := g6.h d _ (m1 ndp.symm) (g5.h d _ (m1 ndp.symm) (g4.h d _ (m1 ndp.symm) (g3.h d _ (m1 ndp.symm) ed1)))
    have ef6 := g6.h f _ (m1 nfp) (g5.h f _ (m1 nfp) (g4.h f _ (m1 nfp) fl))
    have eb6 := g6.h bl _ (m1 nbp) bll
    have nG : ∀ {x : Addr} {o : HO}, H2 x = some o → H x = none → x ≠ p → G6 x = none := fun {x o} h1 h2 h3 => by
      have q0 : G x = none := s0.none h2
      have := (((g3.trans g4).trans g5).trans g6).n x o h1 q0
      exact this
    refine k G6 H6 ⟨p, u, d, f, bl, dl, [], []⟩ ((((g1.trans g3).trans g4).trans g5).trans g6) rfl (fun x hx => ?_) ?_
    · obtain ⟨i, hi⟩ := hx
      cases i with
      | h => cases hi; exact Or.inl rfl
      | pu => cases hi; exact Or.inr hu
      | hd => cases hi; exact Or.inr hd0
      | fl => cases hi; exact Or.inr (g1.free f0)
      | bl => cases hi; exact Or.inr (((g1.trans g3).trans g4).free b0)
      | dl => cases hi; exact Or.inr ((((g1.trans g3).trans g4).trans g5).free d0)
      | b j => cases hi
      | p j => cases hi
    · have k1 : d ≠ u := hd1
      have k2 : f ≠ u := fun e => by rw [e, eu1] at f0; cases f0
      have k3 : f ≠ d := fun e => by rw [e, ed1] at f0; cases f0
      have eu4 := g4.h u _ (m1 nup.symm) (g3.h u _ (m1 nup.symm) eu1)
      have ed4 := g4.h d _ (m1 ndp.symm) (g3.h d _ (m1 ndp.symm) ed1)
      have ef4 := g4.h f _ (m1 nfp) fl
      have k4 : bl ≠ u := fun e => by rw [e, eu4] at b0; cases b0
      have k5 : bl ≠ d := fun e => by rw [e, ed4] at b0; cases b0
      have k6 : bl ≠ f := fun e => by rw [e, ef4] at b0; cases b0
      have k7 : dl ≠ u := fun e => by rw [e, g5.h u _ (m1 nup.symm) eu4] at d0; cases d0
      have k8 : dl ≠ d := fun e => by rw [e, g5.h d _ (m1 ndp.symm) ed4] at d0; cases d0
      have k9 : dl ≠ f := fun e => by rw [e, g5.h f _ (m1 nfp) ef4] at d0; cases d0
      have k10 : dl ≠ bl := fun e => by rw [e, bll] at d0; cases d0
      refine ⟨g6.s, rfl, rfl, fun i j x hi hj => ?_, fun i x hi => ?_, fun i x hi => ?_⟩
      · cases i <;> cases j <;> first | rfl | (cases hi; done) | (cases hj; done) | (exfalso; cases hi; cases hj; first | exact nup rfl | exact ndp rfl | exact nfp rfl | exact nbp rfl | exact ndlp rfl | exact k1 rfl | exact k2 rfl | exact k3 rfl | exact k4 rfl | exact k5 rfl | exact k6 rfl | exact k7 rfl | exact k8 rfl | exact k9 rfl | exact k10 rfl)
      · cases i with
        | h => cases hi; exact ⟨_, e6, dx, rfl⟩
        | pu => cases hi; exact ⟨_, eu6, ux, rfl⟩
        | hd => cases hi; exact ⟨_, ed6, rfl⟩
        | fl => cases hi; exact ⟨_, ef6, rfl⟩
        | bl => cases hi; exact ⟨_, eb6, rfl⟩
        | dl => cases hi; exact ⟨_, dll, [], rfl, .nil⟩
        | b j => cases hi
        | p j => cases hi
      · cases i with
        | h => cases hi; exact n6
        | pu => cases hi; exact nG eu1 hu nup.symm
        | hd => cases hi; exact nG ed1 hd0 ndp.symm
        | fl => cases hi; exact ((g4.trans g5).trans g6).n f _ fl fn
        | bl => cases hi; exact g6.n bl _ bll bn
        | dl => cases hi; exact dn
        | b j => cases hi
        | p j => cases hi

end
end

-- hd2.txt
section

local macro_rules | `(tactic| walk_at "arith") => `(tactic| first | omega | decide | (unfold CMul; omega) | (unfold CDiv; omega) | (unfold CPow; decide) | (refine ⟨?_, ?_⟩ <;> omega) | (simp; done) | (simp; omega))
local macro_rules | `(tactic| walk_at "wide") => `(tactic| exact ⟨by decide, by decide +kernel⟩)
section
variable {P : Program} {w : World} {K : PySem.W.Frag} {mg : Str → Option Value} {base : Heap} {A : Ad}
/-! ### deeds -/
def seqE {α β : Type} (r : Except Kd α) (f : α → Except Kd β) : Except Kd β := match r with
  | .error k => .error k
  | .ok x => f x
theorem seqE_err {α β : Type} {r : Except Kd α} {f : α → Except Kd β} {k : Kd} (h : r = .error k) : seqE r f = .error k := by rw [h]; rfl
theorem seqE_ok {α β : Type} {r : Except Kd α} {f : α → Except Kd β} {x : α} (h : r = .ok x) : seqE r f = f x := by rw [h]; rfl
theorem seqE_inv {α β : Type} {r : Except Kd α} {f : α → Except Kd β} {y : β} (h : seqE r f = .ok y) : ∃ x, r = .ok x ∧ f x = .ok y := by
  unfold seqE at h
  cases r with
  | error k => cases h
  | ok x => exact ⟨x, rfl, h⟩
def tell (s : Hl) (d : PyData) : Hl := { s with ds := s.ds ++ [d] }
abbrev DR := Except Kd (Hl × PyData)
abbrev spD (B : Bd) {α : Type} (R : Hl → α → DR) (args : α → List PyData) (pre : α → Prop) : Sp := fun vs H Q E => ∃ (G : Hp) (a : Ha) (s : Hl) (x : α) (us : List V), vs = .ref a.h :: us ∧ Dxs G us (args x) ∧ W B G H a s ∧ Ok s ∧ pre x ∧
  (∀ k, R s x = .error k → ∀ G' H', Gr [] G H G' H' → E (.ref (B.cls k)) none H') ∧ (∀ s' d, R s x = .ok (s', d) → ∀ a' G' H' v, Ch a G H a' G' H' → a'.h = a.h → W B G' H' a' s' → Dx G' v d → Q v H')
theorem lenD {B : Bd} {α : Type} {R : Hl → α → DR} {args : α → List PyData} {pre : α → Prop} {n : Nat} (hn : ∀ x, (args x).length = n) {vs : List V} {H : Hp} {Q : VK} {E : XK} (h : spD B R args pre vs H Q E) : vs.length = n + 1 := by
  obtain ⟨_, _, _, x, _, rfl, hx, _⟩ := h
  show _ + 1 = _
  rw [hx.len, hn x]
theorem any1 {α : Type} {P : α → Prop} : (∀ _ : α, True) := fun _ => trivial
section
variable {B : Bd} {G H : Hp} {a : Ha} {s : Hl} {σ : L2.St} {te th : TE} {t : TA} {E : XK} {D : Ends} {tz : TS} {K : PySem.W.Frag} {mg : Str → Option Value}
/-- a deed called -/
theorem x_deed {α : Type} {R : Hl → α → DR} {args : α → List PyData} {pre : α → Prop} {m : Str} (x : α) (h0 : EvV te σ G H (.ref a.h)) (w : W B G H a s) (o : Ok s) (hp : pre x) (ht : EvA t σ G H (args x)) (Q : VK)
    (e : ∀ k, R s x = .error k → ∀ G1 H1, Gr [] G H G1 H1 → E (.ref (B.cls k)) none H1) (k : ∀ s' d, R s x = .ok (s', d) → ∀ a' G1 H1 v, Ch a G H a' G1 H1 → a'.h = a.h → W B G1 H1 a' s' → Dx G1 v d → Q v H1)
    (hm : (["purses", "failed", "day", "bills", "deeds"] : List Str).all (fun k => !(m == k)) = true := by decide +kernel) : tMeth B.C_Hall m (spD B R args pre) [] E te t σ H Q := h0 G H (.refl w.sb) _ fun G1 H1 g1 => by
  obtain ⟨dx, hh⟩ := (w.step g1).hh
  refine ⟨a.h, dx, _, rfl, hh, hall_look hm, ht G1 H1 g1 _ fun vs G2 H2 g2 xs => ?_⟩
  have g := g1.trans g2
  exact ⟨G2, a, s, x, vs, by rw [List.append_nil], xs, w.step g, o, hp, fun kk hk G3 H3 g3 => e kk hk G3 H3 (g.trans g3), fun s' d hd a' G3 H3 v c ea w3 y => k s' d hd a' G3 H3 v ((Ch.of g).trans c) ea w3 y⟩
theorem q_deed {α : Type} {R : Hl → α → DR} {args : α → List PyData} {pre : α → Prop} {m : Str} (x : α) (h0 : EvV te σ G H (.ref a.h)) (w : W B G H a s) (o : Ok s) (hp : pre x) (ht : EvA t σ G H (args x))
    (e : ∀ k, R s x = .error k → ∀ G1 H1, Gr [] G H G1 H1 → E (.ref (B.cls k)) none H1) (k : ∀ s' d, R s x = .ok (s', d) → ∀ a' G1 H1, Ch a G H a' G1 H1 → a'.h = a.h → W B G1 H1 a' s' → tz D σ H1)
    (hm : (["purses", "failed", "day", "bills", "deeds"] : List Str).all (fun k => !(m == k)) = true := by decide +kernel) : tSeq (tDrop (tMeth B.C_Hall m (spD B R args pre) [] E te t)) tz D σ H :=
  x_deed x h0 w o hp ht _ e (fun s' d hd a' G1 H1 _ c ea w1 _ => k s' d hd a' G1 H1 c ea w1) hm
theorem s_retDeed {α : Type} {R : Hl → α → DR} {args : α → List PyData} {pre : α → Prop} {m : Str} (x : α) (h0 : EvV te σ G H (.ref a.h)) (w : W B G H a s) (o : Ok s) (hp : pre x) (ht : EvA t σ G H (args x))
    (e : ∀ k, R s x = .error k → ∀ G1 H1, Gr [] G H G1 H1 → E (.ref (B.cls k)) none H1) (k : ∀ s' d, R s x = .ok (s', d) → ∀ a' G1 H1 v, Ch a G H a' G1 H1 → a'.h = a.h → W B G1 H1 a' s' → Dx G1 v d → D.rt v H1)
    (hm : (["purses", "failed", "day", "bills", "deeds"] : List Str).all (fun k => !(m == k)) = true := by decide +kernel) : tRet (tMeth B.C_Hall m (spD B R args pre) [] E te t) D σ H :=
  x_deed x h0 w o hp ht _ e k hm
theorem dxs6 {G : Hp} {vs : List V} {a b c d e f : PyData} (h : Dxs G vs [a, b, c, d, e, f]) : ∃ x y z w u t, vs = [x, y, z, w, u, t] ∧ Dx G x a ∧ Dx G y b ∧ Dx G z c ∧ Dx G w d ∧ Dx G u e ∧ Dx G t f := by
  cases h with | cons h r => obtain ⟨y, z, w, u, t, rfl, hy, hz, hw, hu, ht⟩ := dxs5 r; exact ⟨_, y, z, w, u, t, rfl, h, hy, hz, hw, hu, ht⟩
theorem s_badd {dr de pa : Str} {am du : Int} {bo : Bool} (w : W B G H a s) (o : s.bs.length ≤ 40) (U : Ux K mg B) (h0 : EvV th σ G H (.ref a.h)) (ht : EvA t σ G H [.str dr, .str de, .str pa, .int am, .int du, .bool bo])
    (k : ∀ a' G1 H1, Ch a G H a' G1 H1 → a'.h = a.h → W B G1 H1 a' { s with bs := s.bs ++ [newBil dr de pa am du bo] } → D.nx σ H1) : tDrop (tBM K "list" rAppend (tFld K th "bills") (tCons (tMake B.C_Bill (spBinit B) [] E t) tNil)) D σ H :=
  (w.e_bl U h0) G H (.refl w.sb) _ fun G1 H1 g1 => ⟨Or.inl ⟨rfl, _, Or.inl (Or.inl (sb_of g1 _ _ w.hb))⟩, ht G1 H1 g1 _ fun vs G2 H2 g2 xs x dx hx hdx hne => by
    obtain ⟨u1, u2, u3, u4, u5, u6, rfl, y1, y2, y3, y4, y5, y6⟩ := dxs6 xs
    obtain rfl := y1.str_eq
    obtain rfl := y2.str_eq
    obtain rfl := y3.str_eq
    obtain rfl := y4.int_eq
    obtain rfl := y5.int_eq
    obtain rfl := y6.bl_eq
    have g := g1.trans g2
    have w2 := w.step g
    have nx : G2 x = none := g2.s.none hx
    refine ⟨G2, x, dx, dr, de, pa, am, du, bo, rfl, (g2.s.mut (g2.s.none hdx)).mut nx, upd_same, nx, fun G' H' q xs' gr n' e' q0 qn ql xx => ⟨rfl, ?_⟩⟩
    have old : ∀ y o, H2 y = some o → H' y = some o := fun y o e => by
      have n1 : y ≠ x := fun z => by rw [z, hx] at e; cases e
      have n2 : y ≠ dx := fun z => by rw [z, hdx] at e; cases e
      exact gr.h y o (by simpa using n1) (by rw [upd_ne n1, upd_ne n2]; exact e)
    have keep : ∀ y o, H2 y = some o → (upd (upd H2 dx (.own x)) x (.ins B.C_Bill dx [])) y = some o := fun y o e => by
      have n1 : y ≠ x := fun z => by rw [z, hx] at e; cases e
      have n2 : y ≠ dx := fun z => by rw [z, hdx] at e; cases e
      rw [upd_ne n1, upd_ne n2]; exact e
    have gg : Gr [] G2 H2 G' H' := ⟨gr.g, gr.s, fun y o _ e => old y o e, fun y o e => ⟨o, old y o e⟩, fun y o e e0 => gr.n y o (keep y o e) e0⟩
    have w3 := w2.step gg
    have out : ∀ y, H2 y = none → ¬ a.In y := fun y e ⟨j, hj⟩ => by
      obtain ⟨o', e', _⟩ := w2.ct j y hj
      rw [e] at e'; cases e'
    have q2 : H2 q = none := by
      cases z : H2 q with
      | none => rfl
      | some o' => have := keep q o' z; rw [q0] at this; cases this
    have pq : x ≠ q := fun z => by rw [← z, upd_same] at q0; cases q0
    have w4 := w3.addB e' ql n' qn pq (out x hx) (out q q2) xx
    refine ⟨a.bl, _, .ref x, rfl, rfl, w3.hb, Evl.sz_lt (by rw [List.length_map, w.la]; omega), ?_⟩
    refine k { a with ba := a.ba ++ [x], pa := a.pa ++ [q] } G' _ ?_ rfl w4
    have c0 := (Ch.of (a := a) (g.trans gg)).trans (Ch.write w3 (j := .bl) (x := a.bl) rfl (o := .lst (a.ba.map V.ref ++ [.ref x])))
    refine ⟨c0.g, c0.s, c0.h, c0.t, c0.n, fun y hy => ?_⟩
    obtain ⟨j, hj⟩ := hy
    have fin : ∀ {α : Type} {l : List α} {y z : α} {j : Nat}, (l ++ [z])[j]? = some y → l[j]? = some y ∨ y = z := fun {α l y z j} h => by
      by_cases hlt : j < l.length
      · rw [List.getElem?_append_left hlt] at h; exact Or.inl h
      · rw [List.getElem?_append_right (by omega)] at h
        have := List.mem_of_getElem? h
        exact Or.inr (by simpa using this)
    cases j with
    | b j =>
      rcases fin (show (a.ba ++ [x])[j]? = some y from hj) with h | h
      · exact Or.inl ⟨.b j, h⟩
      · exact Or.inr (by rw [h]; exact g.free hx)
    | p j =>
      rcases fin (show (a.pa ++ [q])[j]? = some y from hj) with h | h
      · exact Or.inl ⟨.p j, h⟩
      · exact Or.inr (by rw [h]; exact g.free q2)
    | h => exact Or.inl ⟨.h, hj⟩
    | pu => exact Or.inl ⟨.pu, hj⟩
    | hd => exact Or.inl ⟨.hd, hj⟩
    | fl => exact Or.inl ⟨.fl, hj⟩
    | bl => exact Or.inl ⟨.bl, hj⟩
    | dl => exact Or.inl ⟨.dl, hj⟩⟩
theorem q_badd {dr de pa : Str} {am du : Int} {bo : Bool} (w : W B G H a s) (o : s.bs.length ≤ 40) (U : Ux K mg B) (h0 : EvV th σ G H (.ref a.h)) (ht : EvA t σ G H [.str dr, .str de, .str pa, .int am, .int du, .bool bo])
    (k : ∀ a' G1 H1, Ch a G H a' G1 H1 → a'.h = a.h → W B G1 H1 a' { s with bs := s.bs ++ [newBil dr de pa am du bo] } → tz D σ H1) : tSeq (tDrop (tBM K "list" rAppend (tFld K th "bills") (tCons (tMake B.C_Bill (spBinit B) [] E t) tNil))) tz D σ H := s_badd (D := { D with nx := tz D }) w o U h0 ht k
theorem e_names (w : W B G H a s) (o : Ok s) (h0 : EvV te σ G H (.ref a.h)) : EvM (tMeth B.C_Hall "names" (spHnames B) [] E te tNil) σ G H ((srt (nms s.m)).map .str) :=
  (xm_meth (f := fun s (_ : Unit) => .ok ((srt (nms s.m)).map .str)) (args := fun _ => []) () h0 w o ea_nil).ok rfl
end
abbrev tt {α : Type} : α → Prop := fun _ => True
def inD (s : Hl) (x : Str × Int) : DR := seqE (houseR s x.1) fun _ => seqE (chkCoins (x.2, 1)) fun _ => seqE (fillR s.m x.1 x.2) fun m => .ok (tell { s with m := m } (.tuple [.str "in", .str x.1, .int x.2]), .none)
theorem ok_Hputin {B : Bd} (T : Txt K mg A) (U : Ux K mg B) : FnOk P w K mg base (L2.CX P w) 3 B.a_Hputin B.d_Hputin ["self", "name", "coins"] (spD B inD aSI tt) := by
  have G_Hcheckhouse := ok_Hcheckhouse (P := P) (w := w) (base := base) T U
  have G_check_coins := ok_check_coins (P := P) (w := w) (base := base) T U
  have G_Mfill := ok_Mfill (P := P) (w := w) (base := base) T U
  refine U.F_Hputin.okX sc_Hputin (fun vs H Q E h => lenD (n := 2) (fun _ => rfl) h) (fun cdv A' outer st H vs Q E hr h => ?_)
  obtain ⟨G, a, s, ⟨z, c⟩, us, rfl, hx, hW, hO, _, kE, kQ⟩ := h
  obtain ⟨v1, v2, rfl, x1, x2⟩ := dxs2 hx
  obtain rfl := x1.str_eq
  obtain rfl := x2.int_eq
  refine ⟨_, (pss_cons (ps_expr (pe_meth (pv 0) U.cl_Hall U.m_Hcheckhouse G_Hcheckhouse (hr.mono (by omega)) U.b_Hcheckhouse .nil (passes_call (takes_of rfl rfl rfl rfl) fun _ _ _ _ z => z) (by exact (pa_cons (pv 1) pa_nil))))
      (pss_cons (ps_expr (pe_call G_check_coins (hr.mono (by omega)) (by rfl) T.m_check_coins T.F_check_coins.kp T.b_check_coins .nil (passes_call (takes_of rfl rfl rfl rfl) fun _ _ _ _ z => z) (pa_cons (pv 2) (pa_cons pe_int pa_nil))))
      (pss_cons (ps_expr (pe_meth (pe_fld (pv 0) rfl) U.cl_Purses U.m_Mfill G_Mfill (hr.mono (by omega)) U.b_Mfill .nil (passes_call (takes_of rfl rfl rfl rfl) fun _ _ _ _ z => z) (by exact (pa_cons (pv 1) (pa_cons (pv 2) pa_nil)))))
      (pss_one (ps_expr (pe_bm PySem.F.plainAttrs_list PySem.F.slot_list_append PySem.F.type_list_append mt_append (pe_fld (pv 0) rfl) (pa_cons (pe_tup (pa_cons pe_str (pa_cons (pv 1) (pa_cons (pv 2) pa_nil)))) pa_nil))))))), ?_⟩
  refine q_dropX (x_meth (f := houseR) (args := aS) z (evv_var rfl) hW hO (ea_cons (ev_var rfl (.str z)) ea_nil)) hW.sb (fun k hk G1 H1 g1 => kE k (seqE_err hk) G1 H1 g1) fun d1 h1 G1 H1 g1 => ?_
  have hW := hW.step g1
  refine q_dropX (x_fn (f := chkCoins) (args := aII) (c, 1) (ea_cons (ev_var rfl (.int c)) (ea_cons ev_int ea_nil))) hW.sb (fun k hk G2 H2 g2 => kE k (by unfold inD; rw [seqE_ok h1, seqE_err hk]) G2 H2 (g1.trans g2)) fun d2 h2 G2 H2 g2 => ?_
  have hW := hW.step g2
  refine q_mfill hW hO.m (hW.e_pu U (evv_var rfl)) (ea_cons (ev_var rfl (.str z)) (ea_cons (ev_var rfl (.int c)) ea_nil)) (fun k hk G3 H3 g3 => kE k (by unfold inD; rw [seqE_ok h1, seqE_ok h2, seqE_err hk]) G3 H3 ((g1.trans g2).trans g3)) fun m' h3 G3 H3 c3 hW => ?_
  exact s_story hW hO.d U (evv_var rfl) (ev_tup (ea_cons ev_str (ea_cons (ev_var rfl (.str z)) (ea_cons (ev_var rfl (.int c)) ea_nil))) (by show 3 ≤ 100000; decide)) fun G4 H4 c4 hW => kQ _ _ (by unfold inD; rw [seqE_ok h1, seqE_ok h2, seqE_ok h3]; rfl) a G4 H4 .non (((Ch.of (g1.trans g2)).trans c3).trans c4) rfl hW .non
def outD (s : Hl) (x : Str × Int) : DR := seqE (houseR s x.1) fun _ => seqE (chkCoins (x.2, 1)) fun _ => seqE (spendR s.m x.1 x.2) fun m => .ok (tell { s with m := m } (.tuple [.str "out", .str x.1, .int x.2]), .none)
theorem ok_Htakeout {B : Bd} (T : Txt K mg A) (U : Ux K mg B) : FnOk P w K mg base (L2.CX P w) 3 B.a_Htakeout B.d_Htakeout ["self", "name", "coins"] (spD B outD aSI tt) := by
  have G_Hcheckhouse := ok_Hcheckhouse (P := P) (w := w) (base := base) T U
  have G_check_coins := ok_check_coins (P := P) (w := w) (base := base) T U
  have G_Mspend := ok_Mspend (P := P) (w := w) (base := base) T U
  refine U.F_Htakeout.okX sc_Htakeout (fun vs H Q E h => lenD (n := 2) (fun _ => rfl) h) (fun cdv A' outer st H vs Q E hr h => ?_)
  obtain ⟨G, a, s, ⟨z, c⟩, us, rfl, hx, hW, hO, _, kE, kQ⟩ := h
  obtain ⟨v1, v2, rfl, x1, x2⟩ := dxs2 hx
  obtain rfl := x1.str_eq
  obtain rfl := x2.int_eq
  refine ⟨_, (pss_cons (ps_expr (pe_meth (pv 0) U.cl_Hall U.m_Hcheckhouse G_Hcheckhouse (hr.mono (by omega)) U.b_Hcheckhouse .nil (passes_call (takes_of rfl rfl rfl rfl) fun _ _ _ _ z => z) (by exact (pa_cons (pv 1) pa_nil))))
      (pss_cons (ps_expr (pe_call G_check_coins (hr.mono (by omega)) (by rfl) T.m_check_coins T.F_check_coins.kp T.b_check_coins .nil (passes_call (takes_of rfl rfl rfl rfl) fun _ _ _ _ z => z) (pa_cons (pv 2) (pa_cons pe_int pa_nil))))
      (pss_cons (ps_expr (pe_meth (pe_fld (pv 0) rfl) U.cl_Purses U.m_Mspend G_Mspend (hr.mono (by omega)) U.b_Mspend .nil (passes_call (takes_of rfl rfl rfl rfl) fun _ _ _ _ z => z) (by exact (pa_cons (pv 1) (pa_cons (pv 2) pa_nil)))))
      (pss_one (ps_expr (pe_bm PySem.F.plainAttrs_list PySem.F.slot_list_append PySem.F.type_list_append mt_append (pe_fld (pv 0) rfl) (pa_cons (pe_tup (pa_cons pe_str (pa_cons (pv 1) (pa_cons (pv 2) pa_nil)))) pa_nil))))))), ?_⟩
  refine q_dropX (x_meth (f := houseR) (args := aS) z (evv_var rfl) hW hO (ea_cons (ev_var rfl (.str z)) ea_nil)) hW.sb (fun k hk G1 H1 g1 => kE k (seqE_err hk) G1 H1 g1) fun d1 h1 G1 H1 g1 => ?_
  have hW := hW.step g1
  refine q_dropX (x_fn (f := chkCoins) (args := aII) (c, 1) (ea_cons (ev_var rfl (.int c)) (ea_cons ev_int ea_nil))) hW.sb (fun k hk G2 H2 g2 => kE k (by unfold outD; rw [seqE_ok h1, seqE_err hk]) G2 H2 (g1.trans g2)) fun d2 h2 G2 H2 g2 => ?_
  have hW := hW.step g2
  refine q_mspend hW hO.m (hW.e_pu U (evv_var rfl)) (ea_cons (ev_var rfl (.str z)) (ea_cons (ev_var rfl (.int c)) ea_nil)) (fun k hk G3 H3 g3 => kE k (by unfold outD; rw [seqE_ok h1, seqE_ok h2, seqE_err hk]) G3 H3 ((g1.trans g2).trans g3)) fun m' h3 G3 H3 c3 hW => ?_
  exact s_story hW hO.d U (evv_var rfl) (ev_tup (ea_cons ev_str (ea_cons (ev_var rfl (.str z)) (ea_cons (ev_var rfl (.int c)) ea_nil))) (by show 3 ≤ 100000; decide)) fun G4 H4 c4 hW => kQ _ _ (by unfold outD; rw [seqE_ok h1, seqE_ok h2, seqE_ok h3]; rfl) a G4 H4 .non (((Ch.of (g1.trans g2)).trans c3).trans c4) rfl hW .non
def houseD (s : Hl) (x : Str × Int) : DR := if isName x.1 = false then .error .BadName else if (get s.m x.1).isSome = true then .error .Taken else seqE (chkCoins (x.2, 0)) fun _ => if 9 ≤ s.m.length then .error .Full else
  seqE (addR s.m x.1 x.2) fun m => .ok (tell { s with m := m } (.tuple [.str "house", .str x.1, .int x.2]), .none)
theorem ok_Hhouse {B : Bd} (T : Txt K mg A) (U : Ux K mg B) : FnOk P w K mg base (L2.CX P w) 3 B.a_Hhouse B.d_Hhouse ["self", "name", "coins"] (spD B houseD aSI fun x => x.1.length ≤ 100) := by
  have G_is_name := ok_is_name (P := P) (w := w) (base := base) T
  have G_Hnames := ok_Hnames (P := P) (w := w) (base := base) T U
  have G_check_coins := ok_check_coins (P := P) (w := w) (base := base) T U
  have G_Maddpurse := ok_Madd (P := P) (w := w) (base := base) T U
  refine U.F_Hhouse.okX sc_Hhouse (fun vs H Q E h => lenD (n := 2) (fun _ => rfl) h) (fun cdv A' outer st H vs Q E hr h => ?_)
  obtain ⟨G, a, s, ⟨z, c⟩, us, rfl, hx, hW, hO, hz, kE, kQ⟩ := h
  obtain ⟨v1, v2, rfl, x1, x2⟩ := dxs2 hx
  obtain rfl := x1.str_eq
  obtain rfl := x2.int_eq
  refine ⟨_, (pss_cons (ps_if (pt_not (pt_val (pe_call G_is_name (hr.mono (by omega)) (by rfl) T.m_is_name T.F_is_name.kp T.b_is_name .nil pass0 (pa_cons (pv 1) pa_nil))))
      (pss_one (ps_raise rfl (takes_of rfl rfl rfl rfl) (pmk_ownA PySem.F.excBase_ValueError U.x_BadName.x U.x_BadName.g U.x_BadName.k (raises_own U.x_BadName.b U.x_BadName.t) (by exact rfl) (pa_cons (pv 1) pa_nil))))
      pss_nil)
      (pss_cons (ps_if (pt_cmpR (op_inK (K := K)) (pv 1) (pe_meth0 (pv 0) U.cl_Hall U.m_Hnames G_Hnames (hr.mono (by omega)) U.b_Hnames .nil pass0) rfl)
      (pss_one (ps_raise rfl (takes_of rfl rfl rfl rfl) (pmk_ownA PySem.F.excBase_ValueError U.x_Taken.x U.x_Taken.g U.x_Taken.k (raises_own U.x_Taken.b U.x_Taken.t) (by exact rfl) (pa_cons (pv 1) pa_nil))))
      pss_nil)
      (pss_cons (ps_expr (pe_call G_check_coins (hr.mono (by omega)) (by rfl) T.m_check_coins T.F_check_coins.kp T.b_check_coins .nil (passes_call (takes_of rfl rfl rfl rfl) fun _ _ _ _ z => z) (pa_cons (pv 2) (pa_cons pe_int pa_nil))))
      (pss_cons (ps_if (pt_cmpR op_ge (pe_callB (call_lenK (K := K)) (by rfl) T.b.len (by decide +kernel) (pa_cons (pe_meth0 (pv 0) U.cl_Hall U.m_Hnames G_Hnames (hr.mono (by omega)) U.b_Hnames .nil pass0) pa_nil)) (pe_glob (v := .int 9) (by rfl) T.g_MOST_HOUSES ⟨_, rfl⟩) (nomark _))
      (pss_one (ps_raise rfl (takes_of rfl rfl rfl rfl) (pmk_own PySem.F.excBase_ValueError U.x_Full.x U.x_Full.g U.x_Full.k (raises_own U.x_Full.b U.x_Full.t) (by exact rfl))))
      pss_nil)
      (pss_cons (ps_expr (pe_meth (pe_fld (pv 0) rfl) U.cl_Purses U.m_Maddpurse G_Maddpurse (hr.mono (by omega)) U.b_Maddpurse .nil (passes_call (takes_of rfl rfl rfl rfl) fun _ _ _ _ z => z) (by exact (pa_cons (pv 1) (pa_cons (pv 2) pa_nil)))))
      (pss_one (ps_expr (pe_bm PySem.F.plainAttrs_list PySem.F.slot_list_append PySem.F.type_list_append mt_append (pe_fld (pv 0) rfl) (pa_cons (pe_tup (pa_cons pe_str (pa_cons (pv 1) (pa_cons (pv 2) pa_nil)))) pa_nil))))))))), ?_⟩
  refine q_when (b := !isName z) (et_not (et_B (ev_call (f := fun z => .bool (isName z)) z (ea_cons (ev_var rfl (.str z)) ea_nil) hz))) hW.sb (fun hb G1 H1 g1 => ?_) (fun hb G1 H1 g1 => ?_)
  · exact ⟨_, rfl, one_le, kE .BadName (if_pos (by simpa using hb)) G1 H1 g1⟩
  have h0 : ¬ isName z = false := by simpa using hb
  have hW := hW.step g1
  refine q_when (b := decide (z ∈ srt (nms s.m))) (et_test (ev_inS (neg := false) (ev_var rfl (.str z)) (e_names hW hO (evv_var rfl)).dat)) hW.sb (fun hb G2 H2 g2 => ?_) (fun hb G2 H2 g2 => ?_)
  · exact ⟨_, rfl, one_le, kE .Taken ((if_neg h0).trans (if_pos (mem_nms.mp (mem_srt.mp (of_decide_eq_true hb))))) G2 H2 (g1.trans g2)⟩
  have h1 : ¬ (get s.m z).isSome = true := fun h => of_decide_eq_false hb (mem_srt.mpr (mem_nms.mpr h))
  have hW := hW.step g2
  refine q_dropX (x_fn (f := chkCoins) (args := aII) (c, 0) (ea_cons (ev_var rfl (.int c)) (ea_cons ev_int ea_nil))) hW.sb (fun k hk G3 H3 g3 => kE k ((if_neg h0).trans ((if_neg h1).trans (seqE_err hk))) G3 H3 ((g1.trans g2).trans g3)) fun d2 h2 G3 H3 g3 => ?_
  have hW := hW.step g3
  have e0 : houseD s (z, c) = if 9 ≤ s.m.length then .error .Full else seqE (addR s.m z c) fun m => .ok (tell { s with m := m } (.tuple [.str "house", .str z, .int c]), .none) := (if_neg h0).trans ((if_neg h1).trans (seqE_ok h2))
  refine q_when (b := decide ((9 : Int) ≤ (s.m.length : Int))) (et_test (ev_op (ev_cb (ea_cons (e_names hW hO (evv_var rfl)).dat ea_nil) (cd_lenL (ds := (srt (nms s.m)).map .str))) ev_int (by
      have e1 : (((srt (nms s.m)).map PyData.str).length : Int) = (s.m.length : Int) := by rw [List.length_map, len_srt]; unfold nms; rw [List.length_map]
      rw [e1]; exact rd_ge))) hW.sb (fun hb G4 H4 g4 => ?_) (fun hb G4 H4 g4 => ?_)
  · exact kE .Full (by rw [e0, if_pos (by have := of_decide_eq_true hb; omega)]) G4 H4 (((g1.trans g2).trans g3).trans g4)
  have h3 : ¬ 9 ≤ s.m.length := by have := of_decide_eq_false hb; omega
  have hW := hW.step g4
  rw [if_neg h3] at e0
  have g14 := ((g1.trans g2).trans g3).trans g4
  refine q_madd hW hO.m (hW.e_pu U (evv_var rfl)) (ea_cons (ev_var rfl (.str z)) (ea_cons (ev_var rfl (.int c)) ea_nil)) (fun k hk G5 H5 g5 => kE k (by rw [e0, seqE_err hk]) G5 H5 (g14.trans g5)) fun m' h4 G5 H5 c5 hW => ?_
  exact s_story hW hO.d U (evv_var rfl) (ev_tup (ea_cons ev_str (ea_cons (ev_var rfl (.str z)) (ea_cons (ev_var rfl (.int c)) ea_nil))) (by show 3 ≤ 100000; decide)) fun G6 H6 c6 hW => kQ _ _ (by rw [e0, seqE_ok h4]; rfl) a G6 H6 .non (((Ch.of g14).trans c5).trans c6) rfl hW .non
def failD (s : Hl) (z : Str) : DR := seqE (houseR s z) fun _ => seqE (standingR s z) fun _ => .ok (tell { s with fl := s.fl ++ [z] } (.tuple [.str "fail", .str z]), .none)
theorem ok_Hfail {B : Bd} (T : Txt K mg A) (U : Ux K mg B) : FnOk P w K mg base (L2.CX P w) 3 B.a_Hfail B.d_Hfail ["self", "name"] (spD B failD aS tt) := by
  have G_Hcheckhouse := ok_Hcheckhouse (P := P) (w := w) (base := base) T U
  have G_Hcheckstanding := ok_Hcheckstanding (P := P) (w := w) (base := base) T U
  refine U.F_Hfail.okX sc_Hfail (fun vs H Q E h => lenD (n := 1) (fun _ => rfl) h) (fun cdv A' outer st H vs Q E hr h => ?_)
  obtain ⟨G, a, s, z, us, rfl, hx, hW, hO, _, kE, kQ⟩ := h
  obtain ⟨v1, rfl, x1⟩ := dxs1 hx
  obtain rfl := x1.str_eq
  refine ⟨_, (pss_cons (ps_expr (pe_meth (pv 0) U.cl_Hall U.m_Hcheckhouse G_Hcheckhouse (hr.mono (by omega)) U.b_Hcheckhouse .nil (passes_call (takes_of rfl rfl rfl rfl) fun _ _ _ _ z => z) (by exact (pa_cons (pv 1) pa_nil))))
      (pss_cons (ps_expr (pe_meth (pv 0) U.cl_Hall U.m_Hcheckstanding G_Hcheckstanding (hr.mono (by omega)) U.b_Hcheckstanding .nil (passes_call (takes_of rfl rfl rfl rfl) fun _ _ _ _ z => z) (by exact (pa_cons (pv 1) pa_nil))))
      (pss_cons (ps_expr (pe_bm PySem.F.plainAttrs_list PySem.F.slot_list_append PySem.F.type_list_append mt_append (pe_fld (pv 0) rfl) (pa_cons (pv 1) pa_nil)))
      (pss_one (ps_expr (pe_bm PySem.F.plainAttrs_list PySem.F.slot_list_append PySem.F.type_list_append mt_append (pe_fld (pv 0) rfl) (pa_cons (pe_tup (pa_cons pe_str (pa_cons (pv 1) pa_nil))) pa_nil))))))), ?_⟩
  refine q_dropX (x_meth (f := houseR) (args := aS) z (evv_var rfl) hW hO (ea_cons (ev_var rfl (.str z)) ea_nil)) hW.sb (fun k hk G1 H1 g1 => kE k (seqE_err hk) G1 H1 g1) fun d1 h1 G1 H1 g1 => ?_
  have hW := hW.step g1
  refine q_dropX (x_meth (f := standingR) (args := aS) z (evv_var rfl) hW hO (ea_cons (ev_var rfl (.str z)) ea_nil)) hW.sb (fun k hk G2 H2 g2 => kE k (by unfold failD; rw [seqE_ok h1, seqE_err hk]) G2 H2 (g1.trans g2)) fun d2 h2 G2 H2 g2 => ?_
  have hW := hW.step g2
  refine q_fail hW (Nat.le_trans hO.f hO.d) U (evv_var rfl) (ev_var rfl (.str z)) fun G3 H3 c3 hW => ?_
  exact s_story hW hO.d U (evv_var rfl) (ev_tup (ea_cons ev_str (ea_cons (ev_var rfl (.str z)) ea_nil)) (by show 2 ≤ 100000; decide)) fun G4 H4 c4 hW => kQ _ _ (by unfold failD; rw [seqE_ok h1, seqE_ok h2]; rfl) a G4 H4 .non (((Ch.of (g1.trans g2)).trans c3).trans c4) rfl hW .non
def mendD (s : Hl) (z : Str) : DR := seqE (houseR s z) fun _ => if z ∈ s.fl then .ok (tell { s with fl := s.fl.erase z } (.tuple [.str "mend", .str z]), .none) else .error .Standing
theorem ok_Hmend {B : Bd} (T : Txt K mg A) (U : Ux K mg B) : FnOk P w K mg base (L2.CX P w) 3 B.a_Hmend B.d_Hmend ["self", "name"] (spD B mendD aS tt) := by
  have G_Hcheckhouse := ok_Hcheckhouse (P := P) (w := w) (base := base) T U
  refine U.F_Hmend.okX sc_Hmend (fun vs H Q E h => lenD (n := 1) (fun _ => rfl) h) (fun cdv A' outer st H vs Q E hr h => ?_)
  obtain ⟨G, a, s, z, us, rfl, hx, hW, hO, _, kE, kQ⟩ := h
  obtain ⟨v1, rfl, x1⟩ := dxs1 hx
  obtain rfl := x1.str_eq
  refine ⟨_, (pss_cons (ps_expr (pe_meth (pv 0) U.cl_Hall U.m_Hcheckhouse G_Hcheckhouse (hr.mono (by omega)) U.b_Hcheckhouse .nil (passes_call (takes_of rfl rfl rfl rfl) fun _ _ _ _ z => z) (by exact (pa_cons (pv 1) pa_nil))))
      (pss_cons (ps_if (pt_cmpR (op_ninK (K := K)) (pv 1) (pe_fld (pv 0) rfl) rfl)
      (pss_one (ps_raise rfl (takes_of rfl rfl rfl rfl) (pmk_ownA PySem.F.excBase_ValueError U.x_Standing.x U.x_Standing.g U.x_Standing.k (raises_own U.x_Standing.b U.x_Standing.t) (by exact rfl) (pa_cons (pv 1) pa_nil))))
      pss_nil)
      (pss_cons (ps_expr (pe_bm PySem.F.plainAttrs_list PySem.F.slot_list_remove PySem.F.type_list_remove mt_removeS (pe_fld (pv 0) rfl) (pa_cons (pv 1) pa_nil)))
      (pss_one (ps_expr (pe_bm PySem.F.plainAttrs_list PySem.F.slot_list_append PySem.F.type_list_append mt_append (pe_fld (pv 0) rfl) (pa_cons (pe_tup (pa_cons pe_str (pa_cons (pv 1) pa_nil))) pa_nil))))))), ?_⟩
  refine q_dropX (x_meth (f := houseR) (args := aS) z (evv_var rfl) hW hO (ea_cons (ev_var rfl (.str z)) ea_nil)) hW.sb (fun k hk G1 H1 g1 => kE k (seqE_err hk) G1 H1 g1) fun d1 h1 G1 H1 g1 => ?_
  have hW := hW.step g1
  refine q_when (b := !decide (z ∈ s.fl)) (et_test (ev_inV (neg := true) (ev_var rfl (.str z)) (hW.e_fl U (evv_var rfl)) hW.hf)) hW.sb (fun hb G2 H2 g2 => ?_) (fun hb G2 H2 g2 => ?_)
  · exact ⟨_, rfl, one_le, kE .Standing (by unfold mendD; rw [seqE_ok h1]; exact if_neg (by simpa using hb)) G2 H2 (g1.trans g2)⟩
  have hz : z ∈ s.fl := by simpa using hb
  have hW := hW.step g2
  refine q_mend hW U (evv_var rfl) (ev_var rfl (.str z)) hz fun G3 H3 c3 hW => ?_
  exact s_story hW hO.d U (evv_var rfl) (ev_tup (ea_cons ev_str (ea_cons (ev_var rfl (.str z)) ea_nil)) (by show 2 ≤ 100000; decide)) fun G4 H4 c4 hW => kQ _ _ (by unfold mendD; rw [seqE_ok h1]; exact if_pos hz) a G4 H4 .non (((Ch.of (g1.trans g2)).trans c3).trans c4) rfl hW .non
def daysD (s : Hl) (n : Int) : DR := if 1 ≤ n ∧ n ≤ 1000 then .ok (tell { s with day := s.day + n } (.tuple [.str "days", .int n]), .none) else .error .BadCount
theorem ok_Hpassdays {B : Bd} (T : Txt K mg A) (U : Ux K mg B) : FnOk P w K mg base (L2.CX P w) 1 B.a_Hpassdays B.d_Hpassdays ["self", "many"] (spD B daysD aI tt) := by
  refine U.F_Hpassdays.okX sc_Hpassdays (fun vs H Q E h => lenD (n := 1) (fun _ => rfl) h) (fun cdv A' outer st H vs Q E hr h => ?_)
  obtain ⟨G, a, s, n, us, rfl, hx, hW, hO, _, kE, kQ⟩ := h
  obtain ⟨v1, rfl, x1⟩ := dxs1 hx
  obtain rfl := x1.int_eq
  refine ⟨_, (pss_cons (ps_if (pt_not (pt_chain op_le op_le pe_int (pv 1) (pe_glob (v := .int 1000) (by rfl) T.g_MOST_DAYS ⟨_, rfl⟩)))
      (pss_one (ps_raise rfl (takes_of rfl rfl rfl rfl) (pmk_own PySem.F.excBase_ValueError U.x_BadCount.x U.x_BadCount.g U.x_BadCount.k (raises_own U.x_BadCount.b U.x_BadCount.t) (by exact rfl))))
      pss_nil)
      (pss_cons (ps_fldaug (pv 0) (pv 1) in_add)
      (pss_one (ps_expr (pe_bm PySem.F.plainAttrs_list PySem.F.slot_list_append PySem.F.type_list_append mt_append (pe_fld (pv 0) rfl) (pa_cons (pe_tup (pa_cons pe_str (pa_cons (pv 1) pa_nil))) pa_nil)))))), ?_⟩
  refine q_when (b := !(decide (1 ≤ n) && decide (n ≤ 1000))) (et_not (et_test (ev_chain ev_int (ev_var rfl (.int n)) rd_le (fun _ => ev_int) (fun _ => rd_le)))) hW.sb (fun hb G1 H1 g1 => ?_) (fun hb G1 H1 g1 => ?_)
  · refine kE .BadCount (if_neg fun ⟨h1, h2⟩ => ?_) G1 H1 g1
    rw [decide_eq_true h1, decide_eq_true h2] at hb; cases hb
  have hn : 1 ≤ n ∧ n ≤ 1000 := by simpa using hb
  have hW := hW.step g1
  refine q_day hW U (evv_var rfl) (ev_var rfl (.int n)) fun G3 H3 c3 hW => ?_
  exact s_story hW hO.d U (evv_var rfl) (ev_tup (ea_cons ev_str (ea_cons (ev_var rfl (.int n)) ea_nil)) (by show 2 ≤ 100000; decide)) fun G4 H4 c4 hW => kQ _ _ (if_pos hn) a G4 H4 .non (((Ch.of g1).trans c3).trans c4) rfl hW .non

end
end

-- hd3.txt
section

local macro_rules | `(tactic| walk_at "arith") => `(tactic| first | omega | decide | (unfold CMul; omega) | (unfold CDiv; omega) | (unfold CPow; decide) | (refine ⟨?_, ?_⟩ <;> omega) | (simp; done) | (simp; omega))
local macro_rules | `(tactic| walk_at "wide") => `(tactic| exact ⟨by decide, by decide +kernel⟩)
section
variable {P : Program} {w : World} {K : PySem.W.Frag} {mg : Str → Option Value} {base : Heap} {A : Ad}
abbrev aDraw : Str × Str × Str × Int × Int × Bool → List PyData := fun x => [.str x.1, .str x.2.1, .str x.2.2.1, .int x.2.2.2.1, .int x.2.2.2.2.1, .bool x.2.2.2.2.2]
def drawD (s : Hl) (x : Str × Str × Str × Int × Int × Bool) : DR := seqE (houseR s x.1) fun _ => seqE (houseR s x.2.1) fun _ => seqE (houseR s x.2.2.1) fun _ => seqE (standingR s x.1) fun _ => seqE (chkCoins (x.2.2.2.1, 1)) fun _ =>
  if s.day ≤ x.2.2.2.2.1 ∧ x.2.2.2.2.1 ≤ s.day + 1000 then (if 40 ≤ s.bs.length then .error .Full else
    .ok (tell { s with bs := s.bs ++ [newBil x.1 x.2.1 x.2.2.1 x.2.2.2.1 x.2.2.2.2.1 x.2.2.2.2.2] } (.tuple (.str "draw" :: aDraw x)), .int ((s.bs.length : Int) + 1))) else .error .BadDay
theorem houseR_ok {s : Hl} {z : Str} {d : PyData} (h : houseR s z = .ok d) : (get s.m z).isSome = true := by
  unfold houseR at h
  split at h
  · assumption
  · cases h
theorem houseR_of {s : Hl} {z : Str} (h : (get s.m z).isSome = true) : houseR s z = .ok .none := if_pos h
theorem ok_Hdraw {B : Bd} (T : Txt K mg A) (U : Ux K mg B) : FnOk P w K mg base (L2.CX P w) 3 B.a_Hdraw B.d_Hdraw ["self", "drawer", "drawee", "payee", "amount", "due", "bound"] (spD B drawD aDraw tt) := by
  have G_Hcheckhouse := ok_Hcheckhouse (P := P) (w := w) (base := base) T U
  have G_Hcheckstanding := ok_Hcheckstanding (P := P) (w := w) (base := base) T U
  have G_check_coins := ok_check_coins (P := P) (w := w) (base := base) T U
  have G_Binit := ok_Binit (P := P) (w := w) (base := base) T U
  refine U.F_Hdraw.okX sc_Hdraw (fun vs H Q E h => lenD (n := 6) (fun _ => rfl) h) (fun cdv A' outer st H vs Q E hr h => ?_)
  obtain ⟨G, a, s, ⟨dr, de, pa, am, du, bo⟩, us, rfl, hx, hW, hO, _, kE, kQ⟩ := h
  obtain ⟨v1, v2, v3, v4, v5, v6, rfl, x1, x2, x3, x4, x5, x6⟩ := dxs6 hx
  obtain rfl := x1.str_eq
  obtain rfl := x2.str_eq
  obtain rfl := x3.str_eq
  obtain rfl := x4.int_eq
  obtain rfl := x5.int_eq
  obtain rfl := x6.bl_eq
  refine ⟨_, (pss_cons (ps_for (passes_of rfl) rfl (pi_tup (pe_tup (pa_cons (pv 1) (pa_cons (pv 2) (pa_cons (pv 3) pa_nil))))) (pg_name (i := 7) sc_Hdraw.nd rfl (Or.inl rfl))
      (pss_one (ps_expr (pe_meth (pv 0) U.cl_Hall U.m_Hcheckhouse G_Hcheckhouse (hr.mono (by omega)) U.b_Hcheckhouse .nil (passes_call (takes_of rfl rfl rfl rfl) fun _ _ _ _ z => z) (by exact (pa_cons (pv 7) pa_nil))))))
      (pss_cons (ps_expr (pe_meth (pv 0) U.cl_Hall U.m_Hcheckstanding G_Hcheckstanding (hr.mono (by omega)) U.b_Hcheckstanding .nil (passes_call (takes_of rfl rfl rfl rfl) fun _ _ _ _ z => z) (by exact (pa_cons (pv 1) pa_nil))))
      (pss_cons (ps_expr (pe_call G_check_coins (hr.mono (by omega)) (by rfl) T.m_check_coins T.F_check_coins.kp T.b_check_coins .nil (passes_call (takes_of rfl rfl rfl rfl) fun _ _ _ _ z => z) (pa_cons (pv 4) (pa_cons pe_int pa_nil))))
      (pss_cons (ps_if (pt_not (pt_chain op_le op_le (pe_fld (pv 0) rfl) (pv 5) (pe_op op_add (pe_fld (pv 0) rfl) (pe_glob (v := .int 1000) (by rfl) T.g_LAST_DUE ⟨_, rfl⟩))))
      (pss_one (ps_raise rfl (takes_of rfl rfl rfl rfl) (pmk_own PySem.F.excBase_ValueError U.x_BadDay.x U.x_BadDay.g U.x_BadDay.k (raises_own U.x_BadDay.b U.x_BadDay.t) (by exact rfl))))
      pss_nil)
      (pss_cons (ps_if (pt_cmpR op_ge (pe_callB (call_lenK (K := K)) (by rfl) T.b.len (by decide +kernel) (pa_cons (pe_fld (pv 0) rfl) pa_nil)) (pe_glob (v := .int 40) (by rfl) T.g_MOST_BILLS ⟨_, rfl⟩) (nomark _))
      (pss_one (ps_raise rfl (takes_of rfl rfl rfl rfl) (pmk_own PySem.F.excBase_ValueError U.x_Full.x U.x_Full.g U.x_Full.k (raises_own U.x_Full.b U.x_Full.t) (by exact rfl))))
      pss_nil)
      (pss_cons (ps_expr (pe_bm PySem.F.plainAttrs_list PySem.F.slot_list_append PySem.F.type_list_append mt_append (pe_fld (pv 0) rfl) (pa_cons (pe_make U.mk_Bill G_Binit (hr.mono (by omega)) (by rfl) U.g_Bill U.b_Binit .nil pass0 (pa_cons (pv 1) (pa_cons (pv 2) (pa_cons (pv 3) (pa_cons (pv 4) (pa_cons (pv 5) (pa_cons (pv 6) pa_nil))))))) pa_nil)))
      (pss_cons (ps_expr (pe_bm PySem.F.plainAttrs_list PySem.F.slot_list_append PySem.F.type_list_append mt_append (pe_fld (pv 0) rfl) (pa_cons (pe_tup (pa_cons pe_str (pa_cons (pv 1) (pa_cons (pv 2) (pa_cons (pv 3) (pa_cons (pv 4) (pa_cons (pv 5) (pa_cons (pv 6) pa_nil)))))))) pa_nil)))
      (pss_one (ps_ret (pe_callB (call_lenK (K := K)) (by rfl) T.b.len (by decide +kernel) (pa_cons (pe_fld (pv 0) rfl) pa_nil))))))))))), ?_⟩
  refine q_forT (ds := [.str dr, .str de, .str pa]) [] (fun n σ' G' H' => (∃ v, σ' = [some (.ref a.h), some (.str dr), some (.str de), some (.str pa), some (.int am), some (.int du), some (.bl bo), v]) ∧ ∀ j z, j < n → ([dr, de, pa] : List Str)[j]? = some z → (get s.m z).isSome = true)
    (ev_tup (ea_cons (ev_var rfl (.str dr)) (ea_cons (ev_var rfl (.str de)) (ea_cons (ev_var rfl (.str pa)) ea_nil))) (by show 3 ≤ 100000; decide)) hW.sb (fun G1 H1 g1 => ⟨⟨none, rfl⟩, fun j z hj => absurd hj (Nat.not_lt_zero j)⟩) (fun G1 H1 g1 n e v σ' G' H' he hv gg I => ?_) (fun σ' G' H' gg I => ?_)
  · obtain ⟨⟨w0, rfl⟩, hI⟩ := I
    have hW := (hW.step g1).step gg
    obtain ⟨z, rfl, hz⟩ : ∃ z : Str, v = .str z ∧ ([dr, de, pa] : List Str)[n]? = some z := by
      match n, he with
      | 0, he => cases he; exact ⟨dr, hv.str_eq, rfl⟩
      | 1, he => cases he; exact ⟨de, hv.str_eq, rfl⟩
      | 2, he => cases he; exact ⟨pa, hv.str_eq, rfl⟩
      | n + 3, he => cases he
    refine s_dropX (x_meth (f := houseR) (args := aS) z (evv_var rfl) hW hO (ea_cons (ev_var rfl (.str z)) ea_nil)) hW.sb (fun k hk G2 H2 g2 => kE k ?_ G2 H2 ((g1.trans gg).trans g2)) fun d1 h1 G2 H2 g2 => ?_
    · match n, hz with
      | 0, hz => cases hz; exact seqE_err hk
      | 1, hz =>
        cases hz
        have h0 := houseR_of (hI 0 dr (by omega) rfl)
        unfold drawD; rw [seqE_ok h0, seqE_err hk]
      | 2, hz =>
        cases hz
        have h0 := houseR_of (hI 0 dr (by omega) rfl)
        have h1 := houseR_of (hI 1 de (by omega) rfl)
        unfold drawD; rw [seqE_ok h0, seqE_ok h1, seqE_err hk]
      | n + 3, hz => cases hz
    · refine ⟨G2, gg.trans g2, ⟨_, rfl⟩, fun j y hj hy => ?_⟩
      by_cases e : j = n
      · subst e; rw [hz] at hy; cases hy; exact houseR_ok h1
      · exact hI j y (by omega) hy
  · obtain ⟨⟨w0, rfl⟩, hI⟩ := I
    have hW := hW.step gg
    have h1 := houseR_of (hI 0 dr (by show 0 < 3; decide) rfl)
    have h2 := houseR_of (hI 1 de (by show 1 < 3; decide) rfl)
    have h3 := houseR_of (hI 2 pa (by show 2 < 3; decide) rfl)
    refine q_dropX (x_meth (f := standingR) (args := aS) dr (evv_var rfl) hW hO (ea_cons (ev_var rfl (.str dr)) ea_nil)) hW.sb (fun k hk G2 H2 g2 => kE k (by unfold drawD; rw [seqE_ok h1, seqE_ok h2, seqE_ok h3, seqE_err hk]) G2 H2 (gg.trans g2)) fun d4 h4 G2 H2 g2 => ?_
    have hW := hW.step g2
    refine q_dropX (x_fn (f := chkCoins) (args := aII) (am, 1) (ea_cons (ev_var rfl (.int am)) (ea_cons ev_int ea_nil))) hW.sb (fun k hk G3 H3 g3 => kE k (by unfold drawD; rw [seqE_ok h1, seqE_ok h2, seqE_ok h3, seqE_ok h4, seqE_err hk]) G3 H3 ((gg.trans g2).trans g3)) fun d5 h5 G3 H3 g3 => ?_
    have hW := hW.step g3
    have e0 : drawD s (dr, de, pa, am, du, bo) = _ := (seqE_ok h1).trans ((seqE_ok h2).trans ((seqE_ok h3).trans ((seqE_ok h4).trans (seqE_ok h5))))
    have g13 := (gg.trans g2).trans g3
    refine q_when (b := !(decide (s.day ≤ du) && decide (du ≤ s.day + 1000))) (et_not (et_test (ev_chain (hW.e_day U (evv_var rfl)) (ev_var rfl (.int du)) rd_le (fun _ => ev_op (hW.e_day U (evv_var rfl)) ev_int rd_add) (fun _ => rd_le)))) hW.sb (fun hb G4 H4 g4 => ?_) (fun hb G4 H4 g4 => ?_)
    · refine kE .BadDay (e0.trans (if_neg fun ⟨k1, k2⟩ => ?_)) G4 H4 (g13.trans g4)
      have k1 : s.day ≤ du := k1
      have k2 : du ≤ s.day + 1000 := k2
      rw [decide_eq_true k1, decide_eq_true k2] at hb; cases hb
    have hd : s.day ≤ du ∧ du ≤ s.day + 1000 := by simpa using hb
    have e1 := e0.trans (if_pos hd)
    have hW := hW.step g4
    refine q_when (b := decide ((40 : Int) ≤ (s.bs.length : Int))) (et_test (ev_op (ev_is (ev_lenV (hW.e_bl U (evv_var rfl)) hW.hb) (by rw [List.length_map, hW.la])) ev_int rd_ge)) hW.sb (fun hb G5 H5 g5 => ?_) (fun hb G5 H5 g5 => ?_)
    · exact kE .Full (e1.trans (if_pos (by have := of_decide_eq_true hb; omega))) G5 H5 ((g13.trans g4).trans g5)
    have e2 := e1.trans (if_neg (show ¬ 40 ≤ s.bs.length by have := of_decide_eq_false hb; omega))
    have hW := hW.step g5
    refine q_badd hW hO.b U (evv_var rfl) (ea_cons (ev_var rfl (.str dr)) (ea_cons (ev_var rfl (.str de)) (ea_cons (ev_var rfl (.str pa)) (ea_cons (ev_var rfl (.int am)) (ea_cons (ev_var rfl (.int du)) (ea_cons (ev_var rfl (.bl bo)) ea_nil)))))) fun a' G6 H6 c6 ea hW => ?_
    refine q_story hW hO.d U (by rw [ea]; exact evv_var rfl) (ev_tup (ea_cons ev_str (ea_cons (ev_var rfl (.str dr)) (ea_cons (ev_var rfl (.str de)) (ea_cons (ev_var rfl (.str pa)) (ea_cons (ev_var rfl (.int am)) (ea_cons (ev_var rfl (.int du)) (ea_cons (ev_var rfl (.bl bo)) ea_nil))))))) (by show 7 ≤ 100000; decide)) fun G7 H7 c7 hW => ?_
    refine s_ret (ev_is (ev_lenV (hW.e_bl U (by rw [ea]; exact evv_var rfl)) hW.hb) (d1 := .int ((s.bs.length : Int) + 1)) (by rw [List.length_map, hW.la]; show PyData.int ((s.bs ++ [_]).length : Int) = _; rw [List.length_append]; rfl)) hW.sb fun v G8 H8 g8 hv => ?_
    exact kQ _ _ e2 a' G8 H8 v ((((Ch.of ((g13.trans g4).trans g5)).trans c6).trans c7).trans (Ch.of g8)) ea (hW.step g8) hv
def p0 (b : Bil) : Str × Bool := b.places.getD 0 ("", false)
def acceptD (s : Hl) (x : Int × Int) : DR := seqE (copyR s x) fun i => seqE (standingR s (p0 (bilOf s i)).1) fun _ => seqE (runR (bilOf s i)) fun _ => if (p0 (bilOf s i)).2 = true then .error .Accepted else
  .ok (tell (s.setB i { bilOf s i with places := (bilOf s i).places.set 0 ((p0 (bilOf s i)).1, true) }) (.tuple [.str "accept", .int x.1, .int x.2]), .none)
theorem ok_Haccept {B : Bd} (T : Txt K mg A) (U : Ux K mg B) : FnOk P w K mg base (L2.CX P w) 3 B.a_Haccept B.d_Haccept ["self", "bill", "copy"] (spD B acceptD aII tt) := by
  have G_Hfindcopy := ok_Hfindcopy (P := P) (w := w) (base := base) T U
  have G_Hcheckstanding := ok_Hcheckstanding (P := P) (w := w) (base := base) T U
  have G_check_running := ok_check_running (P := P) (w := w) (base := base) T U
  refine U.F_Haccept.okX sc_Haccept (fun vs H Q E h => lenD (n := 2) (fun _ => rfl) h) (fun cdv A' outer st H vs Q E hr h => ?_)
  obtain ⟨G, a, s, ⟨n, c⟩, us, rfl, hx, hW, hO, _, kE, kQ⟩ := h
  obtain ⟨v1, v2, rfl, x1, x2⟩ := dxs2 hx
  obtain rfl := x1.int_eq
  obtain rfl := x2.int_eq
  refine ⟨_, (pss_cons (ps_set (i := 3) sc_Haccept.nd rfl (Or.inl rfl) (pe_meth (pv 0) U.cl_Hall U.m_Hfindcopy G_Hfindcopy (hr.mono (by omega)) U.b_Hfindcopy .nil (passes_call (takes_of rfl rfl rfl rfl) fun _ _ _ _ z => z) (by exact (pa_cons (pv 1) (pa_cons (pv 2) pa_nil)))))
      (pss_cons (ps_asg (pe_ix (ix_listK (K := K)) (pe_fld (pv 3) rfl) pe_int (fun _ _ => rfl)) (pg_tup (by rfl) (pgs_cons (pg_name (i := 4) sc_Haccept.nd rfl (Or.inl rfl)) (pgs_cons (pg_name (i := 5) sc_Haccept.nd rfl (Or.inl rfl)) pgs_nil))))
      (pss_cons (ps_expr (pe_meth (pv 0) U.cl_Hall U.m_Hcheckstanding G_Hcheckstanding (hr.mono (by omega)) U.b_Hcheckstanding .nil (passes_call (takes_of rfl rfl rfl rfl) fun _ _ _ _ z => z) (by exact (pa_cons (pv 4) pa_nil))))
      (pss_cons (ps_expr (pe_call G_check_running (hr.mono (by omega)) (by rfl) T.m_check_running T.F_check_running.kp T.b_check_running .nil (passes_call (takes_of rfl rfl rfl rfl) fun _ _ _ _ z => z) (pa_cons (pv 3) pa_nil)))
      (pss_cons (ps_if (pt_val (pv 5))
      (pss_one (ps_raise rfl (takes_of rfl rfl rfl rfl) (pmk_ownA PySem.F.excBase_ValueError U.x_Accepted.x U.x_Accepted.g U.x_Accepted.k (raises_own U.x_Accepted.b U.x_Accepted.t) (by exact rfl) (pa_cons (pv 4) pa_nil))))
      pss_nil)
      (pss_cons (ps_asg (pe_tup (pa_cons (pv 4) (pa_cons pe_bl pa_nil))) (pg_sub (pe_fld (pv 3) rfl) pe_int set_list))
      (pss_one (ps_expr (pe_bm PySem.F.plainAttrs_list PySem.F.slot_list_append PySem.F.type_list_append mt_append (pe_fld (pv 0) rfl) (pa_cons (pe_tup (pa_cons pe_str (pa_cons (pv 1) (pa_cons (pv 2) pa_nil)))) pa_nil)))))))))), ?_⟩
  refine q_find (f := copyR) (args := aII) (n, c) (evv_var rfl) hW hO (ea_cons (ev_var rfl (.int n)) (ea_cons (ev_var rfl (.int c)) ea_nil)) (fun i => copyR_lt) (fun k hk G1 H1 g1 => kE k (seqE_err hk) G1 H1 g1) fun i p q b h1 G1 H1 g1 hB => ?_
  have hW := hW.step g1
  have hb := bilOf_eq hB.hb
  have h2 := hB.two hO
  refine seqI ((hB.e_at U (evv_var rfl) ev_int (j := 0) rfl (by omega)) G1 H1 (.refl hW.sb) _ fun v G2 H2 g2 hv => g_nn hv g2.s fun u1 u2 y1 y2 => ?_)
  obtain rfl := y1.str_eq
  obtain rfl := y2.bl_eq
  have hW := hW.step g2
  have hB := hB.step g2
  dsimp only
  refine q_dropX (x_meth (f := standingR) (args := aS) (p0 b).1 (evv_var rfl) hW hO (ea_cons (ev_var rfl (.str _)) ea_nil)) hW.sb (fun k hk G3 H3 g3 => kE k (by unfold acceptD; rw [seqE_ok h1, hb, seqE_err hk]) G3 H3 ((g1.trans g2).trans g3)) fun d3 h3 G3 H3 g3 => ?_
  have hW := hW.step g3
  have hB := hB.step g3
  refine q_dropX (x_run (evv_var rfl) hW hB) hW.sb (fun k hk G4 H4 g4 => kE k (by unfold acceptD; rw [seqE_ok h1, hb, seqE_ok h3, seqE_err hk]) G4 H4 (((g1.trans g2).trans g3).trans g4)) fun d4 h4 G4 H4 g4 => ?_
  have hW := hW.step g4
  have hB := hB.step g4
  have g14 := ((g1.trans g2).trans g3).trans g4
  have e0 : acceptD s (n, c) = if (p0 b).2 = true then .error .Accepted else .ok (tell (s.setB i { b with places := b.places.set 0 ((p0 b).1, true) }) (.tuple [.str "accept", .int n, .int c]), .none) := by unfold acceptD; rw [seqE_ok h1, hb, seqE_ok h3, seqE_ok h4]
  refine q_when (b := (p0 b).2) (et_B (ev_var rfl (.bl _))) hW.sb (fun hb' G5 H5 g5 => ?_) (fun hb' G5 H5 g5 => ?_)
  · exact ⟨_, rfl, one_le, kE .Accepted (by rw [e0, if_pos hb']) G5 H5 (g14.trans g5)⟩
  have hW := hW.step g5
  have hB := hB.step g5
  refine q_place0 (r := ((p0 b).1, true)) hW h2.1 hB U (evv_var rfl) (ev_tup (ea_cons (ev_var rfl (.str _)) (ea_cons ev_bl ea_nil)) (by show 2 ≤ 100000; decide)) fun G6 H6 c6 hW hB => ?_
  exact s_story hW hO.d U (evv_var rfl) (ev_tup (ea_cons ev_str (ea_cons (ev_var rfl (.int n)) (ea_cons (ev_var rfl (.int c)) ea_nil))) (by show 3 ≤ 100000; decide)) fun G7 H7 c7 hW => kQ _ _ (by rw [e0, if_neg (by rw [hb']; decide)]; rfl) a G7 H7 .non (((Ch.of (g14.trans g5)).trans c6).trans c7) rfl hW .non
abbrev aSg : Int × Int × Str × Bool × Bool → List PyData := fun x => [.int x.1, .int x.2.1, .str x.2.2.1, .bool x.2.2.2.1, .bool x.2.2.2.2]
def signBil (b : Bil) (to : Str) (bo bl : Bool) : Bil := { b with places := b.places ++ [(b.keeper, bo)], keeper := to, blank := bl }
def signonD (s : Hl) (x : Int × Int × Str × Bool × Bool) : DR := seqE (copyR s (x.1, x.2.1)) fun i => seqE (houseR s x.2.2.1) fun _ => seqE (standingR s (bilOf s i).keeper) fun _ => seqE (runR (bilOf s i)) fun _ =>
  if x.2.2.1 = (bilOf s i).keeper then .error .Same else if 8 ≤ (bilOf s i).places.length then .error .Full else .ok (s.setB i (signBil (bilOf s i) x.2.2.1 x.2.2.2.1 x.2.2.2.2), .none)
theorem setB_setB {s : Hl} {i : Nat} {b b' : Bil} : (s.setB i b).setB i b' = s.setB i b' := by
  unfold Hl.setB
  congr 1
  exact List.set_set ..
theorem ok_Hsignon {B : Bd} (T : Txt K mg A) (U : Ux K mg B) : FnOk P w K mg base (L2.CX P w) 3 B.a_Hsignon B.d_Hsignon ["self", "bill", "copy", "to", "bound", "blank"] (spD B signonD aSg tt) := by
  have G_Hfindcopy := ok_Hfindcopy (P := P) (w := w) (base := base) T U
  have G_Hcheckhouse := ok_Hcheckhouse (P := P) (w := w) (base := base) T U
  have G_Hcheckstanding := ok_Hcheckstanding (P := P) (w := w) (base := base) T U
  have G_check_running := ok_check_running (P := P) (w := w) (base := base) T U
  refine U.F_Hsignon.okX sc_Hsignon (fun vs H Q E h => lenD (n := 5) (fun _ => rfl) h) (fun cdv A' outer st H vs Q E hr h => ?_)
  obtain ⟨G, a, s, ⟨n, c, to, bo, bl⟩, us, rfl, hx, hW, hO, _, kE, kQ⟩ := h
  obtain ⟨v1, v2, v3, v4, v5, rfl, x1, x2, x3, x4, x5⟩ := dxs5 hx
  obtain rfl := x1.int_eq
  obtain rfl := x2.int_eq
  obtain rfl := x3.str_eq
  obtain rfl := x4.bl_eq
  obtain rfl := x5.bl_eq
  refine ⟨_, (pss_cons (ps_set (i := 6) sc_Hsignon.nd rfl (Or.inl rfl) (pe_meth (pv 0) U.cl_Hall U.m_Hfindcopy G_Hfindcopy (hr.mono (by omega)) U.b_Hfindcopy .nil (passes_call (takes_of rfl rfl rfl rfl) fun _ _ _ _ z => z) (by exact (pa_cons (pv 1) (pa_cons (pv 2) pa_nil)))))
      (pss_cons (ps_expr (pe_meth (pv 0) U.cl_Hall U.m_Hcheckhouse G_Hcheckhouse (hr.mono (by omega)) U.b_Hcheckhouse .nil (passes_call (takes_of rfl rfl rfl rfl) fun _ _ _ _ z => z) (by exact (pa_cons (pv 3) pa_nil))))
      (pss_cons (ps_expr (pe_meth (pv 0) U.cl_Hall U.m_Hcheckstanding G_Hcheckstanding (hr.mono (by omega)) U.b_Hcheckstanding .nil (passes_call (takes_of rfl rfl rfl rfl) fun _ _ _ _ z => z) (by exact (pa_cons (pe_fld (pv 6) rfl) pa_nil))))
      (pss_cons (ps_expr (pe_call G_check_running (hr.mono (by omega)) (by rfl) T.m_check_running T.F_check_running.kp T.b_check_running .nil (passes_call (takes_of rfl rfl rfl rfl) fun _ _ _ _ z => z) (pa_cons (pv 6) pa_nil)))
      (pss_cons (ps_if (pt_cmpR op_eq (pv 3) (pe_fld (pv 6) rfl) (nomark _))
      (pss_one (ps_raise rfl (takes_of rfl rfl rfl rfl) (pmk_ownA PySem.F.excBase_ValueError U.x_Same.x U.x_Same.g U.x_Same.k (raises_own U.x_Same.b U.x_Same.t) (by exact rfl) (pa_cons (pv 3) pa_nil))))
      pss_nil)
      (pss_cons (ps_if (pt_cmpR op_ge (pe_callB (call_lenK (K := K)) (by rfl) T.b.len (by decide +kernel) (pa_cons (pe_fld (pv 6) rfl) pa_nil)) (pe_glob (v := .int 8) (by rfl) T.g_MOST_PLACES ⟨_, rfl⟩) (nomark _))
      (pss_one (ps_raise rfl (takes_of rfl rfl rfl rfl) (pmk_own PySem.F.excBase_ValueError U.x_Full.x U.x_Full.g U.x_Full.k (raises_own U.x_Full.b U.x_Full.t) (by exact rfl))))
      pss_nil)
      (pss_cons (ps_expr (pe_bm PySem.F.plainAttrs_list PySem.F.slot_list_append PySem.F.type_list_append mt_append (pe_fld (pv 6) rfl) (pa_cons (pe_tup (pa_cons (pe_fld (pv 6) rfl) (pa_cons (pv 4) pa_nil))) pa_nil)))
      (pss_cons (ps_fld (pv 6) (pv 3) rfl)
      (pss_one (ps_fld (pv 6) (pv 5) rfl)))))))))), ?_⟩
  refine q_find (f := copyR) (args := aII) (n, c) (evv_var rfl) hW hO (ea_cons (ev_var rfl (.int n)) (ea_cons (ev_var rfl (.int c)) ea_nil)) (fun i => copyR_lt) (fun k hk G1 H1 g1 => kE k (seqE_err hk) G1 H1 g1) fun i p q b h1 G1 H1 g1 hB => ?_
  have hW := hW.step g1
  have hb := bilOf_eq hB.hb
  have h2 := hB.two hO
  refine q_dropX (x_meth (f := houseR) (args := aS) to (evv_var rfl) hW hO (ea_cons (ev_var rfl (.str _)) ea_nil)) hW.sb (fun k hk G2 H2 g2 => kE k (by unfold signonD; rw [seqE_ok h1, seqE_err hk]) G2 H2 (g1.trans g2)) fun d3 h3 G2 H2 g2 => ?_
  have hW := hW.step g2
  have hB := hB.step g2
  refine q_dropX (x_meth (f := standingR) (args := aS) b.keeper (evv_var rfl) hW hO (ea_cons (hB.e_keeper U (evv_var rfl)) ea_nil)) hW.sb (fun k hk G3 H3 g3 => kE k (by unfold signonD; rw [seqE_ok h1, seqE_ok h3, hb, seqE_err hk]) G3 H3 ((g1.trans g2).trans g3)) fun d4 h4 G3 H3 g3 => ?_
  have hW := hW.step g3
  have hB := hB.step g3
  refine q_dropX (x_run (evv_var rfl) hW hB) hW.sb (fun k hk G4 H4 g4 => kE k (by unfold signonD; rw [seqE_ok h1, seqE_ok h3, hb, seqE_ok h4, seqE_err hk]) G4 H4 (((g1.trans g2).trans g3).trans g4)) fun d5 h5 G4 H4 g4 => ?_
  have hW := hW.step g4
  have hB := hB.step g4
  have g14 := ((g1.trans g2).trans g3).trans g4
  have e0 : signonD s (n, c, to, bo, bl) = if to = b.keeper then .error .Same else if 8 ≤ b.places.length then .error .Full else .ok (s.setB i (signBil b to bo bl), .none) := by unfold signonD; rw [seqE_ok h1, seqE_ok h3, hb, seqE_ok h4, seqE_ok h5]
  refine q_when (b := decide (to = b.keeper)) (et_test (ev_op (ev_var rfl (.str to)) (hB.e_keeper U (evv_var rfl)) rd_eqS)) hW.sb (fun hb' G5 H5 g5 => ?_) (fun hb' G5 H5 g5 => ?_)
  · exact ⟨_, rfl, one_le, kE .Same (by rw [e0, if_pos (of_decide_eq_true hb')]) G5 H5 (g14.trans g5)⟩
  rw [if_neg (of_decide_eq_false hb')] at e0
  have hW := hW.step g5
  have hB := hB.step g5
  have hq := hB.hq
  obtain ⟨ws, hq1, hq2⟩ := hq
  have hlen : (ws.length : Int) = (b.places.length : Int) := by rw [hq2.len]; unfold encR; rw [List.length_map]
  refine q_when (b := decide ((8 : Int) ≤ (b.places.length : Int))) (et_test (ev_op (ev_is (ev_lenV (hB.e_places U (evv_var rfl)) hq1) (by rw [hlen])) ev_int rd_ge)) hW.sb (fun hb' G6 H6 g6 => ?_) (fun hb' G6 H6 g6 => ?_)
  · exact kE .Full (by rw [e0, if_pos (by have := of_decide_eq_true hb'; omega)]) G6 H6 ((g14.trans g5).trans g6)
  rw [if_neg (by have := of_decide_eq_false hb'; omega)] at e0
  have hW := hW.step g6
  have hB := hB.step g6
  refine q_sign (r := (b.keeper, bo)) hW h2.2 hB U (evv_var rfl) (ev_tup (ea_cons (hB.e_keeper U (evv_var rfl)) (ea_cons (ev_var rfl (.bl bo)) ea_nil)) (by show 2 ≤ 100000; decide)) fun G7 H7 c7 hW hB => ?_
  refine q_keeper (z := to) hW hB U (evv_var rfl) (ev_var rfl (.str to)) fun G8 H8 c8 hW hB => ?_
  refine s_blank (z := bl) hW hB U (evv_var rfl) (ev_var rfl (.bl bl)) fun G9 H9 c9 hW hB => ?_
  refine kQ _ _ e0 a G9 H9 .non ((((Ch.of ((g14.trans g5).trans g6)).trans c7).trans c8).trans c9) rfl (hW.ofs ?_) .non
  rw [setB_setB, setB_setB]; rfl
abbrev aSn : Int × Int × Str × Bool → List PyData := fun x => [.int x.1, .int x.2.1, .str x.2.2.1, .bool x.2.2.2]
def signD (word : Str) (bl : Bool) (s : Hl) (x : Int × Int × Str × Bool) : DR := seqE (signonD s (x.1, x.2.1, x.2.2.1, x.2.2.2, bl)) fun y => .ok (tell y.1 (.tuple (.str word :: aSn x)), .none)
theorem signon_ds {s : Hl} {x : Int × Int × Str × Bool × Bool} {y : Hl × PyData} (h : signonD s x = .ok y) : ∃ i b, y.1 = s.setB i b := by
  obtain ⟨i, h1, h⟩ := seqE_inv h
  obtain ⟨d2, h2, h⟩ := seqE_inv h
  obtain ⟨d3, h3, h⟩ := seqE_inv h
  obtain ⟨d4, h4, h⟩ := seqE_inv h
  split at h
  · cases h
  · split at h
    · cases h
    · cases h; exact ⟨_, _, rfl⟩
theorem ok_Hsign {B : Bd} (T : Txt K mg A) (U : Ux K mg B) : FnOk P w K mg base (L2.CX P w) 4 B.a_Hsign B.d_Hsign ["self", "bill", "copy", "to", "bound"] (spD B (signD "sign" false) aSn tt) := by
  have G_Hsignon := ok_Hsignon (P := P) (w := w) (base := base) T U
  refine U.F_Hsign.okX sc_Hsign (fun vs H Q E h => lenD (n := 4) (fun _ => rfl) h) (fun cdv A' outer st H vs Q E hr h => ?_)
  obtain ⟨G, a, s, ⟨n, c, to, bo⟩, us, rfl, hx, hW, hO, _, kE, kQ⟩ := h
  obtain ⟨v1, v2, v3, v4, rfl, x1, x2, x3, x4⟩ := dxs4 hx
  obtain rfl := x1.int_eq
  obtain rfl := x2.int_eq
  obtain rfl := x3.str_eq
  obtain rfl := x4.bl_eq
  refine ⟨_, (pss_cons (ps_expr (pe_meth (pv 0) U.cl_Hall U.m_Hsignon G_Hsignon (hr.mono (by omega)) U.b_Hsignon .nil (passes_call (takes_of rfl rfl rfl rfl) fun _ _ _ _ z => z) (by exact (pa_cons (pv 1) (pa_cons (pv 2) (pa_cons (pv 3) (pa_cons (pv 4) (pa_cons pe_bl pa_nil))))))))
      (pss_one (ps_expr (pe_bm PySem.F.plainAttrs_list PySem.F.slot_list_append PySem.F.type_list_append mt_append (pe_fld (pv 0) rfl) (pa_cons (pe_tup (pa_cons pe_str (pa_cons (pv 1) (pa_cons (pv 2) (pa_cons (pv 3) (pa_cons (pv 4) pa_nil)))))) pa_nil))))), ?_⟩
  refine q_deed (R := signonD) (args := aSg) (n, c, to, bo, false) (evv_var rfl) hW hO trivial (ea_cons (ev_var rfl (.int n)) (ea_cons (ev_var rfl (.int c)) (ea_cons (ev_var rfl (.str to)) (ea_cons (ev_var rfl (.bl bo)) (ea_cons ev_bl ea_nil))))) (fun k hk G1 H1 g1 => kE k (seqE_err hk) G1 H1 g1) fun s' d h1 a' G1 H1 c1 ea hW => ?_
  have hd : s'.ds.length ≤ 5000 := by obtain ⟨i, b, e⟩ := signon_ds h1; rw [show s' = s.setB i b from e]; exact hO.d
  exact s_story hW hd U (by rw [ea]; exact evv_var rfl) (ev_tup (ea_cons ev_str (ea_cons (ev_var rfl (.int n)) (ea_cons (ev_var rfl (.int c)) (ea_cons (ev_var rfl (.str to)) (ea_cons (ev_var rfl (.bl bo)) ea_nil))))) (by show 5 ≤ 100000; decide)) fun G7 H7 c7 hW => kQ _ _ (by unfold signD; rw [seqE_ok h1]; rfl) a' G7 H7 .non (c1.trans c7) ea hW .non
theorem ok_Hsignblank {B : Bd} (T : Txt K mg A) (U : Ux K mg B) : FnOk P w K mg base (L2.CX P w) 4 B.a_Hsignblank B.d_Hsignblank ["self", "bill", "copy", "to", "bound"] (spD B (signD "blank" true) aSn tt) := by
  have G_Hsignon := ok_Hsignon (P := P) (w := w) (base := base) T U
  refine U.F_Hsignblank.okX sc_Hsignblank (fun vs H Q E h => lenD (n := 4) (fun _ => rfl) h) (fun cdv A' outer st H vs Q E hr h => ?_)
  obtain ⟨G, a, s, ⟨n, c, to, bo⟩, us, rfl, hx, hW, hO, _, kE, kQ⟩ := h
  obtain ⟨v1, v2, v3, v4, rfl, x1, x2, x3, x4⟩ := dxs4 hx
  obtain rfl := x1.int_eq
  obtain rfl := x2.int_eq
  obtain rfl := x3.str_eq
  obtain rfl := x4.bl_eq
  refine ⟨_, (pss_cons (ps_expr (pe_meth (pv 0) U.cl_Hall U.m_Hsignon G_Hsignon (hr.mono (by omega)) U.b_Hsignon .nil (passes_call (takes_of rfl rfl rfl rfl) fun _ _ _ _ z => z) (by exact (pa_cons (pv 1) (pa_cons (pv 2) (pa_cons (pv 3) (pa_cons (pv 4) (pa_cons pe_bl pa_nil))))))))
      (pss_one (ps_expr (pe_bm PySem.F.plainAttrs_list PySem.F.slot_list_append PySem.F.type_list_append mt_append (pe_fld (pv 0) rfl) (pa_cons (pe_tup (pa_cons pe_str (pa_cons (pv 1) (pa_cons (pv 2) (pa_cons (pv 3) (pa_cons (pv 4) pa_nil)))))) pa_nil))))), ?_⟩
  refine q_deed (R := signonD) (args := aSg) (n, c, to, bo, true) (evv_var rfl) hW hO trivial (ea_cons (ev_var rfl (.int n)) (ea_cons (ev_var rfl (.int c)) (ea_cons (ev_var rfl (.str to)) (ea_cons (ev_var rfl (.bl bo)) (ea_cons ev_bl ea_nil))))) (fun k hk G1 H1 g1 => kE k (seqE_err hk) G1 H1 g1) fun s' d h1 a' G1 H1 c1 ea hW => ?_
  have hd : s'.ds.length ≤ 5000 := by obtain ⟨i, b, e⟩ := signon_ds h1; rw [show s' = s.setB i b from e]; exact hO.d
  exact s_story hW hd U (by rw [ea]; exact evv_var rfl) (ev_tup (ea_cons ev_str (ea_cons (ev_var rfl (.int n)) (ea_cons (ev_var rfl (.int c)) (ea_cons (ev_var rfl (.str to)) (ea_cons (ev_var rfl (.bl bo)) ea_nil))))) (by show 5 ≤ 100000; decide)) fun G7 H7 c7 hW => kQ _ _ (by unfold signD; rw [seqE_ok h1]; rfl) a' G7 H7 .non (c1.trans c7) ea hW .non
abbrev aIIS : Int × Int × Str → List PyData := fun x => [.int x.1, .int x.2.1, .str x.2.2]
def handD (s : Hl) (x : Int × Int × Str) : DR := seqE (copyR s (x.1, x.2.1)) fun i => seqE (houseR s x.2.2) fun _ => seqE (runR (bilOf s i)) fun _ => if (bilOf s i).blank = false then .error .NotBlank else if x.2.2 = (bilOf s i).keeper then .error .Same else
  .ok (tell (s.setB i { bilOf s i with keeper := x.2.2 }) (.tuple (.str "hand" :: aIIS x)), .none)
theorem ok_Hhand {B : Bd} (T : Txt K mg A) (U : Ux K mg B) : FnOk P w K mg base (L2.CX P w) 3 B.a_Hhand B.d_Hhand ["self", "bill", "copy", "to"] (spD B handD aIIS tt) := by
  have G_Hfindcopy := ok_Hfindcopy (P := P) (w := w) (base := base) T U
  have G_Hcheckhouse := ok_Hcheckhouse (P := P) (w := w) (base := base) T U
  have G_check_running := ok_check_running (P := P) (w := w) (base := base) T U
  refine U.F_Hhand.okX sc_Hhand (fun vs H Q E h => lenD (n := 3) (fun _ => rfl) h) (fun cdv A' outer st H vs Q E hr h => ?_)
  obtain ⟨G, a, s, ⟨n, c, to⟩, us, rfl, hx, hW, hO, _, kE, kQ⟩ := h
  obtain ⟨v1, v2, v3, rfl, x1, x2, x3⟩ := dxs3 hx
  obtain rfl := x1.int_eq
  obtain rfl := x2.int_eq
  obtain rfl := x3.str_eq
  refine ⟨_, (pss_cons (ps_set (i := 4) sc_Hhand.nd rfl (Or.inl rfl) (pe_meth (pv 0) U.cl_Hall U.m_Hfindcopy G_Hfindcopy (hr.mono (by omega)) U.b_Hfindcopy .nil (passes_call (takes_of rfl rfl rfl rfl) fun _ _ _ _ z => z) (by exact (pa_cons (pv 1) (pa_cons (pv 2) pa_nil)))))
      (pss_cons (ps_expr (pe_meth (pv 0) U.cl_Hall U.m_Hcheckhouse G_Hcheckhouse (hr.mono (by omega)) U.b_Hcheckhouse .nil (passes_call (takes_of rfl rfl rfl rfl) fun _ _ _ _ z => z) (by exact (pa_cons (pv 3) pa_nil))))
      (pss_cons (ps_expr (pe_call G_check_running (hr.mono (by omega)) (by rfl) T.m_check_running T.F_check_running.kp T.b_check_running .nil (passes_call (takes_of rfl rfl rfl rfl) fun _ _ _ _ z => z) (pa_cons (pv 4) pa_nil)))
      (pss_cons (ps_if (pt_not (pt_val (pe_fld (pv 4) rfl)))
      (pss_one (ps_raise rfl (takes_of rfl rfl rfl rfl) (pmk_own PySem.F.excBase_ValueError U.x_NotBlank.x U.x_NotBlank.g U.x_NotBlank.k (raises_own U.x_NotBlank.b U.x_NotBlank.t) (by exact rfl))))
      pss_nil)
      (pss_cons (ps_if (pt_cmpR op_eq (pv 3) (pe_fld (pv 4) rfl) (nomark _))
      (pss_one (ps_raise rfl (takes_of rfl rfl rfl rfl) (pmk_ownA PySem.F.excBase_ValueError U.x_Same.x U.x_Same.g U.x_Same.k (raises_own U.x_Same.b U.x_Same.t) (by exact rfl) (pa_cons (pv 3) pa_nil))))
      pss_nil)
      (pss_cons (ps_fld (pv 4) (pv 3) rfl)
      (pss_one (ps_expr (pe_bm PySem.F.plainAttrs_list PySem.F.slot_list_append PySem.F.type_list_append mt_append (pe_fld (pv 0) rfl) (pa_cons (pe_tup (pa_cons pe_str (pa_cons (pv 1) (pa_cons (pv 2) (pa_cons (pv 3) pa_nil))))) pa_nil)))))))))), ?_⟩
  refine q_find (f := copyR) (args := aII) (n, c) (evv_var rfl) hW hO (ea_cons (ev_var rfl (.int n)) (ea_cons (ev_var rfl (.int c)) ea_nil)) (fun i => copyR_lt) (fun k hk G1 H1 g1 => kE k (seqE_err hk) G1 H1 g1) fun i p q b h1 G1 H1 g1 hB => ?_
  have hW := hW.step g1
  have hb := bilOf_eq hB.hb
  refine q_dropX (x_meth (f := houseR) (args := aS) to (evv_var rfl) hW hO (ea_cons (ev_var rfl (.str _)) ea_nil)) hW.sb (fun k hk G2 H2 g2 => kE k (by unfold handD; rw [seqE_ok h1, seqE_err hk]) G2 H2 (g1.trans g2)) fun d3 h3 G2 H2 g2 => ?_
  have hW := hW.step g2
  have hB := hB.step g2
  refine q_dropX (x_run (evv_var rfl) hW hB) hW.sb (fun k hk G4 H4 g4 => kE k (by unfold handD; rw [seqE_ok h1, seqE_ok h3, hb, seqE_err hk]) G4 H4 ((g1.trans g2).trans g4)) fun d5 h5 G4 H4 g4 => ?_
  have hW := hW.step g4
  have hB := hB.step g4
  have g14 := (g1.trans g2).trans g4
  have e0 : handD s (n, c, to) = if b.blank = false then .error .NotBlank else if to = b.keeper then .error .Same else .ok (tell (s.setB i { b with keeper := to }) (.tuple [.str "hand", .int n, .int c, .str to]), .none) := by unfold handD; rw [seqE_ok h1, seqE_ok h3, hb, seqE_ok h5]
  refine q_when (b := !b.blank) (et_not (et_B (hB.e_blank U (evv_var rfl)))) hW.sb (fun hb' G5 H5 g5 => ?_) (fun hb' G5 H5 g5 => ?_)
  · exact kE .NotBlank (by rw [e0, if_pos (by simpa using hb')]) G5 H5 (g14.trans g5)
  rw [if_neg (by simpa using hb')] at e0
  have hW := hW.step g5
  have hB := hB.step g5
  refine q_when (b := decide (to = b.keeper)) (et_test (ev_op (ev_var rfl (.str to)) (hB.e_keeper U (evv_var rfl)) rd_eqS)) hW.sb (fun hb' G6 H6 g6 => ?_) (fun hb' G6 H6 g6 => ?_)
  · exact ⟨_, rfl, one_le, kE .Same (by rw [e0, if_pos (of_decide_eq_true hb')]) G6 H6 ((g14.trans g5).trans g6)⟩
  rw [if_neg (of_decide_eq_false hb')] at e0
  have hW := hW.step g6
  have hB := hB.step g6
  refine q_keeper (z := to) hW hB U (evv_var rfl) (ev_var rfl (.str to)) fun G8 H8 c8 hW hB => ?_
  exact s_story hW hO.d U (evv_var rfl) (ev_tup (ea_cons ev_str (ea_cons (ev_var rfl (.int n)) (ea_cons (ev_var rfl (.int c)) (ea_cons (ev_var rfl (.str to)) ea_nil)))) (by show 4 ≤ 100000; decide)) fun G9 H9 c9 hW => kQ _ _ e0 a G9 H9 .non (((Ch.of ((g14.trans g5).trans g6)).trans c8).trans c9) rfl hW .non
def loseD (s : Hl) (n : Int) : DR := seqE (findR s n) fun i => if (bilOf s i).phase = "paid" then .error .Closed else if 3 ≤ (bilOf s i).issue then .error .Full else
  .ok (tell (s.setB i { bilOf s i with issue := (bilOf s i).issue + 1 }) (.tuple [.str "lose", .int n]), .int ((bilOf s i).issue + 1))
theorem ok_Hlose {B : Bd} (T : Txt K mg A) (U : Ux K mg B) : FnOk P w K mg base (L2.CX P w) 2 B.a_Hlose B.d_Hlose ["self", "bill"] (spD B loseD aI tt) := by
  have G_Hfindbill := ok_Hfindbill (P := P) (w := w) (base := base) T U
  refine U.F_Hlose.okX sc_Hlose (fun vs H Q E h => lenD (n := 1) (fun _ => rfl) h) (fun cdv A' outer st H vs Q E hr h => ?_)
  obtain ⟨G, a, s, n, us, rfl, hx, hW, hO, _, kE, kQ⟩ := h
  obtain ⟨v1, rfl, x1⟩ := dxs1 hx
  obtain rfl := x1.int_eq
  refine ⟨_, (pss_cons (ps_set (i := 2) sc_Hlose.nd rfl (Or.inl rfl) (pe_meth (pv 0) U.cl_Hall U.m_Hfindbill G_Hfindbill (hr.mono (by omega)) U.b_Hfindbill .nil (passes_call (takes_of rfl rfl rfl rfl) fun _ _ _ _ z => z) (by exact (pa_cons (pv 1) pa_nil))))
      (pss_cons (ps_if (pt_cmpR op_eq (pe_fld (pv 2) rfl) (pe_glob (v := .str "paid") (by rfl) T.g_PAID ⟨_, rfl⟩) (nomark _))
      (pss_one (ps_raise rfl (takes_of rfl rfl rfl rfl) (pmk_own PySem.F.excBase_ValueError U.x_Closed.x U.x_Closed.g U.x_Closed.k (raises_own U.x_Closed.b U.x_Closed.t) (by exact rfl))))
      pss_nil)
      (pss_cons (ps_if (pt_cmpR op_ge (pe_fld (pv 2) rfl) (pe_glob (v := .int 3) (by rfl) T.g_MOST_COPIES ⟨_, rfl⟩) (nomark _))
      (pss_one (ps_raise rfl (takes_of rfl rfl rfl rfl) (pmk_own PySem.F.excBase_ValueError U.x_Full.x U.x_Full.g U.x_Full.k (raises_own U.x_Full.b U.x_Full.t) (by exact rfl))))
      pss_nil)
      (pss_cons (ps_fldaug (pv 2) pe_int in_add)
      (pss_cons (ps_expr (pe_bm PySem.F.plainAttrs_list PySem.F.slot_list_append PySem.F.type_list_append mt_append (pe_fld (pv 0) rfl) (pa_cons (pe_tup (pa_cons pe_str (pa_cons (pv 1) pa_nil))) pa_nil)))
      (pss_one (ps_ret (pe_fld (pv 2) rfl)))))))), ?_⟩
  refine q_find (f := findR) (args := aI) n (evv_var rfl) hW hO (ea_cons (ev_var rfl (.int n)) ea_nil) (fun i => findR_lt) (fun k hk G1 H1 g1 => kE k (seqE_err hk) G1 H1 g1) fun i p q b h1 G1 H1 g1 hB => ?_
  have hW := hW.step g1
  have hb := bilOf_eq hB.hb
  have e0 : loseD s n = if b.phase = "paid" then .error .Closed else if 3 ≤ b.issue then .error .Full else .ok (tell (s.setB i { b with issue := b.issue + 1 }) (.tuple [.str "lose", .int n]), .int (b.issue + 1)) := by unfold loseD; rw [seqE_ok h1, hb]
  refine q_when (b := decide (b.phase = "paid")) (et_test (ev_op (hB.e_phase U (evv_var rfl)) ev_str rd_eqS)) hW.sb (fun hb' G2 H2 g2 => ?_) (fun hb' G2 H2 g2 => ?_)
  · exact kE .Closed (by rw [e0, if_pos (of_decide_eq_true hb')]) G2 H2 (g1.trans g2)
  rw [if_neg (of_decide_eq_false hb')] at e0
  have hW := hW.step g2
  have hB := hB.step g2
  refine q_when (b := decide (3 ≤ b.issue)) (et_test (ev_op (hB.e_issue U (evv_var rfl)) ev_int rd_ge)) hW.sb (fun hb' G3 H3 g3 => ?_) (fun hb' G3 H3 g3 => ?_)
  · exact kE .Full (by rw [e0, if_pos (of_decide_eq_true hb')]) G3 H3 ((g1.trans g2).trans g3)
  rw [if_neg (of_decide_eq_false hb')] at e0
  have hW := hW.step g3
  have hB := hB.step g3
  refine q_issue (n := 1) hW hB U (evv_var rfl) ev_int fun G4 H4 c4 hW hB => ?_
  refine q_story hW hO.d U (evv_var rfl) (ev_tup (ea_cons ev_str (ea_cons (ev_var rfl (.int n)) ea_nil)) (by show 2 ≤ 100000; decide)) fun G5 H5 c5 hW => ?_
  have hB : BilAt B G5 H5 a _ i p q { b with issue := b.issue + 1 } := BilAt.set hW hB.hb hB.ap hB.aq
  exact s_ret (hB.e_issue U (evv_var rfl)) hW.sb fun v G6 H6 g6 hv => kQ _ _ e0 a G6 H6 v (((Ch.of ((g1.trans g2).trans g3)).trans c4).trans (c5.trans (Ch.of g6))) rfl (hW.step g6) hv

end
end

-- hd4.txt
section

local macro_rules | `(tactic| walk_at "arith") => `(tactic| first | omega | decide | (unfold CMul; omega) | (unfold CDiv; omega) | (unfold CPow; decide) | (refine ⟨?_, ?_⟩ <;> omega) | (simp; done) | (simp; omega))
local macro_rules | `(tactic| walk_at "wide") => `(tactic| exact ⟨by decide, by decide +kernel⟩)
section
variable {P : Program} {w : World} {K : PySem.W.Frag} {mg : Str → Option Value} {base : Heap} {A : Ad}
/-! ### a list handed to a def while it stays one's own -/
open Classical in
noncomputable def minus (G : Hp) (q : Addr) : Hp := fun a => if a = q then none else G a
theorem minus_q {G : Hp} {q : Addr} : minus G q q = none := if_pos rfl
theorem minus_ne {G : Hp} {q a : Addr} (h : a ≠ q) : minus G q a = G a := if_neg h
theorem Gr.minus {G H G' H' : Hp} {q : Addr} {o : HO} (x : Gr [] (upd G q o) H G' H') (hn : G q = none) : Gr [] G H (minus G' q) H' :=
  ⟨fun a u e => by
    have ne : a ≠ q := fun z => by rw [z, hn] at e; cases e
    rw [minus_ne ne]; exact x.g a u ((upd_ne ne).trans e),
   fun a u e => by
    by_cases ne : a = q
    · rw [ne, minus_q] at e; cases e
    · rw [minus_ne ne] at e; exact x.s a u e, x.h, x.t,
   fun a u e e0 => by
    by_cases ne : a = q
    · rw [ne]; exact minus_q
    · rw [minus_ne ne]; exact x.n a u e ((upd_ne ne).trans e0)⟩
theorem dx_minus {G : Hp} {q : Addr} {ws : List V} (hq : G q = some (.lst ws)) : ∀ {xs : List V} {r : Rw}, Dxs G xs (encR r) → Dxs (minus G q) xs (encR r)
  | [], [], .nil => .nil
  | v :: vs, p :: r, .cons h t => by
    refine .cons ?_ (dx_minus hq t)
    obtain ⟨a, us, rfl, ha, x⟩ := Dx.tup_eq h
    obtain ⟨u1, u2, rfl, y1, y2⟩ := dxs2 x
    obtain rfl := y1.str_eq
    obtain rfl := y2.bl_eq
    have ne : a ≠ q := fun z => by rw [z, hq] at ha; cases ha
    exact .tup ((minus_ne ne).trans ha) (.cons (.str _) (.cons (.bl _) .nil))
section
variable {B : Bd} {G H : Hp} {a : Ha} {s : Hl} {σ : L2.St} {te ta : TE} {E : XK} {i : Nat} {p q : Addr} {b : Bil} {K : PySem.W.Frag} {mg : Str → Option Value}
theorem BilAt.e_rowfn {f : Rw × Nat → Rw} {pre : Rw × Nat → Prop} {n : Int} (w : W B G H a s) (x : BilAt B G H a s i p q b) (U : Ux K mg B) (h : EvV te σ G H (.ref p)) (hk : EvD ta σ G H (.int n)) (hn : 0 ≤ n) (hp : pre (b.places, n.toNat)) :
    EvM (tCall (SpM (α := Rw × Nat) (fun x => [.list (encR x.1), .int ((x.2 : Nat) : Int)]) pre (fun x => encR (f x))) [] E (tCons (tFld K te "places") (tCons ta tNil))) σ G H (encR (f (b.places, n.toNat))) := fun G1 H1 g Q k => by
  refine (x.e_places U h) G1 H1 g _ fun G2 H2 g2 => hk G2 H2 (g.trans g2) _ fun v G3 H3 g3 y => ?_
  have gg := g.trans (g2.trans g3)
  have x3 := x.step gg
  have w3 := w.step gg
  obtain ⟨vs, hq, hx⟩ := x3.hq
  have hqn : G3 q = none := w3.ng (.p i) q x3.aq
  have e1 : ((n.toNat : Nat) : Int) = n := by omega
  refine ⟨upd G3 q (.lst vs), (b.places, n.toNat), w3.sb.add hq, ?_, hp, fun l xs G4 H4 g4 l0 ln ll lx => ?_⟩
  · show Dxs _ [V.ref q, v] [PyData.list (encR b.places), PyData.int ((n.toNat : Nat) : Int)]
    rw [e1]
    exact .cons (.lst upd_same (hx.mono (Sb.new hqn))) (.cons (y.mono (Sb.new hqn)) .nil)
  · have hq4 : G4 q = some (.lst vs) := g4.g _ _ upd_same
    have nl : l ≠ q := fun z => by rw [z, hq4] at ln; cases ln
    exact k l xs (minus G4 q) H4 ((g2.trans g3).trans (Gr.minus g4 hqn)) ((g2.trans g3).free l0) ((minus_ne nl).trans ln) ll (dx_minus hq4 lx)
end
def canPR (s : Hl) (b : Bil) : Except Kd Bool := if (p0 b).2 = true ∧ (p0 b).1 ≠ b.keeper then (if (get s.m (p0 b).1).isSome = true then .ok (canB s (p0 b).1 b.amount) else .error .NoHouse) else .ok (p0 b).2
def payP (s : Hl) (b : Bil) (paid : Bool) : Except Kd Mp := if paid = true ∧ (p0 b).1 ≠ b.keeper then payR s.m (p0 b).1 b.keeper b.amount else .ok s.m
def phP (paid : Bool) : Str := if paid = true then "paid" else "unpaid"
def presentD (s : Hl) (x : Int × Int) : DR := seqE (copyR s x) fun i => seqE (runR (bilOf s i)) fun _ => if s.day < (bilOf s i).due then .error .NotYet else seqE (canPR s (bilOf s i)) fun paid => seqE (payP s (bilOf s i) paid) fun m =>
  .ok (tell (({ s with m := m } : Hl).setB i { bilOf s i with phase := phP paid }) (.tuple [.str "present", .int x.1, .int x.2]), .bool paid)
theorem ok_Hpresent {B : Bd} (T : Txt K mg A) (U : Ux K mg B) : FnOk P w K mg base (L2.CX P w) 5 B.a_Hpresent B.d_Hpresent ["self", "bill", "copy"] (spD B presentD aII tt) := by
  have G_Hfindcopy := ok_Hfindcopy (P := P) (w := w) (base := base) T U
  have G_check_running := ok_check_running (P := P) (w := w) (base := base) T U
  have G_Hcanpay := ok_Hcanpay (P := P) (w := w) (base := base) T U
  have G_Mpay := ok_Mpay (P := P) (w := w) (base := base) T U
  refine U.F_Hpresent.okX sc_Hpresent (fun vs H Q E h => lenD (n := 2) (fun _ => rfl) h) (fun cdv A' outer st H vs Q E hr h => ?_)
  obtain ⟨G, a, s, ⟨n, c⟩, us, rfl, hx, hW, hO, _, kE, kQ⟩ := h
  obtain ⟨v1, v2, rfl, x1, x2⟩ := dxs2 hx
  obtain rfl := x1.int_eq
  obtain rfl := x2.int_eq
  refine ⟨_, (pss_cons (ps_set (i := 3) sc_Hpresent.nd rfl (Or.inl rfl) (pe_meth (pv 0) U.cl_Hall U.m_Hfindcopy G_Hfindcopy (hr.mono (by omega)) U.b_Hfindcopy .nil (passes_call (takes_of rfl rfl rfl rfl) fun _ _ _ _ z => z) (by exact (pa_cons (pv 1) (pa_cons (pv 2) pa_nil)))))
      (pss_cons (ps_expr (pe_call G_check_running (hr.mono (by omega)) (by rfl) T.m_check_running T.F_check_running.kp T.b_check_running .nil (passes_call (takes_of rfl rfl rfl rfl) fun _ _ _ _ z => z) (pa_cons (pv 3) pa_nil)))
      (pss_cons (ps_if (pt_cmpR op_lt (pe_fld (pv 0) rfl) (pe_fld (pv 3) rfl) (nomark _))
      (pss_one (ps_raise rfl (takes_of rfl rfl rfl rfl) (pmk_own PySem.F.excBase_ValueError U.x_NotYet.x U.x_NotYet.g U.x_NotYet.k (raises_own U.x_NotYet.b U.x_NotYet.t) (by exact rfl))))
      pss_nil)
      (pss_cons (ps_asg (pe_ix (ix_listK (K := K)) (pe_fld (pv 3) rfl) pe_int (fun _ _ => rfl)) (pg_tup (by rfl) (pgs_cons (pg_name (i := 4) sc_Hpresent.nd rfl (Or.inl rfl)) (pgs_cons (pg_name (i := 5) sc_Hpresent.nd rfl (Or.inl rfl)) pgs_nil))))
      (pss_cons (ps_set (i := 6) sc_Hpresent.nd rfl (Or.inl rfl) (pe_cmpR op_eq (pv 4) (pe_fld (pv 3) rfl) (nomark _)))
      (pss_cons (ps_set (i := 7) sc_Hpresent.nd rfl (Or.inl rfl) (pe_and (pv 5) (pe_one (pe_or (pv 6) (pe_one (pe_meth (pv 0) U.cl_Hall U.m_Hcanpay G_Hcanpay (hr.mono (by omega)) U.b_Hcanpay .nil (passes_call (takes_of rfl rfl rfl rfl) fun _ _ _ _ z => z) (by exact (pa_cons (pv 4) (pa_cons (pe_fld (pv 3) rfl) pa_nil)))))))))
      (pss_cons (ps_if (PW.pt (pw_and (pt_val (pv 7)) (pw_and1 (pt_not (pt_val (pv 6))))))
      (pss_one (ps_expr (pe_meth (pe_fld (pv 0) rfl) U.cl_Purses U.m_Mpay G_Mpay (hr.mono (by omega)) U.b_Mpay .nil (passes_call (takes_of rfl rfl rfl rfl) fun _ _ _ _ z => z) (by exact (pa_cons (pv 4) (pa_cons (pe_fld (pv 3) rfl) (pa_cons (pe_fld (pv 3) rfl) pa_nil)))))))
      pss_nil)
      (pss_cons (ps_fld (pv 3) (pe_ifExp (pt_val (pv 7)) (pe_glob (v := .str "paid") (by rfl) T.g_PAID ⟨_, rfl⟩) (pe_glob (v := .str "unpaid") (by rfl) T.g_UNPAID ⟨_, rfl⟩)) rfl)
      (pss_cons (ps_expr (pe_bm PySem.F.plainAttrs_list PySem.F.slot_list_append PySem.F.type_list_append mt_append (pe_fld (pv 0) rfl) (pa_cons (pe_tup (pa_cons pe_str (pa_cons (pv 1) (pa_cons (pv 2) pa_nil)))) pa_nil)))
      (pss_one (ps_ret (pv 7)))))))))))), ?_⟩
  refine q_find (f := copyR) (args := aII) (n, c) (evv_var rfl) hW hO (ea_cons (ev_var rfl (.int n)) (ea_cons (ev_var rfl (.int c)) ea_nil)) (fun i => copyR_lt) (fun k hk G1 H1 g1 => kE k (seqE_err hk) G1 H1 g1) fun i p q b h1 G1 H1 g1 hB => ?_
  have hW := hW.step g1
  have hb := bilOf_eq hB.hb
  have h2 := hB.two hO
  refine q_dropX (x_run (evv_var rfl) hW hB) hW.sb (fun k hk G2 H2 g2 => kE k (by unfold presentD; rw [seqE_ok h1, hb, seqE_err hk]) G2 H2 (g1.trans g2)) fun d2 hr2 G2 H2 g2 => ?_
  have hW := hW.step g2
  have hB := hB.step g2
  have e0 : presentD s (n, c) = if s.day < b.due then .error .NotYet else seqE (canPR s b) fun paid => seqE (payP s b paid) fun m => .ok (tell (({ s with m := m } : Hl).setB i { b with phase := phP paid }) (.tuple [.str "present", .int n, .int c]), .bool paid) := by unfold presentD; rw [seqE_ok h1, hb, seqE_ok hr2]
  refine q_when (b := decide (s.day < b.due)) (et_test (ev_op (hW.e_day U (evv_var rfl)) (hB.e_due U (evv_var rfl)) rd_lt)) hW.sb (fun hb' G3 H3 g3 => ?_) (fun hb' G3 H3 g3 => ?_)
  · exact kE .NotYet (by rw [e0, if_pos (of_decide_eq_true hb')]) G3 H3 ((g1.trans g2).trans g3)
  rw [if_neg (of_decide_eq_false hb')] at e0
  have hW := hW.step g3
  have hB := hB.step g3
  refine seqI ((hB.e_at U (evv_var rfl) ev_int (j := 0) rfl (by omega)) G3 H3 (.refl hW.sb) _ fun v G4 H4 g4 hv => g_nn hv g4.s fun u1 u2 y1 y2 => ?_)
  obtain rfl := y1.str_eq
  obtain rfl := y2.bl_eq
  have hW := hW.step g4
  have hB := hB.step g4
  dsimp only
  refine q_asg (ev_op (ev_var rfl (.str (p0 b).1)) (hB.e_keeper U (evv_var rfl)) rd_eqS) hW.sb fun v G5 H5 g5 hv => ?_
  obtain rfl := hv.bl_eq
  have hW := hW.step g5
  have hB := hB.step g5
  have g15 := (((g1.trans g2).trans g3).trans g4).trans g5
  -- paid
  have go : ∀ paid : Bool, canPR s b = .ok paid → ∀ G6 H6, Gr [] G H G6 H6 → W B G6 H6 a s → BilAt B G6 H6 a s i p q b →
      tSeq (tIfS (tAnd (tB (tVar 7)) (tNot (tB (tVar 6)))) (tDrop (tMeth B.C_Purses "pay" (spPay B) [] E (tFld K (tVar 0) "purses") (tCons (tVar 4) (tCons (tFld K (tVar 3) "keeper") (tCons (tFld K (tVar 3) "amount") tNil))))) tNext)
        (fun D => tSeq (sFld K (tVar 3) (tIf (tB (tVar 7)) (tC (.str "paid")) (tC (.str "unpaid"))) "phase") (fun D => tSeq (tDrop (tBM K "list" rAppend (tFld K (tVar 0) "deeds") (tCons (tTup (tCons (tC (.str "present")) (tCons (tVar 1) (tCons (tVar 2) tNil)))) tNil))) (fun D => tRet (tVar 7) D) D) D)
        { nx := fun _ H' => Q .non H', rt := Q } [some (.ref a.h), some (.int n), some (.int c), some (.ref p), some (.str (p0 b).1), some (.bl (p0 b).2), some (.bl (decide ((p0 b).1 = b.keeper))), some (.bl paid)] H6 := fun paid hpd G6 H6 g6 hW hB => by
    rw [hpd] at e0
    have e1 : presentD s (n, c) = seqE (payP s b paid) fun m => .ok (tell (({ s with m := m } : Hl).setB i { b with phase := phP paid }) (.tuple [.str "present", .int n, .int c]), .bool paid) := e0
    have fin : ∀ m', payP s b paid = .ok m' → ∀ G7 H7, Ch a G H a G7 H7 → W B G7 H7 a { s with m := m' } →
        tSeq (sFld K (tVar 3) (tIf (tB (tVar 7)) (tC (.str "paid")) (tC (.str "unpaid"))) "phase") (fun D => tSeq (tDrop (tBM K "list" rAppend (tFld K (tVar 0) "deeds") (tCons (tTup (tCons (tC (.str "present")) (tCons (tVar 1) (tCons (tVar 2) tNil)))) tNil))) (fun D => tRet (tVar 7) D) D)
        { nx := fun _ H' => Q .non H', rt := Q } [some (.ref a.h), some (.int n), some (.int c), some (.ref p), some (.str (p0 b).1), some (.bl (p0 b).2), some (.bl (decide ((p0 b).1 = b.keeper))), some (.bl paid)] H7 := fun m' hm G7 H7 c7 hW => by
      rw [hm] at e1
      have hB7 : BilAt B G7 H7 a { s with m := m' } i p q b := BilAt.set hW hB.hb hB.ap hB.aq
      refine q_phase (z := phP paid) hW hB7 U (evv_var rfl) (ev_if (b := paid) (et_B (ev_var rfl (.bl paid))) (fun h => ev_is ev_str (by unfold phP; rw [if_pos h])) (fun h => ev_is ev_str (by unfold phP; rw [if_neg (by rw [h]; decide)]))) fun G8 H8 c8 hW hB8 => ?_
      refine q_story hW hO.d U (evv_var rfl) (ev_tup (ea_cons ev_str (ea_cons (ev_var rfl (.int n)) (ea_cons (ev_var rfl (.int c)) ea_nil))) (by show 3 ≤ 100000; decide)) fun G9 H9 c9 hW => ?_
      exact s_ret (ev_var rfl (.bl paid)) hW.sb fun v G10 H10 g10 hv => kQ _ _ e1 a G10 H10 v (((c7.trans c8).trans c9).trans (Ch.of g10)) rfl (hW.step g10) hv
    refine q_if (b := paid && !decide ((p0 b).1 = b.keeper)) (et_and (et_B (ev_var rfl (.bl paid))) (fun _ => et_not (et_B (ev_var rfl (.bl _))))) hW.sb (fun hc G7 H7 g7 => ?_) (fun hc G7 H7 g7 => ?_)
    · have hc2 : paid = true ∧ (p0 b).1 ≠ b.keeper := by simpa using hc
      have ep : payP s b paid = payR s.m (p0 b).1 b.keeper b.amount := if_pos hc2
      have hW := hW.step g7
      have hB := hB.step g7
      refine s_mpay hW hO.m (hW.e_pu U (evv_var rfl)) (ea_cons (ev_var rfl (.str _)) (ea_cons (hB.e_keeper U (evv_var rfl)) (ea_cons (hB.e_amount U (evv_var rfl)) ea_nil))) (fun k hk G8 H8 g8 => kE k (by rw [e1, seqE_err (by rw [ep]; exact hk)]) G8 H8 ((g6.trans g7).trans g8)) fun m' hm G8 H8 c8 hW => ?_
      exact fin m' (by rw [ep]; exact hm) G8 H8 ((Ch.of (g6.trans g7)).trans c8) hW
    · have hc2 : ¬ (paid = true ∧ (p0 b).1 ≠ b.keeper) := fun ⟨k1, k2⟩ => by rw [k1, decide_eq_false k2] at hc; cases hc
      exact nxI (fin s.m (if_neg hc2) G7 H7 (Ch.of (g6.trans g7)) (hW.step g7))
  by_cases hc : (p0 b).2 = true ∧ (p0 b).1 ≠ b.keeper
  · by_cases hg : (get s.m (p0 b).1).isSome = true
    · have hp : canPR s b = .ok (canB s (p0 b).1 b.amount) := (if_pos hc).trans (if_pos hg)
      have hk : canR s ((p0 b).1, b.amount) = .ok (.bool (canB s (p0 b).1 b.amount)) := if_pos hg
      refine q_asg (ev_is (ev_andV (b := (p0 b).2) (c := decide ((p0 b).1 = b.keeper) || canB s (p0 b).1 b.amount) (ev_var rfl (.bl _)) (fun _ => ev_orV (ev_var rfl (.bl _)) (fun _ => (x_meth (f := canR) (args := aSI) ((p0 b).1, b.amount) (evv_var rfl) hW hO (ea_cons (ev_var rfl (.str _)) (ea_cons (hB.e_amount U (evv_var rfl)) ea_nil))).ok hk)))
        (d1 := .bool (canB s (p0 b).1 b.amount)) (by rw [hc.1, decide_eq_false hc.2]; rfl)) hW.sb fun v G6 H6 g6 hv => ?_
      obtain rfl := hv.bl_eq
      exact go _ hp G6 H6 (g15.trans g6) (hW.step g6) (hB.step g6)
    · have hp : canPR s b = .error .NoHouse := (if_pos hc).trans (if_neg hg)
      have hk : canR s ((p0 b).1, b.amount) = .error .NoHouse := if_neg hg
      rw [hp] at e0
      refine seqI ⟨_, rfl, true, congrArg V.bl hc.1, iteT ⟨_, rfl, false, congrArg V.bl (decide_eq_false hc.2), iteF ?_⟩⟩
      exact (x_meth (f := canR) (args := aSI) ((p0 b).1, b.amount) (evv_var rfl) hW hO (ea_cons (ev_var rfl (.str _)) (ea_cons (hB.e_amount U (evv_var rfl)) ea_nil))).err hW.sb hk (fun G6 H6 g6 => kE _ e0 G6 H6 (g15.trans g6)) _
  · have hp : canPR s b = .ok (p0 b).2 := if_neg hc
    cases hq2 : (p0 b).2 with
    | false =>
      rw [hq2] at hp
      have hx5 : ∀ G', Dx G' (.bl (p0 b).2) (.bool false) := fun G' => by rw [hq2]; exact .bl _
      refine q_asg (ev_andV (b := false) (c := false) (ev_var rfl (hx5 _)) (fun h => by cases h)) hW.sb fun v G6 H6 g6 hv => ?_
      obtain rfl := hv.bl_eq
      have := go false hp G6 H6 (g15.trans g6) (hW.step g6) (hB.step g6)
      rw [hq2] at this
      exact this
    | true =>
      rw [hq2] at hp
      have he : (p0 b).1 = b.keeper := Classical.byContradiction fun h => hc ⟨hq2, h⟩
      have hx5 : ∀ G', Dx G' (.bl (p0 b).2) (.bool true) := fun G' => by rw [hq2]; exact .bl _
      refine q_asg (ev_is (ev_andV (b := true) (c := decide ((p0 b).1 = b.keeper) || true) (ev_var rfl (hx5 _)) (fun _ => ev_orV (ev_var rfl (.bl _)) (fun h => by rw [decide_eq_true he] at h; cases h))) (d1 := .bool true) (by rw [Bool.or_true]; rfl)) hW.sb fun v G6 H6 g6 hv => ?_
      obtain rfl := hv.bl_eq
      have := go true hp G6 H6 (g15.trans g6) (hW.step g6) (hB.step g6)
      rw [hq2] at this
      exact this
def protestD (s : Hl) (x : Int × Int) : DR := seqE (copyR s x) fun i => seqE (returnedR s x.1) fun _ => if (bilOf s i).phase = "protested" then .error .Protested else if (bilOf s i).due + 3 < s.day then .error .TooLate else
  .ok (tell (s.setB i { bilOf s i with phase := "protested" }) (.tuple [.str "protest", .int x.1, .int x.2]), .none)
theorem ok_Hprotest {B : Bd} (T : Txt K mg A) (U : Ux K mg B) : FnOk P w K mg base (L2.CX P w) 4 B.a_Hprotest B.d_Hprotest ["self", "bill", "copy"] (spD B protestD aII tt) := by
  have G_Hfindcopy := ok_Hfindcopy (P := P) (w := w) (base := base) T U
  have G_check_returned := ok_check_returned (P := P) (w := w) (base := base) T U
  refine U.F_Hprotest.okX sc_Hprotest (fun vs H Q E h => lenD (n := 2) (fun _ => rfl) h) (fun cdv A' outer st H vs Q E hr h => ?_)
  obtain ⟨G, a, s, ⟨n, c⟩, us, rfl, hx, hW, hO, _, kE, kQ⟩ := h
  obtain ⟨v1, v2, rfl, x1, x2⟩ := dxs2 hx
  obtain rfl := x1.int_eq
  obtain rfl := x2.int_eq
  refine ⟨_, (pss_cons (ps_set (i := 3) sc_Hprotest.nd rfl (Or.inl rfl) (pe_meth (pv 0) U.cl_Hall U.m_Hfindcopy G_Hfindcopy (hr.mono (by omega)) U.b_Hfindcopy .nil (passes_call (takes_of rfl rfl rfl rfl) fun _ _ _ _ z => z) (by exact (pa_cons (pv 1) (pa_cons (pv 2) pa_nil)))))
      (pss_cons (ps_expr (pe_call G_check_returned (hr.mono (by omega)) (by rfl) T.m_check_returned T.F_check_returned.kp T.b_check_returned .nil (passes_call (takes_of rfl rfl rfl rfl) fun _ _ _ _ z => z) (pa_cons (pv 0) (pa_cons (pv 1) pa_nil))))
      (pss_cons (ps_if (pt_cmpR op_eq (pe_fld (pv 3) rfl) (pe_glob (v := .str "protested") (by rfl) T.g_PROTESTED ⟨_, rfl⟩) (nomark _))
      (pss_one (ps_raise rfl (takes_of rfl rfl rfl rfl) (pmk_own PySem.F.excBase_ValueError U.x_Protested.x U.x_Protested.g U.x_Protested.k (raises_own U.x_Protested.b U.x_Protested.t) (by exact rfl))))
      pss_nil)
      (pss_cons (ps_if (pt_cmpR op_gt (pe_fld (pv 0) rfl) (pe_op op_add (pe_fld (pv 3) rfl) (pe_glob (v := .int 3) (by rfl) T.g_PROTEST_DAYS ⟨_, rfl⟩)) (nomark _))
      (pss_one (ps_raise rfl (takes_of rfl rfl rfl rfl) (pmk_own PySem.F.excBase_ValueError U.x_TooLate.x U.x_TooLate.g U.x_TooLate.k (raises_own U.x_TooLate.b U.x_TooLate.t) (by exact rfl))))
      pss_nil)
      (pss_cons (ps_fld (pv 3) (pe_glob (v := .str "protested") (by rfl) T.g_PROTESTED ⟨_, rfl⟩) rfl)
      (pss_one (ps_expr (pe_bm PySem.F.plainAttrs_list PySem.F.slot_list_append PySem.F.type_list_append mt_append (pe_fld (pv 0) rfl) (pa_cons (pe_tup (pa_cons pe_str (pa_cons (pv 1) (pa_cons (pv 2) pa_nil)))) pa_nil))))))))), ?_⟩
  refine q_find (f := copyR) (args := aII) (n, c) (evv_var rfl) hW hO (ea_cons (ev_var rfl (.int n)) (ea_cons (ev_var rfl (.int c)) ea_nil)) (fun i => copyR_lt) (fun k hk G1 H1 g1 => kE k (seqE_err hk) G1 H1 g1) fun i p q b h1 G1 H1 g1 hB => ?_
  have hW := hW.step g1
  have hb := bilOf_eq hB.hb
  refine q_dropX (x_call (f := returnedR) (args := aI) n (evv_var rfl) hW hO (ea_cons (ev_var rfl (.int n)) ea_nil)) hW.sb (fun k hk G2 H2 g2 => kE k (by unfold protestD; rw [seqE_ok h1, seqE_err hk]) G2 H2 (g1.trans g2)) fun d2 hr2 G2 H2 g2 => ?_
  have hW := hW.step g2
  have hB := hB.step g2
  have e0 : protestD s (n, c) = if b.phase = "protested" then .error .Protested else if b.due + 3 < s.day then .error .TooLate else .ok (tell (s.setB i { b with phase := "protested" }) (.tuple [.str "protest", .int n, .int c]), .none) := by unfold protestD; rw [seqE_ok h1, seqE_ok hr2, hb]
  refine q_when (b := decide (b.phase = "protested")) (et_test (ev_op (hB.e_phase U (evv_var rfl)) ev_str rd_eqS)) hW.sb (fun hb' G3 H3 g3 => ?_) (fun hb' G3 H3 g3 => ?_)
  · exact kE .Protested (by rw [e0, if_pos (of_decide_eq_true hb')]) G3 H3 ((g1.trans g2).trans g3)
  rw [if_neg (of_decide_eq_false hb')] at e0
  have hW := hW.step g3
  have hB := hB.step g3
  refine q_when (b := decide (b.due + 3 < s.day)) (et_test (ev_op (hW.e_day U (evv_var rfl)) (ev_op (hB.e_due U (evv_var rfl)) ev_int rd_add) rd_gt)) hW.sb (fun hb' G4 H4 g4 => ?_) (fun hb' G4 H4 g4 => ?_)
  · exact kE .TooLate (by rw [e0, if_pos (of_decide_eq_true hb')]) G4 H4 (((g1.trans g2).trans g3).trans g4)
  rw [if_neg (of_decide_eq_false hb')] at e0
  have hW := hW.step g4
  have hB := hB.step g4
  refine q_phase (z := "protested") hW hB U (evv_var rfl) ev_str fun G5 H5 c5 hW hB => ?_
  exact s_story hW hO.d U (evv_var rfl) (ev_tup (ea_cons ev_str (ea_cons (ev_var rfl (.int n)) (ea_cons (ev_var rfl (.int c)) ea_nil))) (by show 3 ≤ 100000; decide)) fun G9 H9 c9 hW => kQ _ _ e0 a G9 H9 .non (((Ch.of (((g1.trans g2).trans g3).trans g4)).trans c5).trans c9) rfl hW .non

end
end

-- hd5.txt
section

local macro_rules | `(tactic| walk_at "arith") => `(tactic| first | omega | decide | (unfold CMul; omega) | (unfold CDiv; omega) | (unfold CPow; decide) | (refine ⟨?_, ?_⟩ <;> omega) | (simp; done) | (simp; omega))
local macro_rules | `(tactic| walk_at "wide") => `(tactic| exact ⟨by decide, by decide +kernel⟩)
section
variable {P : Program} {w : World} {K : PySem.W.Frag} {mg : Str → Option Value} {base : Heap} {A : Ad}
theorem pe_fldK {X : Cx} {K : PySem.W.Frag} {e : Expr} {ta : TE} {f : Str} {pos : Pos} (he : PE X e ta) (hb : attributeBase e f X.env (eval e X.env) = eval e X.env) (h : X.K = K := by rfl) : PE X (.Attribute e f pos) (tFld K ta f) := by
  subst h
  exact pe_fld he hb
/-! ### asking and honouring -/
def openI (b : Bil) : List Int := if b.phase = "paid" ∨ b.phase = "running" then [] else ((List.range (reachM b.places b.keeper)).filter (askF b.places (decide (b.phase = "protested")))).map fun (i : Nat) => (i : Int)
theorem openL_eq (b : Bil) : openL b = (openI b).map .int := by
  unfold openL openI
  split
  · rfl
  · rw [List.map_map]; rfl
theorem openI_lt {b : Bil} {n : Int} (h : n ∈ openI b) : 0 ≤ n ∧ n.toNat < b.places.length := by
  unfold openI at h
  split at h
  · cases h
  · obtain ⟨i, hi, rfl⟩ := List.mem_map.mp h
    have h1 := List.mem_range.mp (List.mem_filter.mp hi).1
    have h2 := reachM_le b.places b.keeper
    exact ⟨Int.natCast_nonneg i, by show i < _; omega⟩
theorem openI_len (b : Bil) : (openI b).length ≤ b.places.length := by
  unfold openI
  split
  · exact Nat.zero_le _
  · rw [List.length_map]
    have h1 := List.length_filter_le (askF b.places (decide (b.phase = "protested"))) (List.range (reachM b.places b.keeper))
    rw [List.length_range] at h1
    have h2 := reachM_le b.places b.keeper
    omega
def nameAt (b : Bil) (n : Int) : Str := (b.places.getD n.toNat ("", false)).1
abbrev aIII : Int × Int × Int → List PyData := fun x => [.int x.1, .int x.2.1, .int x.2.2]
def askBil (b : Bil) (n : Int) : Bil := if n = 0 then { b with keeper := nameAt b n, phase := "paid" } else { b with keeper := nameAt b n, places := retM b.places n.toNat, blank := false }
def askD (s : Hl) (x : Int × Int × Int) : DR := seqE (copyR s (x.1, x.2.1)) fun i => seqE (returnedR s x.1) fun _ => if x.2.2 ∈ openI (bilOf s i) then seqE (payerR s (nameAt (bilOf s i) x.2.2, (bilOf s i).amount)) fun _ =>
  seqE (payR s.m (nameAt (bilOf s i) x.2.2) (bilOf s i).keeper (bilOf s i).amount) fun m => .ok (tell (({ s with m := m } : Hl).setB i (askBil (bilOf s i) x.2.2)) (.tuple (.str "ask" :: aIII x)), .str (nameAt (bilOf s i) x.2.2)) else .error .NotBound
theorem copyR_find {s : Hl} {x : Int × Int} {i : Nat} (h : copyR s x = .ok i) : findR s x.1 = .ok i := by
  unfold copyR at h
  split at h
  · cases h
  · rename_i j hj
    split at h
    · cases h; exact hj
    · cases h
theorem ok_Hask {B : Bd} (T : Txt K mg A) (U : Ux K mg B) : FnOk P w K mg base (L2.CX P w) 6 B.a_Hask B.d_Hask ["self", "bill", "copy", "place"] (spD B askD aIII tt) := by
  have G_Hfindcopy := ok_Hfindcopy (P := P) (w := w) (base := base) T U
  have G_check_returned := ok_check_returned (P := P) (w := w) (base := base) T U
  have G_open_places := ok_open_places (P := P) (w := w) (base := base) T U
  have G_Hcheckpayer := ok_Hcheckpayer (P := P) (w := w) (base := base) T U
  have G_Mpay := ok_Mpay (P := P) (w := w) (base := base) T U
  have G_returned := ok_returned (P := P) (w := w) (base := base) T
  refine U.F_Hask.okX sc_Hask (fun vs H Q E h => lenD (n := 3) (fun _ => rfl) h) (fun cdv A' outer st H vs Q E hr h => ?_)
  obtain ⟨G, a, s, ⟨n, c, pl⟩, us, rfl, hx, hW, hO, _, kE, kQ⟩ := h
  obtain ⟨v1, v2, v3, rfl, x1, x2, x3⟩ := dxs3 hx
  obtain rfl := x1.int_eq
  obtain rfl := x2.int_eq
  obtain rfl := x3.int_eq
  refine ⟨_, (pss_cons (ps_set (i := 4) sc_Hask.nd rfl (Or.inl rfl) (pe_meth (pv 0) U.cl_Hall U.m_Hfindcopy G_Hfindcopy (hr.mono (by omega)) U.b_Hfindcopy .nil (passes_call (takes_of rfl rfl rfl rfl) fun _ _ _ _ z => z) (by exact (pa_cons (pv 1) (pa_cons (pv 2) pa_nil)))))
      (pss_cons (ps_expr (pe_call G_check_returned (hr.mono (by omega)) (by rfl) T.m_check_returned T.F_check_returned.kp T.b_check_returned .nil (passes_call (takes_of rfl rfl rfl rfl) fun _ _ _ _ z => z) (pa_cons (pv 0) (pa_cons (pv 1) pa_nil))))
      (pss_cons (ps_if (pt_cmpR (op_ninK (K := K)) (pv 3) (pe_call G_open_places (hr.mono (by omega)) (by rfl) T.m_open_places T.F_open_places.kp T.b_open_places .nil (passes_call (takes_of rfl rfl rfl rfl) fun _ _ _ _ z => z) (pa_cons (pv 0) (pa_cons (pv 1) pa_nil))) rfl)
      (pss_one (ps_raise rfl (takes_of rfl rfl rfl rfl) (pmk_own PySem.F.excBase_ValueError U.x_NotBound.x U.x_NotBound.g U.x_NotBound.k (raises_own U.x_NotBound.b U.x_NotBound.t) (by exact rfl))))
      pss_nil)
      (pss_cons (ps_set (i := 5) sc_Hask.nd rfl (Or.inl rfl) (pe_ix (ix_tupK (K := K)) (pe_ix (ix_listK (K := K)) (pe_fld (pv 4) rfl) (pv 3) (fun _ _ => rfl)) pe_int (fun _ _ => rfl)))
      (pss_cons (ps_expr (pe_meth (pv 0) U.cl_Hall U.m_Hcheckpayer G_Hcheckpayer (hr.mono (by omega)) U.b_Hcheckpayer .nil (passes_call (takes_of rfl rfl rfl rfl) fun _ _ _ _ z => z) (by exact (pa_cons (pv 5) (pa_cons (pe_fld (pv 4) rfl) pa_nil)))))
      (pss_cons (ps_expr (pe_meth (pe_fld (pv 0) rfl) U.cl_Purses U.m_Mpay G_Mpay (hr.mono (by omega)) U.b_Mpay .nil (passes_call (takes_of rfl rfl rfl rfl) fun _ _ _ _ z => z) (by exact (pa_cons (pv 5) (pa_cons (pe_fld (pv 4) rfl) (pa_cons (pe_fld (pv 4) rfl) pa_nil))))))
      (pss_cons (ps_fld (pv 4) (pv 5) rfl)
      (pss_cons (ps_if (pt_cmpR op_eq (pv 3) pe_int (nomark _))
      (pss_one (ps_fld (pv 4) (pe_glob (v := .str "paid") (by rfl) T.g_PAID ⟨_, rfl⟩) rfl))
      (pss_cons (ps_fld (pv 4) (pe_call G_returned (hr.mono (by omega)) (by rfl) T.m_returned T.F_returned.kp T.b_returned .nil pass0 (pa_cons (pe_fld (pv 4) rfl) (pa_cons (pv 3) pa_nil))) rfl)
      (pss_one (ps_fld (pv 4) pe_bl rfl))))
      (pss_cons (ps_expr (pe_bm PySem.F.plainAttrs_list PySem.F.slot_list_append PySem.F.type_list_append mt_append (pe_fld (pv 0) rfl) (pa_cons (pe_tup (pa_cons pe_str (pa_cons (pv 1) (pa_cons (pv 2) (pa_cons (pv 3) pa_nil))))) pa_nil)))
      (pss_one (ps_ret (pv 5)))))))))))), ?_⟩
  refine q_find (f := copyR) (args := aII) (n, c) (evv_var rfl) hW hO (ea_cons (ev_var rfl (.int n)) (ea_cons (ev_var rfl (.int c)) ea_nil)) (fun i => copyR_lt) (fun k hk G1 H1 g1 => kE k (seqE_err hk) G1 H1 g1) fun i p q b h1 G1 H1 g1 hB => ?_
  have hW := hW.step g1
  have hb := bilOf_eq hB.hb
  have h2 := hB.two hO
  have hf : findR s n = .ok i := copyR_find h1
  refine q_dropX (x_call (f := returnedR) (args := aI) n (evv_var rfl) hW hO (ea_cons (ev_var rfl (.int n)) ea_nil)) hW.sb (fun k hk G2 H2 g2 => kE k (by unfold askD; rw [seqE_ok h1, seqE_err hk]) G2 H2 (g1.trans g2)) fun d2 hr2 G2 H2 g2 => ?_
  have hW := hW.step g2
  have hB := hB.step g2
  have e0 : askD s (n, c, pl) = if pl ∈ openI b then seqE (payerR s (nameAt b pl, b.amount)) fun _ => seqE (payR s.m (nameAt b pl) b.keeper b.amount) fun m => .ok (tell (({ s with m := m } : Hl).setB i (askBil b pl)) (.tuple [.str "ask", .int n, .int c, .int pl]), .str (nameAt b pl)) else .error .NotBound := by unfold askD; rw [seqE_ok h1, seqE_ok hr2, hb]
  have ho : openR s n = .ok ((openI b).map .int) := by unfold openR; rw [hf]; show Except.ok (openL (bilOf s i)) = _; rw [hb, openL_eq]
  refine q_when (b := !decide (pl ∈ openI b)) (et_test (ev_inI (neg := true) (ev_var rfl (.int pl)) ((xm_call (f := openR) (args := aI) n (evv_var rfl) hW hO (ea_cons (ev_var rfl (.int n)) ea_nil)).ok ho).dat)) hW.sb (fun hb' G3 H3 g3 => ?_) (fun hb' G3 H3 g3 => ?_)
  · exact kE .NotBound (by rw [e0, if_neg (by simpa using hb')]) G3 H3 ((g1.trans g2).trans g3)
  have hin : pl ∈ openI b := by simpa using hb'
  rw [if_pos hin] at e0
  have hlt := openI_lt hin
  have hW := hW.step g3
  have hB := hB.step g3
  refine q_asg (ev_fst (hB.e_at U (evv_var rfl) (ev_var rfl (.int pl)) (j := pl.toNat) (by omega) hlt.2)) hW.sb fun v G4 H4 g4 hv => ?_
  obtain rfl := hv.str_eq
  have hW := hW.step g4
  have hB := hB.step g4
  have g14 := ((g1.trans g2).trans g3).trans g4
  refine q_dropX (x_meth (f := payerR) (args := aSI) (nameAt b pl, b.amount) (evv_var rfl) hW hO (ea_cons (ev_var rfl (.str _)) (ea_cons (hB.e_amount U (evv_var rfl)) ea_nil))) hW.sb (fun k hk G5 H5 g5 => kE k (by rw [e0, seqE_err hk]) G5 H5 (g14.trans g5)) fun d5 h5 G5 H5 g5 => ?_
  rw [seqE_ok h5] at e0
  have hW := hW.step g5
  have hB := hB.step g5
  refine q_mpay (n := nameAt b pl) (n2 := b.keeper) (c := b.amount) hW hO.m (hW.e_pu U (evv_var rfl)) (ea_cons (ev_var rfl (.str _)) (ea_cons (hB.e_keeper U (evv_var rfl)) (ea_cons (hB.e_amount U (evv_var rfl)) ea_nil))) (fun k hk G6 H6 g6 => kE k (by rw [e0, seqE_err hk]) G6 H6 ((g14.trans g5).trans g6)) fun m' h6 G6 H6 c6 hW => ?_
  rw [seqE_ok h6] at e0
  have hB : BilAt B G6 H6 a { s with m := m' } i p q b := BilAt.set hW hB.hb hB.ap hB.aq
  refine q_keeper (z := nameAt b pl) hW hB U (evv_var rfl) (ev_var rfl (.str _)) fun G7 H7 c7 hW hB => ?_
  have c17 := ((Ch.of (g14.trans g5)).trans c6).trans c7
  have fin : ∀ a' G8 H8, Ch a G H a' G8 H8 → a'.h = a.h → W B G8 H8 a' (({ s with m := m' } : Hl).setB i (askBil b pl)) →
      tSeq (tDrop (tBM K "list" rAppend (tFld K (tVar 0) "deeds") (tCons (tTup (tCons (tC (.str "ask")) (tCons (tVar 1) (tCons (tVar 2) (tCons (tVar 3) tNil))))) tNil))) (fun D => tRet (tVar 5) D)
        { nx := fun _ H' => Q .non H', rt := Q } [some (.ref a.h), some (.int n), some (.int c), some (.int pl), some (.ref p), some (.str (nameAt b pl))] H8 := fun a' G8 H8 c8 ea hW => by
    refine q_story hW hO.d U (by rw [ea]; exact evv_var rfl) (ev_tup (ea_cons ev_str (ea_cons (ev_var rfl (.int n)) (ea_cons (ev_var rfl (.int c)) (ea_cons (ev_var rfl (.int pl)) ea_nil)))) (by show 4 ≤ 100000; decide)) fun G9 H9 c9 hW => ?_
    exact s_ret (ev_var rfl (.str _)) hW.sb fun v G10 H10 g10 hv => kQ _ _ e0 a' G10 H10 v ((c8.trans c9).trans (Ch.of g10)) ea (hW.step g10) hv
  refine q_if (b := decide (pl = 0)) (et_test (ev_op (ev_var rfl (.int pl)) ev_int rd_eqI)) hW.sb (fun hz G8 H8 g8 => ?_) (fun hz G8 H8 g8 => ?_)
  · have hz := of_decide_eq_true hz
    have hW := hW.step g8
    have hB := hB.step g8
    refine s_phase (z := "paid") hW hB U (evv_var rfl) ev_str fun G9 H9 c9 hW hB => ?_
    refine fin a G9 H9 ((c17.trans (Ch.of g8)).trans c9) rfl (hW.ofs ?_)
    rw [setB_setB]
    unfold askBil
    rw [if_pos hz]
  · have hz := of_decide_eq_false hz
    have hW := hW.step g8
    have hB := hB.step g8
    refine q_places hW hB U (evv_var rfl) (hB.e_rowfn (f := fun x => retM x.1 x.2) (pre := fun x => x.1.length ≤ 1000) hW U (evv_var rfl) (ev_var rfl (.int pl)) hlt.1 (by show b.places.length ≤ 1000; omega)) fun q' a' G9 H9 c9 eba ea hW hB => ?_
    refine s_blank (z := false) hW hB U (evv_var rfl) ev_bl fun G10 H10 c10 hW hB => ?_
    refine fin a' G10 H10 (((c17.trans (Ch.of g8)).trans c9).trans c10) ea (hW.ofs ?_)
    rw [setB_setB, setB_setB]
    unfold askBil
    rw [if_neg hz]
abbrev aHon : Int × Int × Str × Int → List PyData := fun x => [.int x.1, .int x.2.1, .str x.2.2.1, .int x.2.2.2]
def honBil (b : Bil) (z : Str) (n : Int) : Bil := { b with keeper := z, places := honM b.places n.toNat, blank := false }
def honourD (s : Hl) (x : Int × Int × Str × Int) : DR := seqE (copyR s (x.1, x.2.1)) fun i => seqE (houseR s x.2.2.1) fun _ => seqE (returnedR s x.1) fun _ => if (bilOf s i).phase = "unpaid" then .error .NotProtested else
  if x.2.2.2 ∈ openI (bilOf s i) then (if x.2.2.1 = (bilOf s i).keeper then .error .Same else if x.2.2.1 ∈ (openI (bilOf s i)).map (nameAt (bilOf s i)) then .error .IsBound else
    seqE (payerR s (x.2.2.1, (bilOf s i).amount)) fun _ => seqE (payR s.m x.2.2.1 (bilOf s i).keeper (bilOf s i).amount) fun m =>
      .ok (tell (({ s with m := m } : Hl).setB i (honBil (bilOf s i) x.2.2.1 x.2.2.2)) (.tuple (.str "honour" :: aHon x)), .none)) else .error .NotBound
theorem ok_Hhonour {B : Bd} (T : Txt K mg A) (U : Ux K mg B) : FnOk P w K mg base (L2.CX P w) 6 B.a_Hhonour B.d_Hhonour ["self", "bill", "copy", "name", "place"] (spD B honourD aHon tt) := by
  have G_Hfindcopy := ok_Hfindcopy (P := P) (w := w) (base := base) T U
  have G_Hcheckhouse := ok_Hcheckhouse (P := P) (w := w) (base := base) T U
  have G_check_returned := ok_check_returned (P := P) (w := w) (base := base) T U
  have G_open_places := ok_open_places (P := P) (w := w) (base := base) T U
  have G_Hcheckpayer := ok_Hcheckpayer (P := P) (w := w) (base := base) T U
  have G_Mpay := ok_Mpay (P := P) (w := w) (base := base) T U
  have G_honoured := ok_honoured (P := P) (w := w) (base := base) T
  refine U.F_Hhonour.okX sc_Hhonour (fun vs H Q E h => lenD (n := 4) (fun _ => rfl) h) (fun cdv A' outer st H vs Q E hr h => ?_)
  obtain ⟨G, a, s, ⟨n, c, z, pl⟩, us, rfl, hx, hW, hO, _, kE, kQ⟩ := h
  obtain ⟨v1, v2, v3, v4, rfl, x1, x2, x3, x4⟩ := dxs4 hx
  obtain rfl := x1.int_eq
  obtain rfl := x2.int_eq
  obtain rfl := x3.str_eq
  obtain rfl := x4.int_eq
  refine ⟨_, (pss_cons (ps_set (i := 5) sc_Hhonour.nd rfl (Or.inr rfl) (pe_meth (pv 0) U.cl_Hall U.m_Hfindcopy G_Hfindcopy (hr.mono (by omega)) U.b_Hfindcopy .nil (passes_call (takes_of rfl rfl rfl rfl) fun _ _ _ _ z => z) (by exact (pa_cons (pv 1) (pa_cons (pv 2) pa_nil)))))
      (pss_cons (ps_expr (pe_meth (pv 0) U.cl_Hall U.m_Hcheckhouse G_Hcheckhouse (hr.mono (by omega)) U.b_Hcheckhouse .nil (passes_call (takes_of rfl rfl rfl rfl) fun _ _ _ _ z => z) (by exact (pa_cons (pv 3) pa_nil))))
      (pss_cons (ps_expr (pe_call G_check_returned (hr.mono (by omega)) (by rfl) T.m_check_returned T.F_check_returned.kp T.b_check_returned .nil (passes_call (takes_of rfl rfl rfl rfl) fun _ _ _ _ z => z) (pa_cons (pv 0) (pa_cons (pv 1) pa_nil))))
      (pss_cons (ps_if (pt_cmpR op_eq (pe_fld (pv 5) rfl) (pe_glob (v := .str "unpaid") (by rfl) T.g_UNPAID ⟨_, rfl⟩) (nomark _))
      (pss_one (ps_raise rfl (takes_of rfl rfl rfl rfl) (pmk_own PySem.F.excBase_ValueError U.x_NotProtested.x U.x_NotProtested.g U.x_NotProtested.k (raises_own U.x_NotProtested.b U.x_NotProtested.t) (by exact rfl))))
      pss_nil)
      (pss_cons (ps_set (i := 6) sc_Hhonour.nd rfl (Or.inl rfl) (pe_call G_open_places (hr.mono (by omega)) (by rfl) T.m_open_places T.F_open_places.kp T.b_open_places .nil (passes_call (takes_of rfl rfl rfl rfl) fun _ _ _ _ z => z) (pa_cons (pv 0) (pa_cons (pv 1) pa_nil))))
      (pss_cons (ps_if (pt_cmpR (op_ninK (K := K)) (pv 4) (pv 6) rfl)
      (pss_one (ps_raise rfl (takes_of rfl rfl rfl rfl) (pmk_own PySem.F.excBase_ValueError U.x_NotBound.x U.x_NotBound.g U.x_NotBound.k (raises_own U.x_NotBound.b U.x_NotBound.t) (by exact rfl))))
      pss_nil)
      (pss_cons (ps_if (pt_cmpR op_eq (pv 3) (pe_fld (pv 5) rfl) (nomark _))
      (pss_one (ps_raise rfl (takes_of rfl rfl rfl rfl) (pmk_ownA PySem.F.excBase_ValueError U.x_Same.x U.x_Same.g U.x_Same.k (raises_own U.x_Same.b U.x_Same.t) (by exact rfl) (pa_cons (pv 3) pa_nil))))
      pss_nil)
      (pss_cons (ps_if (pt_cmpR (op_inK (K := K)) (pv 3) (by exact (pe_lc (own := [("at", 7)]) (g := gName 7) rfl sc_Hhonour.nd (pi_list (pv 6)) (blkOk_by (own := [("at", 7)]) (N := N_Hhonour) (sc := defScope s_Hhonour) (by decide +kernel)) (fun _ _ _ _ _ => (pg_name (i := 7) sc_Hhonour.nd rfl (Or.inl rfl))) (fun _ _ _ _ _ => pts_nil) (fun _ _ _ _ _ => by exact (pe_ix (ix_tupK (K := K)) (pe_ix (ix_listK (K := K)) (pe_fldK (K := K) (pv 5) (by exact rfl)) (pv 7) (fun _ _ => rfl)) pe_int (fun _ _ => rfl))))) rfl)
      (pss_one (ps_raise rfl (takes_of rfl rfl rfl rfl) (pmk_ownA PySem.F.excBase_ValueError U.x_IsBound.x U.x_IsBound.g U.x_IsBound.k (raises_own U.x_IsBound.b U.x_IsBound.t) (by exact rfl) (pa_cons (pv 3) pa_nil))))
      pss_nil)
      (pss_cons (ps_expr (pe_meth (pv 0) U.cl_Hall U.m_Hcheckpayer G_Hcheckpayer (hr.mono (by omega)) U.b_Hcheckpayer .nil (passes_call (takes_of rfl rfl rfl rfl) fun _ _ _ _ z => z) (by exact (pa_cons (pv 3) (pa_cons (pe_fld (pv 5) rfl) pa_nil)))))
      (pss_cons (ps_expr (pe_meth (pe_fld (pv 0) rfl) U.cl_Purses U.m_Mpay G_Mpay (hr.mono (by omega)) U.b_Mpay .nil (passes_call (takes_of rfl rfl rfl rfl) fun _ _ _ _ z => z) (by exact (pa_cons (pv 3) (pa_cons (pe_fld (pv 5) rfl) (pa_cons (pe_fld (pv 5) rfl) pa_nil))))))
      (pss_cons (ps_fld (pv 5) (pv 3) rfl)
      (pss_cons (ps_fld (pv 5) (pe_call G_honoured (hr.mono (by omega)) (by rfl) T.m_honoured T.F_honoured.kp T.b_honoured .nil pass0 (pa_cons (pe_fld (pv 5) rfl) (pa_cons (pv 4) pa_nil))) rfl)
      (pss_cons (ps_fld (pv 5) pe_bl rfl)
      (pss_one (ps_expr (pe_bm PySem.F.plainAttrs_list PySem.F.slot_list_append PySem.F.type_list_append mt_append (pe_fld (pv 0) rfl) (pa_cons (pe_tup (pa_cons pe_str (pa_cons (pv 1) (pa_cons (pv 2) (pa_cons (pv 3) (pa_cons (pv 4) pa_nil)))))) pa_nil))))))))))))))))), ?_⟩
  refine q_find (f := copyR) (args := aII) (n, c) (evv_var rfl) hW hO (ea_cons (ev_var rfl (.int n)) (ea_cons (ev_var rfl (.int c)) ea_nil)) (fun i => copyR_lt) (fun k hk G1 H1 g1 => kE k (seqE_err hk) G1 H1 g1) fun i p q b h1 G1 H1 g1 hB => ?_
  have hW := hW.step g1
  have hb := bilOf_eq hB.hb
  have h2 := hB.two hO
  have hf : findR s n = .ok i := copyR_find h1
  refine q_dropX (x_meth (f := houseR) (args := aS) z (evv_var rfl) hW hO (ea_cons (ev_var rfl (.str _)) ea_nil)) hW.sb (fun k hk G2 H2 g2 => kE k (by unfold honourD; rw [seqE_ok h1, seqE_err hk]) G2 H2 (g1.trans g2)) fun d2 hh2 G2 H2 g2 => ?_
  have hW := hW.step g2
  have hB := hB.step g2
  refine q_dropX (x_call (f := returnedR) (args := aI) n (evv_var rfl) hW hO (ea_cons (ev_var rfl (.int n)) ea_nil)) hW.sb (fun k hk G3 H3 g3 => kE k (by unfold honourD; rw [seqE_ok h1, seqE_ok hh2, seqE_err hk]) G3 H3 ((g1.trans g2).trans g3)) fun d3 hr2 G3 H3 g3 => ?_
  have hW := hW.step g3
  have hB := hB.step g3
  have e0 : honourD s (n, c, z, pl) = if b.phase = "unpaid" then .error .NotProtested else if pl ∈ openI b then (if z = b.keeper then .error .Same else if z ∈ (openI b).map (nameAt b) then .error .IsBound else
    seqE (payerR s (z, b.amount)) fun _ => seqE (payR s.m z b.keeper b.amount) fun m => .ok (tell (({ s with m := m } : Hl).setB i (honBil b z pl)) (.tuple [.str "honour", .int n, .int c, .str z, .int pl]), .none)) else .error .NotBound := by unfold honourD; rw [seqE_ok h1, seqE_ok hh2, seqE_ok hr2, hb]
  refine q_when (b := decide (b.phase = "unpaid")) (et_test (ev_op (hB.e_phase U (evv_var rfl)) ev_str rd_eqS)) hW.sb (fun hb' G4 H4 g4 => ?_) (fun hb' G4 H4 g4 => ?_)
  · exact kE .NotProtested (by rw [e0, if_pos (of_decide_eq_true hb')]) G4 H4 (((g1.trans g2).trans g3).trans g4)
  rw [if_neg (of_decide_eq_false hb')] at e0
  have hW := hW.step g4
  have hB := hB.step g4
  have g14 := ((g1.trans g2).trans g3).trans g4
  have ho : openR s n = .ok ((openI b).map .int) := by unfold openR; rw [hf]; show Except.ok (openL (bilOf s i)) = _; rw [hb, openL_eq]
  refine q_asg ((xm_call (f := openR) (args := aI) n (evv_var rfl) hW hO (ea_cons (ev_var rfl (.int n)) ea_nil)).ok ho).dat hW.sb fun v5 G5 H5 g5 h_places => ?_
  have hW := hW.step g5
  have hB := hB.step g5
  refine q_when (b := !decide (pl ∈ openI b)) (et_test (ev_inI (neg := true) (ev_var rfl (.int pl)) (ev_var rfl h_places))) hW.sb (fun hb' G6 H6 g6 => ?_) (fun hb' G6 H6 g6 => ?_)
  · exact kE .NotBound (by rw [e0, if_neg (by simpa using hb')]) G6 H6 ((g14.trans g5).trans g6)
  have hin : pl ∈ openI b := by simpa using hb'
  rw [if_pos hin] at e0
  have hlt := openI_lt hin
  have hW := hW.step g6
  have hB := hB.step g6
  have h_places := h_places.mono g6.g
  refine q_when (b := decide (z = b.keeper)) (et_test (ev_op (ev_var rfl (.str z)) (hB.e_keeper U (evv_var rfl)) rd_eqS)) hW.sb (fun hb' G7 H7 g7 => ?_) (fun hb' G7 H7 g7 => ?_)
  · exact ⟨_, rfl, one_le, kE .Same (by rw [e0, if_pos (of_decide_eq_true hb')]) G7 H7 (((g14.trans g5).trans g6).trans g7)⟩
  rw [if_neg (of_decide_eq_false hb')] at e0
  have hW := hW.step g7
  have hB := hB.step g7
  have h_places := h_places.mono g7.g
  have g17 := ((g14.trans g5).trans g6).trans g7
  have hlen := openI_len b
  have hlist : given ((openI b).map PyData.int).length (fun _ => true) (fun j => PyData.str (nameAt b ((openI b).getD j 0))) = ((openI b).map (nameAt b)).map PyData.str := by
    rw [List.length_map, given_map, List.map_map]
    refine List.ext_getElem? fun j => ?_
    rw [List.getElem?_map, List.getElem?_map]
    by_cases hj : j < (openI b).length
    · rw [List.getElem?_range hj, List.getElem?_eq_getElem hj]
      show some (PyData.str (nameAt b ((openI b).getD j 0))) = _
      rw [List.getD_eq_getElem?_getD, List.getElem?_eq_getElem hj]; rfl
    · rw [List.getElem?_eq_none (by rw [List.length_range]; omega), List.getElem?_eq_none (by omega)]; rfl
  refine q_when (b := decide (z ∈ (openI b).map (nameAt b))) (et_test (ev_inS (neg := false) (ev_var rfl (.str z)) (ev_is (ev_lcLn (fun _ => true) (fun j => PyData.str (nameAt b ((openI b).getD j 0))) (ev_var rfl h_places) (by rw [List.length_map]; omega) (fun _ => rfl) (fun _ _ _ _ _ _ _ _ => et_yes) (fun j d x G8 H8 g8 hd hx _ => by
      rw [List.getElem?_map] at hd
      cases hj : (openI b)[j]? with
      | none => rw [hj] at hd; cases hd
      | some m =>
        rw [hj] at hd
        cases hd
        have hm := openI_lt (List.mem_of_getElem? hj)
        have e2 : (openI b).getD j 0 = m := by rw [List.getD_eq_getElem?_getD, hj]; rfl
        rw [e2]
        obtain rfl := hx.int_eq
        exact ev_fst ((hB.step g8).e_at U (evv_var rfl) (ev_var rfl (.int m)) (j := m.toNat) (by omega) hm.2))).dat (congrArg PyData.list hlist)))) hW.sb (fun hb' G8 H8 g8 => ?_) (fun hb' G8 H8 g8 => ?_)
  · exact ⟨_, rfl, one_le, kE .IsBound (by rw [e0, if_pos (of_decide_eq_true hb')]) G8 H8 (g17.trans g8)⟩
  rw [if_neg (of_decide_eq_false hb')] at e0
  have hW := hW.step g8
  have hB := hB.step g8
  refine q_dropX (x_meth (f := payerR) (args := aSI) (z, b.amount) (evv_var rfl) hW hO (ea_cons (ev_var rfl (.str _)) (ea_cons (hB.e_amount U (evv_var rfl)) ea_nil))) hW.sb (fun k hk G9 H9 g9 => kE k (by rw [e0, seqE_err hk]) G9 H9 ((g17.trans g8).trans g9)) fun d9 h9 G9 H9 g9 => ?_
  rw [seqE_ok h9] at e0
  have hW := hW.step g9
  have hB := hB.step g9
  refine q_mpay (n := z) (n2 := b.keeper) (c := b.amount) hW hO.m (hW.e_pu U (evv_var rfl)) (ea_cons (ev_var rfl (.str _)) (ea_cons (hB.e_keeper U (evv_var rfl)) (ea_cons (hB.e_amount U (evv_var rfl)) ea_nil))) (fun k hk G10 H10 g10 => kE k (by rw [e0, seqE_err hk]) G10 H10 (((g17.trans g8).trans g9).trans g10)) fun m' h10 G10 H10 c10 hW => ?_
  rw [seqE_ok h10] at e0
  have hB : BilAt B G10 H10 a { s with m := m' } i p q b := BilAt.set hW hB.hb hB.ap hB.aq
  refine q_keeper (z := z) hW hB U (evv_var rfl) (ev_var rfl (.str z)) fun G11 H11 c11 hW hB => ?_
  refine q_places hW hB U (evv_var rfl) (hB.e_rowfn (f := fun x => honM x.1 x.2) (pre := fun x => 2 ≤ x.1.length ∧ x.1.length ≤ 1000) hW U (evv_var rfl) (ev_var rfl (.int pl)) hlt.1 ⟨h2.1, by show b.places.length ≤ 1000; omega⟩) fun q' a' G12 H12 c12 eba ea hW hB => ?_
  refine q_blank (z := false) hW hB U (evv_var rfl) ev_bl fun G13 H13 c13 hW hB => ?_
  have hW := hW.ofs (s' := ({ s with m := m' } : Hl).setB i (honBil b z pl)) (by rw [setB_setB, setB_setB]; rfl)
  exact s_story hW hO.d U (by rw [ea]; exact evv_var rfl) (ev_tup (ea_cons ev_str (ea_cons (ev_var rfl (.int n)) (ea_cons (ev_var rfl (.int c)) (ea_cons (ev_var rfl (.str z)) (ea_cons (ev_var rfl (.int pl)) ea_nil))))) (by show 5 ≤ 100000; decide)) fun G14 H14 c14 hW =>
    kQ _ _ e0 a' G14 H14 .non ((((((Ch.of ((g17.trans g8).trans g9)).trans c10).trans c11).trans c12).trans c13).trans c14) ea hW .non

end
end

-- he1.txt
section

local macro_rules | `(tactic| walk_at "arith") => `(tactic| first | omega | decide | (unfold CMul; omega) | (unfold CDiv; omega) | (unfold CPow; decide) | (refine ⟨?_, ?_⟩ <;> omega) | (simp; done) | (simp; omega))
local macro_rules | `(tactic| walk_at "wide") => `(tactic| exact ⟨by decide, by decide +kernel⟩)
section
variable {P : Program} {w : World} {K : PySem.W.Frag} {mg : Str → Option Value} {base : Heap} {A : Ad}
/-! ### fairs: the names, the bills -/
abbrev aL : List Str → List PyData := fun zs => [.list (zs.map .str)]
theorem nodup_take {zs : List Str} (h : ∀ n z, zs[n]? = some z → z ∉ zs.take n) : zs.Nodup := by
  rw [List.nodup_iff_pairwise_ne, List.pairwise_iff_getElem]
  intro i j hi hj hij e
  refine h j zs[j] (List.getElem?_eq_getElem hj) ?_
  rw [← e]
  refine List.mem_of_getElem? (i := i) ?_
  rw [List.getElem?_take, if_pos hij, List.getElem?_eq_getElem hi]
theorem not_nodup {zs : List Str} {n : Nat} {z : Str} (h : zs[n]? = some z) (hm : z ∈ zs.take n) : ¬ zs.Nodup := fun hd => by
  obtain ⟨i, hi, e⟩ := List.getElem_of_mem hm
  have hi1 : i < n := by rw [List.length_take] at hi; omega
  obtain ⟨hn, e2⟩ := List.getElem?_eq_some_iff.mp h
  rw [List.nodup_iff_pairwise_ne, List.pairwise_iff_getElem] at hd
  refine hd i n (by omega) hn hi1 ?_
  rw [e2, ← e, List.getElem_take]
def allIn (s : Hl) (zs : List Str) : Bool := zs.all fun z => (get s.m z).isSome
def checkN (s : Hl) (zs : List Str) : Except Kd PyData := if allIn s zs = true then (if zs.Nodup then .ok .none else .error .Twice) else .error .NoHouse
theorem checkN_ok {s : Hl} {zs : List Str} {d : PyData} (h : checkN s zs = .ok d) : (∀ z ∈ zs, (get s.m z).isSome = true) ∧ zs.Nodup := by
  unfold checkN at h
  split at h
  · rename_i h1
    split at h
    · rename_i h2
      exact ⟨fun z hz => List.all_eq_true.mp h1 z hz, h2⟩
    · cases h
  · cases h
theorem cutS_strs {zs : List Str} {n : Nat} : cutD (zs.map PyData.str) none (some (n : Int)) = (zs.take n).map PyData.str := by
  unfold cutD
  rw [HT.sIx_none, HT.sIx_nat, List.drop_zero, Nat.sub_zero, List.length_map, ← List.map_take]
  congr 1
  by_cases h : n ≤ zs.length
  · rw [Nat.min_eq_left h]
  · rw [Nat.min_eq_right (by omega), List.take_of_length_le (Nat.le_refl _), List.take_of_length_le (by omega)]
theorem ok_check_names {B : Bd} (T : Txt K mg A) (U : Ux K mg B) : FnOk P w K mg base (L2.CX P w) 3 A.a_check_names A.d_check_names ["hall", "names"] (spQ B checkN aL) := by
  have G_Hnames := ok_Hnames (P := P) (w := w) (base := base) T U
  refine T.F_check_names.okX sc_check_names (fun vs H Q E h => lenQ (n := 1) (fun _ => rfl) h) (fun cdv A' outer st H vs Q E hr h => ?_)
  obtain ⟨G, a, s, zs, us, rfl, hx, hW, hO, kE, kQ⟩ := h
  obtain ⟨v1, rfl, h_names⟩ := dxs1 hx
  refine ⟨_, (pss_cons (ps_set (i := 2) sc_check_names.nd rfl (Or.inl rfl) (pe_meth0 (pv 0) U.cl_Hall U.m_Hnames G_Hnames (hr.mono (by omega)) U.b_Hnames .nil pass0))
      (pss_cons (ps_for (passes_of rfl) rfl (pi_list (pv 1)) (pg_name (i := 3) sc_check_names.nd rfl (Or.inl rfl))
      (pss_one (ps_if (pt_cmpR (op_ninK (K := K)) (pv 3) (pv 2) rfl)
      (pss_one (ps_raise rfl (takes_of rfl rfl rfl rfl) (pmk_ownA PySem.F.excBase_ValueError U.x_NoHouse.x U.x_NoHouse.g U.x_NoHouse.k (raises_own U.x_NoHouse.b U.x_NoHouse.t) (by exact rfl) (pa_cons (pv 3) pa_nil))))
      pss_nil)))
      (pss_one (ps_for (passes_of rfl) rfl (pi_enum (by rfl) T.b.enumerate (pa_cons (pv 1) pa_nil)) (pg_tup (by rfl) (pgs_cons (pg_name (i := 4) sc_check_names.nd rfl (Or.inl rfl)) (pgs_cons (pg_name (i := 3) sc_check_names.nd rfl (Or.inl rfl)) pgs_nil)))
      (pss_one (ps_if (pt_cmpR (op_inK (K := K)) (pv 3) (pe_slice (sl_listK (K := K)) (pv 1) po_none (po_some (pv 4))) rfl)
      (pss_one (ps_raise rfl (takes_of rfl rfl rfl rfl) (pmk_ownA PySem.F.excBase_ValueError U.x_Twice.x U.x_Twice.g U.x_Twice.k (raises_own U.x_Twice.b U.x_Twice.t) (by exact rfl) (pa_cons (pv 3) pa_nil))))
      pss_nil)))))), ?_⟩
  refine q_asg (e_names hW hO (evv_var rfl)).dat hW.sb fun v2 G1 H1 g1 h_houses => ?_
  have h_names := h_names.mono g1.g
  refine q_forL [] (fun n σ' G' H' => (∃ v3, σ' = [some (.ref a.h), some v1, some v2, v3, none]) ∧ ∀ j z, j < n → zs[j]? = some z → (get s.m z).isSome = true) (ev_var rfl h_names) g1.s (fun G2 H2 g2 => ⟨⟨none, rfl⟩, fun j z hj => absurd hj (Nat.not_lt_zero j)⟩) (fun G2 H2 g2 n d v σ' G' H' hd hv gg I => ?_) (fun σ' G' H' gg I => ?_)
  · obtain ⟨⟨v3, rfl⟩, hI⟩ := I
    rw [List.getElem?_map] at hd
    obtain ⟨z, hz, rfl⟩ := Option.map_eq_some_iff.mp hd
    obtain rfl := hv.str_eq
    have h_houses := (h_houses.mono g2.g).mono gg.g
    dsimp only [gName, List.set]
    refine s_if (b := !decide (z ∈ srt (nms s.m))) (et_test (ev_inS (neg := true) (ev_var rfl (.str z)) (ev_var rfl h_houses))) gg.s (fun hb G3 H3 g3 => ?_) (fun hb G3 H3 g3 => ?_)
    · refine ⟨_, rfl, one_le, kE .NoHouse ?_ G3 H3 (((g1.trans g2).trans gg).trans g3)⟩
      have hn : ¬ allIn s zs = true := fun h => by
        have := List.all_eq_true.mp h z (List.mem_of_getElem? hz)
        rw [← mem_nms, ← mem_srt] at this
        rw [decide_eq_true this] at hb; cases hb
      exact if_neg hn
    · refine ⟨G3, gg.trans g3, ⟨_, rfl⟩, fun j y hj hy => ?_⟩
      by_cases e : j = n
      · subst e
        rw [hz] at hy; cases hy
        have hm : z ∈ srt (nms s.m) := by simpa using hb
        exact mem_nms.mp (mem_srt.mp hm)
      · exact hI j y (by omega) hy
  · obtain ⟨⟨v3, rfl⟩, hI⟩ := I
    have hall : allIn s zs = true := List.all_eq_true.mpr fun z hz => by
      obtain ⟨i, hi, e⟩ := List.getElem_of_mem hz
      exact hI i z (by rw [List.length_map]; exact hi) (by rw [List.getElem?_eq_getElem hi, e])
    have h_names := h_names.mono gg.g
    refine s_forE [] (fun n σ' G' H' => (∃ v3 v4, σ' = [some (.ref a.h), some v1, some v2, v3, v4]) ∧ ∀ j z, j < n → zs[j]? = some z → z ∉ zs.take j) (ea_cons (ev_var rfl h_names) ea_nil) gg.s (fun G2 H2 g2 => ⟨⟨_, none, rfl⟩, fun j z hj => absurd hj (Nat.not_lt_zero j)⟩) (fun G2 H2 g2 n d v σ' G' H' G3 H3 hd gg2 I g3 hv => ?_) (fun σ' G' H' gg2 I => ?_)
    · obtain ⟨⟨v3, v4, rfl⟩, hJ⟩ := I
      rw [List.getElem?_map] at hd
      obtain ⟨z, hz, rfl⟩ := Option.map_eq_some_iff.mp hd
      refine g_nn hv g3.s fun u1 u2 y1 y2 => ?_
      obtain rfl := y1.int_eq
      obtain rfl := y2.str_eq
      have gx := (g2.trans gg2).trans g3
      refine s_if (b := decide (z ∈ zs.take n)) (et_test (ev_inS (neg := false) (ev_var rfl (.str z)) (ev_is (ev_sl (ev_var rfl (h_names.mono gx.g)) eo_none (eo_some (ev_var rfl (.int (n : Int))))).dat (congrArg PyData.list cutS_strs)))) g3.s (fun hb G4 H4 g4 => ?_) (fun hb G4 H4 g4 => ?_)
      · refine ⟨_, rfl, one_le, kE .Twice ?_ G4 H4 (((g1.trans gg).trans gx).trans g4)⟩
        unfold checkN
        rw [if_pos hall, if_neg (not_nodup hz (of_decide_eq_true hb))]
      · refine ⟨G4, (gg2.trans g3).trans g4, ⟨_, _, rfl⟩, fun j y hj hy => ?_⟩
        by_cases e : j = n
        · subst e
          rw [hz] at hy; cases hy
          exact of_decide_eq_false hb
        · exact hJ j y (by omega) hy
    · obtain ⟨⟨v3, v4, rfl⟩, hJ⟩ := I
      refine kQ .none ?_ .non G' H' ((g1.trans gg).trans gg2) .non
      unfold checkN
      rw [if_pos hall, if_pos (nodup_take fun n z h => hJ n z (by rw [List.length_map]; exact (List.getElem?_eq_some_iff.mp h).1) h)]
def standsB (s : Hl) (zs : List Str) (b : Bil) : Bool := decide (b.phase = "running") && (p0 b).2 && decide (b.due ≤ s.day) && decide ((p0 b).1 ∈ zs) && decide (b.keeper ∈ zs)
abbrev aLI : List Str × Int → List PyData := fun x => [.list (x.1.map .str), .int x.2]
def standsThereR (s : Hl) (x : List Str × Int) : Except Kd PyData := (findR s x.2).map fun i => .bool (standsB s x.1 (bilOf s i))
section
variable {B : Bd} {G H : Hp} {a : Ha} {s : Hl} {σ : L2.St} {te ta : TE} {E : XK} {n : Int} {i : Nat} {b : Bil} {K : PySem.W.Frag}
/-- hall.row(n)[k] -/
theorem e_rowat {k : Int} {j : Nat} (h0 : EvV te σ G H (.ref a.h)) (w : W B G H a s) (o : Ok s) (hn : EvD ta σ G H (.int n)) (hf : findR s n = .ok i) (hb : bilOf s i = b) (e : k = (j : Int)) (hj : j < b.places.length) :
    EvD (tOp (rIxL K) (tMeth B.C_Hall "row" (spQM B rowR aI) [] E te (tCons ta tNil)) (tC (.int k))) σ G H (encP (b.places.getD j ("", false))) := by
  subst e
  have e1 : rowR s n = .ok (encR b.places) := by unfold rowR; rw [hf, ← hb]; rfl
  exact ev_op ((xm_meth (f := rowR) (args := aI) n h0 w o (ea_cons hn ea_nil)).ok e1).dat ev_int (rd_ixL (atI_row (getR hj)))
theorem e_holder (h0 : EvV te σ G H (.ref a.h)) (w : W B G H a s) (o : Ok s) (hn : EvD ta σ G H (.int n)) (hf : findR s n = .ok i) (hb : bilOf s i = b) : EvD (tMeth B.C_Hall "holder" (spQ B holderR aI) [] E te (tCons ta tNil)) σ G H (.str b.keeper) :=
  (x_meth (f := holderR) (args := aI) n h0 w o (ea_cons hn ea_nil)).ok (by unfold holderR; rw [hf, ← hb]; rfl)
theorem e_state (h0 : EvV te σ G H (.ref a.h)) (w : W B G H a s) (o : Ok s) (hn : EvD ta σ G H (.int n)) (hf : findR s n = .ok i) (hb : bilOf s i = b) : EvD (tMeth B.C_Hall "state" (spQ B stateR aI) [] E te (tCons ta tNil)) σ G H (.str b.phase) :=
  (x_meth (f := stateR) (args := aI) n h0 w o (ea_cons hn ea_nil)).ok (by unfold stateR; rw [hf, ← hb]; rfl)
theorem e_paper (h0 : EvV te σ G H (.ref a.h)) (w : W B G H a s) (o : Ok s) (hn : EvD ta σ G H (.int n)) (hf : findR s n = .ok i) (hb : bilOf s i = b) : EvD (tMeth B.C_Hall "paper" (spQ B paperR aI) [] E te (tCons ta tNil)) σ G H (writtenD b) :=
  (x_meth (f := paperR) (args := aI) n h0 w o (ea_cons hn ea_nil)).ok (by unfold paperR; rw [hf, ← hb]; rfl)
theorem e_amount (h0 : EvV te σ G H (.ref a.h)) (w : W B G H a s) (o : Ok s) (hn : EvD ta σ G H (.int n)) (hf : findR s n = .ok i) (hb : bilOf s i = b) : EvD (tOp (rIxT K) (tMeth B.C_Hall "paper" (spQ B paperR aI) [] E te (tCons ta tNil)) (tC (.int 3))) σ G H (.int b.amount) :=
  ev_op (e_paper h0 w o hn hf hb) ev_int (rd_ixT (atI_nat (j := 3) rfl))
theorem e_due (h0 : EvV te σ G H (.ref a.h)) (w : W B G H a s) (o : Ok s) (hn : EvD ta σ G H (.int n)) (hf : findR s n = .ok i) (hb : bilOf s i = b) : EvD (tOp (rIxT K) (tMeth B.C_Hall "paper" (spQ B paperR aI) [] E te (tCons ta tNil)) (tC (.int 4))) σ G H (.int b.due) :=
  ev_op (e_paper h0 w o hn hf hb) ev_int (rd_ixT (atI_nat (j := 4) rfl))
theorem e_today (h0 : EvV te σ G H (.ref a.h)) (w : W B G H a s) (o : Ok s) : EvD (tMeth B.C_Hall "today" (spHtoday B) [] E te tNil) σ G H (.int s.day) :=
  (x_meth (f := fun s (_ : Unit) => .ok (.int s.day)) (args := fun _ => []) () h0 w o ea_nil).ok rfl
theorem e_many (h0 : EvV te σ G H (.ref a.h)) (w : W B G H a s) (o : Ok s) : EvD (tMeth B.C_Hall "many_bills" (spHmany B) [] E te tNil) σ G H (.int s.bs.length) :=
  (x_meth (f := fun s (_ : Unit) => .ok (.int s.bs.length)) (args := fun _ => []) () h0 w o ea_nil).ok rfl
theorem two_of (o : Ok s) (hf : findR s n = .ok i) (hb : bilOf s i = b) : 2 ≤ b.places.length ∧ b.places.length ≤ 8 := by
  have hi := findR_lt hf
  have e : s.bs[i]? = some b := by rw [← hb]; unfold bilOf; rw [List.getD_eq_getElem?_getD, List.getElem?_eq_getElem hi]; rfl
  exact o.pl b (List.mem_of_getElem? e)
theorem ev_lcR2 {t : TA} {j : Nat} {vs : List Nat} {lo m : Int} {tt : TT} (f : Nat → Bool) (v : Nat → PyData) (h : EvA t σ G H [.int lo, .int m]) (hm : 0 ≤ lo ∧ lo ≤ m ∧ m ≤ 40000) (hw : ∀ x, wipe ((wipe σ vs).set j (some x)) vs = wipe σ vs)
    (ht : ∀ (i : Nat), lo + (i : Int) < m → EvT tt ((wipe σ vs).set j (some (.int (lo + (i : Int))))) G H (f i)) (he : ∀ (i : Nat), lo + (i : Int) < m → f i = true → EvD te ((wipe σ vs).set j (some (.int (lo + (i : Int))))) G H (v i)) :
    EvM (tLc (iRng2 t) (gName j) tt te vs) σ G H (given (m - lo).toNat f v) := fun G0 H0 a Q q => h G0 H0 a _ fun us G1 H1 g1 x => by
  obtain ⟨u1, u2, rfl, hu1, hu2⟩ := dxs2 x
  have gg := a.trans g1
  refine ⟨lo, m, by rw [hu1.int_eq, hu2.int_eq], ⟨by omega, by omega, by omega, by omega⟩, fun l hl => lc_range (lo := lo) (n := (m - lo).toNat) (Cw G1 H1 f v l) ⟨G1, [], (Gr.refl g1.s).own hl, g1.s.none hl, upd_same, by exact .nil⟩ (fun i H' hi p => ?_) (fun H' p => ?_)⟩
  · exact ⟨hw _, cw_turn hl p (by omega) ((ht i (by omega)).mono gg) (fun hf => (he i (by omega) hf).mono gg)⟩
  · obtain ⟨G', xs, k1, k2, k3, k4⟩ := p
    exact q l xs G' H' (g1.trans k1) (g1.free hl) k2 k3 k4
end
theorem ok_stands_there {B : Bd} (T : Txt K mg A) (U : Ux K mg B) : FnOk P w K mg base (L2.CX P w) 3 A.a_stands_there A.d_stands_there ["hall", "names", "bill"] (spQ B standsThereR aLI) := by
  have G_Hrow := ok_Hrow (P := P) (w := w) (base := base) T U
  have G_Hpaper := ok_Hpaper (P := P) (w := w) (base := base) T U
  have G_Hstate := ok_Hstate (P := P) (w := w) (base := base) T U
  have G_Htoday := ok_Htoday (P := P) (w := w) (base := base) T U
  have G_Hholder := ok_Hholder (P := P) (w := w) (base := base) T U
  refine T.F_stands_there.okX sc_stands_there (fun vs H Q E h => lenQ (n := 2) (fun _ => rfl) h) (fun cdv A' outer st H vs Q E hr h => ?_)
  obtain ⟨G, a, s, ⟨zs, n⟩, us, rfl, hx, hW, hO, kE, kQ⟩ := h
  obtain ⟨v1, v2, rfl, h_names, x2⟩ := dxs2 hx
  obtain rfl := x2.int_eq
  refine ⟨_, (pss_cons (ps_asg (pe_ix (ix_listK (K := K)) (pe_meth (pv 0) U.cl_Hall U.m_Hrow G_Hrow (hr.mono (by omega)) U.b_Hrow .nil (passes_call (takes_of rfl rfl rfl rfl) fun _ _ _ _ z => z) (by exact (pa_cons (pv 2) pa_nil))) pe_int (fun _ _ => rfl)) (pg_tup (by rfl) (pgs_cons (pg_name (i := 3) sc_stands_there.nd rfl (Or.inl rfl)) (pgs_cons (pg_name (i := 4) sc_stands_there.nd rfl (Or.inl rfl)) pgs_nil))))
      (pss_cons (ps_set (i := 5) sc_stands_there.nd rfl (Or.inl rfl) (pe_ix (ix_tupK (K := K)) (pe_meth (pv 0) U.cl_Hall U.m_Hpaper G_Hpaper (hr.mono (by omega)) U.b_Hpaper .nil (passes_call (takes_of rfl rfl rfl rfl) fun _ _ _ _ z => z) (by exact (pa_cons (pv 2) pa_nil))) pe_int (fun _ _ => rfl)))
      (pss_cons (ps_if (PW.pt (pw_or (pt_cmpR op_ne (pe_meth (pv 0) U.cl_Hall U.m_Hstate G_Hstate (hr.mono (by omega)) U.b_Hstate .nil (passes_call (takes_of rfl rfl rfl rfl) fun _ _ _ _ z => z) (by exact (pa_cons (pv 2) pa_nil))) (pe_glob (v := .str "running") (by rfl) T.g_RUNNING ⟨_, rfl⟩) (nomark _)) (pw_or (pt_not (pt_val (pv 4))) (pw_or1 (pt_cmpR op_gt (pv 5) (pe_meth0 (pv 0) U.cl_Hall U.m_Htoday G_Htoday (hr.mono (by omega)) U.b_Htoday .nil pass0) (nomark _))))))
      (pss_one (ps_ret pe_bl))
      pss_nil)
      (pss_one (ps_ret (pe_and (pe_cmpR (op_inK (K := K)) (pv 3) (pv 1) rfl) (pe_one (pe_cmpR (op_inK (K := K)) (pe_meth (pv 0) U.cl_Hall U.m_Hholder G_Hholder (hr.mono (by omega)) U.b_Hholder .nil (passes_call (takes_of rfl rfl rfl rfl) fun _ _ _ _ z => z) (by exact (pa_cons (pv 2) pa_nil))) (pv 1) rfl)))))))), ?_⟩
  cases hf : findR s n with
  | error k =>
    refine seqI ?_
    have hk : rowR s n = .error k := by unfold rowR; rw [hf]; rfl
    exact (xm_meth (f := rowR) (args := aI) n (evv_var rfl) hW hO (ea_cons (ev_var rfl (.int n)) ea_nil)).dat.err hW.sb (k := k) (by rw [hk]; rfl) (fun G1 H1 g1 => kE k (by unfold standsThereR; rw [hf]; rfl) G1 H1 g1) _
  | ok i =>
    obtain ⟨b, hb⟩ : ∃ b, bilOf s i = b := ⟨_, rfl⟩
    have h2 := two_of hO hf hb
    have hres : standsThereR s (zs, n) = .ok (.bool (standsB s zs b)) := by unfold standsThereR; rw [hf, ← hb]; rfl
    refine seqI ((e_rowat (K := K) (evv_var rfl) hW hO (ev_var rfl (.int n)) hf hb (j := 0) rfl (by omega)) G H (.refl hW.sb) _ fun v G1 H1 g1 hv => g_nn hv g1.s fun u1 u2 y1 y2 => ?_)
    obtain rfl := y1.str_eq
    obtain rfl := y2.bl_eq
    have hW := hW.step g1
    have h_names := h_names.mono g1.g
    dsimp only
    refine q_asg (e_due (evv_var rfl) hW hO (ev_var rfl (.int n)) hf hb) hW.sb fun v G2 H2 g2 hv => ?_
    obtain rfl := hv.int_eq
    have hW := hW.step g2
    have h_names := h_names.mono g2.g
    refine q_when (b := !decide (b.phase = "running") || (!(p0 b).2 || decide (s.day < b.due))) (et_or (et_test (ev_op (e_state (evv_var rfl) hW hO (ev_var rfl (.int n)) hf hb) ev_str rd_neS)) (fun _ => et_or (et_not (et_B (ev_var rfl (.bl _)))) (fun _ => et_test (ev_op (ev_var rfl (.int _)) (e_today (evv_var rfl) hW hO) rd_gt)))) hW.sb (fun hc G3 H3 g3 => ?_) (fun hc G3 H3 g3 => ?_)
    · refine s_ret ev_bl g3.s fun v G4 H4 g4 hv => kQ _ hres v G4 H4 (((g1.trans g2).trans g3).trans g4) ?_
      have e : standsB s zs b = false := by
        unfold standsB
        cases h1 : decide (b.phase = "running") with
        | false => rfl
        | true =>
          cases h3 : (p0 b).2 with
          | false => rfl
          | true =>
            rw [h1, h3] at hc
            have : s.day < b.due := by simpa using hc
            rw [decide_eq_false (show ¬ b.due ≤ s.day by omega)]; rfl
      rw [e]; exact hv
    · have hW := hW.step g3
      have h_names := h_names.mono g3.g
      have e : standsB s zs b = (decide ((p0 b).1 ∈ zs) && decide (b.keeper ∈ zs)) := by
        unfold standsB
        cases h1 : decide (b.phase = "running") with
        | false => rw [h1] at hc; cases hc
        | true =>
          cases h3 : (p0 b).2 with
          | false => rw [h1, h3] at hc; cases hc
          | true =>
            rw [h1, h3] at hc
            have : ¬ s.day < b.due := by simpa using hc
            rw [decide_eq_true (show b.due ≤ s.day by omega)]; rfl
      refine s_ret (ev_andV (ev_inS (neg := false) (ev_var rfl (.str _)) (ev_var rfl h_names)) (fun _ => ev_inS (neg := false) (e_holder (evv_var rfl) hW hO (ev_var rfl (.int n)) hf hb) (ev_var rfl h_names))) hW.sb fun v G4 H4 g4 hv => kQ _ hres v G4 H4 (((g1.trans g2).trans g3).trans g4) ?_
      rw [e]; exact hv
def fairI (s : Hl) (zs : List Str) : List Int := ((List.range s.bs.length).filter (fun i => standsB s zs (bilOf s i))).map fun (i : Nat) => 1 + (i : Int)
def fairBR (s : Hl) (zs : List Str) : Except Kd (List PyData) := seqE (checkN s zs) fun _ => .ok ((fairI s zs).map .int)
theorem find_at {s : Hl} {i : Nat} (h : i < s.bs.length) : findR s (1 + (i : Int)) = .ok i := by
  unfold findR
  rw [if_pos (by omega)]
  congr 1
  omega
theorem fairI_find {s : Hl} {zs : List Str} {n : Int} (h : n ∈ fairI s zs) : ∃ i, findR s n = .ok i ∧ standsB s zs (bilOf s i) = true := by
  unfold fairI at h
  obtain ⟨i, hi, rfl⟩ := List.mem_map.mp h
  obtain ⟨h1, h2⟩ := List.mem_filter.mp hi
  exact ⟨i, find_at (List.mem_range.mp h1), h2⟩
theorem fairI_len {s : Hl} {zs : List Str} : (fairI s zs).length ≤ s.bs.length := by
  unfold fairI
  rw [List.length_map]
  have := List.length_filter_le (fun i => standsB s zs (bilOf s i)) (List.range s.bs.length)
  rw [List.length_range] at this
  exact this
theorem ok_fair_bills {B : Bd} (T : Txt K mg A) (U : Ux K mg B) : FnOk P w K mg base (L2.CX P w) 4 A.a_fair_bills A.d_fair_bills ["hall", "names"] (spQM B fairBR aL) := by
  have G_check_names := ok_check_names (P := P) (w := w) (base := base) T U
  have G_stands_there := ok_stands_there (P := P) (w := w) (base := base) T U
  have G_Hmanybills := ok_Hmanybills (P := P) (w := w) (base := base) T U
  refine T.F_fair_bills.okX sc_fair_bills (fun vs H Q E h => lenQM (n := 1) (fun _ => rfl) h) (fun cdv A' outer st H vs Q E hr h => ?_)
  obtain ⟨G, a, s, zs, us, rfl, hx, hW, hO, kE, kQ⟩ := h
  obtain ⟨v1, rfl, h_names⟩ := dxs1 hx
  refine ⟨_, (pss_cons (ps_expr (pe_call G_check_names (hr.mono (by omega)) (by rfl) T.m_check_names T.F_check_names.kp T.b_check_names .nil (passes_call (takes_of rfl rfl rfl rfl) fun _ _ _ _ z => z) (pa_cons (pv 0) (pa_cons (pv 1) pa_nil))))
      (pss_one (ps_ret (pe_lc (own := [("bill", 2)]) (g := gName 2) rfl sc_fair_bills.nd (pi_range2 (by rfl) T.b.range (pa_cons pe_int (pa_cons (pe_op op_add (pe_meth0 (pv 0) U.cl_Hall U.m_Hmanybills G_Hmanybills (hr.mono (by omega)) U.b_Hmanybills .nil pass0) pe_int) pa_nil))) (blkOk_by (own := [("bill", 2)]) (N := N_fair_bills) (sc := defScope s_fair_bills) (by decide +kernel)) (fun _ _ _ _ _ => (pg_name (i := 2) sc_fair_bills.nd rfl (Or.inl rfl))) (fun _ _ _ _ _ => by exact pts_one (pt_val (pe_call G_stands_there (hr.mono (by omega)) (by rfl) T.m_stands_there T.F_stands_there.kp T.b_stands_there .nil passL (pa_cons (pv 0) (pa_cons (pv 1) (pa_cons (pv 2) pa_nil)))))) (fun _ _ _ _ _ => by exact (pv 2)))))), ?_⟩
  refine q_dropX (x_call (f := checkN) (args := aL) zs (evv_var rfl) hW hO (ea_cons (ev_var rfl h_names) ea_nil)) hW.sb (fun k hk G1 H1 g1 => kE k (seqE_err hk) G1 H1 g1) fun d hd G1 H1 g1 => ?_
  have hW := hW.step g1
  have h_names := h_names.mono g1.g
  have h40 := hO.b
  refine s_retM (evm_is (ev_lcR2 (fun i => standsB s zs (bilOf s i)) (fun i => .int (1 + (i : Int))) (ea_cons ev_int (ea_cons (ev_op (e_many (evv_var rfl) hW hO) ev_int rd_add) ea_nil)) (by omega) (fun _ => rfl)
    (fun i hi => et_B ((x_call (f := standsThereR) (args := aLI) (zs, 1 + (i : Int)) (evv_var rfl) hW hO (ea_cons (ev_var rfl h_names) (ea_cons (ev_var rfl (.int _)) ea_nil))).ok (by unfold standsThereR; rw [find_at (by omega)]; rfl)))
    (fun i hi _ => ev_var rfl (.int _))) (es := (fairI s zs).map .int) (by
      have e1 : ((s.bs.length : Int) + 1 - 1).toNat = s.bs.length := by omega
      rw [e1]
      unfold fairI given
      rw [List.map_map]; rfl)) hW.sb fun p xs G2 H2 g2 h0 hn hl hx => kQ _ (seqE_ok hd) p xs G2 H2 (g1.trans g2) (g1.free h0) hn hl hx

end
end

-- he2.txt
section

local macro_rules | `(tactic| walk_at "arith") => `(tactic| first | omega | decide | (unfold CMul; omega) | (unfold CDiv; omega) | (unfold CPow; decide) | (refine ⟨?_, ?_⟩ <;> omega) | (simp; done) | (simp; omega))
local macro_rules | `(tactic| walk_at "wide") => `(tactic| exact ⟨by decide, by decide +kernel⟩)
section
variable {P : Program} {w : World} {K : PySem.W.Frag} {mg : Str → Option Value} {base : Heap} {A : Ad}
/-! ### who owes whom -/
abbrev Om := List ((Str × Str) × Int)
def kT (k : Str × Str) : List Key := [Sum.inr k.1, Sum.inr k.2]
def kvT (m : Om) : List (List Key × V) := m.map fun q => (kT q.1, V.int q.2)
theorem kT_inj {k l : Str × Str} (h : kT k = kT l) : k = l := by
  unfold kT at h
  simp only [List.cons.injEq, Sum.inr.injEq, and_true] at h
  exact Prod.ext h.1 h.2
def getO : Om → Str × Str → Option Int
  | [], _ => none
  | q :: r, k => if q.1 = k then some q.2 else getO r k
def replO (m : Om) (k : Str × Str) (c : Int) : Om := m.map fun q => if q.1 = k then (q.1, c) else q
def putO (m : Om) (k : Str × Str) (c : Int) : Om := if (getO m k).isSome then replO m k c else m ++ [(k, c)]
theorem val_kvT (k : Str × Str) : ∀ m : Om, valV (kvT m) (kT k) = (getO m k).map V.int
  | [] => rfl
  | q :: r => by
    show valV ((kT q.1, V.int q.2) :: kvT r) (kT k) = _
    by_cases h : q.1 = k
    · rw [valV_pos (by rw [h])]
      have e : getO (q :: r) k = some q.2 := by unfold getO; exact if_pos h
      rw [e]; rfl
    · rw [valV_neg (fun e => h (kT_inj e)), val_kvT k r]
      have e : getO (q :: r) k = getO r k := by conv => lhs; unfold getO; rw [if_neg h]
      rw [e]
theorem repl_kvT (k : Str × Str) (c : Int) : ∀ m : Om, ((kvT m).map fun kv => if kv.1 = kT k then (kv.1, V.int c) else kv) = kvT (replO m k c)
  | [] => rfl
  | q :: r => by
    have ih := repl_kvT k c r
    unfold kvT replO at ih ⊢
    simp only [List.map_cons]
    rw [ih]
    by_cases h : q.1 = k
    · rw [if_pos h, if_pos (by rw [h])]
    · rw [if_neg h, if_neg (fun e => h (kT_inj e))]
theorem put_kvT (m : Om) (k : Str × Str) (c : Int) : putK (kvT m) (kT k) (V.int c) = kvT (putO m k c) := by
  unfold putK putO
  rw [valV_any, val_kvT, Option.isSome_map]
  by_cases h : (getO m k).isSome = true
  · rw [if_pos h, if_pos h]; exact repl_kvT k c m
  · rw [if_neg h, if_neg h]; unfold kvT; rw [List.map_append]; rfl
theorem len_putO (m : Om) (k : Str × Str) (c : Int) : (putO m k c).length ≤ m.length + 1 := by
  unfold putO replO
  split
  · rw [List.length_map]; omega
  · rw [List.length_append]; simp
def bilN (s : Hl) (n : Int) : Bil := bilOf s (n - 1).toNat
theorem findR_N {s : Hl} {n : Int} {i : Nat} (h : findR s n = .ok i) : bilOf s i = bilN s n := by
  unfold findR at h
  split at h
  · cases h; rfl
  · cases h
def stepO (s : Hl) (m : Om) (n : Int) : Om := if (p0 (bilN s n)).1 = (bilN s n).keeper then m else putO m ((p0 (bilN s n)).1, (bilN s n).keeper) ((getO m ((p0 (bilN s n)).1, (bilN s n).keeper)).getD 0 + (bilN s n).amount)
def oweN (s : Hl) (l : List Int) : Om := l.foldl (stepO s) []
theorem len_stepO (s : Hl) (m : Om) (n : Int) : (stepO s m n).length ≤ m.length + 1 := by
  unfold stepO
  split
  · omega
  · exact len_putO _ _ _
theorem oweN_snoc (s : Hl) (l : List Int) (n : Int) : oweN s (l ++ [n]) = stepO s (oweN s l) n := by unfold oweN; rw [List.foldl_append]; rfl
theorem len_fold (s : Hl) : ∀ (l : List Int) (m : Om), (l.foldl (stepO s) m).length ≤ m.length + l.length
  | [], m => Nat.le_refl _
  | n :: r, m => by
    have h1 := len_fold s r (stepO s m n)
    have h2 := len_stepO s m n
    rw [List.foldl_cons, List.length_cons]
    omega
theorem len_oweN (s : Hl) (l : List Int) : (oweN s l).length ≤ l.length := by
  have := len_fold s l []
  unfold oweN
  simpa using this
def entO (m : Om) : List Tri := m.map fun q => (q.1.1, q.1.2, q.2)
def encT (l : List Tri) : List PyData := l.map fun t => .tuple [.str t.1, .str t.2.1, .int t.2.2]
def le3 (a b : Tri) : Bool := !lt3 b a
def sort3 (l : List Tri) : List Tri := l.mergeSort le3
theorem triK_inj {a b : Tri} (h : triK a = triK b) : a = b := by
  obtain ⟨a1, a2, a3⟩ := a
  obtain ⟨b1, b2, b3⟩ := b
  unfold triK at h
  simp only [List.cons.injEq, Sum.inr.injEq, Sum.inl.injEq, and_true] at h
  obtain ⟨h1, h2, h3⟩ := h
  rw [cps_inj h1, cps_inj h2, h3]
theorem sort3_pw (l : List Tri) : (sort3 l).Pairwise (fun a b => lt3 b a = false) := by
  refine List.Pairwise.imp (fun {a b} h => by unfold le3 at h; simpa using h) (List.pairwise_mergeSort (le := le3) (fun a b c h1 h2 => ?_) (fun a b => ?_) l)
  · unfold le3 at *
    rw [Bool.not_eq_true'] at *
    cases h : lt3 c a with
    | false => rfl
    | true =>
      rcases PyProof.Rows.lex_negTrans (O := PyProof.Rows.itemOrd) (triK c) (triK b) (triK a) h with h | h
      · rw [show lt3 c b = true from h] at h2; cases h2
      · rw [show lt3 b a = true from h] at h1; cases h1
  · unfold le3
    cases h : lt3 b a with
    | false => rfl
    | true =>
      have : lt3 a b = false := by
        cases h2 : lt3 a b with
        | false => rfl
        | true =>
          have h3 := PyProof.Rows.lex_trans (O := PyProof.Rows.itemOrd) (triK a) (triK b) (triK a) h2 h
          rw [PyProof.Rows.lex_irrefl] at h3; cases h3
      rw [this]; rfl
theorem sort3_of {l m : List Tri} (h1 : l.Perm m) (h2 : l.Pairwise (fun a b => lt3 b a = false)) : l = sort3 m :=
  List.Perm.eq_of_pairwise (le := fun a b : Tri => lt3 b a = false) (fun a b _ _ h h' => triK_inj (PyProof.Rows.lex_total (O := PyProof.Rows.itemOrd) _ _ h' h)) h2 (sort3_pw m) (h1.trans (List.mergeSort_perm m _).symm)
theorem perm_dx {G : Hp} {xs ys : List V} (p : ys.Perm xs) : ∀ {l : List Tri}, Dxs G xs (encT l) → ∃ l', l'.Perm l ∧ Dxs G ys (encT l') := by
  induction p with
  | nil => intro l h; exact ⟨l, List.Perm.refl _, h⟩
  | cons x p ih =>
    intro l h
    cases l with
    | nil => cases h
    | cons t l =>
      cases h with
      | cons h1 h2 =>
        obtain ⟨l', q, d⟩ := ih h2
        exact ⟨t :: l', q.cons t, .cons h1 d⟩
  | swap x y r =>
    intro l h
    cases l with
    | nil => cases h
    | cons t l =>
      cases h with
      | cons h1 h2 =>
        cases l with
        | nil => cases h2
        | cons u l =>
          cases h2 with
          | cons h2 h3 => exact ⟨u :: t :: l, List.Perm.swap .., .cons h2 (.cons h1 h3)⟩
  | trans p q ih1 ih2 =>
    intro l h
    obtain ⟨l', a1, a2⟩ := ih2 h
    obtain ⟨l2, b1, b2⟩ := ih1 a2
    exact ⟨l2, b1.trans a1, b2⟩
theorem tri_at {G H : Hp} {v : V} {t : Tri} (s : Sb G H) (h : Dx G v (.tuple [.str t.1, .str t.2.1, .int t.2.2])) : TriAt H v t := by
  obtain ⟨a, xs, rfl, ha, x⟩ := h.tup_eq
  obtain ⟨u1, u2, u3, rfl, y1, y2, y3⟩ := dxs3 x
  obtain rfl := y1.str_eq
  obtain rfl := y2.str_eq
  obtain rfl := y3.int_eq
  exact ⟨a, rfl, s _ _ ha⟩
theorem dxs_mem {G : Hp} : ∀ {xs : List V} {l : List Tri}, Dxs G xs (encT l) → ∀ x ∈ xs, ∃ t ∈ l, Dx G x (.tuple [.str t.1, .str t.2.1, .int t.2.2])
  | _, [], .nil, x, h => by cases h
  | _, t :: l, .cons h1 h2, x, h => by
    rcases List.mem_cons.mp h with h | h
    · subst h; exact ⟨t, List.mem_cons_self, h1⟩
    · obtain ⟨u, hu, d⟩ := dxs_mem h2 x h
      exact ⟨u, List.mem_cons_of_mem _ hu, d⟩
theorem pw_dx {G H : Hp} (s : Sb G H) : ∀ {xs : List V} {l : List Tri}, Dxs G xs (encT l) → xs.Pairwise (fun u v => ∀ t t', TriAt H u t → TriAt H v t' → lt3 t' t = false) → l.Pairwise (fun a b => lt3 b a = false)
  | _, [], .nil, _ => List.Pairwise.nil
  | x :: xs, t :: l, .cons h1 h2, h => by
    rw [List.pairwise_cons] at h
    refine List.Pairwise.cons (fun u hu => ?_) (pw_dx s h2 h.2)
    obtain ⟨i, hi, e⟩ := List.getElem_of_mem hu
    have hd : (encT l)[i]? = some (.tuple [.str u.1, .str u.2.1, .int u.2.2]) := by unfold encT; rw [List.getElem?_map, List.getElem?_eq_getElem hi, e]; rfl
    obtain ⟨v, hv, hx⟩ := Dxs.get h2 hd
    exact h.1 v (List.mem_of_getElem? hv) t u (tri_at s h1) (tri_at s hx)
section
variable {K : PySem.W.Frag} {σ : L2.St} {G H : Hp} {te : TE} {tt : TT} {l : List Tri} {i : Nat}
theorem ev_sort3 (h : EvD te σ G H (.list (encT l))) : EvM (tCB (r3 K) (tCons te tNil)) σ G H (encT (sort3 l)) := fun G1 H1 a Q q => h G1 H1 a _ fun v G2 H2 g x => by
  obtain ⟨p, xs, rfl, hp, dxs⟩ := x.lst_eq
  refine ⟨p, xs, rfl, Or.inl (Or.inl (g.s _ _ hp)), fun y hy => ?_, fun ys r hperm hpw hr => ?_⟩
  · obtain ⟨t, _, d⟩ := dxs_mem dxs y hy
    exact ⟨t, tri_at g.s d⟩
  · obtain ⟨l', h1, h2⟩ := perm_dx hperm dxs
    have e := sort3_of h1 (pw_dx g.s h2 hpw)
    exact q r ys G2 _ (g.own hr) (g.free hr) (g.s.none hr) upd_same (e ▸ h2)
theorem ev_sortS {zs : List Str} (h : EvD te σ G H (.list (zs.map .str))) (hz : zs.length < 64) : EvM (tCB (rSortedS K) (tCons te tNil)) σ G H ((srt zs).map .str) := fun G1 H1 a Q q => h G1 H1 a _ fun v G2 H2 g x => by
  obtain ⟨p, rfl, hp⟩ := sqS g.s x
  refine ⟨p, zs, rfl, Or.inl (Or.inl hp), hz, fun ys r hperm hs hr => ?_⟩
  rw [srt_of hperm hs]
  exact q r _ G2 _ (g.own hr) (g.free hr) (g.s.none hr) upd_same (dxs_strs _)
theorem g_nnn {i j l : Nat} {v : V} {d1 d2 d3 : PyData} {Q : L2.St → Hp → Prop} (x : Dx G v (.tuple [d1, d2, d3])) (s : Sb G H) (k : ∀ v1 v2 v3, Dx G v1 d1 → Dx G v2 d2 → Dx G v3 d3 → Q (((σ.set i (some v1)).set j (some v2)).set l (some v3)) H) :
    gTup K 3 (gCons (gName i) (gCons (gName j) (gCons (gName l) gNil))) v σ H Q := by
  obtain ⟨a, xs, rfl, ha, dxs⟩ := x.tup_eq
  obtain ⟨v1, v2, v3, rfl, h1, h2, h3⟩ := dxs3 dxs
  exact ⟨a, [v1, v2, v3], rfl, Or.inl (Or.inl (s _ _ ha)), rfl, v1, [v2, v3], rfl, v2, [v3], rfl, v3, [], rfl, rfl, k v1 v2 v3 h1 h2 h3⟩
/-- [e for (a, b), c in d.items()] -/
theorem ev_itemsT {j1 j2 j3 : Nat} {e : Addr} {m : Om} {vs : List Nat} (v : Nat → PyData) (hv : σ[i]? = some (some (.ref e))) (he : H e = some (.dT (kvT m))) (hn : G e = none) (hz : m.length ≤ 40000)
    (hw : ∀ x y z, wipe ((((wipe σ vs).set j1 (some x)).set j2 (some y)).set j3 (some z)) vs = wipe σ vs)
    (hb : ∀ (k : Nat) (a b : Str) (c : Int) G H, m[k]? = some ((a, b), c) → EvD te ((((wipe σ vs).set j1 (some (.str a))).set j2 (some (.str b))).set j3 (some (.int c))) G H (v k)) :
    EvM (tLockE (tLc (iItemsT (tVar i)) (gTup K 2 (gCons (gTup K 2 (gCons (gName j1) (gCons (gName j2) gNil))) (gCons (gName j3) gNil))) tYes te vs)) σ G H (given m.length (fun _ => true) v) := fun G1 H1 a Q q => by
  have he1 := a.h e _ (by simp) he
  have hn1 := a.n e _ he hn
  refine ⟨e, _, he1, True.intro, fun od => ?_⟩
  have sF : Sb G1 (upd H1 e (.frz od (.dT (kvT m)))) := a.s.mut hn1
  refine ⟨_, hv, e, od, kvT m, rfl, upd_same, fun D hD => ?_⟩
  have lenK : (kvT m).length = m.length := by unfold kvT; rw [List.length_map]
  refine lc_it (walk_itemsT (d := e) (o := od) (kvs := kvT m)) (Cw G1 (upd H1 e (.frz od (.dT (kvT m)))) (fun _ => true) v D) ⟨G1, [], (Gr.refl sF).own hD, sF.none hD, upd_same, by exact .nil⟩ (fun k H' _ w => ?_) (fun k x H' H'' hk w y => ?_) (fun H' w => ?_)
  · obtain ⟨G', xs, gg, _⟩ := w
    exact gg.h e _ (by simp) upd_same
  · obtain ⟨T, q1, kk, vv, h1, h2, rfl, hT, rfl⟩ := y
    obtain ⟨⟨⟨z1, z2⟩, c⟩, h3, h4⟩ : ∃ nc : (Str × Str) × Int, m[k]? = some nc ∧ (kT nc.1, V.int nc.2) = (kk, vv) := by
      unfold kvT at h1
      rw [List.getElem?_map] at h1
      cases z : m[k]? with
      | none => rw [z] at h1; cases h1
      | some nc => rw [z] at h1; exact ⟨nc, rfl, Option.some.inj h1⟩
    cases h4
    have hkm : k < m.length := (List.getElem?_eq_some_iff.mp h3).1
    have w2 : Cw G1 (upd H1 e (.frz od (.dT (kvT m)))) (fun _ => true) v D k (upd H' T (.tup [.ref q1, .int c])) := by
      obtain ⟨G', xs, a1, a2, a3, a4⟩ := w
      exact ⟨G', xs, a1.own hT, a2, (upd_ne (fun z => by rw [← z, a3] at hT; cases hT)).trans a3, a4⟩
    have nqT : q1 ≠ T := fun z => by rw [z, hT] at h2; cases h2
    refine ⟨T, [.ref q1, .int c], rfl, Or.inl (Or.inl upd_same), rfl, .ref q1, [.int c], rfl, ⟨q1, [.str z1, .str z2], rfl, Or.inl (Or.inl ((upd_ne nqT).trans h2)), rfl, .str z1, [.str z2], rfl, .str z2, [], rfl, rfl, .int c, [], rfl, rfl, ?_⟩⟩
    exact ⟨hw _ _ _, cw_turn hD w2 (by omega) et_yes (fun _ => hb k z1 z2 c _ _ h3)⟩
  · rw [lenK] at w
    obtain ⟨G', xs, k1, k2, k3, k4⟩ := w
    have hf : H' e = some (.frz od (.dT (kvT m))) := k1.h e _ (by simp) upd_same
    have hD1 : H1 D = none := by
      by_cases h : D = e
      · subst h; rw [upd_same] at hD; cases hD
      · rw [upd_ne h] at hD; exact hD
    have hne : D ≠ e := fun h => by subst h; rw [he1] at hD1; cases hD1
    have hGe : G' e = none := k1.n e _ upd_same hn1
    refine ⟨hf, q D xs G' _ ⟨k1.g, k1.s.mut hGe, fun x o mm hx => ?_, fun x o hx => ?_, fun x o hx h0 => ?_⟩ hD1 k2 ((upd_ne hne).trans k3) k4⟩
    · by_cases h : x = e
      · subst h; rw [he1] at hx; cases hx; exact upd_same
      · rw [upd_ne h]; exact k1.h x o mm ((upd_ne h).trans hx)
    · by_cases h : x = e
      · subst h; exact ⟨_, upd_same⟩
      · obtain ⟨o', h'⟩ := k1.t x o ((upd_ne h).trans hx)
        exact ⟨o', (upd_ne h).trans h'⟩
    · by_cases h : x = e
      · subst h; exact hGe
      · exact k1.n x o ((upd_ne h).trans hx) h0
end
section
variable {K : PySem.W.Frag} {σ : L2.St} {G H : Hp} {ty tv : TE} {i : Nat} {e : Addr} {m : Om} {k : Str × Str} {c : Int} {D : Ends}
theorem kT_at {H : Hp} {v : V} {G : Hp} (s : Sb G H) (x : Dx G v (.tuple [.str k.1, .str k.2])) : ∃ b, v = .ref b ∧ H b = some (.tup ((kT k).map kV)) := by
  obtain ⟨a, xs, rfl, ha, x⟩ := x.tup_eq
  obtain ⟨u1, u2, rfl, y1, y2⟩ := dxs2 x
  obtain rfl := y1.str_eq
  obtain rfl := y2.str_eq
  exact ⟨a, rfl, s _ _ ha⟩
theorem ev_dget2 (hv : σ[i]? = some (some (.ref e))) (he : H e = some (.dT (kvT m))) (h : EvD ty σ G H (.tuple [.str k.1, .str k.2])) : EvD (tDGet2 (tVar i) ty (tC (.int 0))) σ G H (.int ((getO m k).getD 0)) := fun G1 H1 a Q q =>
  ⟨_, hv, e, rfl, Or.inr ⟨kvT m, Or.inl (sb_of a _ _ he)⟩, h G1 H1 a _ fun v G2 H2 g x => by
    obtain ⟨b, rfl, hb⟩ := kT_at g.s x
    refine ⟨_, DGet.t (sb_of (a.trans g) _ _ he) hb, ?_⟩
    rw [val_kvT]
    have e1 : ((getO m k).map V.int).getD (V.int 0) = V.int ((getO m k).getD 0) := by cases getO m k <;> rfl
    rw [e1]
    exact q _ G2 H2 g (.int _)⟩
theorem s_dputT (hv : σ[i]? = some (some (.ref e))) (he : H e = some (.dT (kvT m))) (hn : G e = none) (hl : m.length ≤ 1000) (s : Sb G H) (h : EvD tv σ G H (.int c)) (hk : EvD ty σ G H (.tuple [.str k.1, .str k.2]))
    (q : ∀ G1 H1, Gr [e] G H G1 H1 → H1 e = some (.dT (kvT (putO m k c))) → G1 e = none → D.nx σ H1) : sDPut (tVar i) ty tv D σ H := h G H (.refl s) _ fun v G1 H1 g1 x => ⟨_, hv, hk G1 H1 g1 _ fun u G2 H2 g2 y => by
  have g := g1.trans g2
  obtain ⟨b, rfl, hb⟩ := kT_at g2.s y
  obtain rfl := x.int_eq
  have hl2 : (kvT m).length < sizeLine := by unfold kvT; rw [List.length_map]; exact Evl.sz_lt (by omega)
  refine ⟨e, _, rfl, DPut.t (sb_of g _ _ he) hb hl2, ?_⟩
  rw [put_kvT]
  exact q G2 _ (g.any.write (Or.inl (by simp)) (g.n _ _ he hn)) upd_same (g.n _ _ he hn)⟩
end
theorem W.stepM {B : Bd} {G H G' H' : Hp} {a : Ha} {s : Hl} {M : List Addr} (w : W B G H a s) (g : Gr M G H G' H') (hm : ∀ x, a.In x → x ∉ M) : W B G' H' a s :=
  ⟨g.s, w.la, w.lp, w.inj, fun i x h => by obtain ⟨o, e, c⟩ := w.ct i x h; exact ⟨o, g.h x o (hm x ⟨i, h⟩) e, c.mono g.g⟩, fun i x h => by obtain ⟨o, e, c⟩ := w.ct i x h; exact g.n _ _ e (w.ng i x h)⟩
def debtsL (s : Hl) (zs : List Str) : List Tri := sort3 (entO (oweN s (fairI s zs)))
def debtsR (s : Hl) (zs : List Str) : Except Kd (List PyData) := seqE (checkN s zs) fun _ => .ok (encT (debtsL s zs))
theorem take_snoc {α : Type} {l : List α} {n : Nat} {x : α} (h : l[n]? = some x) : l.take (n + 1) = l.take n ++ [x] := by
  rw [List.take_add_one, h]; rfl
theorem ok_debts {B : Bd} (T : Txt K mg A) (U : Ux K mg B) : FnOk P w K mg base (L2.CX P w) 5 A.a_debts A.d_debts ["hall", "names"] (spQM B debtsR aL) := by
  have G_fair_bills := ok_fair_bills (P := P) (w := w) (base := base) T U
  have G_Hrow := ok_Hrow (P := P) (w := w) (base := base) T U
  have G_Hpaper := ok_Hpaper (P := P) (w := w) (base := base) T U
  have G_Hholder := ok_Hholder (P := P) (w := w) (base := base) T U
  refine T.F_debts.okX sc_debts (fun vs H Q E h => lenQM (n := 1) (fun _ => rfl) h) (fun cdv A' outer st H vs Q E hr h => ?_)
  obtain ⟨G, a, s, zs, us, rfl, hx, hW, hO, kE, kQ⟩ := h
  obtain ⟨v1, rfl, h_names⟩ := dxs1 hx
  refine ⟨_, (pss_cons (ps_set (i := 2) sc_debts.nd rfl (Or.inl rfl) pe_dnewT)
      (pss_cons (ps_for (passes_of rfl) rfl (pi_list (pe_call G_fair_bills (hr.mono (by omega)) (by rfl) T.m_fair_bills T.F_fair_bills.kp T.b_fair_bills .nil (passes_call (takes_of rfl rfl rfl rfl) fun _ _ _ _ z => z) (pa_cons (pv 0) (pa_cons (pv 1) pa_nil)))) (pg_name (i := 3) sc_debts.nd rfl (Or.inl rfl))
      (pss_cons (ps_par3 (i := 4) (j := 5) (l := 6) (by rfl) sc_debts.nd rfl rfl rfl (by decide) (by decide) (by decide) rfl rfl rfl (pa_cons (pe_ix (ix_tupK (K := K)) (pe_ix (ix_listK (K := K)) (pe_meth (pv 0) U.cl_Hall U.m_Hrow G_Hrow (hr.mono (by omega)) U.b_Hrow .nil (passes_call (takes_of rfl rfl rfl rfl) fun _ _ _ _ z => z) (by exact (pa_cons (pv 3) pa_nil))) pe_int (fun _ _ => rfl)) pe_int (fun _ _ => rfl)) (pa_cons (pe_meth (pv 0) U.cl_Hall U.m_Hholder G_Hholder (hr.mono (by omega)) U.b_Hholder .nil (passes_call (takes_of rfl rfl rfl rfl) fun _ _ _ _ z => z) (by exact (pa_cons (pv 3) pa_nil))) (pa_cons (pe_ix (ix_tupK (K := K)) (pe_meth (pv 0) U.cl_Hall U.m_Hpaper G_Hpaper (hr.mono (by omega)) U.b_Hpaper .nil (passes_call (takes_of rfl rfl rfl rfl) fun _ _ _ _ z => z) (by exact (pa_cons (pv 3) pa_nil))) pe_int (fun _ _ => rfl)) pa_nil))) (by rfl))
      (pss_one (ps_if (pt_cmpR op_ne (pv 4) (pv 5) (nomark _))
      (pss_cons (ps_set (i := 7) sc_debts.nd rfl (Or.inl rfl) (pe_tup (pa_cons (pv 4) (pa_cons (pv 5) pa_nil))))
      (pss_one (ps_dput (hu1 hr) (pv 2) (pv 7) (pe_op op_add (pe_dget2 (hu1 hr) (pv 2) (pv 7) pe_int ⟨by rfl, by rfl, by rfl, by rfl⟩) (pv 6)) rfl)))
      pss_nil))))
      (pss_one (ps_ret (pe_callB (cr_sort3K (K := K)) (by rfl) T.b.sorted (by decide +kernel) (pa_cons (pe_lock (pe_lc (own := [("coins", 8), ("payer", 9), ("taker", 10)]) (g := gTup K 2 (gCons (gTup K 2 (gCons (gName 9) (gCons (gName 10) (gNil)))) (gCons (gName 8) (gNil)))) rfl sc_debts.nd (pi_itemsT (pv 2)) (blkOk_by (own := [("coins", 8), ("payer", 9), ("taker", 10)]) (N := N_debts) (sc := defScope s_debts) (by decide +kernel)) (fun _ _ _ _ _ => (pg_tup (by rfl) (pgs_cons (pg_tup (by rfl) (pgs_cons (pg_name (i := 9) sc_debts.nd rfl (Or.inl rfl)) (pgs_cons (pg_name (i := 10) sc_debts.nd rfl (Or.inl rfl)) pgs_nil))) (pgs_cons (pg_name (i := 8) sc_debts.nd rfl (Or.inl rfl)) pgs_nil)))) (fun _ _ _ _ _ => pts_nil) (fun _ _ _ _ _ => by exact (pe_tup (pa_cons (pv 9) (pa_cons (pv 10) (pa_cons (pv 8) pa_nil))))))) pa_nil)))))), ?_⟩
  refine seqI fun d hd => ?_
  have hdn : G d = none := hW.sb.none hd
  have nin : ∀ x, a.In x → x ∉ [d] := fun x ⟨j, hj⟩ hm => by
    obtain ⟨o', e', _⟩ := hW.ct j x hj
    have : x = d := by simpa using hm
    rw [this, hd] at e'; cases e'
  have g1 : Gr [] G H G (upd H d (.dT [])) := (Gr.refl hW.sb).own hd
  have hW := hW.step g1
  have hd1 : (upd H d (.dT [])) d = some (.dT (kvT [])) := upd_same
  generalize upd H d (.dT []) = H1 at g1 hW hd1
  dsimp only [gName, List.set]
  cases hc : checkN s zs with
  | error k =>
    have hk : fairBR s zs = .error k := seqE_err hc
    exact seqI ((xm_call (f := fairBR) (args := aL) zs (evv_var rfl) hW hO (ea_cons (ev_var rfl h_names) ea_nil)).dat.err hW.sb (k := k) (by rw [hk]; rfl) (fun G2 H2 g2 => kE k (seqE_err hc) G2 H2 (g1.trans g2)) _)
  | ok dd =>
    have hk : fairBR s zs = .ok ((fairI s zs).map .int) := seqE_ok hc
    have h40 := hO.b
    have hfl := fairI_len (s := s) (zs := zs)
    refine q_forL [d] (fun n σ' G' H' => (∃ v3 v4 v5 v6 v7, σ' = [some (.ref a.h), some v1, some (.ref d), v3, v4, v5, v6, v7, none, none, none]) ∧ H' d = some (.dT (kvT (oweN s ((fairI s zs).take n)))) ∧ G' d = none)
      ((xm_call (f := fairBR) (args := aL) zs (evv_var rfl) hW hO (ea_cons (ev_var rfl h_names) ea_nil)).ok hk).dat hW.sb (fun G2 H2 g2 => ⟨⟨none, none, none, none, none, rfl⟩, sb_of g2 _ _ hd1, g2.n d _ hd1 hdn⟩) (fun G2 H2 g2 n e v σ' G3 H3 he hv gg I => ?_) (fun σ' G3 H3 gg I => ?_)
    · obtain ⟨⟨v3, v4, v5, v6, v7, rfl⟩, hd3, hn3⟩ := I
      rw [List.getElem?_map] at he
      obtain ⟨x, hx, rfl⟩ := Option.map_eq_some_iff.mp he
      obtain rfl := hv.int_eq
      obtain ⟨i, hf, _⟩ := fairI_find (List.mem_of_getElem? hx)
      have hb := findR_N hf
      have h2 := two_of hO hf hb
      have hW := (hW.step g2).stepM gg nin
      have htake := take_snoc hx
      have hlen : (oweN s ((fairI s zs).take n)).length ≤ 40 := by
        have l1 := len_oweN s ((fairI s zs).take n)
        have l2 := List.length_take_le n (fairI s zs)
        have l3 : ((fairI s zs).take n).length ≤ (fairI s zs).length := by rw [List.length_take]; omega
        omega
      dsimp only [gName, List.set]
      refine seqI ((ea_cons (ev_fst (e_rowat (K := K) (evv_var rfl) hW hO (ev_var rfl (.int x)) hf hb (j := 0) rfl (by omega))) (ea_cons (e_holder (evv_var rfl) hW hO (ev_var rfl (.int x)) hf hb) (ea_cons (e_amount (evv_var rfl) hW hO (ev_var rfl (.int x)) hf hb) ea_nil))) G3 H3 (.refl hW.sb) _ fun vs G4 H4 g4 xs => ?_)
      obtain ⟨u1, u2, u3, rfl, y1, y2, y3⟩ := dxs3 xs
      obtain rfl := y1.str_eq
      obtain rfl := y2.str_eq
      obtain rfl := y3.int_eq
      refine ⟨_, _, _, rfl, ?_⟩
      dsimp only [List.set]
      have hd4 := sb_of g4 _ _ hd3
      have hn4 := g4.n d _ hd3 hn3
      have e0 : oweN s ((fairI s zs).take (n + 1)) = stepO s (oweN s ((fairI s zs).take n)) x := by rw [htake, oweN_snoc]
      refine s_if (b := !decide ((p0 (bilN s x)).1 = (bilN s x).keeper)) (et_test (ev_op (ev_var rfl (.str (p0 (bilN s x)).1)) (ev_var rfl (.str (bilN s x).keeper)) rd_neS)) g4.s (fun hb' G5 H5 g5 => ?_) (fun hb' G5 H5 g5 => ?_)
      · have hne : ¬ (p0 (bilN s x)).1 = (bilN s x).keeper := by simpa using hb'
        have e1 : stepO s (oweN s ((fairI s zs).take n)) x = _ := if_neg hne
        refine q_asg (ev_tup (ea_cons (ev_var rfl (.str (p0 (bilN s x)).1)) (ea_cons (ev_var rfl (.str (bilN s x).keeper)) ea_nil)) (by show 2 ≤ 100000; decide)) g5.s fun v G6 H6 g6 h_pair => ?_
        have hd6 := sb_of (g5.trans g6) _ _ hd4
        have hn6 := (g5.trans g6).n d _ hd4 hn4
        refine s_dputT (k := ((p0 (bilN s x)).1, (bilN s x).keeper)) rfl hd6 hn6 (by omega) g6.s (ev_op (ev_dget2 (k := ((p0 (bilN s x)).1, (bilN s x).keeper)) rfl hd6 (ev_var rfl h_pair)) (ev_var rfl (.int (bilN s x).amount)) rd_add) (ev_var rfl h_pair) fun G7 H7 g7 hd7 hn7 => ?_
        refine ⟨G7, ((gg.trans (g4.trans (g5.trans g6)).any).trans g7), ⟨_, _, _, _, _, rfl⟩, ?_, hn7⟩
        rw [e0, e1]
        exact hd7
      · have heq : (p0 (bilN s x)).1 = (bilN s x).keeper := by simpa using hb'
        have e1 : stepO s (oweN s ((fairI s zs).take n)) x = _ := if_pos heq
        refine nxI ⟨G5, gg.trans (g4.trans g5).any, ⟨_, _, _, _, _, rfl⟩, ?_, g5.n d _ hd4 hn4⟩
        rw [e0, e1]
        exact sb_of g5 _ _ hd4
    · obtain ⟨⟨v3, v4, v5, v6, v7, rfl⟩, hd3, hn3⟩ := I
      rw [List.length_map, List.take_length] at hd3
      have hlen := len_oweN s (fairI s zs)
      let vf : Nat → PyData := fun k => match (oweN s (fairI s zs))[k]? with
        | some q => .tuple [.str q.1.1, .str q.1.2, .int q.2]
        | none => .none
      have hvf : given (oweN s (fairI s zs)).length (fun _ => true) vf = encT (entO (oweN s (fairI s zs))) := by
        rw [given_map]
        unfold encT entO
        rw [List.map_map]
        refine List.ext_getElem? fun j => ?_
        rw [List.getElem?_map, List.getElem?_map]
        by_cases hj : j < (oweN s (fairI s zs)).length
        · rw [List.getElem?_range hj, List.getElem?_eq_getElem hj]
          show some (vf j) = _
          simp only [vf, List.getElem?_eq_getElem hj]
          rfl
        · rw [List.getElem?_eq_none (by rw [List.length_range]; omega), List.getElem?_eq_none (by omega)]; rfl
      refine s_retM (ev_sort3 (ev_is (ev_itemsT (m := oweN s (fairI s zs)) vf rfl hd3 hn3 (by omega) (fun _ _ _ => rfl) (fun k z1 z2 c G5 H5 hk2 => ?_)).dat (congrArg PyData.list hvf))) gg.s fun p xs G4 H4 g4 h0 hn hl hx => ?_
      · simp only [vf, hk2]
        exact ev_tup (ea_cons (ev_var rfl (.str z1)) (ea_cons (ev_var rfl (.str z2)) (ea_cons (ev_var rfl (.int c)) ea_nil))) (by show 3 ≤ 100000; decide)
      · have gz : Gr [] G H G4 H4 := ((g1.any.trans gg).drop hd).trans g4
        exact kQ _ (seqE_ok hc) p xs G4 H4 gz (((g1.any.trans gg).drop hd).free h0) hn hl hx

end
end

-- he3.txt
section

local macro_rules | `(tactic| walk_at "arith") => `(tactic| first | omega | decide | (unfold CMul; omega) | (unfold CDiv; omega) | (unfold CPow; decide) | (refine ⟨?_, ?_⟩ <;> omega) | (simp; done) | (simp; omega))
local macro_rules | `(tactic| walk_at "wide") => `(tactic| exact ⟨by decide, by decide +kernel⟩)
section
variable {P : Program} {w : World} {K : PySem.W.Frag} {mg : Str → Option Value} {base : Heap} {A : Ad}
/-! ### sums of payments, the crowd -/
theorem cr_sortedSK {X : Cx} {K : PySem.W.Frag} (h : X.K = K := by rfl) : CallR X (.builtin "sorted") (rSortedS K) := by subst h; exact cr_sortedS
theorem gr_less {G H G' H' : Hp} {p : Addr} (x : Gr [] G H G' H') (hn : G p = none) : Gr [] G H (minus G' p) H' :=
  ⟨fun a o e => by
    have ne : a ≠ p := fun z => by rw [z, hn] at e; cases e
    rw [minus_ne ne]; exact x.g a o e,
   fun a o e => by
    by_cases ne : a = p
    · rw [ne, minus_q] at e; cases e
    · rw [minus_ne ne] at e; exact x.s a o e, x.h, x.t,
   fun a o e e0 => by
    by_cases ne : a = p
    · rw [ne]; exact minus_q
    · rw [minus_ne ne]; exact x.n a o e e0⟩
abbrev T0 : Tri := ("", "", 0)
theorem encT_get {l : List Tri} {i : Nat} {d : PyData} (h : (encT l)[i]? = some d) : ∃ t, l.getD i T0 = t ∧ l[i]? = some t ∧ d = .tuple [.str t.1, .str t.2.1, .int t.2.2] := by
  unfold encT at h
  rw [List.getElem?_map] at h
  obtain ⟨t, ht, rfl⟩ := Option.map_eq_some_iff.mp h
  exact ⟨t, by rw [List.getD_eq_getElem?_getD, ht]; rfl, ht, rfl⟩
theorem len_encT (l : List Tri) : (encT l).length = l.length := by unfold encT; rw [List.length_map]
def paidBy (l : List Tri) (z : Str) : Int := ((l.filter fun t => decide (t.1 = z)).map (·.2.2)).sum
def gotBy (l : List Tri) (z : Str) : Int := ((l.filter fun t => decide (t.2.1 = z)).map (·.2.2)).sum
def payOf (l : List Tri) (zs : List Str) : List Tri := l.filter fun t => decide (t.1 ∈ zs)
abbrev aTS : List Tri × Str → List PyData := fun x => [.list (encT x.1), .str x.2]
abbrev spPaid : Sp := SpD (α := List Tri × Str) aTS (fun x => x.1.length ≤ 1000) (fun x => .int (paidBy x.1 x.2))
abbrev spGot : Sp := SpD (α := List Tri × Str) aTS (fun x => x.1.length ≤ 1000) (fun x => .int (gotBy x.1 x.2))
abbrev spPayOf : Sp := SpM (α := List Tri × List Str) (fun x => [.list (encT x.1), .list (x.2.map .str)]) (fun x => x.1.length ≤ 1000) (fun x => encT (payOf x.1 x.2))
theorem ok_paid_by (T : Txt K mg A) : FnOk P w K mg base CX0 1 A.a_paid_by A.d_paid_by ["payments", "payer"] spPaid := by
  refine T.F_paid_by.ok sc_paid_by (fun vs H Q E h => ?_) (fun cdv A' outer st H vs Q E hr h => ?_)
  · obtain ⟨G, x, _, hx, _⟩ := h
    exact hx.len
  · obtain ⟨G, ⟨l, z⟩, s0, hx, hl, k⟩ := h
    obtain ⟨v0, v1, rfl, h_payments, x1⟩ := dxs2 hx
    obtain rfl := x1.str_eq
    simp only at hl
    refine ⟨_, (pss_one (ps_ret (pe_callB (cr_sumK (K := K) rfl) (by rfl) T.b.sum (by decide +kernel) (pa_cons (pe_lc (own := [("giver", 2), ("taker", 3), ("coins", 4)]) (g := gTup K 3 (gCons (gName 2) (gCons (gName 3) (gCons (gName 4) (gNil))))) rfl sc_paid_by.nd (pi_list (pv 0)) (blkOk_by (own := [("giver", 2), ("taker", 3), ("coins", 4)]) (N := N_paid_by) (sc := defScope s_paid_by) (by decide +kernel)) (fun _ _ _ _ _ => (pg_tup (by rfl) (pgs_cons (pg_name (i := 2) sc_paid_by.nd rfl (Or.inl rfl)) (pgs_cons (pg_name (i := 3) sc_paid_by.nd rfl (Or.inl rfl)) (pgs_cons (pg_name (i := 4) sc_paid_by.nd rfl (Or.inl rfl)) pgs_nil))))) (fun _ _ _ _ _ => by exact pts_one (pt_cmpR op_eq (pv 2) (pv 1) (nomark _))) (fun _ _ _ _ _ => by exact (pv 4))) pa_nil)))), ?_⟩
    have e : given (encT l).length (fun i => decide ((l.getD i T0).1 = z)) (fun i => PyData.int (l.getD i T0).2.2) = ((l.filter fun t => decide (t.1 = z)).map (·.2.2)).map .int := by
      rw [len_encT, given_list l T0 (fun t => decide (t.1 = z)) (fun t => PyData.int t.2.2), List.map_map]; rfl
    refine s_ret (ev_cb (ea_cons (ev_is (ev_lcL (fun i => decide ((l.getD i T0).1 = z)) (fun i => PyData.int (l.getD i T0).2.2) (ev_var rfl h_payments) (by show (encT l).length ≤ 40000; rw [len_encT]; omega) (fun i d x G1 H1 H' Q' gg hd hxx s1 q => by
      obtain ⟨t, e1, _, rfl⟩ := encT_get hd
      rw [e1] at q
      refine g_nnn hxx s1 fun u1 u2 u3 y1 y2 y3 => ?_
      obtain rfl := y1.str_eq
      obtain rfl := y2.str_eq
      obtain rfl := y3.int_eq
      exact q _ rfl (et_test (ev_op (ev_var rfl (.str t.1)) (ev_var rfl (.str z)) rd_eqS)) (fun _ => ev_var rfl (.int t.2.2)))).dat (congrArg PyData.list e)) ea_nil) cd_sum) s0 k
theorem ok_got_by (T : Txt K mg A) : FnOk P w K mg base CX0 1 A.a_got_by A.d_got_by ["payments", "taker"] spGot := by
  refine T.F_got_by.ok sc_got_by (fun vs H Q E h => ?_) (fun cdv A' outer st H vs Q E hr h => ?_)
  · obtain ⟨G, x, _, hx, _⟩ := h
    exact hx.len
  · obtain ⟨G, ⟨l, z⟩, s0, hx, hl, k⟩ := h
    obtain ⟨v0, v1, rfl, h_payments, x1⟩ := dxs2 hx
    obtain rfl := x1.str_eq
    simp only at hl
    refine ⟨_, (pss_one (ps_ret (pe_callB (cr_sumK (K := K) rfl) (by rfl) T.b.sum (by decide +kernel) (pa_cons (pe_lc (own := [("payer", 2), ("getter", 3), ("coins", 4)]) (g := gTup K 3 (gCons (gName 2) (gCons (gName 3) (gCons (gName 4) (gNil))))) rfl sc_got_by.nd (pi_list (pv 0)) (blkOk_by (own := [("payer", 2), ("getter", 3), ("coins", 4)]) (N := N_got_by) (sc := defScope s_got_by) (by decide +kernel)) (fun _ _ _ _ _ => (pg_tup (by rfl) (pgs_cons (pg_name (i := 2) sc_got_by.nd rfl (Or.inl rfl)) (pgs_cons (pg_name (i := 3) sc_got_by.nd rfl (Or.inl rfl)) (pgs_cons (pg_name (i := 4) sc_got_by.nd rfl (Or.inl rfl)) pgs_nil))))) (fun _ _ _ _ _ => by exact pts_one (pt_cmpR op_eq (pv 3) (pv 1) (nomark _))) (fun _ _ _ _ _ => by exact (pv 4))) pa_nil)))), ?_⟩
    have e : given (encT l).length (fun i => decide ((l.getD i T0).2.1 = z)) (fun i => PyData.int (l.getD i T0).2.2) = ((l.filter fun t => decide (t.2.1 = z)).map (·.2.2)).map .int := by
      rw [len_encT, given_list l T0 (fun t => decide (t.2.1 = z)) (fun t => PyData.int t.2.2), List.map_map]; rfl
    refine s_ret (ev_cb (ea_cons (ev_is (ev_lcL (fun i => decide ((l.getD i T0).2.1 = z)) (fun i => PyData.int (l.getD i T0).2.2) (ev_var rfl h_payments) (by show (encT l).length ≤ 40000; rw [len_encT]; omega) (fun i d x G1 H1 H' Q' gg hd hxx s1 q => by
      obtain ⟨t, e1, _, rfl⟩ := encT_get hd
      rw [e1] at q
      refine g_nnn hxx s1 fun u1 u2 u3 y1 y2 y3 => ?_
      obtain rfl := y1.str_eq
      obtain rfl := y2.str_eq
      obtain rfl := y3.int_eq
      exact q _ rfl (et_test (ev_op (ev_var rfl (.str t.2.1)) (ev_var rfl (.str z)) rd_eqS)) (fun _ => ev_var rfl (.int t.2.2)))).dat (congrArg PyData.list e)) ea_nil) cd_sum) s0 k
theorem ok_payments_of (T : Txt K mg A) : FnOk P w K mg base CX0 1 A.a_payments_of A.d_payments_of ["owed", "payers"] spPayOf := by
  refine T.F_payments_of.ok sc_payments_of (fun vs H Q E h => ?_) (fun cdv A' outer st H vs Q E hr h => ?_)
  · obtain ⟨G, x, _, hx, _⟩ := h
    exact hx.len
  · obtain ⟨G, ⟨l, zs⟩, s0, hx, hl, k⟩ := h
    obtain ⟨v0, v1, rfl, h_owed, h_payers⟩ := dxs2 hx
    simp only at hl
    refine ⟨_, (pss_one (ps_ret (pe_lc (own := [("debt", 2)]) (g := gName 2) rfl sc_payments_of.nd (pi_list (pv 0)) (blkOk_by (own := [("debt", 2)]) (N := N_payments_of) (sc := defScope s_payments_of) (by decide +kernel)) (fun _ _ _ _ _ => (pg_name (i := 2) sc_payments_of.nd rfl (Or.inl rfl))) (fun _ _ _ _ _ => by exact pts_one (pt_cmpR (op_inK (K := K)) (pe_ix (ix_tupK (K := K)) (pv 2) pe_int (fun _ _ => rfl)) (pv 1) rfl)) (fun _ _ _ _ _ => by exact (pv 2))))), ?_⟩
    have e : given (encT l).length (fun i => decide ((l.getD i T0).1 ∈ zs)) (fun i => PyData.tuple [.str (l.getD i T0).1, .str (l.getD i T0).2.1, .int (l.getD i T0).2.2]) = encT (payOf l zs) := by
      rw [len_encT, given_list l T0 (fun t => decide (t.1 ∈ zs)) (fun t => PyData.tuple [.str t.1, .str t.2.1, .int t.2.2])]; rfl
    refine s_retM (evm_is (ev_lcLn (fun i => decide ((l.getD i T0).1 ∈ zs)) (fun i => PyData.tuple [.str (l.getD i T0).1, .str (l.getD i T0).2.1, .int (l.getD i T0).2.2]) (ev_var rfl h_owed) (by show (encT l).length ≤ 40000; rw [len_encT]; omega) (fun _ => rfl) (fun i d x G1 H1 gg hd hxx => by
      obtain ⟨t, e1, _, rfl⟩ := encT_get hd
      rw [e1]
      exact et_test (ev_inS (neg := false) (ev_op (ev_var rfl hxx) ev_int (rd_ixT (atI_nat (j := 0) rfl))) (ev_var rfl (h_payers.mono gg.g)))) (fun i d x G1 H1 gg hd hxx _ => by
      obtain ⟨t, e1, _, rfl⟩ := encT_get hd
      rw [e1]
      exact ev_var rfl hxx)) e) s0 k
theorem nodup_len {α : Type} [DecidableEq α] : ∀ {l m : List α}, l.Nodup → (∀ x ∈ l, x ∈ m) → l.length ≤ m.length
  | [], _, _, _ => Nat.zero_le _
  | x :: l, m, h, k => by
    rw [List.nodup_cons] at h
    have hx := k x (by simp)
    have ih := nodup_len (l := l) (m := m.erase x) h.2 fun y hy => (List.mem_erase_of_ne (fun z => h.1 (by rw [← z]; exact hy))).mpr (k y (by simp [hy]))
    rw [List.length_erase_of_mem hx] at ih
    have := List.length_pos_of_mem hx
    show l.length + 1 ≤ _
    omega
def ableL (s : Hl) (o : List Tri) (l : List Str) : List Str := l.filter fun z => canB s z (paidBy o z - gotBy (payOf o l) z)
def crowdGo (s : Hl) (o : List Tri) : Nat → List Str → List Str
  | 0, l => l
  | n + 1, l => if ableL s o l = l then l else crowdGo s o n (ableL s o l)
def crowdL (s : Hl) (zs : List Str) : List Str := crowdGo s (debtsL s zs) zs.length (srt zs)
def crowdR (s : Hl) (zs : List Str) : Except Kd (List PyData) := seqE (checkN s zs) fun _ => .ok ((crowdL s zs).map .str)
theorem able_sub {s : Hl} {o : List Tri} {l : List Str} : ∀ z ∈ ableL s o l, z ∈ l := fun z h => (List.mem_filter.mp h).1
theorem able_lt {s : Hl} {o : List Tri} {l : List Str} (h : ableL s o l ≠ l) : (ableL s o l).length < l.length := by
  have h1 := List.length_filter_le (fun z => canB s z (paidBy o z - gotBy (payOf o l) z)) l
  rcases Nat.lt_or_ge (ableL s o l).length l.length with h2 | h2
  · exact h2
  · exact (h (List.Sublist.eq_of_length List.filter_sublist (Nat.le_antisymm h1 h2))).elim
theorem canLay_S {zs : List Str} (h : ∀ z ∈ zs, Sm z) : PyData.canLayAll0 (zs.map .str) = true ∧ PyData.depthAll (zs.map .str) ≤ 4 := by
  induction zs with
  | nil => exact ⟨rfl, by show PyData.depthAll [] ≤ 4; unfold PyData.depthAll; omega⟩
  | cons z zs ih =>
    obtain ⟨a, b⟩ := ih fun x hx => h x (by simp [hx])
    have h1 : PyData.strOk z = true := (h z (by simp)).ok
    refine ⟨?_, ?_⟩
    · rw [List.map_cons, PyData.canLayAll0, a]; simp [PyData.canLay0, h1]
    · rw [List.map_cons]
      simp only [PyData.depthAll, PyData.depth]
      omega
theorem shaped_strs {zs : List Str} (h : ∀ z ∈ zs, Sm z) : SeqAt.shaped (.list (zs.map .str)) = true := by
  obtain ⟨h3, h4⟩ := canLay_S h
  unfold SeqAt.shaped
  rw [Bool.and_eq_true]
  refine ⟨by rw [PyData.canLay0]; exact h3, decide_eq_true ?_⟩
  simp only [PyData.depth]
  omega
theorem eqv_strs : ∀ l m : List Str, PyData.eqvAll (l.map .str) (m.map .str) = decide (l = m)
  | [], [] => by simp [PyData.eqvAll]
  | [], _ :: _ => by simp [PyData.eqvAll]
  | _ :: _, [] => by simp [PyData.eqvAll]
  | x :: l, y :: m => by
    have ih := eqv_strs l m
    rw [List.map_cons, List.map_cons, PyData.eqvAll, ih]
    have e : PyData.eqv (PyData.str x) (PyData.str y) = decide (x = y) := by simp [PyData.eqv]; rfl
    rw [e]
    by_cases h : x = y
    · subst h; simp
    · simp [h]
theorem eqv_lstr (l m : List Str) : PyData.eqv (.list (l.map .str)) (.list (m.map .str)) = decide (l = m) := by
  rw [← eqv_strs]; simp [PyData.eqv]
theorem debts_len {s : Hl} {zs : List Str} (o : Ok s) : (debtsL s zs).length ≤ 40 := by
  have h1 := len_oweN s (fairI s zs)
  have h2 := fairI_len (s := s) (zs := zs)
  have h3 := o.b
  unfold debtsL sort3 entO
  rw [List.length_mergeSort, List.length_map]
  omega
theorem ok_crowd {B : Bd} (T : Txt K mg A) (U : Ux K mg B) : FnOk P w K mg base (L2.CX P w) 6 A.a_crowd A.d_crowd ["hall", "names"] (spQM B crowdR aL) := by
  have G_debts := ok_debts (P := P) (w := w) (base := base) T U
  have G_payments_of := ok_payments_of (P := P) (w := w) (base := base) T
  have G_paid_by := ok_paid_by (P := P) (w := w) (base := base) T
  have G_got_by := ok_got_by (P := P) (w := w) (base := base) T
  have G_Hcanpay := ok_Hcanpay (P := P) (w := w) (base := base) T U
  refine T.F_crowd.okX sc_crowd (fun vs H Q E h => lenQM (n := 1) (fun _ => rfl) h) (fun cdv A' outer st H vs Q E hr h => ?_)
  obtain ⟨G, a, s, zs, us, rfl, hx, hW, hO, kE, kQ⟩ := h
  obtain ⟨v1, rfl, h_names⟩ := dxs1 hx
  refine ⟨_, (pss_cons (ps_set (i := 2) sc_crowd.nd rfl (Or.inr rfl) (pe_call G_debts (hr.mono (by omega)) (by rfl) T.m_debts T.F_debts.kp T.b_debts .nil (passes_call (takes_of rfl rfl rfl rfl) fun _ _ _ _ z => z) (pa_cons (pv 0) (pa_cons (pv 1) pa_nil))))
      (pss_cons (ps_set (i := 3) sc_crowd.nd rfl (Or.inl rfl) (pe_callB (cr_sortedSK (K := K)) (by rfl) T.b.sorted (by decide +kernel) (pa_cons (pv 1) pa_nil)))
      (pss_one (ps_while (passes_of rfl) (pt_val pe_bl)
      (pss_cons (ps_set (i := 4) sc_crowd.nd rfl (Or.inr rfl) (pe_call G_payments_of (hr.mono (by omega)) (by rfl) T.m_payments_of T.F_payments_of.kp T.b_payments_of .nil pass0 (pa_cons (pv 2) (pa_cons (pv 3) pa_nil))))
      (pss_cons (ps_setLc (i := 5) (own := [("name", 6)]) (g := gName 6) rfl sc_crowd.nd rfl rfl (sw_true rfl rfl rfl (by decide +kernel)) (pi_list (pv 3)) (blkOk_by (own := [("name", 6)]) (N := N_crowd) (sc := defScope s_crowd) (by decide +kernel)) (fun _ _ _ _ _ => (pg_name (i := 6) sc_crowd.nd rfl (Or.inl rfl))) (fun _ _ _ _ _ => by exact pts_one (pt_val (pe_meth (pv 0) U.cl_Hall U.m_Hcanpay G_Hcanpay (hr.mono (by omega)) U.b_Hcanpay .nil passL (by exact (pa_cons (pv 6) (pa_cons (pe_op op_sub (pe_call G_paid_by (hr.mono (by omega)) (by rfl) T.m_paid_by T.F_paid_by.kp T.b_paid_by .nil pass0 (pa_cons (pv 2) (pa_cons (pv 6) pa_nil))) (pe_call G_got_by (hr.mono (by omega)) (by rfl) T.m_got_by T.F_got_by.kp T.b_got_by .nil pass0 (pa_cons (pv 4) (pa_cons (pv 6) pa_nil)))) pa_nil)))))) (fun _ _ _ _ _ => by exact (pv 6)))
      (pss_cons (ps_if (pt_cmpR (op_eqDK (K := K) hr.units) (pv 5) (pv 3) (nomark _))
      (pss_one (ps_ret (pv 3)))
      pss_nil)
      (pss_one (ps_set (i := 3) sc_crowd.nd rfl (Or.inl rfl) (pv 5)))))))))), ?_⟩
  have sb0 := hW.sb
  cases hc : checkN s zs with
  | error k =>
    have hk : debtsR s zs = .error k := seqE_err hc
    exact seqI ((xm_call (f := debtsR) (args := aL) zs (evv_var rfl) hW hO (ea_cons (ev_var rfl h_names) ea_nil)).dat.err hW.sb (k := k) (by rw [hk]; rfl) (fun G2 H2 g2 => kE k (seqE_err hc) G2 H2 g2) _)
  | ok dd =>
    have hk : debtsR s zs = .ok (encT (debtsL s zs)) := seqE_ok hc
    obtain ⟨hall, hnd⟩ := checkN_ok hc
    have hz9 : zs.length ≤ 9 := by
      have h2 := nodup_len hnd fun z hz => mem_nms.mpr (hall z hz)
      have h3 := hO.m
      unfold nms at h2
      rw [List.length_map] at h2
      omega
    have hdl := debts_len (zs := zs) hO
    refine q_asg ((xm_call (f := debtsR) (args := aL) zs (evv_var rfl) hW hO (ea_cons (ev_var rfl h_names) ea_nil)).ok hk).dat hW.sb fun v2 G1 H1 g1 h_owed => ?_
    have hW := hW.step g1
    have h_names := h_names.mono g1.g
    refine q_asgM (ev_sortS (ev_var rfl h_names) (by omega)) hW.sb fun p3 xs3 G2 H2 g2 p30 p3n hl3 hx3 => ?_
    have hx3 := hx3.strs_eq
    subst hx3
    have hcr : crowdL s zs = crowdGo s (debtsL s zs) zs.length (srt zs) := rfl
    have hsz := len_srt zs
    have gF := g2.freeze hl3 p3n p30
    have hW := hW.step gF
    have h_owed := h_owed.mono gF.g
    have h_left : Dx (upd G2 p3 (.lst ((srt zs).map V.str))) (.ref p3) (.list ((srt zs).map .str)) := .lst upd_same (dxs_strs _)
    have p3H : H p3 = none := g1.free p30
    have gA := g1.trans gF
    generalize upd G2 p3 (.lst ((srt zs).map V.str)) = G2 at gF hW h_owed h_left gA
    -- the loop
    let Wm : Nat → L2.St → Hp → Prop := fun m σ' H' => ∃ (G' : Hp) (l : List Str) (p3 : Addr) (v4 v5 v6 : Option V), Gr [] G2 H2 G' H' ∧ σ' = [some (.ref a.h), some v1, some v2, some (.ref p3), v4, v5, v6] ∧ Dx G' (.ref p3) (.list (l.map .str)) ∧ H p3 = none ∧ l.length ≤ m ∧ l.length ≤ 9 ∧ (∀ z ∈ l, z ∈ zs) ∧ crowdGo s (debtsL s zs) m l = crowdL s zs
    refine ⟨Wm, ⟨zs.length, G2, srt zs, p3, _, _, _, .refl hW.sb, rfl, h_left, p3H, by omega, by omega, fun z hz => mem_srt.mp hz, hcr.symm⟩, fun m σ' H' hw => ?_⟩
    obtain ⟨G3, l, p3, v4, v5, v6, g3, rfl, h_left, p3H, hlm, hl9, hsub, hgo⟩ := hw
    refine ⟨true, rfl, iteT ⟨fun σ2 H2' => ∃ m', m' < m ∧ Wm m' σ2 H2', fun _ _ h => h, ?_⟩⟩
    have hW := hW.step g3
    have h_owed := h_owed.mono g3.g
    refine q_asg (ev_callM (fl := fun x => encT (payOf x.1 x.2)) (debtsL s zs, l) (ea_cons (ev_var rfl h_owed) (ea_cons (ev_var rfl h_left) ea_nil)) (by show (debtsL s zs).length ≤ 1000; omega)).dat hW.sb fun v4' G4 H4 g4 h_coming => ?_
    have hW := hW.step g4
    have h_owed := h_owed.mono g4.g
    have h_left := h_left.mono g4.g
    have hpl : (payOf (debtsL s zs) l).length ≤ 1000 := Nat.le_trans (List.length_filter_le _ _) (by omega)
    have hsm : ∀ z ∈ l, Sm z := fun z hz => hO.sm z (mem_nms.mpr (hall z (hsub z hz)))
    have e : given (l.map PyData.str).length (fun i => canB s (l.getD i "") (paidBy (debtsL s zs) (l.getD i "") - gotBy (payOf (debtsL s zs) l) (l.getD i ""))) (fun i => PyData.str (l.getD i "")) = (ableL s (debtsL s zs) l).map .str := by
      rw [List.length_map, given_list l "" (fun z => canB s z (paidBy (debtsL s zs) z - gotBy (payOf (debtsL s zs) l) z)) (fun z => PyData.str z)]; rfl
    have lget : ∀ {i : Nat} {d : PyData}, (l.map PyData.str)[i]? = some d → ∃ z, l.getD i "" = z ∧ z ∈ l ∧ d = .str z := fun {i d} h => by
      rw [List.getElem?_map] at h
      obtain ⟨z, hz, rfl⟩ := Option.map_eq_some_iff.mp h
      exact ⟨z, by rw [List.getD_eq_getElem?_getD, hz]; rfl, List.mem_of_getElem? hz, rfl⟩
    refine q_asgM (evm_is (ev_lcLn (fun i => canB s (l.getD i "") (paidBy (debtsL s zs) (l.getD i "") - gotBy (payOf (debtsL s zs) l) (l.getD i ""))) (fun i => PyData.str (l.getD i "")) (ev_var rfl h_left) (by rw [List.length_map]; omega) (fun _ => rfl) (fun i d x G5 H5 g5 hd hxx => by
      obtain ⟨z, e1, hz, rfl⟩ := lget hd
      rw [e1]
      obtain rfl := hxx.str_eq
      exact et_B ((x_meth (f := canR) (args := aSI) (z, paidBy (debtsL s zs) z - gotBy (payOf (debtsL s zs) l) z) (evv_var rfl) (hW.step g5) hO (ea_cons (ev_var rfl (.str z)) (ea_cons (ev_op (ev_call (f := fun x => .int (paidBy x.1 x.2)) (debtsL s zs, z) (ea_cons (ev_var rfl (h_owed.mono g5.g)) (ea_cons (ev_var rfl (.str z)) ea_nil)) (by show (debtsL s zs).length ≤ 1000; omega)) (ev_call (f := fun x => .int (gotBy x.1 x.2)) (payOf (debtsL s zs) l, z) (ea_cons (ev_var rfl (h_coming.mono g5.g)) (ea_cons (ev_var rfl (.str z)) ea_nil)) hpl) rd_sub) ea_nil))).ok (if_pos (hall z (hsub z hz))))) (fun i d x G5 H5 g5 hd hxx _ => by
      obtain ⟨z, e1, hz, rfl⟩ := lget hd
      rw [e1]
      exact ev_var rfl hxx)) e) hW.sb fun p5 xs5 G5 H5 g5 p50 p5n hl5 hx5 => ?_
    have hx5 := hx5.strs_eq
    subst hx5
    have gF5 := g5.freeze hl5 p5n p50
    have hW := hW.step gF5
    have h_left := h_left.mono gF5.g
    have h_able : Dx (upd G5 p5 (.lst ((ableL s (debtsL s zs) l).map V.str))) (.ref p5) (.list ((ableL s (debtsL s zs) l).map .str)) := .lst upd_same (dxs_strs _)
    have gB : Gr [] G2 H2 (upd G5 p5 (.lst ((ableL s (debtsL s zs) l).map V.str))) H5 := (g3.trans g4).trans gF5
    generalize upd G5 p5 (.lst ((ableL s (debtsL s zs) l).map V.str)) = G5 at gF5 hW h_left h_able gB
    refine q_when (b := decide (ableL s (debtsL s zs) l = l)) (evt_is (et_test (ev_op (ev_var rfl h_able) (ev_var rfl h_left) (rd_eqD (shaped_strs fun z hz => hsm z (able_sub z hz)) (shaped_strs hsm)))) (eqv_lstr _ _)) hW.sb (fun hb G6 H6 g6 => ?_) (fun hb G6 H6 g6 => ?_)
    · have hfix := of_decide_eq_true hb
      have hres : crowdL s zs = l := by
        rw [← hgo]
        cases m with
        | zero => rfl
        | succ m => show (if ableL s (debtsL s zs) l = l then l else _) = l; rw [if_pos hfix]
      have gE := gA.trans (gB.trans g6)
      have h_left := h_left.mono g6.g
      refine retI ⟨_, rfl, ?_⟩
      obtain ⟨a3, xs, ea, ha, hxs⟩ := h_left.lst_eq
      cases ea
      have hxs := hxs.strs_eq
      subst hxs
      have pn : G p3 = none := sb0.none p3H
      exact kQ _ (seqE_ok hc) p3 (l.map V.str) (minus G6 p3) H6 (gr_less gE pn) p3H minus_q (g6.s _ _ ha) (by rw [hres]; exact dxs_strs _)
    · have hne := of_decide_eq_false hb
      have h1 := able_lt hne
      obtain ⟨m', rfl⟩ : ∃ m', m = m' + 1 := ⟨m - 1, by omega⟩
      have p5H : H p5 = none := (gA.trans (g3.trans g4)).free p50
      have hgo' : crowdGo s (debtsL s zs) m' (ableL s (debtsL s zs) l) = crowdL s zs := by
        rw [← hgo]; show _ = (if ableL s (debtsL s zs) l = l then l else _); rw [if_neg hne]
      have h_able := h_able.mono g6.g
      refine evv_var rfl G6 H6 (.refl g6.s) _ fun G7 H7 g7 => ?_
      exact ⟨m', by omega, G7, ableL s (debtsL s zs) l, p5, _, _, _, gB.trans (g6.trans g7), rfl, h_able.mono g7.g, p5H, by omega, by omega, fun z hz => hsub z (able_sub z hz), hgo'⟩

end
end

-- he4.txt
section

local macro_rules | `(tactic| walk_at "arith") => `(tactic| first | omega | decide | (unfold CMul; omega) | (unfold CDiv; omega) | (unfold CPow; decide) | (refine ⟨?_, ?_⟩ <;> omega) | (simp; done) | (simp; omega))
local macro_rules | `(tactic| walk_at "wide") => `(tactic| exact ⟨by decide, by decide +kernel⟩)
section
variable {P : Program} {w : World} {K : PySem.W.Frag} {mg : Str → Option Value} {base : Heap} {A : Ad}
/-! ### nets, the bills that are paid -/
def netOf (s : Hl) (zs : List Str) (z : Str) : Int := gotBy (payOf (debtsL s zs) (crowdL s zs)) z - paidBy (payOf (debtsL s zs) (crowdL s zs)) z
def netsD (s : Hl) (zs : List Str) (z : Str) : PyData := .tuple [.str z, .int (netOf s zs z)]
def netsR (s : Hl) (zs : List Str) : Except Kd (List PyData) := seqE (checkN s zs) fun _ => .ok ((srt zs).map (netsD s zs))
def paidL (s : Hl) (zs : List Str) : List Int := (fairI s zs).filter fun n => decide ((p0 (bilN s n)).1 ∈ crowdL s zs) || decide ((p0 (bilN s n)).1 = (bilN s n).keeper)
def paidR (s : Hl) (zs : List Str) : Except Kd (List PyData) := seqE (checkN s zs) fun _ => .ok ((paidL s zs).map .int)
theorem names_le {s : Hl} {zs : List Str} {d : PyData} (o : Ok s) (h : checkN s zs = .ok d) : zs.length ≤ 9 := by
  obtain ⟨hall, hnd⟩ := checkN_ok h
  have h2 := nodup_len hnd fun z hz => mem_nms.mpr (hall z hz)
  have h3 := o.m
  unfold nms at h2
  rw [List.length_map] at h2
  omega
theorem ok_nets {B : Bd} (T : Txt K mg A) (U : Ux K mg B) : FnOk P w K mg base (L2.CX P w) 7 A.a_nets A.d_nets ["hall", "names"] (spQM B netsR aL) := by
  have G_debts := ok_debts (P := P) (w := w) (base := base) T U
  have G_crowd := ok_crowd (P := P) (w := w) (base := base) T U
  have G_payments_of := ok_payments_of (P := P) (w := w) (base := base) T
  have G_paid_by := ok_paid_by (P := P) (w := w) (base := base) T
  have G_got_by := ok_got_by (P := P) (w := w) (base := base) T
  refine T.F_nets.okX sc_nets (fun vs H Q E h => lenQM (n := 1) (fun _ => rfl) h) (fun cdv A' outer st H vs Q E hr h => ?_)
  obtain ⟨G, a, s, zs, us, rfl, hx, hW, hO, kE, kQ⟩ := h
  obtain ⟨v1, rfl, h_names⟩ := dxs1 hx
  refine ⟨_, (pss_cons (ps_set (i := 2) sc_nets.nd rfl (Or.inr rfl) (pe_call G_payments_of (hr.mono (by omega)) (by rfl) T.m_payments_of T.F_payments_of.kp T.b_payments_of .nil pass0 (pa_cons (pe_call G_debts (hr.mono (by omega)) (by rfl) T.m_debts T.F_debts.kp T.b_debts .nil (passes_call (takes_of rfl rfl rfl rfl) fun _ _ _ _ z => z) (pa_cons (pv 0) (pa_cons (pv 1) pa_nil))) (pa_cons (pe_call G_crowd (hr.mono (by omega)) (by rfl) T.m_crowd T.F_crowd.kp T.b_crowd .nil (passes_call (takes_of rfl rfl rfl rfl) fun _ _ _ _ z => z) (pa_cons (pv 0) (pa_cons (pv 1) pa_nil))) pa_nil))))
      (pss_one (ps_ret (pe_lc (own := [("name", 3)]) (g := gName 3) rfl sc_nets.nd (pi_list (pe_callB (cr_sortedSK (K := K)) (by rfl) T.b.sorted (by decide +kernel) (pa_cons (pv 1) pa_nil))) (blkOk_by (own := [("name", 3)]) (N := N_nets) (sc := defScope s_nets) (by decide +kernel)) (fun _ _ _ _ _ => (pg_name (i := 3) sc_nets.nd rfl (Or.inl rfl))) (fun _ _ _ _ _ => pts_nil) (fun _ _ _ _ _ => by exact (pe_tup (pa_cons (pv 3) (pa_cons (pe_op op_sub (pe_call G_got_by (hr.mono (by omega)) (by rfl) T.m_got_by T.F_got_by.kp T.b_got_by .nil pass0 (pa_cons (pv 2) (pa_cons (pv 3) pa_nil))) (pe_call G_paid_by (hr.mono (by omega)) (by rfl) T.m_paid_by T.F_paid_by.kp T.b_paid_by .nil pass0 (pa_cons (pv 2) (pa_cons (pv 3) pa_nil)))) pa_nil)))))))), ?_⟩
  cases hc : checkN s zs with
  | error k =>
    have hk : debtsR s zs = .error k := seqE_err hc
    exact seqI ((xm_call (f := debtsR) (args := aL) zs (evv_var rfl) hW hO (ea_cons (ev_var rfl h_names) ea_nil)).dat.err hW.sb (k := k) (by rw [hk]; rfl) (fun G2 H2 g2 => kE k (seqE_err hc) G2 H2 g2) _)
  | ok dd =>
    have hk : debtsR s zs = .ok (encT (debtsL s zs)) := seqE_ok hc
    have hk2 : crowdR s zs = .ok ((crowdL s zs).map .str) := seqE_ok hc
    have hz9 := names_le hO hc
    have hdl := debts_len (zs := zs) hO
    have hpl : (payOf (debtsL s zs) (crowdL s zs)).length ≤ 1000 := Nat.le_trans (List.length_filter_le _ _) (by omega)
    have hsz := len_srt zs
    refine q_asg (ev_callM (fl := fun x => encT (payOf x.1 x.2)) (debtsL s zs, crowdL s zs) (ea_cons ((xm_call (f := debtsR) (args := aL) zs (evv_var rfl) hW hO (ea_cons (ev_var rfl h_names) ea_nil)).ok hk).dat (ea_cons ((xm_call (f := crowdR) (args := aL) zs (evv_var rfl) hW hO (ea_cons (ev_var rfl h_names) ea_nil)).ok hk2).dat ea_nil)) (by show (debtsL s zs).length ≤ 1000; omega)).dat hW.sb fun v2 G1 H1 g1 h_payments => ?_
    have hW := hW.step g1
    have h_names := h_names.mono g1.g
    have e : given ((srt zs).map PyData.str).length (fun i => (fun _ => true) ((srt zs).getD i "")) (fun i => netsD s zs ((srt zs).getD i "")) = (srt zs).map (netsD s zs) := by
      rw [List.length_map, given_list (srt zs) "" (fun _ => true) (netsD s zs), List.filter_eq_self.mpr (fun _ _ => rfl)]
    have lget : ∀ {i : Nat} {d : PyData}, ((srt zs).map PyData.str)[i]? = some d → ∃ z, (srt zs).getD i "" = z ∧ d = .str z := fun {i d} h => by
      rw [List.getElem?_map] at h
      obtain ⟨z, hz, rfl⟩ := Option.map_eq_some_iff.mp h
      exact ⟨z, by rw [List.getD_eq_getElem?_getD, hz]; rfl, rfl⟩
    refine s_retM (evm_is (ev_lcLn (fun _ => true) (fun i => netsD s zs ((srt zs).getD i "")) (ev_sortS (ev_var rfl h_names) (by omega)).dat (by rw [List.length_map]; omega) (fun _ => rfl) (fun i d x G5 H5 g5 hd hxx => et_yes) (fun i d x G5 H5 g5 hd hxx _ => by
      obtain ⟨z, e1, rfl⟩ := lget hd
      rw [e1]
      obtain rfl := hxx.str_eq
      have hp := h_payments.mono g5.g
      exact ev_tup (ea_cons (ev_var rfl (.str z)) (ea_cons (ev_op (ev_call (f := fun x => .int (gotBy x.1 x.2)) (payOf (debtsL s zs) (crowdL s zs), z) (ea_cons (ev_var rfl hp) (ea_cons (ev_var rfl (.str z)) ea_nil)) hpl) (ev_call (f := fun x => .int (paidBy x.1 x.2)) (payOf (debtsL s zs) (crowdL s zs), z) (ea_cons (ev_var rfl hp) (ea_cons (ev_var rfl (.str z)) ea_nil)) hpl) rd_sub) ea_nil)) (by show 2 ≤ 100000; decide))) e) hW.sb fun p xs G4 H4 g4 h0 hn hl hx => kQ _ (seqE_ok hc) p xs G4 H4 (g1.trans g4) (g1.free h0) hn hl hx
theorem ok_paid_bills {B : Bd} (T : Txt K mg A) (U : Ux K mg B) : FnOk P w K mg base (L2.CX P w) 7 A.a_paid_bills A.d_paid_bills ["hall", "names"] (spQM B paidR aL) := by
  have G_crowd := ok_crowd (P := P) (w := w) (base := base) T U
  have G_fair_bills := ok_fair_bills (P := P) (w := w) (base := base) T U
  have G_Hrow := ok_Hrow (P := P) (w := w) (base := base) T U
  have G_Hholder := ok_Hholder (P := P) (w := w) (base := base) T U
  refine T.F_paid_bills.okX sc_paid_bills (fun vs H Q E h => lenQM (n := 1) (fun _ => rfl) h) (fun cdv A' outer st H vs Q E hr h => ?_)
  obtain ⟨G, a, s, zs, us, rfl, hx, hW, hO, kE, kQ⟩ := h
  obtain ⟨v1, rfl, h_names⟩ := dxs1 hx
  refine ⟨_, (pss_cons (ps_set (i := 2) sc_paid_bills.nd rfl (Or.inr rfl) (pe_call G_crowd (hr.mono (by omega)) (by rfl) T.m_crowd T.F_crowd.kp T.b_crowd .nil (passes_call (takes_of rfl rfl rfl rfl) fun _ _ _ _ z => z) (pa_cons (pv 0) (pa_cons (pv 1) pa_nil))))
      (pss_one (ps_ret (pe_lc (own := [("bill", 3)]) (g := gName 3) rfl sc_paid_bills.nd (pi_list (pe_call G_fair_bills (hr.mono (by omega)) (by rfl) T.m_fair_bills T.F_fair_bills.kp T.b_fair_bills .nil (passes_call (takes_of rfl rfl rfl rfl) fun _ _ _ _ z => z) (pa_cons (pv 0) (pa_cons (pv 1) pa_nil)))) (blkOk_by (own := [("bill", 3)]) (N := N_paid_bills) (sc := defScope s_paid_bills) (by decide +kernel)) (fun _ _ _ _ _ => (pg_name (i := 3) sc_paid_bills.nd rfl (Or.inl rfl))) (fun _ _ _ _ _ => by exact pts_one (PW.pt (pw_or (pt_cmpR (op_inK (K := K)) (pe_ix (ix_tupK (K := K)) (pe_ix (ix_listK (K := K)) (pe_meth (pv 0) U.cl_Hall U.m_Hrow G_Hrow (hr.mono (by omega)) U.b_Hrow .nil passL (by exact (pa_cons (pv 3) pa_nil))) pe_int (fun _ _ => rfl)) pe_int (fun _ _ => rfl)) (pv 2) rfl) (pw_or1 (pt_cmpR op_eq (pe_ix (ix_tupK (K := K)) (pe_ix (ix_listK (K := K)) (pe_meth (pv 0) U.cl_Hall U.m_Hrow G_Hrow (hr.mono (by omega)) U.b_Hrow .nil passL (by exact (pa_cons (pv 3) pa_nil))) pe_int (fun _ _ => rfl)) pe_int (fun _ _ => rfl)) (pe_meth (pv 0) U.cl_Hall U.m_Hholder G_Hholder (hr.mono (by omega)) U.b_Hholder .nil passL (by exact (pa_cons (pv 3) pa_nil))) (nomark _)))))) (fun _ _ _ _ _ => by exact (pv 3)))))), ?_⟩
  cases hc : checkN s zs with
  | error k =>
    have hk : crowdR s zs = .error k := seqE_err hc
    exact seqI ((xm_call (f := crowdR) (args := aL) zs (evv_var rfl) hW hO (ea_cons (ev_var rfl h_names) ea_nil)).dat.err hW.sb (k := k) (by rw [hk]; rfl) (fun G2 H2 g2 => kE k (seqE_err hc) G2 H2 g2) _)
  | ok dd =>
    have hk : fairBR s zs = .ok ((fairI s zs).map .int) := seqE_ok hc
    have hk2 : crowdR s zs = .ok ((crowdL s zs).map .str) := seqE_ok hc
    have h40 := hO.b
    have hfl := fairI_len (s := s) (zs := zs)
    refine q_asg ((xm_call (f := crowdR) (args := aL) zs (evv_var rfl) hW hO (ea_cons (ev_var rfl h_names) ea_nil)).ok hk2).dat hW.sb fun v2 G1 H1 g1 h_payers => ?_
    have hW := hW.step g1
    have h_names := h_names.mono g1.g
    have e : given ((fairI s zs).map PyData.int).length (fun i => (fun n => decide ((p0 (bilN s n)).1 ∈ crowdL s zs) || decide ((p0 (bilN s n)).1 = (bilN s n).keeper)) ((fairI s zs).getD i 0)) (fun i => PyData.int ((fairI s zs).getD i 0)) = (paidL s zs).map .int := by
      rw [List.length_map, given_list (fairI s zs) 0 (fun n => decide ((p0 (bilN s n)).1 ∈ crowdL s zs) || decide ((p0 (bilN s n)).1 = (bilN s n).keeper)) PyData.int]; rfl
    have lget : ∀ {i : Nat} {d : PyData}, ((fairI s zs).map PyData.int)[i]? = some d → ∃ z, (fairI s zs).getD i 0 = z ∧ z ∈ fairI s zs ∧ d = .int z := fun {i d} h => by
      rw [List.getElem?_map] at h
      obtain ⟨z, hz, rfl⟩ := Option.map_eq_some_iff.mp h
      exact ⟨z, by rw [List.getD_eq_getElem?_getD, hz]; rfl, List.mem_of_getElem? hz, rfl⟩
    refine s_retM (evm_is (ev_lcLn _ (fun i => PyData.int ((fairI s zs).getD i 0)) ((xm_call (f := fairBR) (args := aL) zs (evv_var rfl) hW hO (ea_cons (ev_var rfl h_names) ea_nil)).ok hk).dat (by rw [List.length_map]; omega) (fun _ => rfl) (fun i d x G5 H5 g5 hd hxx => by
      obtain ⟨n, e1, hn, rfl⟩ := lget hd
      obtain rfl := hxx.int_eq
      obtain ⟨j, hf, _⟩ := fairI_find hn
      have hb := findR_N hf
      have h2 := two_of hO hf hb
      have hW := hW.step g5
      show EvT _ _ _ _ (decide ((p0 (bilN s ((fairI s zs).getD i 0))).1 ∈ crowdL s zs) || decide ((p0 (bilN s ((fairI s zs).getD i 0))).1 = (bilN s ((fairI s zs).getD i 0)).keeper))
      rw [e1]
      exact et_or (et_test (ev_inS (neg := false) (ev_fst (e_rowat (K := K) (j := 0) (evv_var rfl) hW hO (ev_var rfl (.int n)) hf hb rfl (by omega))) (ev_var rfl (h_payers.mono g5.g)))) (fun _ => et_test (ev_op (ev_fst (e_rowat (K := K) (j := 0) (evv_var rfl) hW hO (ev_var rfl (.int n)) hf hb rfl (by omega))) (e_holder (evv_var rfl) hW hO (ev_var rfl (.int n)) hf hb) rd_eqS))) (fun i d x G5 H5 g5 hd hxx _ => by
      obtain ⟨n, e1, hn, rfl⟩ := lget hd
      obtain rfl := hxx.int_eq
      show EvD _ _ _ _ (.int ((fairI s zs).getD i 0))
      rw [e1]
      exact ev_var rfl (.int n))) e) hW.sb fun p xs G4 H4 g4 h0 hn hl hx => kQ _ (seqE_ok hc) p xs G4 H4 (g1.trans g4) (g1.free h0) hn hl hx

end
end

-- hd6.txt
section

local macro_rules | `(tactic| walk_at "arith") => `(tactic| first | omega | decide | (unfold CMul; omega) | (unfold CDiv; omega) | (unfold CPow; decide) | (refine ⟨?_, ?_⟩ <;> omega) | (simp; done) | (simp; omega))
local macro_rules | `(tactic| walk_at "wide") => `(tactic| exact ⟨by decide, by decide +kernel⟩)
section
variable {P : Program} {w : World} {K : PySem.W.Frag} {mg : Str → Option Value} {base : Heap} {A : Ad}
/-! ### a fair: the mathematics -/
section
variable {s : Hl} {o : List Tri} {zs : List Str}
theorem crowd_fix : ∀ (n : Nat) (l : List Str), l.length ≤ n → ableL s o (crowdGo s o n l) = crowdGo s o n l
  | 0, l, h => by
    cases l with
    | nil => rfl
    | cons x l => exact absurd h (by show ¬ l.length + 1 ≤ 0; omega)
  | n + 1, l, h => by
    show ableL s o (if ableL s o l = l then l else crowdGo s o n (ableL s o l)) = (if ableL s o l = l then l else crowdGo s o n (ableL s o l))
    by_cases e : ableL s o l = l
    · rw [if_pos e]; exact e
    · rw [if_neg e]
      exact crowd_fix n _ (by have := able_lt e; omega)
theorem crowd_can {z : Str} (h : z ∈ crowdL s zs) : canB s z (paidBy (debtsL s zs) z - gotBy (payOf (debtsL s zs) (crowdL s zs)) z) = true := by
  have e : ableL s (debtsL s zs) (crowdL s zs) = crowdL s zs := crowd_fix _ _ (by rw [len_srt]; exact Nat.le_refl _)
  rw [← e] at h
  exact (List.mem_filter.mp h).2
theorem paid_in {z : Str} {l : List Tri} {cr : List Str} (h : z ∈ cr) : paidBy (payOf l cr) z = paidBy l z := by
  unfold paidBy payOf
  rw [List.filter_filter]
  congr 2
  refine List.filter_congr fun t _ => ?_
  by_cases e : t.1 = z
  · rw [e, decide_eq_true h]; simp
  · simp [e]
theorem paid_out {z : Str} {l : List Tri} {cr : List Str} (h : z ∉ cr) : paidBy (payOf l cr) z = 0 := by
  unfold paidBy payOf
  rw [List.filter_filter, List.filter_eq_nil_iff.mpr]
  · rfl
  · intro t _ e
    rw [Bool.and_eq_true] at e
    have e1 := of_decide_eq_true e.1
    have e2 := of_decide_eq_true e.2
    rw [e1] at e2
    exact h e2
theorem sum_nn : ∀ {l : List Int}, (∀ x ∈ l, 0 ≤ x) → 0 ≤ l.sum
  | [], _ => Int.le_refl 0
  | x :: l, h => by
    have h1 := h x (by simp)
    have h2 := sum_nn (l := l) fun y hy => h y (by simp [hy])
    rw [List.sum_cons]; omega
theorem got_nn {z : Str} {l : List Tri} (h : ∀ t ∈ l, 0 ≤ t.2.2) : 0 ≤ gotBy l z := by
  refine sum_nn fun x hx => ?_
  obtain ⟨t, ht, rfl⟩ := List.mem_map.mp hx
  exact h t (List.mem_filter.mp ht).1
theorem am_nn (hO : Ok s) (i : Nat) : 0 ≤ (bilOf s i).amount := by
  unfold bilOf
  rw [List.getD_eq_getElem?_getD]
  cases e : s.bs[i]? with
  | none => exact Int.le_refl 0
  | some b => exact hO.am b (List.mem_of_getElem? e)
theorem getO_mem {m : Om} {k : Str × Str} {c : Int} (h : getO m k = some c) : ∃ q ∈ m, q.2 = c := by
  induction m with
  | nil => cases h
  | cons q r ih =>
    unfold getO at h
    split at h
    · exact ⟨q, by simp, Option.some.inj h⟩
    · obtain ⟨q', h1, h2⟩ := ih h
      exact ⟨q', by simp [h1], h2⟩
theorem putO_nn {m : Om} {k : Str × Str} {c : Int} (h : ∀ q ∈ m, 0 ≤ q.2) (hc : 0 ≤ c) : ∀ q ∈ putO m k c, 0 ≤ q.2 := by
  intro q hq
  unfold putO replO at hq
  split at hq
  · obtain ⟨q', h1, rfl⟩ := List.mem_map.mp hq
    split
    · exact hc
    · exact h q' h1
  · rcases List.mem_append.mp hq with h1 | h1
    · exact h q h1
    · have : q = (k, c) := by simpa using h1
      rw [this]; exact hc
theorem owe_nn (hO : Ok s) : ∀ (l : List Int) (m : Om), (∀ q ∈ m, 0 ≤ q.2) → ∀ q ∈ l.foldl (stepO s) m, 0 ≤ q.2
  | [], m, h => h
  | n :: r, m, h => by
    rw [List.foldl_cons]
    refine owe_nn hO r _ ?_
    unfold stepO
    split
    · exact h
    · refine putO_nn h ?_
      have h1 := am_nn hO (n - 1).toNat
      have h2 : 0 ≤ (getO m ((p0 (bilN s n)).1, (bilN s n).keeper)).getD 0 := by
        cases e : getO m ((p0 (bilN s n)).1, (bilN s n).keeper) with
        | none => exact Int.le_refl 0
        | some c =>
          obtain ⟨q, h3, rfl⟩ := getO_mem e
          exact h q h3
      have h3 : 0 ≤ (bilN s n).amount := h1
      omega
theorem debts_nn (hO : Ok s) : ∀ t ∈ debtsL s zs, 0 ≤ t.2.2 := by
  intro t ht
  unfold debtsL sort3 at ht
  rw [List.mem_mergeSort] at ht
  unfold entO at ht
  obtain ⟨q, hq, rfl⟩ := List.mem_map.mp ht
  exact owe_nn hO _ [] (fun _ h => by cases h) q hq
theorem net_room (hO : Ok s) {z : Str} : 0 ≤ netOf s zs z ∨ 0 ≤ (get s.m z).getD 0 + netOf s zs z := by
  unfold netOf
  by_cases h : z ∈ crowdL s zs
  · right
    have h1 := crowd_can h
    unfold canB at h1
    rw [Bool.and_eq_true] at h1
    have h2 := of_decide_eq_true h1.2
    rw [paid_in h]
    omega
  · left
    rw [paid_out h]
    have := got_nn (z := z) (l := payOf (debtsL s zs) (crowdL s zs)) fun t ht => debts_nn hO t (List.mem_filter.mp ht).1
    omega
end
def stepM (f : Str → Int) (m : Mp) (z : Str) : Mp := put m z ((get m z).getD 0 + f z)
def movesM (f : Str → Int) (l : List Str) (m : Mp) : Mp := l.foldl (stepM f) m
theorem get_moves (f : Str → Int) (z : Str) : ∀ (l : List Str) (m : Mp), z ∉ l → get (movesM f l m) z = get m z
  | [], _, _ => rfl
  | y :: l, m, h => by
    show get (movesM f l (stepM f m y)) z = _
    rw [get_moves f z l _ (fun e => h (by simp [e]))]
    unfold stepM
    rw [get_put, if_neg (fun e => h (by simp [e]))]
theorem nms_put {m : Mp} {n : Str} {c : Int} (h : (get m n).isSome = true) : nms (put m n c) = nms m := by
  unfold put
  rw [if_pos h]
  unfold nms repl
  rw [List.map_map]
  refine List.map_congr_left fun q _ => ?_
  show (if q.1 = n then (q.1, c) else q).1 = q.1
  split <;> rfl
theorem nms_moves (f : Str → Int) : ∀ (l : List Str) (m : Mp), (∀ z ∈ l, z ∈ nms m) → nms (movesM f l m) = nms m
  | [], _, _ => rfl
  | y :: l, m, h => by
    have h1 : nms (stepM f m y) = nms m := nms_put (mem_nms.mp (h y (by simp)))
    show nms (movesM f l (stepM f m y)) = _
    rw [nms_moves f l _ (fun z hz => by rw [h1]; exact h z (by simp [hz])), h1]
theorem moves_snoc (f : Str → Int) (l : List Str) (z : Str) (m : Mp) : movesM f (l ++ [z]) m = stepM f (movesM f l m) z := by unfold movesM; rw [List.foldl_append]; rfl
theorem Ok.setB {s : Hl} (o : Ok s) (i : Nat) {b : Bil} (h1 : 2 ≤ b.places.length ∧ b.places.length ≤ 8) (h2 : 0 ≤ b.amount) : Ok (s.setB i b) := by
  have mem : ∀ x ∈ (s.setB i b).bs, x ∈ s.bs ∨ x = b := fun x hx => List.mem_or_eq_of_mem_set hx
  refine ⟨o.m, o.f, by show (s.bs.set i b).length ≤ 40; rw [List.length_set]; exact o.b, o.d, fun x hx => ?_, o.sm, fun x hx => ?_, o.nl⟩
  · rcases mem x hx with h | h
    · exact o.pl x h
    · rw [h]; exact h1
  · rcases mem x hx with h | h
    · exact o.am x h
    · rw [h]; exact h2
theorem Ok.setM {s : Hl} (o : Ok s) {m : Mp} (h : nms m = nms s.m) : Ok { s with m := m } := by
  refine ⟨?_, o.f, o.b, o.d, o.pl, fun z hz => o.sm z (by rw [← h]; exact hz), o.am, o.nl⟩
  have := congrArg List.length h
  unfold nms at this
  rw [List.length_map, List.length_map] at this
  show m.length ≤ 9
  rw [this]; exact o.m
def phS (paid : List Int) (s : Hl) (n : Int) : Hl := s.setB (n - 1).toNat { bilN s n with phase := phP (decide (n ∈ paid)) }
def phasesS (paid : List Int) (l : List Int) (s : Hl) : Hl := l.foldl (phS paid) s
theorem phases_snoc (paid l : List Int) (n : Int) (s : Hl) : phasesS paid (l ++ [n]) s = phS paid (phasesS paid l s) n := by unfold phasesS; rw [List.foldl_append]; rfl
theorem phases_len (paid : List Int) : ∀ (l : List Int) (s : Hl), (phasesS paid l s).bs.length = s.bs.length
  | [], _ => rfl
  | n :: l, s => by
    show (phasesS paid l (phS paid s n)).bs.length = _
    rw [phases_len paid l]
    show (s.bs.set _ _).length = _
    rw [List.length_set]
theorem phases_m (paid : List Int) : ∀ (l : List Int) (s : Hl), (phasesS paid l s).m = s.m
  | [], _ => rfl
  | n :: l, s => by
    show (phasesS paid l (phS paid s n)).m = _
    rw [phases_m paid l]; rfl
theorem phases_ds (paid : List Int) : ∀ (l : List Int) (s : Hl), (phasesS paid l s).ds = s.ds
  | [], _ => rfl
  | n :: l, s => by
    show (phasesS paid l (phS paid s n)).ds = _
    rw [phases_ds paid l]; rfl
theorem bil_pl {s : Hl} (o : Ok s) {i : Nat} (h : i < s.bs.length) : 2 ≤ (bilOf s i).places.length ∧ (bilOf s i).places.length ≤ 8 := by
  refine o.pl _ ?_
  unfold bilOf
  rw [List.getD_eq_getElem?_getD, List.getElem?_eq_getElem h]
  exact List.getElem_mem h
theorem Ok.phS {s : Hl} (o : Ok s) (paid : List Int) {n : Int} (h : 1 ≤ n ∧ n ≤ s.bs.length) : Ok (phS paid s n) :=
  o.setB _ (bil_pl o (by omega)) (am_nn o _)
theorem Ok.phases (paid : List Int) : ∀ (l : List Int) {s : Hl}, Ok s → (∀ n ∈ l, 1 ≤ n ∧ n ≤ s.bs.length) → Ok (phasesS paid l s)
  | [], _, o, _ => o
  | n :: l, s, o, h => Ok.phases paid l (o.phS paid (h n (by simp))) fun k hk => by
    have := h k (by simp [hk])
    have e : (My.phS paid s n).bs.length = s.bs.length := by show (s.bs.set _ _).length = _; rw [List.length_set]
    rw [e]; exact this
def fairS (s : Hl) (zs : List Str) : Hl := tell { phasesS (paidL s zs) (fairI s zs) s with m := movesM (netOf s zs) (srt zs) s.m } (.tuple [.str "fair", .tuple (zs.map .str)])
def fairD (s : Hl) (zs : List Str) : DR := seqE (checkN s zs) fun _ => .ok (fairS s zs, .list ((paidL s zs).map .int))
mutual
theorem dx_noL {G : Hp} {q : Addr} {ws : List V} (hq : G q = some (.lst ws)) : ∀ {v : V} {d : PyData}, Dx G v d → noL d = true → Dx (minus G q) v d
  | _, _, .non, _ => .non
  | _, _, .bl b, _ => .bl b
  | _, _, .int i, _ => .int i
  | _, _, .str x, _ => .str x
  | _, _, .lst h a, e => by unfold noL at e; cases e
  | _, _, .tup (a := b) h a, e => by
    have ne : b ≠ q := fun z => by rw [z, hq] at h; cases h
    exact .tup ((minus_ne ne).trans h) (dxs_noL hq a (by unfold noL at e; exact e))
theorem dxs_noL {G : Hp} {q : Addr} {ws : List V} (hq : G q = some (.lst ws)) : ∀ {vs : List V} {ds : List PyData}, Dxs G vs ds → noLs ds = true → Dxs (minus G q) vs ds
  | _, _, .nil, _ => .nil
  | _, _, .cons h t, e => by
    unfold noLs at e
    rw [Bool.and_eq_true] at e
    exact .cons (dx_noL hq h e.1) (dxs_noL hq t e.2)
end
theorem noLs_all : ∀ {ds : List PyData}, (∀ d ∈ ds, noL d = true) → noLs ds = true
  | [], _ => rfl
  | d :: r, h => by unfold noLs; rw [Bool.and_eq_true]; exact ⟨h d (by simp), noLs_all fun x hx => h x (by simp [hx])⟩
theorem noLs_strs : ∀ zs : List Str, noLs (zs.map .str) = true
  | [] => rfl
  | z :: r => by rw [List.map_cons]; unfold noLs; rw [noLs_strs r, Bool.and_true]; rfl
theorem noLs_ints : ∀ l : List Int, noLs (l.map .int) = true
  | [] => rfl
  | z :: r => by rw [List.map_cons]; unfold noLs; rw [noLs_ints r, Bool.and_true]; rfl
section
variable {B : Bd} {G H G' H' : Hp} {a a' : Ha} {s s' : Hl}
theorem W.minus {p : Addr} {ws : List V} (w : W B G H a s) (hp : G p = some (.lst ws)) (hd : ∀ d ∈ s.ds, noL d = true) : W B (minus G p) H a s :=
  ⟨fun x o e => by
    by_cases ne : x = p
    · rw [ne, minus_q] at e; cases e
    · rw [minus_ne ne] at e; exact w.sb x o e, w.la, w.lp, w.inj, fun i x h => by
    obtain ⟨o, e, c⟩ := w.ct i x h
    refine ⟨o, e, ?_⟩
    cases i with
    | dl => obtain ⟨vs, e1, xx⟩ := c; exact ⟨vs, e1, dxs_noL hp xx (noLs_all hd)⟩
    | p i => obtain ⟨b, vs, e1, e2, xx⟩ := c; exact ⟨b, vs, e1, e2, dx_minus hp xx⟩
    | _ => exact c, fun i x h => by
    by_cases ne : x = p
    · rw [ne]; exact minus_q
    · exact (minus_ne ne).trans (w.ng i x h)⟩
theorem Ch.minus {p : Addr} {o : HO} (x : Ch a (upd G p o) H a' G' H') (hn : G p = none) : Ch a G H a' (minus G' p) H' :=
  ⟨fun y u e => by
    have ne : y ≠ p := fun z => by rw [z, hn] at e; cases e
    rw [minus_ne ne]; exact x.g y u ((upd_ne ne).trans e),
   fun y u e => by
    by_cases ne : y = p
    · rw [ne, minus_q] at e; cases e
    · rw [minus_ne ne] at e; exact x.s y u e, x.h, x.t, fun y u e e0 => by
    by_cases ne : y = p
    · rw [ne]; exact minus_q
    · rw [minus_ne ne]; exact x.n y u e ((upd_ne ne).trans e0), x.f⟩
end

end
end

-- hd7.txt
section

local macro_rules | `(tactic| walk_at "arith") => `(tactic| first | omega | decide | (unfold CMul; omega) | (unfold CDiv; omega) | (unfold CPow; decide) | (refine ⟨?_, ?_⟩ <;> omega) | (simp; done) | (simp; omega))
local macro_rules | `(tactic| walk_at "wide") => `(tactic| exact ⟨by decide, by decide +kernel⟩)
section
variable {P : Program} {w : World} {K : PySem.W.Frag} {mg : Str → Option Value} {base : Heap} {A : Ad}
/-! ### Hall.fair -/
abbrev spFair (B : Bd) : Sp := fun vs H Q E => ∃ (G : Hp) (a : Ha) (s : Hl) (zs : List Str) (p : Addr), vs = [.ref a.h, .ref p] ∧ H p = some (.lst (zs.map V.str)) ∧ G p = none ∧ ¬ a.In p ∧ W B G H a s ∧ Ok s ∧ zs.length ≤ 1000 ∧
  (∀ k, fairD s zs = .error k → ∀ G' H', Gr [] G H G' H' → E (.ref (B.cls k)) none H') ∧ (∀ s' d, fairD s zs = .ok (s', d) → ∀ G' H' v, Ch a G H a G' H' → W B G' H' a s' → Dx G' v d → Q v H')
section
variable {X : Cx} {K : PySem.W.Frag} {σ : L2.St} {G H : Hp} {te : TE} {ds : List PyData}
abbrev rTupO (K : PySem.W.Frag) : List V → Hp → VK → Prop := fun xs H Q => ∃ p ys, xs = [.ref p] ∧ ((SqL K H p ys ∧ ∀ l, H l = none → Q (.ref l) (upd H l (.tup ys))) ∨ (SqT K H p ys ∧ Q (.ref p) H))
theorem call_tupleK (h : X.K = K := by rfl) : CallR X (.type "tuple") (rTupO K) := by subst h; exact call_tuple_of
theorem ev_tupleL (h : EvD te σ G H (.list ds)) : EvD (tCB (rTupO K) (tCons te tNil)) σ G H (.tuple ds) := fun G1 H1 a Q q => h G1 H1 a _ fun v G2 H2 g x => by
  obtain ⟨p, xs, rfl, hp, dxs⟩ := x.lst_eq
  refine ⟨p, xs, rfl, Or.inl ⟨Or.inl (Or.inl (g.s _ _ hp)), fun l hl => ?_⟩⟩
  exact q (.ref l) _ _ ((g.own hl).freeze upd_same (g.s.none hl) (g.free hl)) (.tup upd_same (dxs.mono (Sb.new (g.s.none hl))))
end
theorem spend_okM {f : Str → Int} {m : Mp} {z : Str} (h : (get m z).isSome = true) (hn : f z < 0) (hr : 0 ≤ (get m z).getD 0 + f z) : spendR m z (-f z) = .ok (stepM f m z) := by
  unfold spendR stepM
  cases e : get m z with
  | none => rw [e] at h; cases h
  | some c =>
    rw [e] at hr
    have hr : 0 ≤ c + f z := hr
    show (if -f z < 0 then _ else if c < -f z then _ else _) = _
    rw [if_neg (by omega), if_neg (by omega)]
    show Except.ok (put m z (c - -f z)) = Except.ok (put m z (c + f z))
    rw [Int.sub_neg]
theorem fill_okM {f : Str → Int} {m : Mp} {z : Str} (h : (get m z).isSome = true) (hn : ¬ f z < 0) : fillR m z (f z) = .ok (stepM f m z) := by
  unfold fillR stepM
  cases e : get m z with
  | none => rw [e] at h; cases h
  | some c =>
    show (if f z < 0 then _ else _) = _
    rw [if_neg hn]; rfl
theorem W.plus {B : Bd} {G H : Hp} {a : Ha} {s : Hl} {p : Addr} {o : HO} (w : W B G H a s) (hp : H p = some o) (hpn : G p = none) (hpi : ¬ a.In p) : W B (upd G p o) H a s :=
  ⟨w.sb.add hp, w.la, w.lp, w.inj, fun i x h => by obtain ⟨o, e, c⟩ := w.ct i x h; exact ⟨o, e, c.mono (Sb.new hpn)⟩, fun i x h => (upd_ne (fun z => hpi (by rw [← z]; exact ⟨i, h⟩))).trans (w.ng i x h)⟩
theorem nodup_srt {zs : List Str} (h : zs.Nodup) : (srt zs).Nodup := (srt_perm zs).nodup_iff.mpr h
theorem ok_Hfair {B : Bd} (T : Txt K mg A) (U : Ux K mg B) : FnOk P w K mg base (L2.CX P w) 8 B.a_Hfair B.d_Hfair ["self", "names"] (spFair B) := by
  have G_fair_bills := ok_fair_bills (P := P) (w := w) (base := base) T U
  have G_paid_bills := ok_paid_bills (P := P) (w := w) (base := base) T U
  have G_nets := ok_nets (P := P) (w := w) (base := base) T U
  have G_Hfindbill := ok_Hfindbill (P := P) (w := w) (base := base) T U
  have G_Mspend := ok_Mspend (P := P) (w := w) (base := base) T U
  have G_Mfill := ok_Mfill (P := P) (w := w) (base := base) T U
  refine U.F_Hfair.okX sc_Hfair (fun vs H Q E h => by obtain ⟨_, _, _, _, _, rfl, _⟩ := h; rfl) (fun cdv A' outer st H vs Q E hr h => ?_)
  obtain ⟨G0, a, s, zs, p, rfl, hp, hpn, hpi, hW0, hO, hz, kE, kQ⟩ := h
  have W1 := hW0.plus hp hpn hpi
  have h_names : Dx (upd G0 p (.lst (zs.map V.str))) (.ref p) (.list (zs.map .str)) := .lst upd_same (dxs_strs _)
  refine ⟨_, (pss_cons (ps_set (i := 2) sc_Hfair.nd rfl (Or.inl rfl) (pe_call G_fair_bills (hr.mono (by omega)) (by rfl) T.m_fair_bills T.F_fair_bills.kp T.b_fair_bills .nil (passes_call (takes_of rfl rfl rfl rfl) fun _ _ _ _ z => z) (pa_cons (pv 0) (pa_cons (pv 1) pa_nil))))
      (pss_cons (ps_set (i := 3) sc_Hfair.nd rfl (Or.inl rfl) (pe_call G_paid_bills (hr.mono (by omega)) (by rfl) T.m_paid_bills T.F_paid_bills.kp T.b_paid_bills .nil (passes_call (takes_of rfl rfl rfl rfl) fun _ _ _ _ z => z) (pa_cons (pv 0) (pa_cons (pv 1) pa_nil))))
      (pss_cons (ps_set (i := 4) sc_Hfair.nd rfl (Or.inl rfl) (pe_call G_nets (hr.mono (by omega)) (by rfl) T.m_nets T.F_nets.kp T.b_nets .nil (passes_call (takes_of rfl rfl rfl rfl) fun _ _ _ _ z => z) (pa_cons (pv 0) (pa_cons (pv 1) pa_nil))))
      (pss_cons (ps_for (passes_of rfl) rfl (pi_list (pv 2)) (pg_name (i := 5) sc_Hfair.nd rfl (Or.inl rfl))
      (pss_cons (ps_set (i := 6) sc_Hfair.nd rfl (Or.inl rfl) (pe_meth (pv 0) U.cl_Hall U.m_Hfindbill G_Hfindbill (hr.mono (by omega)) U.b_Hfindbill .nil (passes_call (takes_of rfl rfl rfl rfl) fun _ _ _ _ z => z) (by exact (pa_cons (pv 5) pa_nil))))
      (pss_one (ps_fld (pv 6) (pe_ifExp (pt_cmpR (op_inK (K := K)) (pv 5) (pv 3) rfl) (pe_glob (v := .str "paid") (by rfl) T.g_PAID ⟨_, rfl⟩) (pe_glob (v := .str "unpaid") (by rfl) T.g_UNPAID ⟨_, rfl⟩)) rfl))))
      (pss_cons (ps_for (passes_of rfl) rfl (pi_list (pv 4)) (pg_tup (by rfl) (pgs_cons (pg_name (i := 7) sc_Hfair.nd rfl (Or.inl rfl)) (pgs_cons (pg_name (i := 8) sc_Hfair.nd rfl (Or.inl rfl)) pgs_nil)))
      (pss_one (ps_if (pt_cmpR op_lt (pv 8) pe_int (nomark _))
      (pss_one (ps_expr (pe_meth (pe_fld (pv 0) rfl) U.cl_Purses U.m_Mspend G_Mspend (hr.mono (by omega)) U.b_Mspend .nil (passes_call (takes_of rfl rfl rfl rfl) fun _ _ _ _ z => z) (by exact (pa_cons (pv 7) (pa_cons (pe_un un_neg (pv 8)) pa_nil))))))
      (pss_one (ps_expr (pe_meth (pe_fld (pv 0) rfl) U.cl_Purses U.m_Mfill G_Mfill (hr.mono (by omega)) U.b_Mfill .nil (passes_call (takes_of rfl rfl rfl rfl) fun _ _ _ _ z => z) (by exact (pa_cons (pv 7) (pa_cons (pv 8) pa_nil)))))))))
      (pss_cons (ps_expr (pe_bm PySem.F.plainAttrs_list PySem.F.slot_list_append PySem.F.type_list_append mt_append (pe_fld (pv 0) rfl) (pa_cons (pe_tup (pa_cons pe_str (pa_cons (pe_callTy (call_tupleK (K := K)) (by rfl) T.b.tuple (by decide +kernel) (pa_cons (pv 1) pa_nil)) pa_nil))) pa_nil)))
      (pss_one (ps_ret (pv 3))))))))), ?_⟩
  cases hc : checkN s zs with
  | error k =>
    have hk : fairBR s zs = .error k := seqE_err hc
    exact seqI ((xm_call (f := fairBR) (args := aL) zs (evv_var rfl) W1 hO (ea_cons (ev_var rfl h_names) ea_nil)).dat.err W1.sb (k := k) (by rw [hk]; rfl) (fun G2 H2 g2 => kE k (seqE_err hc) _ H2 (Gr.minus g2 hpn)) _)
  | ok dd =>
    obtain ⟨hall, hnd⟩ := checkN_ok hc
    have hk1 : fairBR s zs = .ok ((fairI s zs).map .int) := seqE_ok hc
    have hk2 : paidR s zs = .ok ((paidL s zs).map .int) := seqE_ok hc
    have hk3 : netsR s zs = .ok ((srt zs).map (netsD s zs)) := seqE_ok hc
    have hkF : fairD s zs = .ok (fairS s zs, .list ((paidL s zs).map .int)) := seqE_ok hc
    refine q_asg ((xm_call (f := fairBR) (args := aL) zs (evv_var rfl) W1 hO (ea_cons (ev_var rfl h_names) ea_nil)).ok hk1).dat W1.sb fun v2 G1 H1 g1 h_there => ?_
    have hW := W1.step g1
    have h_names1 := h_names.mono g1.g
    refine q_asgM ((xm_call (f := paidR) (args := aL) zs (evv_var rfl) hW hO (ea_cons (ev_var rfl h_names1) ea_nil)).ok hk2) hW.sb fun q xs G2 H2 g2 q0 qn hq hx => ?_
    have hqp : q ≠ p := fun e => by rw [e, sb_of g1 _ _ hp] at q0; cases q0
    have gF := g2.freeze hq qn q0
    have hW := hW.step gF
    have h_names := h_names1.mono gF.g
    have h_there := h_there.mono gF.g
    have h_paid : Dx (upd G2 q (.lst xs)) (.ref q) (.list ((paidL s zs).map .int)) := .lst upd_same (hx.mono (Sb.new qn))
    have hqG : (upd G2 q (.lst xs)) q = some (.lst xs) := upd_same
    have gA := g1.trans gF
    generalize upd G2 q (.lst xs) = G2 at gF hW h_names h_there h_paid gA hqG
    refine q_asg ((xm_call (f := netsR) (args := aL) zs (evv_var rfl) hW hO (ea_cons (ev_var rfl h_names) ea_nil)).ok hk3).dat hW.sb fun v4 G3 H3 g3 h_changes => ?_
    have hW := hW.step g3
    have h_names := h_names.mono g3.g
    have h_there := h_there.mono g3.g
    have h_paid := h_paid.mono g3.g
    have gA := gA.trans g3
    have rng : ∀ n ∈ fairI s zs, 1 ≤ n ∧ n ≤ s.bs.length := fun n hn => by
      obtain ⟨i, hf, _⟩ := fairI_find hn
      unfold findR at hf
      split at hf
      · assumption
      · cases hf
    refine q_forL a.mut (fun n σ' G' H' => (∃ v5 v6, σ' = [some (.ref a.h), some (.ref p), some v2, some (.ref q), some v4, v5, v6, none, none]) ∧ Ch a G3 H3 a G' H' ∧ W B G' H' a (phasesS (paidL s zs) ((fairI s zs).take n) s)) (ev_var rfl h_there) hW.sb (fun G4 H4 g4 => ⟨⟨none, none, rfl⟩, Ch.of g4, hW.step g4⟩) (fun G4 H4 g4 n e v σ' G5 H5 he hv gg I => ?_) (fun σ' G5 H5 gg I => ?_)
    · obtain ⟨⟨v5, v6, rfl⟩, c5, hW⟩ := I
      rw [List.getElem?_map] at he
      obtain ⟨x, hx, rfl⟩ := Option.map_eq_some_iff.mp he
      obtain rfl := hv.int_eq
      have okk : Ok (phasesS (paidL s zs) ((fairI s zs).take n) s) := Ok.phases _ _ hO fun k hk => rng k (List.mem_of_mem_take hk)
      have hxr := rng x (List.mem_of_getElem? hx)
      have hfk : findR (phasesS (paidL s zs) ((fairI s zs).take n) s) x = .ok (x - 1).toNat := by unfold findR; rw [phases_len, if_pos hxr]
      have e0 : phasesS (paidL s zs) ((fairI s zs).take (n + 1)) s = phS (paidL s zs) (phasesS (paidL s zs) ((fairI s zs).take n) s) x := by rw [take_snoc hx, phases_snoc]
      generalize phasesS (paidL s zs) ((fairI s zs).take n) s = sk at hW okk hfk e0
      dsimp only [gName, List.set]
      refine q_find (f := findR) (args := aI) x (evv_var rfl) hW okk (ea_cons (ev_var rfl (.int x)) ea_nil) (fun i => findR_lt) (fun k hk => by rw [hfk] at hk; cases hk) fun i pb qb b hi G6 H6 g6 hB => ?_
      rw [hfk] at hi; cases hi
      have hW := hW.step g6
      have eb : b = bilN sk x := (bilOf_eq hB.hb).symm
      refine s_phase (z := phP (decide (x ∈ paidL s zs))) hW hB U (evv_var rfl) (ev_if (b := decide (x ∈ paidL s zs)) (et_test (ev_inI (neg := false) (ev_var rfl (.int x)) (ev_var rfl (h_paid.mono (c5.g.trans g6.g))))) (fun h => ev_is ev_str (by rw [h]; rfl)) (fun h => ev_is ev_str (by rw [h]; rfl))) fun G7 H7 c7 hW hB => ?_
      refine ⟨G7, (gg.trans g6.any).trans c7.gr, ⟨_, _, rfl⟩, (c5.trans (Ch.of g6)).trans c7, ?_⟩
      rw [e0]
      rw [eb] at hW
      exact hW
    · obtain ⟨⟨v5, v6, rfl⟩, c5, hW⟩ := I
      rw [List.length_map, List.take_length] at hW
      have okk : Ok (phasesS (paidL s zs) (fairI s zs) s) := Ok.phases _ _ hO rng
      have em : (phasesS (paidL s zs) (fairI s zs) s).m = s.m := phases_m _ _ _
      have ed : (phasesS (paidL s zs) (fairI s zs) s).ds = s.ds := phases_ds _ _ _
      have eF : fairS s zs = tell { phasesS (paidL s zs) (fairI s zs) s with m := movesM (netOf s zs) (srt zs) s.m } (.tuple [.str "fair", .tuple (zs.map .str)]) := rfl
      generalize phasesS (paidL s zs) (fairI s zs) s = sk at hW okk em ed eF
      have h_changes := h_changes.mono c5.g
      have h_names := h_names.mono c5.g
      have h_paid := h_paid.mono c5.g
      have nds := nodup_srt hnd
      have inN : ∀ z ∈ srt zs, z ∈ nms s.m := fun z hz => mem_nms.mpr (hall z (mem_srt.mp hz))
      refine q_forL a.mut (fun n σ' G' H' => (∃ v7 v8, σ' = [some (.ref a.h), some (.ref p), some v2, some (.ref q), some v4, v5, v6, v7, v8]) ∧ Ch a G5 H5 a G' H' ∧ W B G' H' a { sk with m := movesM (netOf s zs) ((srt zs).take n) s.m }) (ev_var rfl h_changes) hW.sb (fun G6 H6 g6 => ⟨⟨none, none, rfl⟩, Ch.of g6, by
        have e1 : ({ sk with m := movesM (netOf s zs) ((srt zs).take 0) s.m } : Hl) = sk := by
          show ({ sk with m := s.m } : Hl) = sk
          rw [← em]
        rw [e1]; exact hW.step g6⟩) (fun G6 H6 g6 n e v σ' G7 H7 he hv gg2 I => ?_) (fun σ' G7 H7 gg2 I => ?_)
      · obtain ⟨⟨v7, v8, rfl⟩, c7, hW⟩ := I
        rw [List.getElem?_map] at he
        obtain ⟨z, hz, rfl⟩ := Option.map_eq_some_iff.mp he
        have hzm := inN z (List.mem_of_getElem? hz)
        have nt : z ∉ (srt zs).take n := fun hm => not_nodup hz hm nds
        have enm : nms (movesM (netOf s zs) ((srt zs).take n) s.m) = nms s.m := nms_moves _ _ _ fun y hy => inN y (List.mem_of_mem_take hy)
        have eget : get (movesM (netOf s zs) ((srt zs).take n) s.m) z = get s.m z := get_moves _ _ _ _ nt
        have e0 : movesM (netOf s zs) ((srt zs).take (n + 1)) s.m = stepM (netOf s zs) (movesM (netOf s zs) ((srt zs).take n) s.m) z := by rw [take_snoc hz, moves_snoc]
        have hroom := net_room (zs := zs) hO (z := z)
        have hh : (get (movesM (netOf s zs) ((srt zs).take n) s.m) z).isSome = true := by rw [eget]; exact mem_nms.mp hzm
        have okm : ({ sk with m := movesM (netOf s zs) ((srt zs).take n) s.m } : Hl).m.length ≤ 9 := by
          have := congrArg List.length enm
          unfold nms at this
          rw [List.length_map, List.length_map] at this
          show (movesM (netOf s zs) ((srt zs).take n) s.m).length ≤ 9
          rw [this]; exact hO.m
        rw [← eget] at hroom
        generalize movesM (netOf s zs) ((srt zs).take n) s.m = mk at hW e0 hroom hh okm
        dsimp only [gName, List.set]
        refine g_nn hv hW.sb fun u1 u2 y1 y2 => ?_
        obtain rfl := y1.str_eq
        obtain rfl := y2.int_eq
        refine s_if (b := decide (netOf s zs z < 0)) (et_test (ev_op (ev_var rfl (.int (netOf s zs z))) ev_int rd_lt)) hW.sb (fun hb G8 H8 g8 => ?_) (fun hb G8 H8 g8 => ?_)
        · have hW := hW.step g8
          have hn := of_decide_eq_true hb
          have hr : spendR mk z (-netOf s zs z) = .ok (stepM (netOf s zs) mk z) := spend_okM hh hn (by rcases hroom with h | h; exact absurd hn (by omega); exact h)
          refine s_mspend hW okm (hW.e_pu U (evv_var rfl)) (ea_cons (ev_var rfl (.str z)) (ea_cons (ev_neg (ev_var rfl (.int (netOf s zs z)))) ea_nil)) (fun k hk => by rw [show spendR _ _ _ = _ from hr] at hk; cases hk) fun m' h3 G9 H9 c9 hW => ?_
          rw [show spendR _ _ _ = _ from hr] at h3
          cases h3
          refine ⟨G9, (gg2.trans g8.any).trans c9.gr, ⟨_, _, rfl⟩, (c7.trans (Ch.of g8)).trans c9, ?_⟩
          rw [e0]; exact hW
        · have hW := hW.step g8
          have hr : fillR mk z (netOf s zs z) = .ok (stepM (netOf s zs) mk z) := fill_okM hh (of_decide_eq_false hb)
          refine s_mfill hW okm (hW.e_pu U (evv_var rfl)) (ea_cons (ev_var rfl (.str z)) (ea_cons (ev_var rfl (.int (netOf s zs z))) ea_nil)) (fun k hk => by rw [show fillR _ _ _ = _ from hr] at hk; cases hk) fun m' h3 G9 H9 c9 hW => ?_
          rw [show fillR _ _ _ = _ from hr] at h3
          cases h3
          refine ⟨G9, (gg2.trans g8.any).trans c9.gr, ⟨_, _, rfl⟩, (c7.trans (Ch.of g8)).trans c9, ?_⟩
          rw [e0]; exact hW
      · obtain ⟨⟨v7, v8, rfl⟩, c7, hW⟩ := I
        rw [List.length_map, List.take_length] at hW
        have h_names := h_names.mono c7.g
        have h_paid := h_paid.mono c7.g
        refine q_story hW (by show sk.ds.length ≤ 5000; rw [ed]; exact hO.d) U (evv_var rfl) (ev_tup (ea_cons ev_str (ea_cons (ev_tupleL (ev_var rfl h_names)) ea_nil)) (by show 2 ≤ 100000; decide)) fun G8 H8 c8 hW => ?_
        have h_paid := h_paid.mono c8.g
        have hW : W B G8 H8 a (fairS s zs) := by rw [eF]; exact hW
        have cz := (((Ch.of (a := a) gA).trans c5).trans c7).trans c8
        have hpG : G8 p = some (.lst (zs.map V.str)) := cz.g _ _ upd_same
        have hnl : ∀ d ∈ (fairS s zs).ds, noL d = true := by
          rw [eF]
          intro d hd
          have hd : d ∈ sk.ds ++ [.tuple [.str "fair", .tuple (zs.map .str)]] := hd
          rw [ed] at hd
          rcases List.mem_append.mp hd with h | h
          · exact hO.nl d h
          · have : d = .tuple [.str "fair", .tuple (zs.map .str)] := by simpa using h
            rw [this]
            show (true && (noLs (zs.map .str) && true)) = true
            rw [noLs_strs]; rfl
        refine retI (evv_var rfl G8 H8 (.refl hW.sb) _ fun G9 H9 g9 => ?_)
        have czz := cz.trans (Ch.of g9)
        have hp9 := g9.g _ _ hpG
        refine kQ _ _ hkF _ H9 _ (czz.minus hpn) ((hW.step g9).minus hp9 hnl) ?_
        obtain ⟨b9, xs9, e9, hb9, hx9⟩ := (h_paid.mono g9.g).lst_eq
        cases e9
        exact .lst ((minus_ne hqp).trans hb9) (dxs_noL hp9 hx9 (noLs_ints _))

end
end

-- la0.txt
section

local macro_rules | `(tactic| walk_at "arith") => `(tactic| first | omega | decide | (unfold CMul; omega) | (unfold CDiv; omega) | (unfold CPow; decide) | (refine ⟨?_, ?_⟩ <;> omega) | (simp; done) | (simp; omega))
local macro_rules | `(tactic| walk_at "wide") => `(tactic| exact ⟨by decide, by decide +kernel⟩)
section
variable {P : Program} {w : World} {K : PySem.W.Frag} {mg : Str → Option Value} {base : Heap} {A : Ad}
/-! ### deeds as the law writes them; what stays true of a hall -/
inductive Dd
  | house (z : Str) (c : Int)
  | putin (z : Str) (c : Int)
  | out (z : Str) (c : Int)
  | fail (z : Str)
  | mend (z : Str)
  | days (n : Int)
  | draw (x : Str × Str × Str × Int × Int × Bool)
  | accept (x : Int × Int)
  | sign (x : Int × Int × Str × Bool)
  | blank (x : Int × Int × Str × Bool)
  | hand (x : Int × Int × Str)
  | lose (n : Int)
  | present (x : Int × Int)
  | protest (x : Int × Int)
  | ask (x : Int × Int × Int)
  | honour (x : Int × Int × Str × Int)
  | fair (zs : List Str)
def Dd.word : Dd → Str
  | .house .. => "house"
  | .putin .. => "in"
  | .out .. => "out"
  | .fail .. => "fail"
  | .mend .. => "mend"
  | .days .. => "days"
  | .draw .. => "draw"
  | .accept .. => "accept"
  | .sign .. => "sign"
  | .blank .. => "blank"
  | .hand .. => "hand"
  | .lose .. => "lose"
  | .present .. => "present"
  | .protest .. => "protest"
  | .ask .. => "ask"
  | .honour .. => "honour"
  | .fair .. => "fair"
def Dd.args : Dd → List PyData
  | .house z c => [.str z, .int c]
  | .putin z c => [.str z, .int c]
  | .out z c => [.str z, .int c]
  | .fail z => [.str z]
  | .mend z => [.str z]
  | .days n => [.int n]
  | .draw x => aDraw x
  | .accept x => [.int x.1, .int x.2]
  | .sign x => aSn x
  | .blank x => aSn x
  | .hand x => aIIS x
  | .lose n => [.int n]
  | .present x => [.int x.1, .int x.2]
  | .protest x => [.int x.1, .int x.2]
  | .ask x => aIII x
  | .honour x => aHon x
  | .fair zs => [.tuple (zs.map .str)]
def Dd.data (D : Dd) : PyData := .tuple (.str D.word :: D.args)
def Dd.run (s : Hl) : Dd → DR
  | .house z c => houseD s (z, c)
  | .putin z c => inD s (z, c)
  | .out z c => outD s (z, c)
  | .fail z => failD s z
  | .mend z => mendD s z
  | .days n => daysD s n
  | .draw x => drawD s x
  | .accept x => acceptD s x
  | .sign x => signD "sign" false s x
  | .blank x => signD "blank" true s x
  | .hand x => handD s x
  | .lose n => loseD s n
  | .present x => presentD s x
  | .protest x => protestD s x
  | .ask x => askD s x
  | .honour x => honourD s x
  | .fair zs => fairD s zs
def Dd.good : Dd → Prop
  | .house z _ => z.length ≤ 100
  | .fair zs => zs.length ≤ 1000
  | _ => True
def BOk (b : Bil) : Prop := (2 ≤ b.places.length ∧ b.places.length ≤ 8) ∧ 0 ≤ b.amount ∧ Sm b.keeper ∧ ∀ q ∈ b.places, Sm q.1
structure Okb (s : Hl) : Prop where
  ok : Ok s
  bo : ∀ b ∈ s.bs, BOk b
theorem Okb.mk' {s : Hl} (o : Okb s) {m : Mp} {fl : List Str} {day : Int} {bs : List Bil} {d : PyData} (hm : m.length ≤ 9 ∧ ∀ z ∈ nms m, Sm z) (hf : fl.length ≤ s.ds.length + 1) (hb : bs.length ≤ 40) (hbs : ∀ b ∈ bs, BOk b) (hd : s.ds.length < 5000) (hn : noL d = true) :
    Okb (tell ⟨m, fl, day, bs, s.ds⟩ d) := by
  have hl : (tell ⟨m, fl, day, bs, s.ds⟩ d).ds = s.ds ++ [d] := rfl
  refine ⟨⟨hm.1, ?_, hb, ?_, fun b h => (hbs b h).1, hm.2, fun b h => (hbs b h).2.1, fun x hx => ?_⟩, hbs⟩
  · rw [hl, List.length_append]; exact hf
  · rw [hl, List.length_append]; show s.ds.length + 1 ≤ 5000; omega
  · rw [hl] at hx
    rcases List.mem_append.mp hx with h | h
    · exact o.ok.nl x h
    · have : x = d := by simpa using h
      rw [this]; exact hn
theorem nms_len {m m' : Mp} (h : nms m = nms m') : m.length = m'.length := by
  have := congrArg List.length h
  unfold nms at this
  rwa [List.length_map, List.length_map] at this
theorem Okb.same {s : Hl} (o : Okb s) {m : Mp} (h : nms m = nms s.m) : m.length ≤ 9 ∧ ∀ z ∈ nms m, Sm z := ⟨by rw [nms_len h]; exact o.ok.m, fun z hz => o.ok.sm z (by rw [← h]; exact hz)⟩
theorem Okb.set {s : Hl} (o : Okb s) (i : Nat) {b : Bil} (hb : BOk b) : ∀ x ∈ s.bs.set i b, BOk x := fun x hx => by
  rcases List.mem_or_eq_of_mem_set hx with h | h
  · exact o.bo x h
  · rw [h]; exact hb
theorem Okb.fl {s : Hl} (o : Okb s) : s.fl.length ≤ s.ds.length + 1 := Nat.le_succ_of_le o.ok.f
theorem set40 {s : Hl} (o : Okb s) (i : Nat) (b : Bil) : (s.bs.set i b).length ≤ 40 := by rw [List.length_set]; exact o.ok.b
theorem Okb.at {s : Hl} (o : Okb s) {i : Nat} (h : i < s.bs.length) : BOk (bilOf s i) := by
  refine o.bo _ ?_
  unfold bilOf
  rw [List.getD_eq_getElem?_getD, List.getElem?_eq_getElem h]
  exact List.getElem_mem h
theorem sm_house {s : Hl} (o : Okb s) {z : Str} {d : PyData} (h : houseR s z = .ok d) : Sm z := o.ok.sm z (mem_nms.mpr (houseR_ok h))
theorem sm_empty : Sm "" := fun c hc => by cases hc
theorem sm_nameAt {b : Bil} (h : BOk b) (n : Int) : Sm (nameAt b n) := by
  unfold nameAt
  rw [List.getD_eq_getElem?_getD]
  cases e : b.places[n.toNat]? with
  | none => exact sm_empty
  | some q => exact h.2.2.2 q (List.mem_of_getElem? e)
theorem fill_nms {m m' : Mp} {n : Str} {c : Int} (h : fillR m n c = .ok m') : nms m' = nms m := by
  unfold fillR at h
  cases e : get m n with
  | none => rw [e] at h; cases h
  | some b =>
    rw [e] at h
    dsimp only at h
    split at h
    · cases h
    · cases h; exact nms_put (by rw [e]; rfl)
theorem spend_nms {m m' : Mp} {n : Str} {c : Int} (h : spendR m n c = .ok m') : nms m' = nms m := by
  unfold spendR at h
  cases e : get m n with
  | none => rw [e] at h; cases h
  | some b =>
    rw [e] at h
    dsimp only at h
    split at h
    · cases h
    · split at h
      · cases h
      · cases h; exact nms_put (by rw [e]; rfl)
theorem pay_nms {m m' : Mp} {a b : Str} {c : Int} (h : payR m a b c = .ok m') : nms m' = nms m := by
  unfold payR at h
  split at h
  · cases h
  · split at h
    · cases h
    · cases e : spendR m a c with
      | error k => rw [e] at h; cases h
      | ok m1 =>
        rw [e] at h
        exact (fill_nms h).trans (spend_nms e)
theorem alpha_low : ∀ c ∈ alpha.cps.toList, c < 128 := by decide +kernel
theorem isName_sm {z : Str} (h : isName z = true) : Sm z := by
  intro c hc
  unfold isName at h
  rw [Bool.and_eq_true] at h
  have h2 := List.all_eq_true.mp h.2
  obtain ⟨i, hi, e⟩ := List.getElem_of_mem hc
  have hi2 : i < z.cps.size := by simpa using hi
  have h3 := h2 _ (List.mem_map.mpr ⟨i, List.mem_range.mpr hi2, rfl⟩)
  have h4 : decide ((z.cps[i]?.getD 0) ∈ alpha.cps.toList) = true := h3
  have h5 : z.cps[i]?.getD 0 = c := by
    rw [Array.getElem?_eq_getElem hi2]
    show z.cps[i] = c
    rw [← e, Array.getElem_toList]
  rw [h5] at h4
  exact alpha_low c (of_decide_eq_true h4)
theorem add_ok {s : Hl} (o : Okb s) {m' : Mp} {z : Str} {c : Int} (h : addR s.m z c = .ok m') (h9 : ¬ 9 ≤ s.m.length) (hz : Sm z) : m'.length ≤ 9 ∧ ∀ y ∈ nms m', Sm y := by
  unfold addR at h
  split at h
  · cases h
  · rename_i hn
    split at h
    · cases h
    · cases h
      have e : put s.m z c = s.m ++ [(z, c)] := by unfold put; rw [if_neg hn]
      rw [e]
      refine ⟨by rw [List.length_append]; show s.m.length + 1 ≤ 9; omega, fun y hy => ?_⟩
      unfold nms at hy
      rw [List.map_append] at hy
      rcases List.mem_append.mp hy with h | h
      · exact o.ok.sm y h
      · have : y = z := by simpa using h
        rw [this]; exact hz
theorem take_bok {r : Rw} {k : Nat} (h : 2 ≤ r.length ∧ r.length ≤ 8) (hk : 2 ≤ k) : 2 ≤ (r.take k).length ∧ (r.take k).length ≤ 8 := by
  rw [List.length_take]; omega

end
end

-- la1.txt
section

local macro_rules | `(tactic| walk_at "arith") => `(tactic| first | omega | decide | (unfold CMul; omega) | (unfold CDiv; omega) | (unfold CPow; decide) | (refine ⟨?_, ?_⟩ <;> omega) | (simp; done) | (simp; omega))
local macro_rules | `(tactic| walk_at "wide") => `(tactic| exact ⟨by decide, by decide +kernel⟩)
section
variable {P : Program} {w : World} {K : PySem.W.Frag} {mg : Str → Option Value} {base : Heap} {A : Ad}
/-! ### each deed keeps the bounds and tells itself -/
theorem noL_data (D : Dd) : noL D.data = true := by
  cases D with
  | fair zs => show (true && (noLs (zs.map .str) && true)) = true; rw [noLs_strs]; rfl
  | _ => rfl
theorem getD_mem2 {r : Rw} {i : Nat} (h : i < r.length) : r.getD i ("", false) ∈ r := by
  rw [List.getD_eq_getElem?_getD, List.getElem?_eq_getElem h]; exact List.getElem_mem h
theorem p0_mem {b : Bil} (h : 2 ≤ b.places.length) : p0 b ∈ b.places := getD_mem2 (by omega)
theorem sign_okb {s s' : Hl} {y : Hl × PyData} {word : Str} {bl : Bool} {x : Int × Int × Str × Bool} {d : PyData} (o : Okb s) (hd : s.ds.length < 5000) (hn : noL (.tuple (.str word :: aSn x)) = true)
    (h1 : signonD s (x.1, x.2.1, x.2.2.1, x.2.2.2, bl) = .ok y) (h : Except.ok (tell y.1 (.tuple (.str word :: aSn x)), PyData.none) = (.ok (s', d) : DR)) : Okb s' ∧ s'.ds = s.ds ++ [.tuple (.str word :: aSn x)] := by
  obtain ⟨i, g1, h1⟩ := seqE_inv h1
  obtain ⟨d2, g2, h1⟩ := seqE_inv h1
  obtain ⟨d3, g3, h1⟩ := seqE_inv h1
  obtain ⟨d4, g4, h1⟩ := seqE_inv h1
  have hb := o.at (copyR_lt g1)
  split at h1
  · cases h1
  · split at h1
    · cases h1
    · rename_i h8
      cases h1
      cases h
      refine ⟨o.mk' (o.same (m := s.m) rfl) o.fl (set40 o _ _) (o.set i ⟨?_, hb.2.1, sm_house o g2, fun q hq => ?_⟩) hd hn, rfl⟩
      · show 2 ≤ ((bilOf s i).places ++ [_]).length ∧ ((bilOf s i).places ++ [_]).length ≤ 8
        rw [List.length_append]
        have := hb.1
        show 2 ≤ (bilOf s i).places.length + 1 ∧ (bilOf s i).places.length + 1 ≤ 8
        omega
      · have hq : q ∈ (bilOf s i).places ++ [((bilOf s i).keeper, x.2.2.2)] := hq
        rcases List.mem_append.mp hq with hq | hq
        · exact hb.2.2.2 q hq
        · have : q = ((bilOf s i).keeper, x.2.2.2) := by simpa using hq
          rw [this]; exact hb.2.2.1
theorem phases_fl (paid : List Int) : ∀ (l : List Int) (s : Hl), (phasesS paid l s).fl = s.fl
  | [], _ => rfl
  | n :: l, s => by
    show (phasesS paid l (phS paid s n)).fl = _
    rw [phases_fl paid l]; rfl
theorem phases_bok' (paid : List Int) : ∀ (l : List Int) (s : Hl), (∀ b ∈ s.bs, BOk b) → (∀ n ∈ l, 1 ≤ n ∧ n ≤ s.bs.length) → ∀ b ∈ (phasesS paid l s).bs, BOk b
  | [], _, o, _ => o
  | n :: l, s, o, h => by
    have h1 := h n (by simp)
    have e : (phS paid s n).bs.length = s.bs.length := by show (s.bs.set _ _).length = _; rw [List.length_set]
    refine phases_bok' paid l (phS paid s n) (fun b hb => ?_) (fun k hk => by rw [e]; exact h k (by simp [hk]))
    have hb : b ∈ s.bs.set _ _ := hb
    rcases List.mem_or_eq_of_mem_set hb with hb | hb
    · exact o b hb
    · have hm : bilN s n ∈ s.bs := by
        unfold bilN bilOf
        have hlt : (n - 1).toNat < s.bs.length := by omega
        rw [List.getD_eq_getElem?_getD, List.getElem?_eq_getElem hlt]
        exact List.getElem_mem hlt
      have hk := o _ hm
      rw [hb]
      exact ⟨hk.1, hk.2.1, hk.2.2.1, hk.2.2.2⟩
theorem phases_bok (paid l : List Int) {s : Hl} (o : Okb s) (h : ∀ n ∈ l, 1 ≤ n ∧ n ≤ s.bs.length) : ∀ b ∈ (phasesS paid l s).bs, BOk b := phases_bok' paid l s o.bo h
theorem run_ok {s s' : Hl} {D : Dd} {d : PyData} (o : Okb s) (hd : s.ds.length < 5000) (h : D.run s = .ok (s', d)) : Okb s' ∧ s'.ds = s.ds ++ [D.data] := by
  have hn := noL_data D
  have same := o.same (m := s.m) rfl
  cases D with
  | house z c =>
    have h : houseD s (z, c) = _ := h
    unfold houseD at h
    split at h
    · cases h
    · rename_i h1
      split at h
      · cases h
      · obtain ⟨d1, h2, h⟩ := seqE_inv h
        split at h
        · cases h
        · rename_i h9
          obtain ⟨m', h3, h⟩ := seqE_inv h
          cases h
          exact ⟨o.mk' (add_ok o h3 h9 (isName_sm (by simpa using h1))) o.fl o.ok.b o.bo hd hn, rfl⟩
  | putin z c =>
    obtain ⟨d1, h1, h⟩ := seqE_inv (show inD s (z, c) = _ from h)
    obtain ⟨d2, h2, h⟩ := seqE_inv h
    obtain ⟨m', h3, h⟩ := seqE_inv h
    cases h
    exact ⟨o.mk' (o.same (fill_nms h3)) o.fl o.ok.b o.bo hd hn, rfl⟩
  | out z c =>
    obtain ⟨d1, h1, h⟩ := seqE_inv (show outD s (z, c) = _ from h)
    obtain ⟨d2, h2, h⟩ := seqE_inv h
    obtain ⟨m', h3, h⟩ := seqE_inv h
    cases h
    exact ⟨o.mk' (o.same (spend_nms h3)) o.fl o.ok.b o.bo hd hn, rfl⟩
  | fail z =>
    obtain ⟨d1, h1, h⟩ := seqE_inv (show failD s z = _ from h)
    obtain ⟨d2, h2, h⟩ := seqE_inv h
    cases h
    exact ⟨o.mk' same (by rw [List.length_append]; exact Nat.succ_le_succ o.ok.f) o.ok.b o.bo hd hn, rfl⟩
  | mend z =>
    obtain ⟨d1, h1, h⟩ := seqE_inv (show mendD s z = _ from h)
    split at h
    · cases h
      exact ⟨o.mk' same (Nat.le_trans (List.length_erase_le ..) o.fl) o.ok.b o.bo hd hn, rfl⟩
    · cases h
  | days n =>
    have h : daysD s n = _ := h
    unfold daysD at h
    split at h
    · cases h
      exact ⟨o.mk' same o.fl o.ok.b o.bo hd hn, rfl⟩
    · cases h
  | draw x =>
    obtain ⟨d1, h1, h⟩ := seqE_inv (show drawD s x = _ from h)
    obtain ⟨d2, h2, h⟩ := seqE_inv h
    obtain ⟨d3, h3, h⟩ := seqE_inv h
    obtain ⟨d4, h4, h⟩ := seqE_inv h
    obtain ⟨d5, h5, h⟩ := seqE_inv h
    split at h
    · split at h
      · cases h
      · rename_i h40
        cases h
        refine ⟨o.mk' same o.fl (by rw [List.length_append]; show s.bs.length + 1 ≤ 40; omega) (fun b hb => ?_) hd hn, rfl⟩
        rcases List.mem_append.mp hb with hb | hb
        · exact o.bo b hb
        · have e : b = newBil x.1 x.2.1 x.2.2.1 x.2.2.2.1 x.2.2.2.2.1 x.2.2.2.2.2 := by simpa using hb
          rw [e]
          have hc : (1 : Int) ≤ x.2.2.2.1 := by
            unfold chkCoins at h5
            simp only at h5
            split at h5
            · rename_i hh; omega
            · cases h5
          refine ⟨⟨by show 2 ≤ 2; omega, by show 2 ≤ 8; omega⟩, by show 0 ≤ x.2.2.2.1; omega, sm_house o h3, fun q hq => ?_⟩
          have hq : q ∈ [(x.2.1, false), (x.1, x.2.2.2.2.2)] := hq
          simp only [List.mem_cons, List.not_mem_nil, or_false] at hq
          rcases hq with rfl | rfl
          · exact sm_house o h2
          · exact sm_house o h1
    · cases h
  | accept x =>
    obtain ⟨i, h1, h⟩ := seqE_inv (show acceptD s x = _ from h)
    obtain ⟨d2, h2, h⟩ := seqE_inv h
    obtain ⟨d3, h3, h⟩ := seqE_inv h
    have hb := o.at (copyR_lt h1)
    split at h
    · cases h
    · cases h
      refine ⟨o.mk' same o.fl (set40 o _ _) (o.set i ⟨by rw [List.length_set]; exact hb.1, hb.2.1, hb.2.2.1, fun q hq => ?_⟩) hd hn, rfl⟩
      rcases List.mem_or_eq_of_mem_set hq with hq | hq
      · exact hb.2.2.2 q hq
      · rw [hq]
        show Sm (p0 (bilOf s i)).1
        exact hb.2.2.2 _ (p0_mem hb.1.1)
  | sign x =>
    obtain ⟨y, h1, h⟩ := seqE_inv (show signD "sign" false s x = _ from h)
    exact sign_okb o hd hn h1 h
  | blank x =>
    obtain ⟨y, h1, h⟩ := seqE_inv (show signD "blank" true s x = _ from h)
    exact sign_okb o hd hn h1 h
  | hand x =>
    obtain ⟨i, h1, h⟩ := seqE_inv (show handD s x = _ from h)
    obtain ⟨d2, h2, h⟩ := seqE_inv h
    obtain ⟨d3, h3, h⟩ := seqE_inv h
    have hb := o.at (copyR_lt h1)
    split at h
    · cases h
    · split at h
      · cases h
      · cases h
        exact ⟨o.mk' same o.fl (set40 o _ _) (o.set i ⟨hb.1, hb.2.1, sm_house o h2, hb.2.2.2⟩) hd hn, rfl⟩
  | lose n =>
    obtain ⟨i, h1, h⟩ := seqE_inv (show loseD s n = _ from h)
    have hb := o.at (findR_lt h1)
    split at h
    · cases h
    · split at h
      · cases h
      · cases h
        exact ⟨o.mk' same o.fl (set40 o _ _) (o.set i ⟨hb.1, hb.2.1, hb.2.2.1, hb.2.2.2⟩) hd hn, rfl⟩
  | present x =>
    obtain ⟨i, h1, h⟩ := seqE_inv (show presentD s x = _ from h)
    obtain ⟨d2, h2, h⟩ := seqE_inv h
    have hb := o.at (copyR_lt h1)
    split at h
    · cases h
    · obtain ⟨paid, h3, h⟩ := seqE_inv h
      obtain ⟨m, h4, h⟩ := seqE_inv h
      cases h
      have hm : nms m = nms s.m := by
        unfold payP at h4
        split at h4
        · exact pay_nms h4
        · cases h4; rfl
      exact ⟨o.mk' (o.same hm) o.fl (set40 o _ _) (o.set i ⟨hb.1, hb.2.1, hb.2.2.1, hb.2.2.2⟩) hd hn, rfl⟩
  | protest x =>
    obtain ⟨i, h1, h⟩ := seqE_inv (show protestD s x = _ from h)
    obtain ⟨d2, h2, h⟩ := seqE_inv h
    have hb := o.at (copyR_lt h1)
    split at h
    · cases h
    · split at h
      · cases h
      · cases h
        exact ⟨o.mk' same o.fl (set40 o _ _) (o.set i ⟨hb.1, hb.2.1, hb.2.2.1, hb.2.2.2⟩) hd hn, rfl⟩
  | ask x =>
    obtain ⟨i, h1, h⟩ := seqE_inv (show askD s x = _ from h)
    obtain ⟨d2, h2, h⟩ := seqE_inv h
    have hb := o.at (copyR_lt h1)
    split at h
    · obtain ⟨d3, h3, h⟩ := seqE_inv h
      obtain ⟨m, h4, h⟩ := seqE_inv h
      cases h
      refine ⟨o.mk' (o.same (pay_nms h4)) o.fl (set40 o _ _) (o.set i ?_) hd hn, rfl⟩
      have hz := sm_nameAt hb x.2.2
      unfold askBil
      split
      · exact ⟨hb.1, hb.2.1, hz, hb.2.2.2⟩
      · refine ⟨?_, hb.2.1, hz, fun q hq => ?_⟩
        · show 2 ≤ (retM _ _).length ∧ (retM _ _).length ≤ 8
          unfold retM
          split
          · exact hb.1
          · exact take_bok hb.1 (by omega)
        · have hq : q ∈ retM (bilOf s i).places x.2.2.toNat := hq
          unfold retM at hq
          split at hq
          · exact hb.2.2.2 q hq
          · exact hb.2.2.2 q (List.mem_of_mem_take hq)
    · cases h
  | honour x =>
    obtain ⟨i, h1, h⟩ := seqE_inv (show honourD s x = _ from h)
    obtain ⟨d2, h2, h⟩ := seqE_inv h
    obtain ⟨d3, h3, h⟩ := seqE_inv h
    have hb := o.at (copyR_lt h1)
    split at h
    · cases h
    · split at h
      · split at h
        · cases h
        · split at h
          · cases h
          · obtain ⟨d4, h4, h⟩ := seqE_inv h
            obtain ⟨m, h5, h⟩ := seqE_inv h
            cases h
            refine ⟨o.mk' (o.same (pay_nms h5)) o.fl (set40 o _ _) (o.set i ⟨?_, hb.2.1, sm_house o h2, fun q hq => ?_⟩) hd hn, rfl⟩
            · show 2 ≤ (honM _ _).length ∧ (honM _ _).length ≤ 8
              unfold honM
              split
              · exact ⟨by show 2 ≤ 2; omega, by show 2 ≤ 8; omega⟩
              · exact take_bok hb.1 (by omega)
            · have hq : q ∈ honM (bilOf s i).places x.2.2.2.toNat := hq
              unfold honM at hq
              split at hq
              · have h28 := hb.1.1
                have g0 : (bilOf s i).places.getD 0 ("", false) ∈ (bilOf s i).places := getD_mem2 (by omega)
                have g1 : (bilOf s i).places.getD 1 ("", false) ∈ (bilOf s i).places := getD_mem2 (by omega)
                simp only [List.mem_cons, List.not_mem_nil, or_false] at hq
                rcases hq with rfl | rfl
                · exact hb.2.2.2 _ g0
                · show Sm ((bilOf s i).places.getD 1 ("", false)).1
                  exact hb.2.2.2 _ g1
              · exact hb.2.2.2 q (List.mem_of_mem_take hq)
      · cases h
  | fair zs =>
    obtain ⟨d1, h1, h⟩ := seqE_inv (show fairD s zs = _ from h)
    cases h
    obtain ⟨hall, hnd⟩ := checkN_ok h1
    have rng : ∀ n ∈ fairI s zs, 1 ≤ n ∧ n ≤ s.bs.length := fun n hn => by
      obtain ⟨i, hf, _⟩ := fairI_find hn
      unfold findR at hf
      split at hf
      · assumption
      · cases hf
    have ed := phases_ds (paidL s zs) (fairI s zs) s
    have ef := phases_fl (paidL s zs) (fairI s zs) s
    have el := phases_len (paidL s zs) (fairI s zs) s
    have eb := phases_bok (paidL s zs) (fairI s zs) o rng
    have hm : nms (movesM (netOf s zs) (srt zs) s.m) = nms s.m := nms_moves _ _ _ fun z hz => mem_nms.mpr (hall z (mem_srt.mp hz))
    unfold fairS
    generalize phasesS (paidL s zs) (fairI s zs) s = sk at ed ef el eb
    obtain ⟨m0, fl0, day0, bs0, ds0⟩ := sk
    simp only at ed ef el eb
    subst ed
    subst ef
    exact ⟨o.mk' (o.same hm) o.fl (by rw [el]; exact o.ok.b) eb hd hn, rfl⟩

end
end

-- la2.txt
section

local macro_rules | `(tactic| walk_at "arith") => `(tactic| first | omega | decide | (unfold CMul; omega) | (unfold CDiv; omega) | (unfold CPow; decide) | (refine ⟨?_, ?_⟩ <;> omega) | (simp; done) | (simp; omega))
local macro_rules | `(tactic| walk_at "wide") => `(tactic| exact ⟨by decide, by decide +kernel⟩)
section
variable {P : Program} {w : World} {K : PySem.W.Frag} {mg : Str → Option Value} {base : Heap} {A : Ad}
/-! ### the law does a deed  -/
theorem w_house {D : Dd} (h : D.word = "house") : ∃ z c, D = .house z c := by cases D <;> first | exact ⟨_, _, rfl⟩ | (dsimp only [Dd.word] at h; exact absurd h (by decide +kernel))
theorem w_putin {D : Dd} (h : D.word = "in") : ∃ z c, D = .putin z c := by cases D <;> first | exact ⟨_, _, rfl⟩ | (dsimp only [Dd.word] at h; exact absurd h (by decide +kernel))
theorem w_out {D : Dd} (h : D.word = "out") : ∃ z c, D = .out z c := by cases D <;> first | exact ⟨_, _, rfl⟩ | (dsimp only [Dd.word] at h; exact absurd h (by decide +kernel))
theorem w_fail {D : Dd} (h : D.word = "fail") : ∃ z, D = .fail z := by cases D <;> first | exact ⟨_, rfl⟩ | (dsimp only [Dd.word] at h; exact absurd h (by decide +kernel))
theorem w_mend {D : Dd} (h : D.word = "mend") : ∃ z, D = .mend z := by cases D <;> first | exact ⟨_, rfl⟩ | (dsimp only [Dd.word] at h; exact absurd h (by decide +kernel))
theorem w_days {D : Dd} (h : D.word = "days") : ∃ n, D = .days n := by cases D <;> first | exact ⟨_, rfl⟩ | (dsimp only [Dd.word] at h; exact absurd h (by decide +kernel))
theorem w_draw {D : Dd} (h : D.word = "draw") : ∃ x, D = .draw x := by cases D <;> first | exact ⟨_, rfl⟩ | (dsimp only [Dd.word] at h; exact absurd h (by decide +kernel))
theorem w_accept {D : Dd} (h : D.word = "accept") : ∃ x, D = .accept x := by cases D <;> first | exact ⟨_, rfl⟩ | (dsimp only [Dd.word] at h; exact absurd h (by decide +kernel))
theorem w_sign {D : Dd} (h : D.word = "sign") : ∃ x, D = .sign x := by cases D <;> first | exact ⟨_, rfl⟩ | (dsimp only [Dd.word] at h; exact absurd h (by decide +kernel))
theorem w_blank {D : Dd} (h : D.word = "blank") : ∃ x, D = .blank x := by cases D <;> first | exact ⟨_, rfl⟩ | (dsimp only [Dd.word] at h; exact absurd h (by decide +kernel))
theorem w_hand {D : Dd} (h : D.word = "hand") : ∃ x, D = .hand x := by cases D <;> first | exact ⟨_, rfl⟩ | (dsimp only [Dd.word] at h; exact absurd h (by decide +kernel))
theorem w_lose {D : Dd} (h : D.word = "lose") : ∃ n, D = .lose n := by cases D <;> first | exact ⟨_, rfl⟩ | (dsimp only [Dd.word] at h; exact absurd h (by decide +kernel))
theorem w_present {D : Dd} (h : D.word = "present") : ∃ x, D = .present x := by cases D <;> first | exact ⟨_, rfl⟩ | (dsimp only [Dd.word] at h; exact absurd h (by decide +kernel))
theorem w_protest {D : Dd} (h : D.word = "protest") : ∃ x, D = .protest x := by cases D <;> first | exact ⟨_, rfl⟩ | (dsimp only [Dd.word] at h; exact absurd h (by decide +kernel))
theorem w_ask {D : Dd} (h : D.word = "ask") : ∃ x, D = .ask x := by cases D <;> first | exact ⟨_, rfl⟩ | (dsimp only [Dd.word] at h; exact absurd h (by decide +kernel))
theorem w_honour {D : Dd} (h : D.word = "honour") : ∃ x, D = .honour x := by cases D <;> first | exact ⟨_, rfl⟩ | (dsimp only [Dd.word] at h; exact absurd h (by decide +kernel))
theorem w_fair {D : Dd} (h : D.word = "fair") : ∃ zs, D = .fair zs := by cases D <;> first | exact ⟨_, rfl⟩ | (dsimp only [Dd.word] at h; exact absurd h (by decide +kernel))
def Dd.paper : Dd → Bool
  | .house .. | .putin .. | .out .. | .fail .. | .mend .. | .days .. | .draw .. | .fair .. => false
  | _ => true
theorem w_paper {D : Dd} (h0 : ¬ D.word = "house") (h1 : ¬ D.word = "in") (h2 : ¬ D.word = "out") (h3 : ¬ D.word = "fail") (h4 : ¬ D.word = "mend") (h5 : ¬ D.word = "days") (h6 : ¬ D.word = "draw") (h7 : ¬ D.word = "fair") : D.paper = true := by cases D <;> first | rfl | exact absurd rfl h0 | exact absurd rfl h1 | exact absurd rfl h2 | exact absurd rfl h3 | exact absurd rfl h4 | exact absurd rfl h5 | exact absurd rfl h6 | exact absurd rfl h7
theorem w_last {D : Dd} (hp : D.paper = true) (h0 : ¬ D.word = "accept") (h1 : ¬ D.word = "sign") (h2 : ¬ D.word = "blank") (h3 : ¬ D.word = "hand") (h4 : ¬ D.word = "lose") (h5 : ¬ D.word = "present") (h6 : ¬ D.word = "protest") (h7 : ¬ D.word = "ask") : ∃ x, D = .honour x := by cases D <;> first | exact ⟨_, rfl⟩ | exact Bool.noConfusion (show false = true from hp) | exact absurd rfl h0 | exact absurd rfl h1 | exact absurd rfl h2 | exact absurd rfl h3 | exact absurd rfl h4 | exact absurd rfl h5 | exact absurd rfl h6 | exact absurd rfl h7
abbrev spDo (B : Bd) (pre : Dd → Prop) : Sp := fun vs H Q E => ∃ (G : Hp) (a : Ha) (s : Hl) (D : Dd) (vd : V), vs = [.ref a.h, vd] ∧ Dx G vd D.data ∧ W B G H a s ∧ Ok s ∧ pre D ∧
  (∀ k, D.run s = .error k → ∀ G' H', Gr [] G H G' H' → E (.ref (B.cls k)) none H') ∧ (∀ s' d, D.run s = .ok (s', d) → ∀ a' G' H' v, Ch a G H a' G' H' → a'.h = a.h → W B G' H' a' s' → Q v H')
theorem ok_Lpaper_do {B : Bd} (T : Txt K mg A) (U : Ux K mg B) : FnOk P w K mg base (L2.CX P w) 7 A.a_Lpaper_do A.d_Lpaper_do ["_law_hall", "_law_deed_here"] (spDo B fun D => D.paper = true) := by
  have G_Haccept := ok_Haccept (P := P) (w := w) (base := base) T U
  have G_Hsign := ok_Hsign (P := P) (w := w) (base := base) T U
  have G_Hsignblank := ok_Hsignblank (P := P) (w := w) (base := base) T U
  have G_Hhand := ok_Hhand (P := P) (w := w) (base := base) T U
  have G_Hlose := ok_Hlose (P := P) (w := w) (base := base) T U
  have G_Hpresent := ok_Hpresent (P := P) (w := w) (base := base) T U
  have G_Hprotest := ok_Hprotest (P := P) (w := w) (base := base) T U
  have G_Hask := ok_Hask (P := P) (w := w) (base := base) T U
  have G_Hhonour := ok_Hhonour (P := P) (w := w) (base := base) T U
  refine T.F_Lpaper_do.okX sc_Lpaper_do (fun vs H Q E h => by obtain ⟨_, _, _, _, _, rfl, _⟩ := h; rfl) (fun cdv A' outer st H vs Q E hr h => ?_)
  obtain ⟨G, a, s, D, vd, rfl, h_deed_here, hW, hO, hp, kE, kQ⟩ := h
  refine ⟨_, (pss_cons (ps_set (i := 2) sc_Lpaper_do.nd rfl (Or.inl rfl) (pe_ix (ix_tupK (K := K)) (pv 1) pe_int (fun _ _ => rfl)))
      (pss_cons (ps_if (pt_cmpR op_eq (pv 2) pe_str (nomark _))
      (pss_one (ps_ret (pe_meth (pv 0) U.cl_Hall U.m_Haccept G_Haccept (hr.mono (by omega)) U.b_Haccept .nil (passes_call (takes_of rfl rfl rfl rfl) fun _ _ _ _ z => z) (by exact (pa_cons (pe_ix (ix_tupK (K := K)) (pv 1) pe_int (fun _ _ => rfl)) (pa_cons (pe_ix (ix_tupK (K := K)) (pv 1) pe_int (fun _ _ => rfl)) pa_nil))))))
      pss_nil)
      (pss_cons (ps_if (pt_cmpR op_eq (pv 2) pe_str (nomark _))
      (pss_one (ps_ret (pe_meth (pv 0) U.cl_Hall U.m_Hsign G_Hsign (hr.mono (by omega)) U.b_Hsign .nil (passes_call (takes_of rfl rfl rfl rfl) fun _ _ _ _ z => z) (by exact (pa_cons (pe_ix (ix_tupK (K := K)) (pv 1) pe_int (fun _ _ => rfl)) (pa_cons (pe_ix (ix_tupK (K := K)) (pv 1) pe_int (fun _ _ => rfl)) (pa_cons (pe_ix (ix_tupK (K := K)) (pv 1) pe_int (fun _ _ => rfl)) (pa_cons (pe_ix (ix_tupK (K := K)) (pv 1) pe_int (fun _ _ => rfl)) pa_nil))))))))
      pss_nil)
      (pss_cons (ps_if (pt_cmpR op_eq (pv 2) pe_str (nomark _))
      (pss_one (ps_ret (pe_meth (pv 0) U.cl_Hall U.m_Hsignblank G_Hsignblank (hr.mono (by omega)) U.b_Hsignblank .nil (passes_call (takes_of rfl rfl rfl rfl) fun _ _ _ _ z => z) (by exact (pa_cons (pe_ix (ix_tupK (K := K)) (pv 1) pe_int (fun _ _ => rfl)) (pa_cons (pe_ix (ix_tupK (K := K)) (pv 1) pe_int (fun _ _ => rfl)) (pa_cons (pe_ix (ix_tupK (K := K)) (pv 1) pe_int (fun _ _ => rfl)) (pa_cons (pe_ix (ix_tupK (K := K)) (pv 1) pe_int (fun _ _ => rfl)) pa_nil))))))))
      pss_nil)
      (pss_cons (ps_if (pt_cmpR op_eq (pv 2) pe_str (nomark _))
      (pss_one (ps_ret (pe_meth (pv 0) U.cl_Hall U.m_Hhand G_Hhand (hr.mono (by omega)) U.b_Hhand .nil (passes_call (takes_of rfl rfl rfl rfl) fun _ _ _ _ z => z) (by exact (pa_cons (pe_ix (ix_tupK (K := K)) (pv 1) pe_int (fun _ _ => rfl)) (pa_cons (pe_ix (ix_tupK (K := K)) (pv 1) pe_int (fun _ _ => rfl)) (pa_cons (pe_ix (ix_tupK (K := K)) (pv 1) pe_int (fun _ _ => rfl)) pa_nil)))))))
      pss_nil)
      (pss_cons (ps_if (pt_cmpR op_eq (pv 2) pe_str (nomark _))
      (pss_one (ps_ret (pe_meth (pv 0) U.cl_Hall U.m_Hlose G_Hlose (hr.mono (by omega)) U.b_Hlose .nil (passes_call (takes_of rfl rfl rfl rfl) fun _ _ _ _ z => z) (by exact (pa_cons (pe_ix (ix_tupK (K := K)) (pv 1) pe_int (fun _ _ => rfl)) pa_nil)))))
      pss_nil)
      (pss_cons (ps_if (pt_cmpR op_eq (pv 2) pe_str (nomark _))
      (pss_one (ps_ret (pe_meth (pv 0) U.cl_Hall U.m_Hpresent G_Hpresent (hr.mono (by omega)) U.b_Hpresent .nil (passes_call (takes_of rfl rfl rfl rfl) fun _ _ _ _ z => z) (by exact (pa_cons (pe_ix (ix_tupK (K := K)) (pv 1) pe_int (fun _ _ => rfl)) (pa_cons (pe_ix (ix_tupK (K := K)) (pv 1) pe_int (fun _ _ => rfl)) pa_nil))))))
      pss_nil)
      (pss_cons (ps_if (pt_cmpR op_eq (pv 2) pe_str (nomark _))
      (pss_one (ps_ret (pe_meth (pv 0) U.cl_Hall U.m_Hprotest G_Hprotest (hr.mono (by omega)) U.b_Hprotest .nil (passes_call (takes_of rfl rfl rfl rfl) fun _ _ _ _ z => z) (by exact (pa_cons (pe_ix (ix_tupK (K := K)) (pv 1) pe_int (fun _ _ => rfl)) (pa_cons (pe_ix (ix_tupK (K := K)) (pv 1) pe_int (fun _ _ => rfl)) pa_nil))))))
      pss_nil)
      (pss_cons (ps_if (pt_cmpR op_eq (pv 2) pe_str (nomark _))
      (pss_one (ps_ret (pe_meth (pv 0) U.cl_Hall U.m_Hask G_Hask (hr.mono (by omega)) U.b_Hask .nil (passes_call (takes_of rfl rfl rfl rfl) fun _ _ _ _ z => z) (by exact (pa_cons (pe_ix (ix_tupK (K := K)) (pv 1) pe_int (fun _ _ => rfl)) (pa_cons (pe_ix (ix_tupK (K := K)) (pv 1) pe_int (fun _ _ => rfl)) (pa_cons (pe_ix (ix_tupK (K := K)) (pv 1) pe_int (fun _ _ => rfl)) pa_nil)))))))
      pss_nil)
      (pss_one (ps_ret (pe_meth (pv 0) U.cl_Hall U.m_Hhonour G_Hhonour (hr.mono (by omega)) U.b_Hhonour .nil (passes_call (takes_of rfl rfl rfl rfl) fun _ _ _ _ z => z) (by exact (pa_cons (pe_ix (ix_tupK (K := K)) (pv 1) pe_int (fun _ _ => rfl)) (pa_cons (pe_ix (ix_tupK (K := K)) (pv 1) pe_int (fun _ _ => rfl)) (pa_cons (pe_ix (ix_tupK (K := K)) (pv 1) pe_int (fun _ _ => rfl)) (pa_cons (pe_ix (ix_tupK (K := K)) (pv 1) pe_int (fun _ _ => rfl)) pa_nil))))))))))))))))), ?_⟩
  refine q_asg (d := .str D.word) (ev_op (ev_var rfl h_deed_here) ev_int (rd_ixT (atI_nat (j := 0) rfl))) hW.sb fun v2 G1 H1 g1 h_word => ?_
  have hW := hW.step g1
  have h_deed_here := h_deed_here.mono g1.g
  have gA := g1
  refine q_when (b := decide (D.word = "accept")) (et_test (ev_op (ev_var rfl h_word) ev_str rd_eqS)) hW.sb (fun hb G2 H2 g2 => ?_) (fun hb0 G2 H2 g2 => ?_)
  · obtain ⟨x, rfl⟩ := w_accept (of_decide_eq_true hb)
    have hW := hW.step g2
    have h_deed_here := h_deed_here.mono g2.g
    have gA := gA.trans g2
    exact s_retDeed (R := acceptD) (args := aII) x (evv_var rfl) hW hO trivial (ea_cons (ev_op (ev_var rfl h_deed_here) ev_int (rd_ixT (atI_nat (j := 1) rfl))) (ea_cons (ev_op (ev_var rfl h_deed_here) ev_int (rd_ixT (atI_nat (j := 2) rfl))) ea_nil)) (fun k hk G3 H3 g3 => kE k hk G3 H3 (gA.trans g3)) (fun s' d hd a' G3 H3 v c3 ea hW3 _ => kQ s' d hd a' G3 H3 v ((Ch.of gA).trans c3) ea hW3)
  have hW := hW.step g2
  have h_deed_here := h_deed_here.mono g2.g
  have h_word := h_word.mono g2.g
  have gA := gA.trans g2
  refine q_when (b := decide (D.word = "sign")) (et_test (ev_op (ev_var rfl h_word) ev_str rd_eqS)) hW.sb (fun hb G2 H2 g2 => ?_) (fun hb1 G2 H2 g2 => ?_)
  · obtain ⟨x, rfl⟩ := w_sign (of_decide_eq_true hb)
    have hW := hW.step g2
    have h_deed_here := h_deed_here.mono g2.g
    have gA := gA.trans g2
    exact s_retDeed (R := signD "sign" false) (args := aSn) x (evv_var rfl) hW hO trivial (ea_cons (ev_op (ev_var rfl h_deed_here) ev_int (rd_ixT (atI_nat (j := 1) rfl))) (ea_cons (ev_op (ev_var rfl h_deed_here) ev_int (rd_ixT (atI_nat (j := 2) rfl))) (ea_cons (ev_op (ev_var rfl h_deed_here) ev_int (rd_ixT (atI_nat (j := 3) rfl))) (ea_cons (ev_op (ev_var rfl h_deed_here) ev_int (rd_ixT (atI_nat (j := 4) rfl))) ea_nil)))) (fun k hk G3 H3 g3 => kE k hk G3 H3 (gA.trans g3)) (fun s' d hd a' G3 H3 v c3 ea hW3 _ => kQ s' d hd a' G3 H3 v ((Ch.of gA).trans c3) ea hW3)
  have hW := hW.step g2
  have h_deed_here := h_deed_here.mono g2.g
  have h_word := h_word.mono g2.g
  have gA := gA.trans g2
  refine q_when (b := decide (D.word = "blank")) (et_test (ev_op (ev_var rfl h_word) ev_str rd_eqS)) hW.sb (fun hb G2 H2 g2 => ?_) (fun hb2 G2 H2 g2 => ?_)
  · obtain ⟨x, rfl⟩ := w_blank (of_decide_eq_true hb)
    have hW := hW.step g2
    have h_deed_here := h_deed_here.mono g2.g
    have gA := gA.trans g2
    exact s_retDeed (R := signD "blank" true) (args := aSn) x (evv_var rfl) hW hO trivial (ea_cons (ev_op (ev_var rfl h_deed_here) ev_int (rd_ixT (atI_nat (j := 1) rfl))) (ea_cons (ev_op (ev_var rfl h_deed_here) ev_int (rd_ixT (atI_nat (j := 2) rfl))) (ea_cons (ev_op (ev_var rfl h_deed_here) ev_int (rd_ixT (atI_nat (j := 3) rfl))) (ea_cons (ev_op (ev_var rfl h_deed_here) ev_int (rd_ixT (atI_nat (j := 4) rfl))) ea_nil)))) (fun k hk G3 H3 g3 => kE k hk G3 H3 (gA.trans g3)) (fun s' d hd a' G3 H3 v c3 ea hW3 _ => kQ s' d hd a' G3 H3 v ((Ch.of gA).trans c3) ea hW3)
  have hW := hW.step g2
  have h_deed_here := h_deed_here.mono g2.g
  have h_word := h_word.mono g2.g
  have gA := gA.trans g2
  refine q_when (b := decide (D.word = "hand")) (et_test (ev_op (ev_var rfl h_word) ev_str rd_eqS)) hW.sb (fun hb G2 H2 g2 => ?_) (fun hb3 G2 H2 g2 => ?_)
  · obtain ⟨x, rfl⟩ := w_hand (of_decide_eq_true hb)
    have hW := hW.step g2
    have h_deed_here := h_deed_here.mono g2.g
    have gA := gA.trans g2
    exact s_retDeed (R := handD) (args := aIIS) x (evv_var rfl) hW hO trivial (ea_cons (ev_op (ev_var rfl h_deed_here) ev_int (rd_ixT (atI_nat (j := 1) rfl))) (ea_cons (ev_op (ev_var rfl h_deed_here) ev_int (rd_ixT (atI_nat (j := 2) rfl))) (ea_cons (ev_op (ev_var rfl h_deed_here) ev_int (rd_ixT (atI_nat (j := 3) rfl))) ea_nil))) (fun k hk G3 H3 g3 => kE k hk G3 H3 (gA.trans g3)) (fun s' d hd a' G3 H3 v c3 ea hW3 _ => kQ s' d hd a' G3 H3 v ((Ch.of gA).trans c3) ea hW3)
  have hW := hW.step g2
  have h_deed_here := h_deed_here.mono g2.g
  have h_word := h_word.mono g2.g
  have gA := gA.trans g2
  refine q_when (b := decide (D.word = "lose")) (et_test (ev_op (ev_var rfl h_word) ev_str rd_eqS)) hW.sb (fun hb G2 H2 g2 => ?_) (fun hb4 G2 H2 g2 => ?_)
  · obtain ⟨n, rfl⟩ := w_lose (of_decide_eq_true hb)
    have hW := hW.step g2
    have h_deed_here := h_deed_here.mono g2.g
    have gA := gA.trans g2
    exact s_retDeed (R := loseD) (args := aI) n (evv_var rfl) hW hO trivial (ea_cons (ev_op (ev_var rfl h_deed_here) ev_int (rd_ixT (atI_nat (j := 1) rfl))) ea_nil) (fun k hk G3 H3 g3 => kE k hk G3 H3 (gA.trans g3)) (fun s' d hd a' G3 H3 v c3 ea hW3 _ => kQ s' d hd a' G3 H3 v ((Ch.of gA).trans c3) ea hW3)
  have hW := hW.step g2
  have h_deed_here := h_deed_here.mono g2.g
  have h_word := h_word.mono g2.g
  have gA := gA.trans g2
  refine q_when (b := decide (D.word = "present")) (et_test (ev_op (ev_var rfl h_word) ev_str rd_eqS)) hW.sb (fun hb G2 H2 g2 => ?_) (fun hb5 G2 H2 g2 => ?_)
  · obtain ⟨x, rfl⟩ := w_present (of_decide_eq_true hb)
    have hW := hW.step g2
    have h_deed_here := h_deed_here.mono g2.g
    have gA := gA.trans g2
    exact s_retDeed (R := presentD) (args := aII) x (evv_var rfl) hW hO trivial (ea_cons (ev_op (ev_var rfl h_deed_here) ev_int (rd_ixT (atI_nat (j := 1) rfl))) (ea_cons (ev_op (ev_var rfl h_deed_here) ev_int (rd_ixT (atI_nat (j := 2) rfl))) ea_nil)) (fun k hk G3 H3 g3 => kE k hk G3 H3 (gA.trans g3)) (fun s' d hd a' G3 H3 v c3 ea hW3 _ => kQ s' d hd a' G3 H3 v ((Ch.of gA).trans c3) ea hW3)
  have hW := hW.step g2
  have h_deed_here := h_deed_here.mono g2.g
  have h_word := h_word.mono g2.g
  have gA := gA.trans g2
  refine q_when (b := decide (D.word = "protest")) (et_test (ev_op (ev_var rfl h_word) ev_str rd_eqS)) hW.sb (fun hb G2 H2 g2 => ?_) (fun hb6 G2 H2 g2 => ?_)
  · obtain ⟨x, rfl⟩ := w_protest (of_decide_eq_true hb)
    have hW := hW.step g2
    have h_deed_here := h_deed_here.mono g2.g
    have gA := gA.trans g2
    exact s_retDeed (R := protestD) (args := aII) x (evv_var rfl) hW hO trivial (ea_cons (ev_op (ev_var rfl h_deed_here) ev_int (rd_ixT (atI_nat (j := 1) rfl))) (ea_cons (ev_op (ev_var rfl h_deed_here) ev_int (rd_ixT (atI_nat (j := 2) rfl))) ea_nil)) (fun k hk G3 H3 g3 => kE k hk G3 H3 (gA.trans g3)) (fun s' d hd a' G3 H3 v c3 ea hW3 _ => kQ s' d hd a' G3 H3 v ((Ch.of gA).trans c3) ea hW3)
  have hW := hW.step g2
  have h_deed_here := h_deed_here.mono g2.g
  have h_word := h_word.mono g2.g
  have gA := gA.trans g2
  refine q_when (b := decide (D.word = "ask")) (et_test (ev_op (ev_var rfl h_word) ev_str rd_eqS)) hW.sb (fun hb G2 H2 g2 => ?_) (fun hb7 G2 H2 g2 => ?_)
  · obtain ⟨x, rfl⟩ := w_ask (of_decide_eq_true hb)
    have hW := hW.step g2
    have h_deed_here := h_deed_here.mono g2.g
    have gA := gA.trans g2
    exact s_retDeed (R := askD) (args := aIII) x (evv_var rfl) hW hO trivial (ea_cons (ev_op (ev_var rfl h_deed_here) ev_int (rd_ixT (atI_nat (j := 1) rfl))) (ea_cons (ev_op (ev_var rfl h_deed_here) ev_int (rd_ixT (atI_nat (j := 2) rfl))) (ea_cons (ev_op (ev_var rfl h_deed_here) ev_int (rd_ixT (atI_nat (j := 3) rfl))) ea_nil))) (fun k hk G3 H3 g3 => kE k hk G3 H3 (gA.trans g3)) (fun s' d hd a' G3 H3 v c3 ea hW3 _ => kQ s' d hd a' G3 H3 v ((Ch.of gA).trans c3) ea hW3)
  have hW := hW.step g2
  have h_deed_here := h_deed_here.mono g2.g
  have h_word := h_word.mono g2.g
  have gA := gA.trans g2
  obtain ⟨x, rfl⟩ := w_last hp (of_decide_eq_false hb0) (of_decide_eq_false hb1) (of_decide_eq_false hb2) (of_decide_eq_false hb3) (of_decide_eq_false hb4) (of_decide_eq_false hb5) (of_decide_eq_false hb6) (of_decide_eq_false hb7)
  exact s_retDeed (R := honourD) (args := aHon) x (evv_var rfl) hW hO trivial (ea_cons (ev_op (ev_var rfl h_deed_here) ev_int (rd_ixT (atI_nat (j := 1) rfl))) (ea_cons (ev_op (ev_var rfl h_deed_here) ev_int (rd_ixT (atI_nat (j := 2) rfl))) (ea_cons (ev_op (ev_var rfl h_deed_here) ev_int (rd_ixT (atI_nat (j := 3) rfl))) (ea_cons (ev_op (ev_var rfl h_deed_here) ev_int (rd_ixT (atI_nat (j := 4) rfl))) ea_nil)))) (fun k hk G3 H3 g3 => kE k hk G3 H3 (gA.trans g3)) (fun s' d hd a' G3 H3 v c3 ea hW3 _ => kQ s' d hd a' G3 H3 v ((Ch.of gA).trans c3) ea hW3)

end
end

-- la3.txt
section

local macro_rules | `(tactic| walk_at "arith") => `(tactic| first | omega | decide | (unfold CMul; omega) | (unfold CDiv; omega) | (unfold CPow; decide) | (refine ⟨?_, ?_⟩ <;> omega) | (simp; done) | (simp; omega))
local macro_rules | `(tactic| walk_at "wide") => `(tactic| exact ⟨by decide, by decide +kernel⟩)
section
variable {P : Program} {w : World} {K : PySem.W.Frag} {mg : Str → Option Value} {base : Heap} {A : Ad}
/-! ### any deed -/
theorem Ch.fresh {G H G1 H1 : Hp} {a a1 : Ha} {p : Addr} {o : HO} (x : Ch a G H a1 G1 H1) (hp : H p = none) (hn : G1 p = none) : Ch a G H a1 G1 (upd H1 p o) :=
  ⟨x.g, x.s.mut hn, fun z u m e => (upd_ne (fun q => by rw [q, hp] at e; cases e)).trans (x.h z u m e), fun z u e => by
    obtain ⟨o', e'⟩ := x.t z u e
    exact ⟨o', (upd_ne (fun q => by rw [q, hp] at e; cases e)).trans e'⟩, fun z u e e0 => x.n z u e e0, x.f⟩
theorem W.mutp {B : Bd} {G H : Hp} {a : Ha} {s : Hl} {p : Addr} {o : HO} (w : W B G H a s) (hp : ¬ a.In p) (hn : G p = none) : W B G (upd H p o) a s :=
  ⟨w.sb.mut hn, w.la, w.lp, w.inj, fun i x h => by obtain ⟨u, e, c⟩ := w.ct i x h; exact ⟨u, (upd_ne (fun q => hp ⟨i, by rw [← q]; exact h⟩)).trans e, c⟩, w.ng⟩
section
variable {B : Bd} {G H : Hp} {a : Ha} {s : Hl} {σ : L2.St} {te td th ta : TE} {E : XK} {D : Ends} {tz : TS} {K : PySem.W.Frag} {Z : Dd} {pre : Dd → Prop} {p : Addr} {vs : List V} {d : PyData} {zs : List Str}
theorem x_do (h0 : EvV te σ G H (.ref a.h)) (hd : EvD td σ G H Z.data) (w : W B G H a s) (o : Ok s) (hp : pre Z) (Q : VK)
    (e : ∀ k, Z.run s = .error k → ∀ G1 H1, Gr [] G H G1 H1 → E (.ref (B.cls k)) none H1) (k : ∀ s' d, Z.run s = .ok (s', d) → ∀ a' G1 H1 v, Ch a G H a' G1 H1 → a'.h = a.h → W B G1 H1 a' s' → Q v H1) :
    tCall (spDo B pre) [] E (tCons te (tCons td tNil)) σ H Q := h0 G H (.refl w.sb) _ fun G1 H1 g1 => hd G1 H1 g1 _ fun v G2 H2 g2 x =>
  ⟨G2, a, s, Z, v, rfl, x, w.step (g1.trans g2), o, hp, fun kk hk G3 H3 g3 => e kk hk G3 H3 ((g1.trans g2).trans g3), fun s' d hd a' G3 H3 v c ea w3 => k s' d hd a' G3 H3 v ((Ch.of (g1.trans g2)).trans c) ea w3⟩
theorem x_fair (h0 : EvV te σ G H (.ref a.h)) (w : W B G H a s) (o : Ok s) (hz : zs.length ≤ 1000) (ht : EvV ta σ G H (.ref p)) (hp : H p = some (.lst (zs.map V.str))) (hpn : G p = none) (hpi : ¬ a.In p) (Q : VK)
    (e : ∀ k, fairD s zs = .error k → ∀ G1 H1, Gr [] G H G1 H1 → E (.ref (B.cls k)) none H1) (k : ∀ s' d, fairD s zs = .ok (s', d) → ∀ G1 H1 v, Ch a G H a G1 H1 → W B G1 H1 a s' → Dx G1 v d → Q v H1)
    (hm : (["purses", "failed", "day", "bills", "deeds"] : List Str).all (fun k => !(("fair" : Str) == k)) = true := by decide +kernel) :
    tMeth B.C_Hall "fair" (spFair B) [] E te (tCons ta tNil) σ H Q := h0 G H (.refl w.sb) _ fun G1 H1 g1 => by
  obtain ⟨dx, hh⟩ := (w.step g1).hh
  refine ⟨a.h, dx, _, rfl, hh, hall_look hm, ht G1 H1 g1 _ fun G2 H2 g2 => ?_⟩
  have g := g1.trans g2
  exact ⟨G2, a, s, zs, p, rfl, sb_of g _ _ hp, g.n _ _ hp hpn, hpi, w.step g, o, hz, fun kk hk G3 H3 g3 => e kk hk G3 H3 (g.trans g3), fun s' d hd G3 H3 v c w3 y => k s' d hd G3 H3 v ((Ch.of g).trans c) w3 y⟩
theorem s_appV (h0 : EvV th σ G H (.ref p)) (s : Sb G H) (hl : H p = some (.lst vs)) (hlen : vs.length < 90000) (he : EvD te σ G H d) (k : ∀ v G1 H1, Gr [] G H G1 H1 → Dx G1 v d → D.nx σ (upd H1 p (.lst (vs ++ [v])))) :
    tDrop (tBM K "list" rAppend th (tCons te tNil)) D σ H := h0 G H (.refl s) _ fun G1 H1 g1 => ⟨Or.inl ⟨rfl, vs, Or.inl (Or.inl (sb_of g1 _ _ hl))⟩, he G1 H1 g1 _ fun v G2 H2 g2 x => ⟨p, vs, v, rfl, rfl, sb_of (g1.trans g2) _ _ hl, Evl.sz_lt (by omega),
    k v G2 H2 (g1.trans g2) x⟩⟩
end
theorem ok_Ldo {B : Bd} (T : Txt K mg A) (U : Ux K mg B) : FnOk P w K mg base (L2.CX P w) 9 A.a_Ldo A.d_Ldo ["_law_hall", "_law_deed_here"] (spDo B Dd.good) := by
  have G_Hhouse := ok_Hhouse (P := P) (w := w) (base := base) T U
  have G_Hputin := ok_Hputin (P := P) (w := w) (base := base) T U
  have G_Htakeout := ok_Htakeout (P := P) (w := w) (base := base) T U
  have G_Hfail := ok_Hfail (P := P) (w := w) (base := base) T U
  have G_Hmend := ok_Hmend (P := P) (w := w) (base := base) T U
  have G_Hpassdays := ok_Hpassdays (P := P) (w := w) (base := base) T U
  have G_Hdraw := ok_Hdraw (P := P) (w := w) (base := base) T U
  have G_Hfair := ok_Hfair (P := P) (w := w) (base := base) T U
  have G_Lpaper_do := ok_Lpaper_do (P := P) (w := w) (base := base) T U
  refine T.F_Ldo.okX sc_Ldo (fun vs H Q E h => by obtain ⟨_, _, _, _, _, rfl, _⟩ := h; rfl) (fun cdv A' outer st H vs Q E hr h => ?_)
  obtain ⟨G, a, s, D, vd, rfl, h_deed_here, hW, hO, hg, kE, kQ⟩ := h
  have hW0 := hW
  refine ⟨_, (pss_cons (ps_set (i := 2) sc_Ldo.nd rfl (Or.inl rfl) (pe_ix (ix_tupK (K := K)) (pv 1) pe_int (fun _ _ => rfl)))
      (pss_cons (ps_if (pt_cmpR op_eq (pv 2) pe_str (nomark _))
      (pss_one (ps_ret (pe_meth (pv 0) U.cl_Hall U.m_Hhouse G_Hhouse (hr.mono (by omega)) U.b_Hhouse .nil (passes_call (takes_of rfl rfl rfl rfl) fun _ _ _ _ z => z) (by exact (pa_cons (pe_ix (ix_tupK (K := K)) (pv 1) pe_int (fun _ _ => rfl)) (pa_cons (pe_ix (ix_tupK (K := K)) (pv 1) pe_int (fun _ _ => rfl)) pa_nil))))))
      pss_nil)
      (pss_cons (ps_if (pt_cmpR op_eq (pv 2) pe_str (nomark _))
      (pss_one (ps_ret (pe_meth (pv 0) U.cl_Hall U.m_Hputin G_Hputin (hr.mono (by omega)) U.b_Hputin .nil (passes_call (takes_of rfl rfl rfl rfl) fun _ _ _ _ z => z) (by exact (pa_cons (pe_ix (ix_tupK (K := K)) (pv 1) pe_int (fun _ _ => rfl)) (pa_cons (pe_ix (ix_tupK (K := K)) (pv 1) pe_int (fun _ _ => rfl)) pa_nil))))))
      pss_nil)
      (pss_cons (ps_if (pt_cmpR op_eq (pv 2) pe_str (nomark _))
      (pss_one (ps_ret (pe_meth (pv 0) U.cl_Hall U.m_Htakeout G_Htakeout (hr.mono (by omega)) U.b_Htakeout .nil (passes_call (takes_of rfl rfl rfl rfl) fun _ _ _ _ z => z) (by exact (pa_cons (pe_ix (ix_tupK (K := K)) (pv 1) pe_int (fun _ _ => rfl)) (pa_cons (pe_ix (ix_tupK (K := K)) (pv 1) pe_int (fun _ _ => rfl)) pa_nil))))))
      pss_nil)
      (pss_cons (ps_if (pt_cmpR op_eq (pv 2) pe_str (nomark _))
      (pss_one (ps_ret (pe_meth (pv 0) U.cl_Hall U.m_Hfail G_Hfail (hr.mono (by omega)) U.b_Hfail .nil (passes_call (takes_of rfl rfl rfl rfl) fun _ _ _ _ z => z) (by exact (pa_cons (pe_ix (ix_tupK (K := K)) (pv 1) pe_int (fun _ _ => rfl)) pa_nil)))))
      pss_nil)
      (pss_cons (ps_if (pt_cmpR op_eq (pv 2) pe_str (nomark _))
      (pss_one (ps_ret (pe_meth (pv 0) U.cl_Hall U.m_Hmend G_Hmend (hr.mono (by omega)) U.b_Hmend .nil (passes_call (takes_of rfl rfl rfl rfl) fun _ _ _ _ z => z) (by exact (pa_cons (pe_ix (ix_tupK (K := K)) (pv 1) pe_int (fun _ _ => rfl)) pa_nil)))))
      pss_nil)
      (pss_cons (ps_if (pt_cmpR op_eq (pv 2) pe_str (nomark _))
      (pss_one (ps_ret (pe_meth (pv 0) U.cl_Hall U.m_Hpassdays G_Hpassdays (hr.mono (by omega)) U.b_Hpassdays .nil (passes_call (takes_of rfl rfl rfl rfl) fun _ _ _ _ z => z) (by exact (pa_cons (pe_ix (ix_tupK (K := K)) (pv 1) pe_int (fun _ _ => rfl)) pa_nil)))))
      pss_nil)
      (pss_cons (ps_if (pt_cmpR op_eq (pv 2) pe_str (nomark _))
      (pss_one (ps_ret (pe_meth (pv 0) U.cl_Hall U.m_Hdraw G_Hdraw (hr.mono (by omega)) U.b_Hdraw .nil (passes_call (takes_of rfl rfl rfl rfl) fun _ _ _ _ z => z) (by exact (pa_cons (pe_ix (ix_tupK (K := K)) (pv 1) pe_int (fun _ _ => rfl)) (pa_cons (pe_ix (ix_tupK (K := K)) (pv 1) pe_int (fun _ _ => rfl)) (pa_cons (pe_ix (ix_tupK (K := K)) (pv 1) pe_int (fun _ _ => rfl)) (pa_cons (pe_ix (ix_tupK (K := K)) (pv 1) pe_int (fun _ _ => rfl)) (pa_cons (pe_ix (ix_tupK (K := K)) (pv 1) pe_int (fun _ _ => rfl)) (pa_cons (pe_ix (ix_tupK (K := K)) (pv 1) pe_int (fun _ _ => rfl)) pa_nil))))))))))
      pss_nil)
      (pss_cons (ps_if (pt_cmpR op_eq (pv 2) pe_str (nomark _))
      (pss_cons (ps_set (i := 3) sc_Ldo.nd rfl (Or.inl rfl) (pe_callTy (call_listK (K := K)) (by rfl) T.b.list (by decide +kernel) (pa_cons (pe_ix (ix_tupK (K := K)) (pv 1) pe_int (fun _ _ => rfl)) pa_nil)))
      (pss_cons (ps_set (i := 4) sc_Ldo.nd rfl (Or.inl rfl) (pe_meth (pv 0) U.cl_Hall U.m_Hfair G_Hfair (hr.mono (by omega)) U.b_Hfair .nil (passes_call (takes_of rfl rfl rfl rfl) fun _ _ _ _ z => z) (by exact (pa_cons (pv 3) pa_nil))))
      (pss_cons (ps_expr (pe_bm PySem.F.plainAttrs_list PySem.F.slot_list_append PySem.F.type_list_append mt_append (pv 3) (pa_cons pe_str pa_nil)))
      (pss_one (ps_ret (pv 4))))))
      pss_nil)
      (pss_one (ps_ret (pe_call G_Lpaper_do (hr.mono (by omega)) (by rfl) T.m_Lpaper_do T.F_Lpaper_do.kp T.b_Lpaper_do .nil (passes_call (takes_of rfl rfl rfl rfl) fun _ _ _ _ z => z) (pa_cons (pv 0) (pa_cons (pv 1) pa_nil)))))))))))))), ?_⟩
  refine q_asg (d := .str D.word) (ev_op (ev_var rfl h_deed_here) ev_int (rd_ixT (atI_nat (j := 0) rfl))) hW.sb fun v2 G1 H1 g1 h_word => ?_
  have hW := hW.step g1
  have h_deed_here := h_deed_here.mono g1.g
  have gA := g1
  refine q_when (b := decide (D.word = "house")) (et_test (ev_op (ev_var rfl h_word) ev_str rd_eqS)) hW.sb (fun hb G2 H2 g2 => ?_) (fun hb0 G2 H2 g2 => ?_)
  · obtain ⟨z, c, rfl⟩ := w_house (of_decide_eq_true hb)
    have hW := hW.step g2
    have h_deed_here := h_deed_here.mono g2.g
    have gA := gA.trans g2
    exact s_retDeed (R := houseD) (args := aSI) (z, c) (evv_var rfl) hW hO hg (ea_cons (ev_op (ev_var rfl h_deed_here) ev_int (rd_ixT (atI_nat (j := 1) rfl))) (ea_cons (ev_op (ev_var rfl h_deed_here) ev_int (rd_ixT (atI_nat (j := 2) rfl))) ea_nil)) (fun k hk G3 H3 g3 => kE k hk G3 H3 (gA.trans g3)) (fun s' d hd a' G3 H3 v c3 ea hW3 _ => kQ s' d hd a' G3 H3 v ((Ch.of gA).trans c3) ea hW3)
  have hW := hW.step g2
  have h_deed_here := h_deed_here.mono g2.g
  have h_word := h_word.mono g2.g
  have gA := gA.trans g2
  refine q_when (b := decide (D.word = "in")) (et_test (ev_op (ev_var rfl h_word) ev_str rd_eqS)) hW.sb (fun hb G2 H2 g2 => ?_) (fun hb1 G2 H2 g2 => ?_)
  · obtain ⟨z, c, rfl⟩ := w_putin (of_decide_eq_true hb)
    have hW := hW.step g2
    have h_deed_here := h_deed_here.mono g2.g
    have gA := gA.trans g2
    exact s_retDeed (R := inD) (args := aSI) (z, c) (evv_var rfl) hW hO trivial (ea_cons (ev_op (ev_var rfl h_deed_here) ev_int (rd_ixT (atI_nat (j := 1) rfl))) (ea_cons (ev_op (ev_var rfl h_deed_here) ev_int (rd_ixT (atI_nat (j := 2) rfl))) ea_nil)) (fun k hk G3 H3 g3 => kE k hk G3 H3 (gA.trans g3)) (fun s' d hd a' G3 H3 v c3 ea hW3 _ => kQ s' d hd a' G3 H3 v ((Ch.of gA).trans c3) ea hW3)
  have hW := hW.step g2
  have h_deed_here := h_deed_here.mono g2.g
  have h_word := h_word.mono g2.g
  have gA := gA.trans g2
  refine q_when (b := decide (D.word = "out")) (et_test (ev_op (ev_var rfl h_word) ev_str rd_eqS)) hW.sb (fun hb G2 H2 g2 => ?_) (fun hb2 G2 H2 g2 => ?_)
  · obtain ⟨z, c, rfl⟩ := w_out (of_decide_eq_true hb)
    have hW := hW.step g2
    have h_deed_here := h_deed_here.mono g2.g
    have gA := gA.trans g2
    exact s_retDeed (R := outD) (args := aSI) (z, c) (evv_var rfl) hW hO trivial (ea_cons (ev_op (ev_var rfl h_deed_here) ev_int (rd_ixT (atI_nat (j := 1) rfl))) (ea_cons (ev_op (ev_var rfl h_deed_here) ev_int (rd_ixT (atI_nat (j := 2) rfl))) ea_nil)) (fun k hk G3 H3 g3 => kE k hk G3 H3 (gA.trans g3)) (fun s' d hd a' G3 H3 v c3 ea hW3 _ => kQ s' d hd a' G3 H3 v ((Ch.of gA).trans c3) ea hW3)
  have hW := hW.step g2
  have h_deed_here := h_deed_here.mono g2.g
  have h_word := h_word.mono g2.g
  have gA := gA.trans g2
  refine q_when (b := decide (D.word = "fail")) (et_test (ev_op (ev_var rfl h_word) ev_str rd_eqS)) hW.sb (fun hb G2 H2 g2 => ?_) (fun hb3 G2 H2 g2 => ?_)
  · obtain ⟨z, rfl⟩ := w_fail (of_decide_eq_true hb)
    have hW := hW.step g2
    have h_deed_here := h_deed_here.mono g2.g
    have gA := gA.trans g2
    exact s_retDeed (R := failD) (args := aS) z (evv_var rfl) hW hO trivial (ea_cons (ev_op (ev_var rfl h_deed_here) ev_int (rd_ixT (atI_nat (j := 1) rfl))) ea_nil) (fun k hk G3 H3 g3 => kE k hk G3 H3 (gA.trans g3)) (fun s' d hd a' G3 H3 v c3 ea hW3 _ => kQ s' d hd a' G3 H3 v ((Ch.of gA).trans c3) ea hW3)
  have hW := hW.step g2
  have h_deed_here := h_deed_here.mono g2.g
  have h_word := h_word.mono g2.g
  have gA := gA.trans g2
  refine q_when (b := decide (D.word = "mend")) (et_test (ev_op (ev_var rfl h_word) ev_str rd_eqS)) hW.sb (fun hb G2 H2 g2 => ?_) (fun hb4 G2 H2 g2 => ?_)
  · obtain ⟨z, rfl⟩ := w_mend (of_decide_eq_true hb)
    have hW := hW.step g2
    have h_deed_here := h_deed_here.mono g2.g
    have gA := gA.trans g2
    exact s_retDeed (R := mendD) (args := aS) z (evv_var rfl) hW hO trivial (ea_cons (ev_op (ev_var rfl h_deed_here) ev_int (rd_ixT (atI_nat (j := 1) rfl))) ea_nil) (fun k hk G3 H3 g3 => kE k hk G3 H3 (gA.trans g3)) (fun s' d hd a' G3 H3 v c3 ea hW3 _ => kQ s' d hd a' G3 H3 v ((Ch.of gA).trans c3) ea hW3)
  have hW := hW.step g2
  have h_deed_here := h_deed_here.mono g2.g
  have h_word := h_word.mono g2.g
  have gA := gA.trans g2
  refine q_when (b := decide (D.word = "days")) (et_test (ev_op (ev_var rfl h_word) ev_str rd_eqS)) hW.sb (fun hb G2 H2 g2 => ?_) (fun hb5 G2 H2 g2 => ?_)
  · obtain ⟨n, rfl⟩ := w_days (of_decide_eq_true hb)
    have hW := hW.step g2
    have h_deed_here := h_deed_here.mono g2.g
    have gA := gA.trans g2
    exact s_retDeed (R := daysD) (args := aI) n (evv_var rfl) hW hO trivial (ea_cons (ev_op (ev_var rfl h_deed_here) ev_int (rd_ixT (atI_nat (j := 1) rfl))) ea_nil) (fun k hk G3 H3 g3 => kE k hk G3 H3 (gA.trans g3)) (fun s' d hd a' G3 H3 v c3 ea hW3 _ => kQ s' d hd a' G3 H3 v ((Ch.of gA).trans c3) ea hW3)
  have hW := hW.step g2
  have h_deed_here := h_deed_here.mono g2.g
  have h_word := h_word.mono g2.g
  have gA := gA.trans g2
  refine q_when (b := decide (D.word = "draw")) (et_test (ev_op (ev_var rfl h_word) ev_str rd_eqS)) hW.sb (fun hb G2 H2 g2 => ?_) (fun hb6 G2 H2 g2 => ?_)
  · obtain ⟨x, rfl⟩ := w_draw (of_decide_eq_true hb)
    have hW := hW.step g2
    have h_deed_here := h_deed_here.mono g2.g
    have gA := gA.trans g2
    exact s_retDeed (R := drawD) (args := aDraw) x (evv_var rfl) hW hO trivial (ea_cons (ev_op (ev_var rfl h_deed_here) ev_int (rd_ixT (atI_nat (j := 1) rfl))) (ea_cons (ev_op (ev_var rfl h_deed_here) ev_int (rd_ixT (atI_nat (j := 2) rfl))) (ea_cons (ev_op (ev_var rfl h_deed_here) ev_int (rd_ixT (atI_nat (j := 3) rfl))) (ea_cons (ev_op (ev_var rfl h_deed_here) ev_int (rd_ixT (atI_nat (j := 4) rfl))) (ea_cons (ev_op (ev_var rfl h_deed_here) ev_int (rd_ixT (atI_nat (j := 5) rfl))) (ea_cons (ev_op (ev_var rfl h_deed_here) ev_int (rd_ixT (atI_nat (j := 6) rfl))) ea_nil)))))) (fun k hk G3 H3 g3 => kE k hk G3 H3 (gA.trans g3)) (fun s' d hd a' G3 H3 v c3 ea hW3 _ => kQ s' d hd a' G3 H3 v ((Ch.of gA).trans c3) ea hW3)
  have hW := hW.step g2
  have h_deed_here := h_deed_here.mono g2.g
  have h_word := h_word.mono g2.g
  have gA := gA.trans g2
  refine q_when (b := decide (D.word = "fair")) (et_test (ev_op (ev_var rfl h_word) ev_str rd_eqS)) hW.sb (fun hb G2 H2 g2 => ?_) (fun hb7 G2 H2 g2 => ?_)
  · obtain ⟨zs, rfl⟩ := w_fair (of_decide_eq_true hb)
    have hW := hW.step g2
    have h_deed_here := h_deed_here.mono g2.g
    have gA := gA.trans g2
    refine q_asgM (ev_cbM (ea_cons (ev_op (ev_var rfl h_deed_here) ev_int (rd_ixT (atI_nat (j := 1) rfl))) ea_nil) cd_listT) hW.sb fun p xs G3 H3 g3 p0 pn hl hx => ?_
    have hx := hx.strs_eq
    subst hx
    have hW := hW.step g3
    have hp0 : H p = none := gA.free p0
    have gA := gA.trans g3
    have hpi : ¬ a.In p := fun ⟨j, hj⟩ => by
      obtain ⟨o', e', _⟩ := hW0.ct j p hj
      rw [hp0] at e'; cases e'
    refine seqI (x_fair (zs := zs) (evv_var rfl) hW hO hg (evv_var rfl) hl pn hpi _ (fun k hk G4 H4 g4 => kE k hk G4 H4 (gA.trans g4)) (fun s' d hd G4 H4 v c4 hW4 _ => ?_))
    have hp4 := c4.h p _ hpi hl
    have hn4 := c4.n p _ hl pn
    refine seqI (s_appV (evv_var rfl) hW4.sb hp4 (by rw [List.length_map]; have : zs.length ≤ 1000 := hg; omega) (d := .str "more") ev_str fun v5 G5 H5 g5 _ => ?_)
    have hn5 := g5.n p _ hp4 hn4
    refine retI (te := tVar 4) ⟨_, rfl, ?_⟩
    exact kQ s' d hd a G5 _ _ ((((Ch.of gA).trans c4).trans (Ch.of g5)).fresh hp0 hn5) rfl ((hW4.step g5).mutp hpi hn5)
  have hW := hW.step g2
  have h_deed_here := h_deed_here.mono g2.g
  have h_word := h_word.mono g2.g
  have gA := gA.trans g2
  have hp : D.paper = true := w_paper (of_decide_eq_false hb0) (of_decide_eq_false hb1) (of_decide_eq_false hb2) (of_decide_eq_false hb3) (of_decide_eq_false hb4) (of_decide_eq_false hb5) (of_decide_eq_false hb6) (of_decide_eq_false hb7)
  exact retI (x_do (evv_var rfl) (ev_var rfl h_deed_here) hW hO hp _ (fun k hk G3 H3 g3 => kE k hk G3 H3 (gA.trans g3)) (fun s' d hd a' G3 H3 v c3 ea hW3 => kQ s' d hd a' G3 H3 v ((Ch.of gA).trans c3) ea hW3))

end
end

-- la4.txt
section

local macro_rules | `(tactic| walk_at "arith") => `(tactic| first | omega | decide | (unfold CMul; omega) | (unfold CDiv; omega) | (unfold CPow; decide) | (refine ⟨?_, ?_⟩ <;> omega) | (simp; done) | (simp; omega))
local macro_rules | `(tactic| walk_at "wide") => `(tactic| exact ⟨by decide, by decide +kernel⟩)
section
variable {P : Program} {w : World} {K : PySem.W.Frag} {mg : Str → Option Value} {base : Heap} {A : Ad}
/-! ### done or refused -/
abbrev spDid (B : Bd) : Sp := fun vs H Q _ => ∃ (G : Hp) (a : Ha) (s : Hl) (D : Dd) (vd : V), vs = [.ref a.h, vd] ∧ Dx G vd D.data ∧ W B G H a s ∧ Ok s ∧ D.good ∧
  (∀ k, D.run s = .error k → ∀ G' H', Gr [] G H G' H' → Q (.bl false) H') ∧ (∀ s' d, D.run s = .ok (s', d) → ∀ a' G' H', Ch a G H a' G' H' → a'.h = a.h → W B G' H' a' s' → Q (.bl true) H')
theorem ok_Ldid {B : Bd} (T : Txt K mg A) (U : Ux K mg B) : FnOk P w K mg base CX0 10 A.a_Ldid A.d_Ldid ["_law_hall", "_law_deed_here"] (spDid B) := by
  have G_Ldo := ok_Ldo (P := P) (w := w) (base := base) T U
  refine T.F_Ldid.ok sc_Ldid (fun vs H Q E h => by obtain ⟨_, _, _, _, _, rfl, _⟩ := h; rfl) (fun cdv A' outer st H vs Q E hr h => ?_)
  obtain ⟨G, a, s, D, vd, rfl, h_deed_here, hW, hO, hg, kE, kQ⟩ := h
  refine ⟨_, pss_cons (ps_set (i := 2) sc_Ldid.nd rfl (Or.inl rfl) pe_bl)
    (pss_cons (ps_try_only (Wout := fun _ _ _ _ => False) (ts := fun _ _ _ => tAsg (tC (.bl false)) (gName 2)) rfl rfl ⟨rfl, by decide, Or.inl U.gH⟩ takes0
      (fun W pn xe tk _ => pss_one (ps_expr (pe_callS G_Ldo (hr.mono (by omega)) (by rfl) T.m_Ldo T.F_Ldo.kp T.b_Ldo (fun σ => passAt tk σ) (pa_cons (pv 0) (pa_cons (pv 1) pa_nil)))))
      (fun _ _ _ _ _ _ _ => pss_one (ps_set (i := 2) sc_Ldid.nd rfl (Or.inl rfl) pe_bl)))
    (pss_one (ps_ret (pv 2)))), ?_⟩
  refine q_asg ev_bl hW.sb fun v2 G1 H1 g1 hv2 => ?_
  obtain rfl := hv2.bl_eq
  have hW := hW.step g1
  have h_deed_here := h_deed_here.mono g1.g
  refine seqI ?_
  refine ⟨_, rfl, _, rfl, G1, a, s, D, vd, rfl, h_deed_here, hW, hO, hg, fun k hk G4 H4 g4 => ?_, fun s' d hd a' G4 H4 v c ea w => ?_⟩
  · refine ⟨true, U.hall k, fun _ ax _ => ?_, fun q => Bool.noConfusion q⟩
    exact ⟨_, rfl, kE k hk G4 H4 (g1.trans g4)⟩
  · exact ⟨_, rfl, kQ s' d hd a' G4 H4 ((Ch.of g1).trans c) ea w⟩

end
end

-- la5.txt
section

local macro_rules | `(tactic| walk_at "arith") => `(tactic| first | omega | decide | (unfold CMul; omega) | (unfold CDiv; omega) | (unfold CPow; decide) | (refine ⟨?_, ?_⟩ <;> omega) | (simp; done) | (simp; omega))
local macro_rules | `(tactic| walk_at "wide") => `(tactic| exact ⟨by decide, by decide +kernel⟩)
section
variable {P : Program} {w : World} {K : PySem.W.Frag} {mg : Str → Option Value} {base : Heap} {A : Ad}
/-! ### names, rows -/
local macro_rules | `(tactic| walk_at "at") => `(tactic| first | exact atI_feed ‹FeedOk _› (by omega) (by omega) | exact atI_sign (by omega) (by first | omega | (refine Int.lt_of_lt_of_le (Int.emod_lt_of_pos _ (by decide)) (by decide +kernel))))
local macro_rules | `(tactic| walk_at "pre") => `(tactic| first | trivial | omega)
theorem shaped_s {p : Str × Bool} (h : Sm p.1) : SeqAt.shaped (encP p) = true := by
  have hc : PyData.strOk p.1 = true := h.ok
  unfold SeqAt.shaped encP
  simp [PyData.canLay0, PyData.canLayAll0, hc, PyData.depth, PyData.depthAll]
abbrev spLReach : Sp := SpD (α := Rw × Str) (fun x => [.list (encR x.1), .str x.2]) (fun x => (∀ q ∈ x.1, Sm q.1) ∧ x.1.length ≤ 1000 ∧ Sm x.2) (fun x => .int (reachM x.1 x.2))
abbrev spLAsk : Sp := SpM (α := Rw × Str × Bool) (fun x => [.list (encR x.1), .str x.2.1, .bool x.2.2]) (fun x => (∀ q ∈ x.1, Sm q.1) ∧ x.1.length ≤ 1000 ∧ Sm x.2.1) (fun x => askM x.1 x.2.1 x.2.2)
abbrev spName : Sp := SpD (α := Int × Int) (fun x => [.int x.1, .int x.2]) (fun x => (0 ≤ x.1 ∧ x.1 < 55440) ∧ 0 ≤ x.2 ∧ x.2 < 100) (fun x => .str (nm x.1 x.2))
theorem ok_Lname (T : Txt K mg A) : FnOk P w K mg base CX0 1 A.a_Lname A.d_Lname ["_law_pick", "_law_k"] spName := by
  refine T.F_Lname.ok sc_Lname (fun vs H Q E h => ?_) (fun cdv A' outer s H vs Q E hr h => ?_)
  · obtain ⟨G, x, _, hx, _⟩ := h
    exact hx.len
  · obtain ⟨G, ⟨p, j⟩, s0, hx, ⟨hp, hj⟩, k⟩ := h
    obtain ⟨v0, v1, rfl, h_pick, h_k⟩ := dxs2 hx
    obtain rfl := h_pick.int_eq
    obtain rfl := h_k.int_eq
    have ip : ∀ G, Dx G (.int p) (.int p) := fun _ => .int _
    have ik : ∀ G, Dx G (.int j) (.int j) := fun _ => .int _
    simp only at hp hj
    refine ⟨_, (pss_cons (ps_set (i := 2) sc_Lname.nd rfl (Or.inl rfl) (pe_ix ix_str pe_str (pe_op op_mod (pe_op op_add (pe_op op_fdiv (pv 0) pe_int) (pe_op op_mul pe_int (pv 1))) pe_int) (fun _ _ => rfl)))
      (pss_cons (ps_set (i := 3) sc_Lname.nd rfl (Or.inl rfl) (pe_op op_mod (pe_op op_fdiv (pv 0) pe_int) pe_int))
      (pss_cons (ps_set (i := 4) sc_Lname.nd rfl (Or.inl rfl) (pe_lst (pa_cons pe_str (pa_cons pe_str (pa_cons pe_str (pa_cons pe_str (pa_cons pe_str (pa_cons pe_str (pa_cons pe_str (pa_cons pe_str (pa_cons pe_str pa_nil)))))))))))
      (pss_cons (ps_set (i := 5) sc_Lname.nd rfl (Or.inl rfl) (pe_lst (pa_cons (pv 2) (pa_cons (pe_op op_add_str (pe_op op_add_str (pe_slice sl_str pe_str po_none (po_some (pv 3))) (pv 2)) (pe_slice sl_str pe_str (po_some (pv 3)) po_none)) (pa_cons (pe_op op_repS (pv 2) (pe_op op_add pe_int (pe_op op_mod (pe_op op_add (pv 3) (pe_op op_mul pe_int (pv 1))) pe_int))) pa_nil)))))
      (pss_one (ps_ret (pe_ix (ix_listK (K := K)) (pe_op op_cat (pv 5) (pe_lst (pa_cons (pe_ix (ix_listK (K := K)) (pv 4) (pe_op op_mod (pe_op op_add (pv 3) (pv 1)) pe_int) (fun _ _ => rfl)) pa_nil))) (pe_op op_mod (pv 0) pe_int) (fun _ _ => rfl)))))))), ?_⟩
    refine q_asg (ev_op ev_str ((fun h_pick h_k => (ev_op (ev_op (ev_op (ev_var rfl h_pick) ev_int (rd_fdiv (by walk_at "arith"))) (ev_op ev_int (ev_var rfl h_k) (rd_mul (by walk_at "arith"))) rd_add) ev_int (rd_mod (by walk_at "arith")))) (ip _) (ik _)) (rd_ixS (z := alpha) (c := alpha.cps.toList.getD ((p / 32 + 11 * j) % 26).toNat 0) (by decide +kernel) (by walk_at "at"))) s0 fun v G1 H1 g1 hv => ?_
    obtain rfl := hv.str_eq
    refine q_asg ((fun h_pick => (ev_op (ev_op (ev_var rfl h_pick) ev_int (rd_fdiv (by walk_at "arith"))) ev_int (rd_mod (by walk_at "arith")))) (ip _)) g1.s fun v G2 H2 g2 hv => ?_
    obtain rfl := hv.int_eq
    refine q_asg ((ev_lst (ea_cons ev_str (ea_cons ev_str (ea_cons ev_str (ea_cons ev_str (ea_cons ev_str (ea_cons ev_str (ea_cons ev_str (ea_cons ev_str (ea_cons ev_str ea_nil))))))))) (by walk_at "arith"))).dat g2.s fun vw G3 H3 g3 h_words => ?_
    have sg : ∀ G, Dx G (.str (nmSign p j)) (.str (nmSign p j)) := fun _ => .str _
    have ia : ∀ G, Dx G (.int (p / 4 % 8)) (.int (p / 4 % 8)) := fun _ => .int _
    have l1 : (nmSign p j).length = 1 := rfl
    have c1 := cutS_len mistral none (some (p / 4 % 8))
    have c2 := cutS_len mistral (some (p / 4 % 8)) none
    rw [mistral_len] at c1 c2
    have c3 : (cutS mistral none (some (p / 4 % 8)) ++ nmSign p j).length = (cutS mistral none (some (p / 4 % 8))).length + 1 := by
      show ((cutS mistral none (some (p / 4 % 8))).cps ++ (nmSign p j).cps).size = _
      rw [Array.size_append]; rfl
    refine q_asg (ev_lst (ea_cons (ev_var rfl (sg _)) (ea_cons (ev_op (ev_op (ev_slS (z := mistral) ev_str eo_none (eo_some (ev_var rfl (ia _))) (by decide +kernel)) (ev_var rfl (sg _)) (rd_addS (by omega))) (ev_slS (z := mistral) ev_str (eo_some (ev_var rfl (ia _))) eo_none (by decide +kernel)) (rd_addS (by omega)))
      (ea_cons (ev_op (ev_var rfl (sg _)) ((fun h_k h_at => (ev_op ev_int (ev_op (ev_op (ev_var rfl h_at) (ev_op ev_int (ev_var rfl h_k) (rd_mul (by walk_at "arith"))) rd_add) ev_int (rd_mod (by walk_at "arith"))) rd_add)) (ik _) (ia _)) (rd_repS (by omega))) ea_nil))) (by show 3 ≤ 100000; decide)).dat g3.s fun vs G4 H4 g4 h_some => ?_
    have h_words := h_words.mono g4.g
    refine s_ret (ev_op (ev_opM (ev_var rfl h_some) (ev_lst (ea_cons (ev_op (ev_var rfl h_words) ((fun h_k h_at => (ev_op (ev_op (ev_var rfl h_at) (ev_var rfl h_k) rd_add) ev_int (rd_mod (by walk_at "arith")))) (ik _) (ia _)) (rd_ixL (atI_strs (zs := words) (by omega) (by show _ < (9 : Int); omega)))) ea_nil) (by show 1 ≤ 100000; decide)).dat (rd_cat (by show 3 + 1 ≤ 100000; decide))).dat
      ((fun h_pick => (ev_op (ev_var rfl h_pick) ev_int (rd_mod (by walk_at "arith")))) (ip _)) (rd_ixL (atI_strs (zs := nmL p j) (by omega) (by show _ < (4 : Int); omega)))) g4.s fun v G5 H5 g5 hv => k v G5 H5 (g1.trans (g2.trans (g3.trans (g4.trans g5)))) hv
theorem ok_Lreach (T : Txt K mg A) : FnOk P w K mg base CX0 1 A.a_Lreach A.d_Lreach ["_law_row", "_law_house"] spLReach := by
  refine T.F_Lreach.ok sc_Lreach (fun vs H Q E h => ?_) (fun cdv A' outer s H vs Q E hr h => ?_)
  · obtain ⟨G, x, _, hx, _⟩ := h
    exact hx.len
  · obtain ⟨G, ⟨r, hh⟩, s0, hx, ⟨hnm, hlen, hsm⟩, k⟩ := h
    obtain ⟨v0, v1, rfl, h_row, h_house⟩ := dxs2 hx
    have el : (encR r).length = r.length := by unfold encR; rw [List.length_map]
    simp only at hnm hlen hsm
    refine ⟨_, (pss_cons (ps_for PassesOwn.never rfl (pi_range1 (by rfl) T.b.range (pa_cons (pe_callB (call_lenK (K := K)) (by rfl) T.b.len (by decide +kernel) (pa_cons (pv 0) pa_nil)) pa_nil)) (pg_name (i := 2) sc_Lreach.nd rfl (Or.inl rfl))
      (pss_one (ps_if (pt_cmpR (op_eqDK (K := K) hr.units) (pe_ix (ix_listK (K := K)) (pv 0) (pv 2) (fun _ _ => rfl)) (pe_tup (pa_cons (pv 1) (pa_cons pe_bl pa_nil))) (nomark _))
      (pss_one (ps_ret (pv 2)))
      pss_nil)))
      (pss_one (ps_ret (pe_callB (call_lenK (K := K)) (by rfl) T.b.len (by decide +kernel) (pa_cons (pv 0) pa_nil))))), ?_⟩
    refine q_forR [] (fun n σ' G' H' => ∃ (v2 : Option V), σ' = [some v0, some v1, v2] ∧ ∀ j q, j < n → r[j]? = some q → (q.2 && decide (q.1 = hh)) = false)
      (ea_cons (ev_cb (ea_cons (ev_var rfl h_row) ea_nil) cd_lenL) ea_nil) (by rw [el]; omega) s0 (fun G1 H1 g1 => ⟨none, rfl, fun j q hj => absurd hj (Nat.not_lt_zero _)⟩) (fun G1 H1 g1 n σ' G' H' hn gg p => ?_) (fun σ' G' H' gg p => ?_)
    · obtain ⟨v2, rfl, hp⟩ := p
      rw [el] at hn
      have hn' : n < r.length := by omega
      have hq : r[n]? = some r[n] := List.getElem?_eq_getElem hn'
      have hmem : r[n] ∈ r := List.getElem_mem hn'
      generalize r[n] = q at hq hmem
      have h_row := h_row.mono (g1.trans gg).g
      have h_house := h_house.mono (g1.trans gg).g
      have hb' : PyData.eqv (encP q) (encP (hh, true)) = (q.2 && decide (q.1 = hh)) := by
        rw [eqv_p, Bool.and_comm]
        cases q.2 <;> rfl
      have hsh : SeqAt.shaped (encP (hh, true)) = true := by
        have hc : PyData.strOk hh = true := hsm.ok
        unfold SeqAt.shaped encP
        simp [PyData.canLay0, PyData.canLayAll0, hc, PyData.depth, PyData.depthAll]
      refine s_if (evt_is (c := q.2 && decide (q.1 = hh)) (et_test (ev_op (ev_op (ev_var rfl h_row) (ev_var rfl (Dx.int (n : Int))) (rd_ixL (atI_row hq))) (ev_tup (ea_cons (ev_var rfl h_house) (ea_cons ev_bl ea_nil)) (by show 2 ≤ 100000; decide)) (rd_eqD (shaped_s (hnm q hmem)) hsh))) hb') gg.s (fun hb G3 H3 g3 => ?_) (fun hb G3 H3 g3 => ?_)
      · have e := reachM_at hq hp hb
        exact s_ret (ev_var rfl (Dx.int (n : Int))) g3.s fun v G4 H4 g4 hv => k v G4 H4 (((g1.trans gg).trans g3).trans g4) (by show Dx G4 v (.int (reachM r hh)); rw [e]; exact hv)
      · refine ⟨G3, gg.trans g3, _, rfl, fun j q' hj hq' => ?_⟩
        by_cases hjn : j < n
        · exact hp j q' hjn hq'
        · have : j = n := by omega
          subst this
          rw [hq] at hq'; cases hq'; exact hb
    · obtain ⟨v2, rfl, hp⟩ := p
      rw [el] at hp
      have h_row := h_row.mono gg.g
      have e := reachM_end (h := hh) (fun j q hj => hp j q (by omega))
      refine s_ret (ev_cb (ea_cons (ev_var rfl h_row) ea_nil) cd_lenL) gg.s fun v G4 H4 g4 hv => k v G4 H4 (gg.trans g4) ?_
      show Dx G4 v (.int (reachM r hh))
      rw [e]; rw [el] at hv; exact hv
theorem cut_row {r : Rw} {n : Nat} (h : n ≤ r.length) : cutD (encR r) none (some (n : Int)) = encR (r.take n) := by
  have el : (encR r).length = r.length := by unfold encR; rw [List.length_map]
  unfold cutD
  rw [el, HT.sIx_none, HT.sIx_nat, Nat.min_eq_left h]
  unfold encR
  rw [List.drop_zero, Nat.sub_zero, List.map_take]
theorem bnd_take {r : Rw} {n i : Nat} (h : i < n) (hn : n ≤ r.length) : bnd (r.take n) i = bnd r i := by
  unfold bnd
  rw [List.getD_eq_getElem?_getD, List.getD_eq_getElem?_getD, List.getElem?_take_of_lt h]
theorem ok_Laskable (T : Txt K mg A) : FnOk P w K mg base CX0 2 A.a_Laskable A.d_Laskable ["_law_row", "_law_holder", "_law_protested"] spLAsk := by
  have G_Lreach := ok_Lreach (P := P) (w := w) (base := base) T
  refine T.F_Laskable.ok sc_Laskable (fun vs H Q E h => ?_) (fun cdv A' outer s H vs Q E hr h => ?_)
  · obtain ⟨G, x, _, hx, _⟩ := h
    exact hx.len
  · obtain ⟨G, ⟨r, hh, pr⟩, s0, hx, hpre, k⟩ := h
    obtain ⟨v0, v1, v2, rfl, h_row, h_holder, h_protested⟩ := dxs3 hx
    simp only at hpre
    refine ⟨_, (pss_cons (ps_set (i := 3) sc_Laskable.nd rfl (Or.inr rfl) (pe_slice (sl_listK (K := K)) (pv 0) po_none (po_some (pe_call G_Lreach (hr.mono (by omega)) (by rfl) T.m_Lreach T.F_Lreach.kp T.b_Lreach .nil pass0 (pa_cons (pv 0) (pa_cons (pv 1) pa_nil))))))
      (pss_one (ps_ret (pe_lc (own := [("_law_place", 4)]) (g := gName 4) rfl sc_Laskable.nd (pi_range1 (by rfl) T.b.range (pa_cons (pe_callB (call_lenK (K := K)) (by rfl) T.b.len (by decide +kernel) (pa_cons (pv 3) pa_nil)) pa_nil)) (blkOk_by (own := [("_law_place", 4)]) (N := N_Laskable) (sc := defScope s_Laskable) (by decide +kernel)) (fun _ _ _ _ _ => (pg_name (i := 4) sc_Laskable.nd rfl (Or.inl rfl))) (fun _ _ _ _ _ => by exact pts_one (PW.pt (pw_and (pt_val (pe_ix (ix_tupK (K := K)) (pe_ix (ix_listK (K := K)) (pv 3) (pv 4) (fun _ _ => rfl)) pe_int (fun _ _ => rfl))) (pw_and1 (PW.pt (pw_or (pt_val (pv 2)) (pw_or1 (pt_cmpR op_eq (pv 4) pe_int (nomark _))))))))) (fun _ _ _ _ _ => by exact (pv 4)))))), ?_⟩
    have hle := reachM_le r hh
    refine q_asg (EvM.dat (evm_is (ev_sl (ev_var rfl h_row) eo_none (eo_some (ev_callE (d := .int ((reachM r hh : Nat) : Int)) (r, hh) (ea_cons (ev_var rfl h_row) (ea_cons (ev_var rfl h_holder) ea_nil)) hpre rfl))) (cut_row (r := r) hle))) s0 fun v G1 H1 g1 h_before => ?_
    have h_protested := h_protested.mono g1.g
    have el : (encR (r.take (reachM r hh))).length = reachM r hh := by unfold encR; rw [List.length_map, List.length_take]; omega
    refine s_retM (evm_is (ev_lcR (askF (r.take (reachM r hh)) pr) (fun i => .int (i : Int)) (ea_cons (ev_cb (ea_cons (ev_var rfl h_before) ea_nil) cd_lenL) ea_nil) (by have := hpre.2.1; omega) (fun _ => rfl)
      (fun i hi => evt_is (et_and (et_B (ev_op (ev_op (ev_var rfl h_before) (ev_var rfl (Dx.int (i : Int))) (rd_ixL (atI_row (getD_row (show i < (r.take (reachM r hh)).length by rw [List.length_take]; omega))))) ev_int (rd_ixT (atI_nat (j := 1) rfl))))
        (fun _ => (fun h_place => (et_or (et_B (ev_var rfl h_protested)) (fun _ => (et_test (ev_op (ev_var rfl h_place) ev_int rd_eqI))))) (Dx.int (i : Int)))) rfl)
      (fun i hi hf => ev_var rfl (Dx.int _))) (es := askM r hh pr) (by
        rw [el]
        have e : ((reachM r hh : Nat) : Int).toNat = reachM r hh := by omega
        rw [e]
        unfold askM
        refine given_ext (fun i hi => ?_) fun i hi => rfl
        unfold askF
        rw [bnd_take hi hle])) g1.s fun p xs G2 H2 g2 h0 hn hl hx => k p xs G2 H2 (g1.trans g2) (g1.free h0) hn hl hx

end
end

-- la6.txt
section

local macro_rules | `(tactic| walk_at "arith") => `(tactic| first | omega | decide | (unfold CMul; omega) | (unfold CDiv; omega) | (unfold CPow; decide) | (refine ⟨?_, ?_⟩ <;> omega) | (simp; done) | (simp; omega))
local macro_rules | `(tactic| walk_at "wide") => `(tactic| exact ⟨by decide, by decide +kernel⟩)
section
variable {P : Program} {w : World} {K : PySem.W.Frag} {mg : Str → Option Value} {base : Heap} {A : Ad}
/-! ### comprehensions over enumerate -/
section
variable {K : PySem.W.Frag} {σ : L2.St} {G H : Hp} {te : TE} {tt : TT}
theorem ev_lcE {t : TA} {j1 j2 : Nat} {vs : List Nat} {zs : List Str} (f : Nat → Bool) (v : Nat → PyData) (h : EvA t σ G H [.list (zs.map .str)]) (hz : zs.length ≤ 40000)
    (hw : ∀ x y, wipe (((wipe σ vs).set j1 (some x)).set j2 (some y)) vs = wipe σ vs)
    (ht : ∀ (n : Nat) (z : Str) G1 H1, Gr [] G H G1 H1 → zs[n]? = some z → EvT tt (((wipe σ vs).set j1 (some (.int (n : Nat)))).set j2 (some (.str z))) G1 H1 (f n))
    (he : ∀ (n : Nat) (z : Str) G1 H1, Gr [] G H G1 H1 → zs[n]? = some z → f n = true → EvD te (((wipe σ vs).set j1 (some (.int (n : Nat)))).set j2 (some (.str z))) G1 H1 (v n)) :
    EvM (tLc (iEnum K t) (gTup K 2 (gCons (gName j1) (gCons (gName j2) gNil))) tt te vs) σ G H (given zs.length f v) := fun G0 H0 a Q q => h G0 H0 a _ fun us G1 H1 g1 x => by
  obtain ⟨u, rfl, hu⟩ := dxs1 x
  obtain ⟨p, xs, rfl, hp, dxs⟩ := hu.lst_eq
  have exs := dxs.strs_eq
  subst exs
  refine ⟨p, _, rfl, Or.inl (Or.inl (g1.s _ _ hp)), fun D hD => ?_⟩
  refine lc_it (walk_enum (K := K) (a := p) (xs := zs.map V.str)) (Cw G1 H1 f v D) ⟨G1, [], (Gr.refl g1.s).own hD, g1.s.none hD, upd_same, by exact .nil⟩ (fun k H' _ w => ?_) (fun k x H' H'' hk w y => ?_) (fun H' w => ?_)
  · obtain ⟨G', ys, gg, _, _⟩ := w
    exact Or.inl (Or.inl (gg.s _ _ (gg.g _ _ hp)))
  · obtain ⟨T, u1, u2, rfl, hT, rfl, h1, h2⟩ := y
    cases h1
    have h2 : (zs.map V.str)[k]? = some u2 := h2
    rw [List.getElem?_map] at h2
    obtain ⟨z, hz2, rfl⟩ := Option.map_eq_some_iff.mp h2
    have hkm : k < zs.length := (List.getElem?_eq_some_iff.mp hz2).1
    have w2 : Cw G1 H1 f v D k (upd H' T (.tup [.int (k : Nat), .str z])) := by
      obtain ⟨G', xs, a1, a2, a3, a4⟩ := w
      exact ⟨G', xs, a1.own hT, a2, (upd_ne (fun z => by rw [← z, a3] at hT; cases hT)).trans a3, a4⟩
    refine ⟨T, [.int (k : Nat), .str z], rfl, Or.inl (Or.inl upd_same), rfl, .int (k : Nat), [.str z], rfl, .str z, [], rfl, rfl, ?_⟩
    exact ⟨hw _ _, cw_turn hD w2 (by omega) (ht k z G1 H1 (a.trans g1) hz2) (fun hf => he k z G1 H1 (a.trans g1) hz2 hf)⟩
  · rw [List.length_map] at w
    obtain ⟨G', xs, k1, k2, k3, k4⟩ := w
    exact q D xs G' H' (g1.trans k1) (g1.free hD) k2 k3 k4
end
theorem cut_strs (zs : List Str) (lo hi : Option Int) : ∃ ys : List Str, cutD (zs.map PyData.str) lo hi = ys.map .str ∧ ys.length ≤ zs.length := by
  unfold cutD
  rw [← List.map_drop, ← List.map_take]
  exact ⟨_, rfl, by rw [List.length_take, List.length_drop]; omega⟩
theorem given_strs (n : Nat) (f : Nat → Bool) (v : Nat → Str) : ∃ ys : List Str, given n f (fun i => PyData.str (v i)) = ys.map PyData.str ∧ ys.length ≤ n := by
  unfold given
  refine ⟨((List.range n).filter f).map v, by rw [List.map_map]; rfl, ?_⟩
  rw [List.length_map]
  exact Nat.le_trans (List.length_filter_le _ _) (by rw [List.length_range]; exact Nat.le_refl _)

end
end

-- la7.txt
section

local macro_rules | `(tactic| walk_at "arith") => `(tactic| first | omega | decide | (unfold CMul; omega) | (unfold CDiv; omega) | (unfold CPow; decide) | (refine ⟨?_, ?_⟩ <;> omega) | (simp; done) | (simp; omega))
local macro_rules | `(tactic| walk_at "wide") => `(tactic| exact ⟨by decide, by decide +kernel⟩)
section
variable {P : Program} {w : World} {K : PySem.W.Frag} {mg : Str → Option Value} {base : Heap} {A : Ad}
/-! ### the bills that the law looks at; the deeds that it draws -/
local macro_rules | `(tactic| walk_at "at") => `(tactic| first | exact atI_feed ‹FeedOk _› (by omega) (by omega) | exact atI_sign (by omega) (by first | omega | (refine Int.lt_of_lt_of_le (Int.emod_lt_of_pos _ (by decide)) (by decide +kernel))))
local macro_rules | `(tactic| walk_at "pre") => `(tactic| first | trivial | omega)
section
variable {K : PySem.W.Frag} {σ : L2.St} {G H : Hp} {ta tb : TE}
theorem rd_InTS {z : Str} {zs : List Str} : RD (rIn K false) (.str z) (.tuple (zs.map .str)) (.bool (decide (z ∈ zs))) := fun G1 H1 x y s hx hy Q q => by
  obtain ⟨a, xs, rfl, ha, dxs⟩ := hy.tup_eq
  rw [dxs.strs_eq] at ha
  rw [hx.str_eq]
  refine ⟨a, _, rfl, Or.inr (Or.inl (Or.inl (s _ _ ha))), rfl, all_flat zs, ?_⟩
  show Q (.bl (inV (.str z) (zs.map V.str))) H1
  rw [inV_str]; exact q _ G1 H1 (.refl s) (.bl _)
theorem ev_inT2 {z a b : Str} (h : EvD ta σ G H (.str z)) : EvD (tOp (rIn K false) ta (tTup (tCons (tC (.str a)) (tCons (tC (.str b)) tNil)))) σ G H (.bool (decide (z ∈ [a, b]))) :=
  ev_op h (ev_tup (ea_cons ev_str (ea_cons ev_str ea_nil)) (by show 2 ≤ 100000; decide)) (rd_InTS (zs := [a, b]))
end
theorem evp_of {σ : L2.St} {G H : Hp} {te : TE} {d : PyData} {P : PyData → Prop} (h : EvD te σ G H d) (hp : P d) : EvP te σ G H P := fun G1 H1 a Q q => h G1 H1 a Q fun v G2 H2 g x => q v d G2 H2 g hp x
def seenB (b : Bil) : PyData := .list [.str (b.places.getD 1 ("", false)).1, .str b.drawee, .str b.payee, .int b.amount, .int b.due, .list (encR b.places), .str b.keeper, .str b.phase, .int b.issue]
def openB (b : Bil) : List PyData := if b.phase ∈ (["running", "paid"] : List Str) then [] else askM b.places b.keeper (decide (b.phase = "protested"))
abbrev spLOpen : Sp := SpM (α := Bil) (fun b => [seenB b]) BOk openB
theorem ok_Lopen (T : Txt K mg A) : FnOk P w K mg base CX0 3 A.a_Lopen A.d_Lopen ["_law_bill"] spLOpen := by
  have G_Laskable := ok_Laskable (P := P) (w := w) (base := base) T
  refine T.F_Lopen.ok sc_Lopen (fun vs H Q E h => ?_) (fun cdv A' outer st H vs Q E hr h => ?_)
  · obtain ⟨G, x, _, hx, _⟩ := h
    exact hx.len
  · obtain ⟨G, b, s0, hx, hb, k⟩ := h
    obtain ⟨v0, rfl, h_bill⟩ := dxs1 hx
    refine ⟨_, (pss_cons (ps_if (pt_cmpR (op_inK (K := K)) (pe_ix (ix_listK (K := K)) (pv 0) pe_int (fun _ _ => rfl)) (pe_tup (pa_cons pe_str (pa_cons pe_str pa_nil))) rfl)
      (pss_one (ps_ret (pe_lst pa_nil)))
      pss_nil)
      (pss_one (ps_ret (pe_call G_Laskable (hr.mono (by omega)) (by rfl) T.m_Laskable T.F_Laskable.kp T.b_Laskable .nil pass0 (pa_cons (pe_ix (ix_listK (K := K)) (pv 0) pe_int (fun _ _ => rfl)) (pa_cons (pe_ix (ix_listK (K := K)) (pv 0) pe_int (fun _ _ => rfl)) (pa_cons (pe_cmpR op_eq (pe_ix (ix_listK (K := K)) (pv 0) pe_int (fun _ _ => rfl)) pe_str (nomark _)) pa_nil))))))), ?_⟩
    have h5 : ∀ {G1 H1}, Gr [] G H G1 H1 → EvD (tOp (rIxL K) (tVar 0) (tC (.int 5))) [some v0] G1 H1 (.list (encR b.places)) := fun g => ev_op (ev_var rfl (h_bill.mono g.g)) ev_int (rd_ixL (atI_nat (j := 5) rfl))
    have h6 : ∀ {G1 H1}, Gr [] G H G1 H1 → EvD (tOp (rIxL K) (tVar 0) (tC (.int 6))) [some v0] G1 H1 (.str b.keeper) := fun g => ev_op (ev_var rfl (h_bill.mono g.g)) ev_int (rd_ixL (atI_nat (j := 6) rfl))
    have h7 : ∀ {G1 H1}, Gr [] G H G1 H1 → EvD (tOp (rIxL K) (tVar 0) (tC (.int 7))) [some v0] G1 H1 (.str b.phase) := fun g => ev_op (ev_var rfl (h_bill.mono g.g)) ev_int (rd_ixL (atI_nat (j := 7) rfl))
    refine q_when (b := decide (b.phase ∈ (["running", "paid"] : List Str))) (et_test (ev_inT2 (h7 (.refl s0)))) s0 (fun hb' G1 H1 g1 => ?_) (fun hb' G1 H1 g1 => ?_)
    · refine s_retM (ev_lst ea_nil (by show 0 ≤ 100000; decide)) g1.s fun p xs G2 H2 g2 h0 hn hl hx => k p xs G2 H2 (g1.trans g2) (g1.free h0) hn hl ?_
      unfold openB
      rw [if_pos (of_decide_eq_true hb')]; exact hx
    · refine s_retM (ev_callM (fl := fun x => askM x.1 x.2.1 x.2.2) (b.places, b.keeper, decide (b.phase = "protested")) (ea_cons (h5 g1) (ea_cons (h6 g1) (ea_cons (ev_op (h7 g1) ev_str rd_eqS) ea_nil))) ⟨hb.2.2.2, by have := hb.1.2; show b.places.length ≤ 1000; omega, hb.2.2.1⟩) g1.s fun p xs G2 H2 g2 h0 hn hl hx => k p xs G2 H2 (g1.trans g2) (g1.free h0) hn hl ?_
      unfold openB
      rw [if_neg (of_decide_eq_false hb')]; exact hx

end
end

-- la8.txt
section

local macro_rules | `(tactic| walk_at "arith") => `(tactic| first | omega | decide | (unfold CMul; omega) | (unfold CDiv; omega) | (unfold CPow; decide) | (refine ⟨?_, ?_⟩ <;> omega) | (simp; done) | (simp; omega))
local macro_rules | `(tactic| walk_at "wide") => `(tactic| exact ⟨by decide, by decide +kernel⟩)
section
variable {P : Program} {w : World} {K : PySem.W.Frag} {mg : Str → Option Value} {base : Heap} {A : Ad}
/-! ### the houses -/
local macro_rules | `(tactic| walk_at "at") => `(tactic| first | exact atI_feed ‹FeedOk _› (by omega) (by omega) | exact atI_sign (by omega) (by first | omega | (refine Int.lt_of_lt_of_le (Int.emod_lt_of_pos _ (by decide)) (by decide +kernel))))
local macro_rules | `(tactic| walk_at "pre") => `(tactic| first | trivial | omega)
def HouseOk (D : Dd) : Prop := ∃ (p k c : Int), D = .house (nm p k) c ∧ 0 ≤ c ∧ c ≤ 1000000000000
abbrev spHouses : Sp := fun vs H Q _ => ∃ (G : Hp) (fs : List Int) (v0 : V), vs = [v0] ∧ Sb G H ∧ Dx G v0 (.list (fs.map .int)) ∧ FeedOk fs ∧
  ∀ (l : List Dd) p xs G' H', l.length ≤ 9 → 2 ≤ l.length → (∀ D ∈ l, HouseOk D) → Gr [] G H G' H' → H p = none → G' p = none → H' p = some (.lst xs) → Dxs G' xs (l.map Dd.data) → Q (.ref p) H'
def scales : List Int := [1, 1, 1, 1, 1, 10000000000]
def scaleOf (fs : List Int) : Int := scales.getD (nth fs 1 % 6).toNat 0
theorem scale_b (fs : List Int) : 0 ≤ scaleOf fs ∧ scaleOf fs ≤ 10000000000 := getD_of (P := fun x => 0 ≤ x ∧ x ≤ 10000000000) (by decide) (by show (nth fs 1 % 6).toNat < 6; have := Int.emod_nonneg (nth fs 1) (b := 6) (by decide); have := Int.emod_lt_of_pos (nth fs 1) (b := 6) (by decide); omega)
theorem pow1010 : (10 : Int) ^ (10 : Int).toNat = 10000000000 := by decide +kernel
theorem ev_scale {K : PySem.W.Frag} {σ : L2.St} {G H : Hp} {ti : TE} {fs : List Int} (h : EvD ti σ G H (.int (nth fs 1 % 6))) : EvD (tOp (rIxL K) (tLst (tCons (tC (.int 1)) (tCons (tC (.int 1)) (tCons (tC (.int 1)) (tCons (tC (.int 1)) (tCons (tC (.int 1)) (tCons (tOp (rI CPow fun i j => .int (i ^ j.toNat)) (tC (.int 10)) (tC (.int 10))) tNil))))))) ti) σ G H (.int (scaleOf fs)) := by
  refine ev_op (EvM.dat (ds := scales.map .int) (ev_lst (ea_cons ev_int (ea_cons ev_int (ea_cons ev_int (ea_cons ev_int (ea_cons ev_int (ea_cons (ev_is (ev_op ev_int ev_int (rd_pow ⟨by decide, by decide, by decide⟩)) (congrArg PyData.int pow1010)) ea_nil)))))) (by show 6 ≤ 100000; decide))) h (rd_ixL ?_)
  have := Int.emod_nonneg (nth fs 1) (b := 6) (by decide)
  have := Int.emod_lt_of_pos (nth fs 1) (b := 6) (by decide)
  exact atI_int (by omega) (by show _ < (6 : Int); omega)
theorem ok_Lhouses (T : Txt K mg A) : FnOk P w K mg base CX0 2 A.a_Lhouses A.d_Lhouses ["_law_feed_here"] spHouses := by
  have G_Lname := ok_Lname (P := P) (w := w) (base := base) T
  refine T.F_Lhouses.ok sc_Lhouses (fun vs H Q E h => by obtain ⟨_, _, _, rfl, _⟩ := h; rfl) (fun cdv A' outer st H vs Q E hr h => ?_)
  obtain ⟨G, fs, v0, rfl, s0, h_feed_here, hok, k⟩ := h
  refine ⟨_, (pss_cons (ps_set (i := 1) sc_Lhouses.nd rfl (Or.inl rfl) (pe_ix (ix_listK (K := K)) (pe_lst (pa_cons pe_int (pa_cons pe_int (pa_cons pe_int (pa_cons pe_int (pa_cons pe_int (pa_cons (pe_op op_pow pe_int pe_int) pa_nil))))))) (pe_op op_mod (pe_ix (ix_listK (K := K)) (pv 0) pe_int (fun _ _ => rfl)) pe_int) (fun _ _ => rfl)))
      (pss_cons (ps_set (i := 2) sc_Lhouses.nd rfl (Or.inl rfl) (pe_lst pa_nil))
      (pss_cons (ps_for PassesOwn.never rfl (pi_range1 (by rfl) T.b.range (pa_cons (pe_op op_add pe_int (pe_op op_mod (pe_ix (ix_listK (K := K)) (pv 0) pe_int (fun _ _ => rfl)) pe_int)) pa_nil)) (pg_name (i := 3) sc_Lhouses.nd rfl (Or.inl rfl))
      (pss_one (ps_expr (pe_bm PySem.F.plainAttrs_list PySem.F.slot_list_append PySem.F.type_list_append mt_append (pv 2) (pa_cons (pe_tup (pa_cons pe_str (pa_cons (pe_call G_Lname (hr.mono (by omega)) (by rfl) T.m_Lname T.F_Lname.kp T.b_Lname .nil pass0 (pa_cons (pe_ix (ix_listK (K := K)) (pv 0) pe_int (fun _ _ => rfl)) (pa_cons (pv 3) pa_nil))) (pa_cons (pe_op op_mul (pv 1) (pe_op op_mod (pe_ix (ix_listK (K := K)) (pv 0) (pe_op op_add pe_int (pv 3)) (fun _ _ => rfl)) pe_int)) pa_nil)))) pa_nil)))))
      (pss_one (ps_ret (pv 2)))))), ?_⟩
  obtain ⟨hc0, hc1⟩ := scale_b fs
  refine q_asg (ev_scale (ev_op (ev_op (ev_var rfl h_feed_here) ev_int (rd_ixL (by walk_at "at"))) ev_int (rd_mod (by walk_at "arith")))) s0 fun v1 G1 H1 g1 hv1 => ?_
  obtain rfl := hv1.int_eq
  generalize scaleOf fs = c at hc0 hc1 hv1
  have h_feed_here := h_feed_here.mono g1.g
  refine q_asgM (ev_lst ea_nil (by show 0 ≤ 100000; decide)) g1.s fun l xs G2 H2 g2 h0 hn hl hx => ?_
  cases hx
  have h_feed_here := h_feed_here.mono g2.g
  have o2 : Ow G1 H1 G2 H2 l [] := Ow.mk0 g2 hl hn
  have b0 := nth_ok hok (i := 0) (by decide) (by decide)
  refine q_forR [l] (fun n σ' G' H' => ∃ (xs : List V) (v3 : Option V) (ds : List Dd), σ' = [some v0, some (.int c), some (.ref l), v3] ∧ Ow G1 H1 G' H' l xs ∧ Dxs G' xs (ds.map Dd.data) ∧ ds.length = n ∧ ∀ D ∈ ds, HouseOk D)
    (ea_cons (ev_op ev_int (ev_op (ev_op (ev_var rfl h_feed_here) ev_int (rd_ixL (by walk_at "at"))) ev_int (rd_mod (by walk_at "arith"))) rd_add) ea_nil) (by omega) o2.s (fun G3 H3 g3 => ⟨[], none, [], rfl, o2.step g3, .nil, rfl, fun _ h => by cases h⟩) (fun G3 H3 g3 n σ' G' H' hn2 gg p => ?_) (fun σ' G' H' gg p => ?_)
  · obtain ⟨xs, v3, ds, rfl, o, dx, hlen, hgood⟩ := p
    have h_feed_here := h_feed_here.mono (g3.any.trans gg).g
    have hn3 : n < 9 := by omega
    have b2 := nth_ok hok (i := 2) (by decide) (by decide)
    have b3 := nth_ok hok (i := 3 + (n : Int)) (by omega) (by omega)
    have hxl := dx.len
    rw [List.length_map] at hxl
    dsimp only [List.set]
    refine s_app' o rfl (d := (Dd.house (nm (nth fs 2) n) (c * (nth fs (3 + (n : Int)) % 61))).data) (ev_tup (ea_cons ev_str (ea_cons (ev_call (f := fun x => .str (nm x.1 x.2)) (nth fs 2, (n : Int)) (ea_cons (ev_op (ev_var rfl h_feed_here) ev_int (rd_ixL (by walk_at "at"))) (ea_cons (ev_var rfl (.int (n : Int))) ea_nil)) ⟨b2, by show 0 ≤ (n : Int) ∧ (n : Int) < 100; omega⟩) (ea_cons ((fun h_scale h_k => (ev_op (ev_var rfl h_scale) (ev_op (ev_op (ev_var rfl h_feed_here) (ev_op ev_int (ev_var rfl h_k) rd_add) (rd_ixL (by walk_at "at"))) ev_int (rd_mod (by walk_at "arith"))) (rd_mul (by walk_at "arith")))) (.int c) (.int (n : Int))) ea_nil))) (by show 3 ≤ 100000; decide)) (by omega) fun v G4 H4 hv g4 o4 => ?_
    refine ⟨G4, gg.trans (g4.any.write (Or.inl (by simp)) o4.hn), xs ++ [v], _, ds ++ [Dd.house (nm (nth fs 2) n) (c * (nth fs (3 + (n : Int)) % 61))], rfl, o4, ?_, by rw [List.length_append, hlen]; rfl, fun D hD => ?_⟩
    · rw [List.map_append]; exact (dx.mono g4.g).app (Dxs.one hv)
    · rcases List.mem_append.mp hD with h | h
      · exact hgood D h
      · have : D = Dd.house (nm (nth fs 2) n) (c * (nth fs (3 + (n : Int)) % 61)) := by simpa using h
        rw [this]
        have m0 : 0 ≤ nth fs (3 + (n : Int)) % 61 ∧ nth fs (3 + (n : Int)) % 61 ≤ 60 := by omega
        refine ⟨_, _, _, rfl, Int.mul_nonneg hc0 m0.1, ?_⟩
        have := Int.mul_le_mul hc1 m0.2 m0.1 (by decide : (0 : Int) ≤ 10000000000)
        omega
  · obtain ⟨xs, v3, ds, rfl, o, dx, hlen, hgood⟩ := p
    exact ⟨.ref l, rfl, k ds l xs G' H' (by omega) (by omega) hgood (g1.trans (o.g.drop h0)) (g1.free h0) o.hn o.hl dx⟩

end
end

-- la9.txt
section

local macro_rules | `(tactic| walk_at "arith") => `(tactic| first | omega | decide | (unfold CMul; omega) | (unfold CDiv; omega) | (unfold CPow; decide) | (refine ⟨?_, ?_⟩ <;> omega) | (simp; done) | (simp; omega))
local macro_rules | `(tactic| walk_at "wide") => `(tactic| exact ⟨by decide, by decide +kernel⟩)
section
variable {P : Program} {w : World} {K : PySem.W.Frag} {mg : Str → Option Value} {base : Heap} {A : Ad}
/-! ### the names of a fair -/
local macro_rules | `(tactic| walk_at "at") => `(tactic| first | exact atI_feed ‹FeedOk _› (by omega) (by omega) | exact atI_sign (by omega) (by first | omega | (refine Int.lt_of_lt_of_le (Int.emod_lt_of_pos _ (by decide)) (by decide +kernel))))
local macro_rules | `(tactic| walk_at "pre") => `(tactic| first | trivial | omega)
theorem at9 {l : List (List Str)} {j : Int} (h : 0 ≤ j ∧ j < l.length) : ∃ es ∈ l, atI (l.map fun e => PyData.list (e.map .str)) j = some (.list (es.map .str)) := by
  have hj : j.toNat < l.length := by omega
  refine ⟨l[j.toNat], List.getElem_mem hj, ?_⟩
  have e : (j.toNat : Int) = j := by omega
  have h2 : atI (l.map fun e => PyData.list (e.map .str)) ((j.toNat : Nat) : Int) = some (.list ((l[j.toNat]).map .str)) := atI_nat (by rw [List.getElem?_map, List.getElem?_eq_getElem hj]; rfl)
  rw [e] at h2
  exact h2
abbrev FairTold : PyData → Prop := fun d => ∃ zs : List Str, zs.length ≤ 1000 ∧ d = (Dd.fair zs).data
abbrev spFairNames : Sp := SpR (α := List Int × Int × List Str) (fun x => [.list (x.1.map .int), .int x.2.1, .list (x.2.2.map .str)]) (fun x => FeedOk x.1 ∧ (0 ≤ x.2.1 ∧ x.2.1 ≤ 262) ∧ x.2.2.length ≤ 9) (fun _ => FairTold)
theorem ok_Lfair_names (T : Txt K mg A) : FnOk P w K mg base CX0 1 A.a_Lfair_names A.d_Lfair_names ["_law_feed_here", "_law_at", "_law_names"] spFairNames := by
  refine T.F_Lfair_names.ok sc_Lfair_names (fun vs H Q E h => ?_) (fun cdv A' outer st H vs Q E hr h => ?_)
  · obtain ⟨G, x, _, hx, _⟩ := h
    exact hx.len
  · obtain ⟨G, ⟨fs, at_, zs⟩, s0, hx, ⟨hok, hat, hz⟩, k⟩ := h
    obtain ⟨v0, v1, v2, rfl, h_feed_here, h_at, h_names⟩ := dxs3 hx
    obtain rfl := h_at.int_eq
    simp only at hok hat hz
    have h_at : ∀ G, Dx G (.int at_) (.int at_) := fun _ => .int _
    refine ⟨_, (pss_cons (ps_setLc (i := 3) (own := [("_law_k", 6), ("_law_name_here", 7)]) (g := gTup K 2 (gCons (gName 6) (gCons (gName 7) (gNil)))) rfl sc_Lfair_names.nd rfl rfl (sw_true rfl rfl rfl (by decide +kernel)) (pi_enum (by rfl) T.b.enumerate (pa_cons (pv 2) pa_nil)) (blkOk_by (own := [("_law_k", 6), ("_law_name_here", 7)]) (N := N_Lfair_names) (sc := defScope s_Lfair_names) (by decide +kernel)) (fun _ _ _ _ _ => (pg_tup (by rfl) (pgs_cons (pg_name (i := 6) sc_Lfair_names.nd rfl (Or.inl rfl)) (pgs_cons (pg_name (i := 7) sc_Lfair_names.nd rfl (Or.inl rfl)) pgs_nil)))) (fun _ _ _ _ _ => by exact pts_one (PW.pt (pw_or (pt_cmpR op_gt (pe_op op_mod (pe_op op_fdiv (pe_ix (ix_listK (K := K)) (pv 0) (pe_op op_add (pv 1) pe_int) (fun _ _ => rfl)) (pe_op op_add pe_int (pe_op op_mul pe_int (pv 6)))) pe_int) pe_int (nomark _)) (pw_or1 (pt_cmpR op_gt (pe_op op_mod (pe_ix (ix_listK (K := K)) (pv 0) (pe_op op_add (pv 1) pe_int) (fun _ _ => rfl)) pe_int) pe_int (nomark _)))))) (fun _ _ _ _ _ => by exact (pv 7)))
      (pss_cons (ps_set (i := 4) sc_Lfair_names.nd rfl (Or.inl rfl) (pe_op op_mod (pe_ix (ix_listK (K := K)) (pv 0) (pe_op op_add (pv 1) pe_int) (fun _ _ => rfl)) (pe_op op_add (pe_callB (call_lenK (K := K)) (by rfl) T.b.len (by decide +kernel) (pa_cons (pv 3) pa_nil)) pe_int)))
      (pss_cons (ps_set (i := 5) sc_Lfair_names.nd rfl (Or.inl rfl) (pe_ix (ix_listK (K := K)) (pe_lst (pa_cons (pe_lst pa_nil) (pa_cons (pe_lst pa_nil) (pa_cons (pe_lst pa_nil) (pa_cons (pe_lst pa_nil) (pa_cons (pe_lst pa_nil) (pa_cons (pe_lst pa_nil) (pa_cons (pe_lst pa_nil) (pa_cons (pe_lst (pa_cons pe_str pa_nil)) (pa_cons (pe_slice (sl_listK (K := K)) (pv 3) po_none (po_some pe_int)) pa_nil)))))))))) (pe_op op_mod (pe_ix (ix_listK (K := K)) (pv 0) (pe_op op_add (pv 1) pe_int) (fun _ _ => rfl)) pe_int) (fun _ _ => rfl)))
      (pss_one (ps_ret (pe_tup (pa_cons pe_str (pa_cons (pe_callTy (call_tupleK (K := K)) (by rfl) T.b.tuple (by decide +kernel) (pa_cons (pe_op op_cat (pe_op op_cat (pe_slice (sl_listK (K := K)) (pv 3) (po_some (pv 4)) po_none) (pv 5)) (pe_slice (sl_listK (K := K)) (pv 3) po_none (po_some (pv 4)))) pa_nil)) pa_nil)))))))), ?_⟩
    have b1 := nth_ok hok (i := at_ + 1) (by omega) (by omega)
    have b2 := nth_ok hok (i := at_ + 2) (by omega) (by omega)
    have b3 := nth_ok hok (i := at_ + 3) (by omega) (by omega)
    have b6 := nth_ok hok (i := at_ + 6) (by omega) (by omega)
    refine q_asgP (P := fun d => ∃ ys : List Str, d = .list (ys.map .str) ∧ ys.length ≤ 9) (evp_of (EvM.dat (ev_lcE (fun n => decide (0 < nth fs (at_ + 1) / (1 + 2 * (n : Int)) % 4) || decide (0 < nth fs (at_ + 2) % 4)) (fun i => PyData.str (zs.getD i "")) (ea_cons (ev_var rfl h_names) ea_nil) (by show zs.length ≤ 40000; omega) (fun _ _ => rfl) (fun n z G1 H1 g1 hz2 => by
      have h_feed_here := h_feed_here.mono g1.g
      have h_k : Dx G1 (.int (n : Int)) (.int (n : Int)) := .int _
      have hn9 : n < 9 := Nat.lt_of_lt_of_le (List.getElem?_eq_some_iff.mp hz2).1 hz
      have h_at := h_at G1
      exact (et_or (et_test (ev_op (ev_op (ev_op (ev_op (ev_var rfl h_feed_here) (ev_op (ev_var rfl h_at) ev_int rd_add) (rd_ixL (by walk_at "at"))) (ev_op ev_int (ev_op ev_int (ev_var rfl h_k) (rd_mul (by walk_at "arith"))) rd_add) (rd_fdiv (by walk_at "arith"))) ev_int (rd_mod (by walk_at "arith"))) ev_int rd_gt)) (fun _ => (et_test (ev_op (ev_op (ev_op (ev_var rfl h_feed_here) (ev_op (ev_var rfl h_at) ev_int rd_add) (rd_ixL (by walk_at "at"))) ev_int (rd_mod (by walk_at "arith"))) ev_int rd_gt))))) (fun n z G1 H1 g1 hz2 _ => by
      have e : zs.getD n "" = z := by rw [List.getD_eq_getElem?_getD, hz2]; rfl
      show EvD _ _ _ _ (.str (zs.getD n ""))
      rw [e]; exact ev_var rfl (.str z)))) (by
        obtain ⟨ys, h1, h2⟩ := given_strs zs.length _ (fun i => zs.getD i "")
        exact ⟨ys, congrArg PyData.list h1, Nat.le_trans h2 hz⟩)) s0 fun v3 d3 G1 H1 g1 hd3 h_some => ?_
    obtain ⟨ys, rfl, hys⟩ := hd3
    have h_feed_here := h_feed_here.mono g1.g
    have hd0 : 0 < (ys.length : Int) + 1 := by omega
    have el : ((ys.map PyData.str).length : Int) + 1 = (ys.length : Int) + 1 := by rw [List.length_map]
    refine q_asg ((fun h_at => ev_op ((ev_op (ev_var rfl h_feed_here) (ev_op (ev_var rfl h_at) ev_int rd_add) (rd_ixL (by walk_at "at")))) (ev_is (ev_op (ev_cb (ea_cons (ev_var rfl h_some) ea_nil) cd_lenL) ev_int rd_add) (congrArg PyData.int el)) (rd_mod hd0)) (h_at _)) g1.s fun v4 G2 H2 g2 hv4 => ?_
    obtain rfl := hv4.int_eq
    have h_some := h_some.mono g2.g
    have h_feed_here := h_feed_here.mono g2.g
    obtain ⟨c1, ec1, l1⟩ := cut_strs ys none (some 1)
    obtain ⟨es, hes, he⟩ := at9 (l := [[], [], [], [], [], [], [], ["nobody"], c1]) (j := nth fs (at_ + 3) % 9) (by show 0 ≤ _ ∧ _ < (9 : Int); omega)
    have les : es.length ≤ 10 := by
      simp only [List.mem_cons, List.not_mem_nil, or_false] at hes
      rcases hes with rfl | rfl | rfl | rfl | rfl | rfl | rfl | rfl | rfl <;> first | (show 0 ≤ 10; omega) | (show 1 ≤ 10; omega) | omega
    refine q_asg ((fun h_at => ev_op (EvM.dat (ev_lst (ea_cons (ev_lst ea_nil (by show 0 ≤ 100000; decide)).dat (ea_cons (ev_lst ea_nil (by show 0 ≤ 100000; decide)).dat (ea_cons (ev_lst ea_nil (by show 0 ≤ 100000; decide)).dat (ea_cons (ev_lst ea_nil (by show 0 ≤ 100000; decide)).dat (ea_cons (ev_lst ea_nil (by show 0 ≤ 100000; decide)).dat (ea_cons (ev_lst ea_nil (by show 0 ≤ 100000; decide)).dat (ea_cons (ev_lst ea_nil (by show 0 ≤ 100000; decide)).dat
      (ea_cons (ev_lst (ea_cons ev_str ea_nil) (by show 1 ≤ 100000; decide)).dat (ea_cons (ev_is (ev_sl (ev_var rfl h_some) eo_none (eo_some ev_int)).dat (congrArg PyData.list ec1)) ea_nil))))))))) (by show 9 ≤ 100000; decide))) (ev_op (ev_op (ev_var rfl h_feed_here) (ev_op (ev_var rfl h_at) ev_int rd_add) (rd_ixL (by walk_at "at"))) ev_int (rd_mod (by walk_at "arith"))) (rd_ixL he)) (h_at _)) g2.s fun v5 G3 H3 g3 h_extra => ?_
    have h_some := h_some.mono g3.g
    obtain ⟨c2, ec2, l2⟩ := cut_strs ys (some (nth fs (at_ + 6) % ((ys.length : Int) + 1))) none
    obtain ⟨c3, ec3, l3⟩ := cut_strs ys none (some (nth fs (at_ + 6) % ((ys.length : Int) + 1)))
    have i4 : ∀ G, Dx G (.int (nth fs (at_ + 6) % ((ys.length : Int) + 1))) (.int (nth fs (at_ + 6) % ((ys.length : Int) + 1))) := fun _ => .int _
    have e2 : PyData.list ((c2.map PyData.str ++ es.map .str) ++ c3.map .str) = .list ((c2 ++ es ++ c3).map .str) := by rw [List.map_append, List.map_append]
    refine s_ret (d := (Dd.fair (c2 ++ es ++ c3)).data) (ev_tup (ea_cons ev_str (ea_cons (ev_tupleL (ev_is (EvM.dat (ev_opM (EvM.dat (ev_opM (ev_is (EvM.dat (ev_sl (ev_var rfl h_some) (eo_some (ev_var rfl (i4 _))) eo_none)) (congrArg PyData.list ec2)) (ev_var rfl h_extra) (rd_cat (by rw [List.length_map, List.length_map]; omega))))
      (ev_is (EvM.dat (ev_sl (ev_var rfl h_some) eo_none (eo_some (ev_var rfl (i4 _))))) (congrArg PyData.list ec3)) (rd_cat (by rw [List.length_append, List.length_map, List.length_map, List.length_map]; omega)))) e2)) ea_nil)) (by show 2 ≤ 100000; decide)) g3.s fun v G4 H4 g4 hv => k v _ G4 H4 (((g1.trans g2).trans g3).trans g4) ⟨_, ?_, rfl⟩ hv
    rw [List.length_append, List.length_append]; omega

end
end

-- la10.txt
section

local macro_rules | `(tactic| walk_at "arith") => `(tactic| first | omega | decide | (unfold CMul; omega) | (unfold CDiv; omega) | (unfold CPow; decide) | (refine ⟨?_, ?_⟩ <;> omega) | (simp; done) | (simp; omega))
local macro_rules | `(tactic| walk_at "wide") => `(tactic| exact ⟨by decide, by decide +kernel⟩)
section
variable {P : Program} {w : World} {K : PySem.W.Frag} {mg : Str → Option Value} {base : Heap} {A : Ad}
/-! ### the state that the law looks at -/
local macro_rules | `(tactic| walk_at "at") => `(tactic| first | exact atI_feed ‹FeedOk _› (by omega) (by omega) | exact atI_sign (by omega) (by first | omega | (refine Int.lt_of_lt_of_le (Int.emod_lt_of_pos _ (by decide)) (by decide +kernel))))
local macro_rules | `(tactic| walk_at "pre") => `(tactic| first | trivial | omega)
def StAt (G H : Hp) (p c : Addr) (ve vb : V) (m : Mp) (day : Int) (bs : List Bil) : Prop := H p = some (.lst [.ref c, ve, .int day, vb]) ∧ H c = some (.dK (kvM m)) ∧ Dx G vb (.list (bs.map seenB))
theorem StAt.step {G H G' H' : Hp} {p c : Addr} {ve vb : V} {m : Mp} {day : Int} {bs : List Bil} (x : StAt G H p c ve vb m day bs) (g : Gr [] G H G' H') : StAt G' H' p c ve vb m day bs := ⟨sb_of g _ _ x.1, sb_of g _ _ x.2.1, x.2.2.mono g.g⟩
section
variable {K : PySem.W.Frag} {σ : L2.St} {G H : Hp} {ta tb : TE} {p c : Addr} {ve vb : V} {m : Mp} {day : Int} {bs : List Bil} {i : Nat} {d : PyData} {D : Ends} {tu tz : TS} {tt : TT} {b : Bool}
theorem ev_stI {vs : List V} {u : V} {k : Int} (hb : EvV tb σ G H (.ref p)) (hp : H p = some (.lst vs)) (hk : EvD ta σ G H (.int k)) (e : atI vs k = some u) (x : Dx G u d) : EvD (tOp (rIxL K) tb ta) σ G H d := fun G1 H1 a Q q =>
  hb G1 H1 a _ fun G2 H2 g => hk G2 H2 (a.trans g) _ fun v G3 H3 g3 y => ⟨p, vs, k, u, rfl, y.int_eq, Or.inl (Or.inl (sb_of (a.trans (g.trans g3)) _ _ hp)), e, q u G3 H3 (g.trans g3) (x.mono (a.trans (g.trans g3)).g)⟩
theorem ev_st3 (x : StAt G H p c ve vb m day bs) (hv : σ[i]? = some (some (.ref p))) : EvD (tOp (rIxL K) (tVar i) (tC (.int 3))) σ G H (.list (bs.map seenB)) := ev_stI (evv_var hv) x.1 ev_int (atI_nat (j := 3) rfl) x.2.2
theorem ev_st2 (x : StAt G H p c ve vb m day bs) (hv : σ[i]? = some (some (.ref p))) : EvD (tOp (rIxL K) (tVar i) (tC (.int 2))) σ G H (.int day) := ev_stI (evv_var hv) x.1 ev_int (atI_nat (j := 2) rfl) (.int _)
theorem ev_sort0 (x : StAt G H p c ve vb m day bs) (hv : σ[i]? = some (some (.ref p))) (hl : m.length < 64) : EvM (tCB (fun xs H Q => ∃ (a : Addr) (kvs : List (Key × V)) (ks : List Str), xs = [.ref a] ∧ Rd H a (.dK kvs) ∧ kvs.map (·.1) = ks.map Sum.inr ∧ ks.length < 64 ∧
    ∀ ys p, ys.Perm ks → PyProof.Rows.sortedS ys = true → H p = none → Q (.ref p) (upd H p (.lst (ys.map V.str)))) (tCons (tOp (rIxL K) (tVar i) (tC (.int 0))) tNil)) σ G H ((srt (nms m)).map .str) := fun G1 H1 a Q q =>
  (evv_ix (evv_var hv) x.1 ev_int (atI_nat (j := 0) rfl)) G1 H1 a _ fun G2 H2 g => ⟨c, _, nms m, rfl, Or.inl (sb_of (a.trans g) _ _ x.2.1), by unfold kvM nms; rw [List.map_map, List.map_map]; rfl, by unfold nms; rw [List.length_map]; exact hl, fun ys l h1 h2 h3 => by
    rw [srt_of h1 h2]
    exact q l _ G2 _ (g.own h3) (g.free h3) (g.s.none h3) upd_same (dxs_strs _)⟩
/-- an if without else whose two ends meet -/
theorem q_whenJ (J : L2.St → Hp → Prop) (h : EvT tt σ G H b) (s : Sb G H) (h3 : ∀ σ' H', J σ' H' → tz D σ' H') (h1 : (∀ σ' H', J σ' H' → tz D σ' H') → b = true → ∀ G1 H1, Gr [] G H G1 H1 → tu { D with nx := tz D } σ H1)
    (h2 : b = false → ∀ G1 H1, Gr [] G H G1 H1 → J σ H1) : tSeq (tIfS tt tu tNext) tz D σ H := q_when h s (h1 h3) fun e G1 H1 g => h3 _ _ (h2 e G1 H1 g)
end
theorem shaped_ints (ns : List Int) : SeqAt.shaped (.list (ns.map .int)) = true := by
  have h : PyData.canLayAll0 (ns.map .int) = true ∧ PyData.depthAll (ns.map .int) ≤ 4 := by
    induction ns with
    | nil => exact ⟨rfl, by show PyData.depthAll [] ≤ 4; unfold PyData.depthAll; omega⟩
    | cons z zs ih =>
      obtain ⟨a, b⟩ := ih
      refine ⟨?_, ?_⟩
      · rw [List.map_cons, PyData.canLayAll0, a]; simp [PyData.canLay0]
      · rw [List.map_cons]
        simp only [PyData.depthAll, PyData.depth]
        omega
  unfold SeqAt.shaped
  rw [Bool.and_eq_true]
  refine ⟨by rw [PyData.canLay0]; exact h.1, decide_eq_true ?_⟩
  simp only [PyData.depth]
  have := h.2
  omega
theorem shaped_nil : SeqAt.shaped (.list []) = true := shaped_ints []
theorem eqv_nil (ds : List PyData) : PyData.eqv (.list ds) (.list []) = ds.isEmpty := by
  cases ds <;> simp [PyData.eqv, PyData.eqvAll]
theorem open_ints (b : Bil) : ∃ ps : List Int, openB b = ps.map .int ∧ ps.length ≤ 1000 + b.places.length := by
  unfold openB
  split
  · exact ⟨[], rfl, Nat.zero_le _⟩
  · unfold askM given
    refine ⟨((List.range (reachM b.places b.keeper)).filter (askF b.places (decide (b.phase = "protested")))).map fun i : Nat => (i : Int), by rw [List.map_map]; rfl, ?_⟩
    rw [List.length_map]
    have h1 := List.length_filter_le (askF b.places (decide (b.phase = "protested"))) (List.range (reachM b.places b.keeper))
    rw [List.length_range] at h1
    have := reachM_le b.places b.keeper
    omega
abbrev BillWords : List Str := ["accept", "sign", "blank", "hand", "lose", "present", "protest", "ask", "honour"]
abbrev spBillDeed : Sp := fun vs H Q _ => ∃ (G : Hp) (fs : List Int) (at_ : Int) (p c : Addr) (ve vb : V) (m : Mp) (day : Int) (bs : List Bil) (word to : Str) (v0 : V), vs = [v0, .int at_, .ref p, .str word, .str to] ∧ Sb G H ∧ Dx G v0 (.list (fs.map .int)) ∧ FeedOk fs ∧ (0 ≤ at_ ∧ at_ ≤ 262) ∧
  StAt G H p c ve vb m day bs ∧ bs ≠ [] ∧ bs.length ≤ 40 ∧ (∀ b ∈ bs, BOk b) ∧ word ∈ BillWords ∧ ∀ (D : Dd) (v : V) (G' H' : Hp), D.good → Gr [] G H G' H' → Dx G' v D.data → Q v H'
theorem ok_Lbill_deed (T : Txt K mg A) : FnOk P w K mg base CX0 4 A.a_Lbill_deed A.d_Lbill_deed ["_law_feed_here", "_law_at", "_law_state", "_law_word", "_law_to"] spBillDeed := by
  have G_Lopen := ok_Lopen (P := P) (w := w) (base := base) T
  refine T.F_Lbill_deed.ok sc_Lbill_deed (fun vs H Q E h => by obtain ⟨_, _, _, _, _, _, _, _, _, _, _, _, _, rfl, _⟩ := h; rfl) (fun cdv A' outer st H vs Q E hr h => ?_)
  obtain ⟨G, fs, at_, p, c, ve, vb, m, day, bs, word, to, v0, rfl, s0, h_feed_here, hok, hat, hst, hne, h40, hbo, hw, k⟩ := h
  have h_at : ∀ G, Dx G (.int at_) (.int at_) := fun _ => .int _
  refine ⟨_, (pss_cons (ps_set (i := 5) sc_Lbill_deed.nd rfl (Or.inl rfl) (pe_callB (call_lenK (K := K)) (by rfl) T.b.len (by decide +kernel) (pa_cons (pe_ix (ix_listK (K := K)) (pv 2) pe_int (fun _ _ => rfl)) pa_nil)))
      (pss_cons (ps_set (i := 6) sc_Lbill_deed.nd rfl (Or.inl rfl) (pe_op op_add (pe_op op_add pe_int (pe_op op_mod (pe_ix (ix_listK (K := K)) (pv 0) (pe_op op_add (pv 1) pe_int) (fun _ _ => rfl)) (pv 5))) (pe_ix (ix_listK (K := K)) (pe_lst (pa_cons pe_int (pa_cons pe_int (pa_cons pe_int (pa_cons pe_int (pa_cons pe_int (pa_cons pe_int (pa_cons pe_int (pa_cons pe_int (pa_cons pe_int (pa_cons (pv 5) (pa_cons (pe_un un_neg (pv 5)) pa_nil)))))))))))) (pe_op op_mod (pe_ix (ix_listK (K := K)) (pv 0) (pe_op op_add (pv 1) pe_int) (fun _ _ => rfl)) pe_int) (fun _ _ => rfl))))
      (pss_cons (ps_set (i := 7) sc_Lbill_deed.nd rfl (Or.inl rfl) pe_int)
      (pss_cons (ps_set (i := 8) sc_Lbill_deed.nd rfl (Or.inl rfl) (pe_lst pa_nil))
      (pss_cons (ps_if (pt_chain op_le op_le pe_int (pv 6) (pv 5))
      (pss_cons (ps_set (i := 7) sc_Lbill_deed.nd rfl (Or.inl rfl) (pe_ix (ix_listK (K := K)) (pe_ix (ix_listK (K := K)) (pe_ix (ix_listK (K := K)) (pv 2) pe_int (fun _ _ => rfl)) (pe_op op_sub (pv 6) pe_int) (fun _ _ => rfl)) pe_int (fun _ _ => rfl)))
      (pss_one (ps_set (i := 8) sc_Lbill_deed.nd rfl (Or.inl rfl) (pe_call G_Lopen (hr.mono (by omega)) (by rfl) T.m_Lopen T.F_Lopen.kp T.b_Lopen .nil pass0 (pa_cons (pe_ix (ix_listK (K := K)) (pe_ix (ix_listK (K := K)) (pv 2) pe_int (fun _ _ => rfl)) (pe_op op_sub (pv 6) pe_int) (fun _ _ => rfl)) pa_nil)))))
      pss_nil)
      (pss_cons (ps_set (i := 7) sc_Lbill_deed.nd rfl (Or.inl rfl) (pe_op op_add (pv 7) (pe_ix (ix_listK (K := K)) (pe_lst (pa_cons pe_int (pa_cons pe_int (pa_cons pe_int (pa_cons pe_int (pa_cons pe_int (pa_cons pe_int (pa_cons pe_int (pa_cons pe_int (pa_cons pe_int (pa_cons pe_int (pa_cons pe_int (pa_cons pe_int (pa_cons (pe_un un_neg pe_int) pa_nil)))))))))))))) (pe_op op_mod (pe_ix (ix_listK (K := K)) (pv 0) (pe_op op_add (pv 1) pe_int) (fun _ _ => rfl)) pe_int) (fun _ _ => rfl))))
      (pss_cons (ps_set (i := 9) sc_Lbill_deed.nd rfl (Or.inl rfl) (pe_op op_sub (pe_op op_mod (pe_ix (ix_listK (K := K)) (pv 0) (pe_op op_add (pv 1) pe_int) (fun _ _ => rfl)) pe_int) pe_int))
      (pss_cons (ps_if (PW.pt (pw_and (pt_cmpR (op_neDK (K := K) hr.units) (pv 8) (pe_lst pa_nil) (nomark _)) (pw_and1 (pt_cmpR op_gt (pe_op op_mod (pe_ix (ix_listK (K := K)) (pv 0) (pe_op op_add (pv 1) pe_int) (fun _ _ => rfl)) pe_int) pe_int (nomark _)))))
      (pss_one (ps_set (i := 9) sc_Lbill_deed.nd rfl (Or.inl rfl) (pe_ix (ix_listK (K := K)) (pv 8) (pe_op op_mod (pe_ix (ix_listK (K := K)) (pv 0) (pe_op op_add (pv 1) pe_int) (fun _ _ => rfl)) (pe_callB (call_lenK (K := K)) (by rfl) T.b.len (by decide +kernel) (pa_cons (pv 8) pa_nil))) (fun _ _ => rfl))))
      pss_nil)
      (pss_cons (ps_if (pt_cmpR (op_inK (K := K)) (pv 3) (pe_tup (pa_cons pe_str (pa_cons pe_str pa_nil))) rfl)
      (pss_one (ps_ret (pe_tup (pa_cons (pv 3) (pa_cons (pv 6) (pa_cons (pv 7) (pa_cons (pv 4) (pa_cons (pe_cmpR op_gt (pe_op op_mod (pe_ix (ix_listK (K := K)) (pv 0) (pe_op op_add (pv 1) pe_int) (fun _ _ => rfl)) pe_int) pe_int (nomark _)) pa_nil))))))))
      pss_nil)
      (pss_cons (ps_if (pt_cmpR op_eq (pv 3) pe_str (nomark _))
      (pss_one (ps_ret (pe_tup (pa_cons (pv 3) (pa_cons (pv 6) (pa_cons (pv 7) (pa_cons (pv 4) pa_nil)))))))
      pss_nil)
      (pss_cons (ps_if (pt_cmpR op_eq (pv 3) pe_str (nomark _))
      (pss_one (ps_ret (pe_tup (pa_cons (pv 3) (pa_cons (pv 6) pa_nil)))))
      pss_nil)
      (pss_cons (ps_if (pt_cmpR op_eq (pv 3) pe_str (nomark _))
      (pss_one (ps_ret (pe_tup (pa_cons (pv 3) (pa_cons (pv 6) (pa_cons (pv 7) (pa_cons (pv 9) pa_nil)))))))
      pss_nil)
      (pss_cons (ps_if (pt_cmpR op_eq (pv 3) pe_str (nomark _))
      (pss_one (ps_ret (pe_tup (pa_cons (pv 3) (pa_cons (pv 6) (pa_cons (pv 7) (pa_cons (pv 4) (pa_cons (pv 9) pa_nil))))))))
      pss_nil)
      (pss_one (ps_ret (pe_tup (pa_cons (pv 3) (pa_cons (pv 6) (pa_cons (pv 7) pa_nil))))))))))))))))))), ?_⟩
  have hn0 : 1 ≤ bs.length := by cases bs with
    | nil => exact (hne rfl).elim
    | cons _ _ => show 1 ≤ _ + 1; omega
  obtain ⟨n, hn⟩ : ∃ n : Int, n = (bs.length : Int) := ⟨_, rfl⟩
  have hn1 : 0 < n := by omega
  refine q_asg (d := .int n) (ev_is (ev_cb (ea_cons (ev_st3 hst rfl) ea_nil) cd_lenL) (by rw [List.length_map, hn])) s0 fun v5 G1 H1 g1 hv => ?_
  obtain rfl := hv.int_eq
  have h_feed_here := h_feed_here.mono g1.g
  have hst := hst.step g1
  have b1 := nth_ok hok (i := at_ + 1) (by omega) (by omega)
  have b2 := nth_ok hok (i := at_ + 2) (by omega) (by omega)
  have b3 := nth_ok hok (i := at_ + 3) (by omega) (by omega)
  have b5 := nth_ok hok (i := at_ + 5) (by omega) (by omega)
  have b6 := nth_ok hok (i := at_ + 6) (by omega) (by omega)
  have h_many : ∀ G, Dx G (.int n) (.int n) := fun _ => .int _
  refine q_asg (ev_op (ev_op ev_int ((fun h_at h_many => (ev_op (ev_op (ev_var rfl h_feed_here) (ev_op (ev_var rfl h_at) ev_int rd_add) (rd_ixL (by walk_at "at"))) (ev_var rfl h_many) (rd_mod (by walk_at "arith")))) (h_at _) (h_many _)) rd_add)
    (ev_op (EvM.dat (ds := ([0, 0, 0, 0, 0, 0, 0, 0, 0, n, -n] : List Int).map .int) (ev_lst (ea_cons ev_int (ea_cons ev_int (ea_cons ev_int (ea_cons ev_int (ea_cons ev_int (ea_cons ev_int (ea_cons ev_int (ea_cons ev_int (ea_cons ev_int (ea_cons (ev_var rfl (h_many _)) (ea_cons (ev_neg (ev_var rfl (h_many _))) ea_nil))))))))))) (by show 11 ≤ 100000; decide)))
      ((fun h_at => (ev_op (ev_op (ev_var rfl h_feed_here) (ev_op (ev_var rfl h_at) ev_int rd_add) (rd_ixL (by walk_at "at"))) ev_int (rd_mod (by walk_at "arith")))) (h_at _)) (rd_ixL (atI_int (by omega) (by show _ < (11 : Int); omega)))) rd_add) g1.s fun v6 G2 H2 g2 hv => ?_
  obtain rfl := hv.int_eq
  generalize 1 + nth fs (at_ + 1) % n + _ = num
  have h_number : ∀ G, Dx G (.int num) (.int num) := fun _ => .int _
  have h_feed_here := h_feed_here.mono g2.g
  have hst := hst.step g2
  refine q_asg ev_int g2.s fun v7 G3 H3 g3 hv => ?_
  obtain rfl := hv.int_eq
  have h_feed_here := h_feed_here.mono g3.g
  have hst := hst.step g3
  refine q_asg (EvM.dat (ds := ([] : List Int).map .int) (ev_lst ea_nil (by show 0 ≤ 100000; decide))) g3.s fun v8 G4 H4 g4 h_places => ?_
  have h_feed_here := h_feed_here.mono g4.g
  have hst := hst.step g4
  have gA := ((g1.trans g2).trans g3).trans g4
  refine q_whenJ (fun σ' H' => ∃ (G' : Hp) (cp : Int) (ps : List Int) (v8 : V), σ' = [some v0, some (.int at_), some (.ref p), some (.str word), some (.str to), some (.int n), some (.int num), some (.int cp), some v8, none] ∧ Gr [] G4 H4 G' H' ∧ Dx G' v8 (.list (ps.map .int)) ∧ ps.length ≤ 2000)
    ((fun h_number h_many => (et_test (ev_chain ev_int (ev_var rfl h_number) rd_le (fun _ => (ev_var rfl h_many)) (fun _ => rd_le)))) (h_number _) (h_many _)) g4.s (fun σ' H' J => ?_) (fun h3 hb G5 H5 g5 => ?_) (fun hb G5 H5 g5 => ⟨G5, 1, [], v8, rfl, g5, h_places.mono g5.g, by show 0 ≤ 2000; decide⟩)
  · obtain ⟨G5, cp, ps, v8, rfl, g5, h_places, hps⟩ := J
    have h_feed_here := h_feed_here.mono g5.g
    have gA := gA.trans g5
    have h_copy : ∀ G, Dx G (.int cp) (.int cp) := fun _ => .int _
    refine q_asg ((fun h_copy => ev_op (ev_var rfl h_copy) (ev_op (EvM.dat (ds := ([0, 0, 0, 0, 0, 0, 0, 0, 0, 0, 0, 1, -1] : List Int).map .int) (ev_lst (ea_cons ev_int (ea_cons ev_int (ea_cons ev_int (ea_cons ev_int (ea_cons ev_int (ea_cons ev_int (ea_cons ev_int (ea_cons ev_int (ea_cons ev_int (ea_cons ev_int (ea_cons ev_int (ea_cons ev_int (ea_cons (ev_neg ev_int) ea_nil))))))))))))) (by walk_at "arith"))) ((fun h_at => (ev_op (ev_op (ev_var rfl h_feed_here) (ev_op (ev_var rfl h_at) ev_int rd_add) (rd_ixL (by walk_at "at"))) ev_int (rd_mod (by walk_at "arith")))) (h_at _)) (rd_ixL (atI_int (by omega) (by show _ < (13 : Int); omega)))) rd_add) (h_copy _)) g5.s fun v7 G6 H6 g6 hv => ?_
    obtain rfl := hv.int_eq
    generalize cp + _ = cp
    have h_feed_here := h_feed_here.mono g6.g
    have h_places := h_places.mono g6.g
    have gA := gA.trans g6
    refine q_asg ((fun h_at => (ev_op (ev_op (ev_op (ev_var rfl h_feed_here) (ev_op (ev_var rfl h_at) ev_int rd_add) (rd_ixL (by walk_at "at"))) ev_int (rd_mod (by walk_at "arith"))) ev_int rd_sub)) (h_at _)) g6.s fun v9 G7 H7 g7 hv => ?_
    obtain rfl := hv.int_eq
    generalize nth fs (at_ + 5) % 9 - 1 = pl
    have h_feed_here := h_feed_here.mono g7.g
    have h_places := h_places.mono g7.g
    have gA := gA.trans g7
    refine q_whenJ (fun σ' H' => ∃ (G' : Hp) (pl : Int), σ' = [some v0, some (.int at_), some (.ref p), some (.str word), some (.str to), some (.int n), some (.int num), some (.int cp), some v8, some (.int pl)] ∧ Gr [] G7 H7 G' H')
      (et_and (et_test (ev_op (ev_var rfl h_places) (EvM.dat (ev_lst ea_nil (by show 0 ≤ 100000; decide))) (rd_neD (shaped_ints ps) shaped_nil))) (fun _ => (fun h_at => (et_test (ev_op (ev_op (ev_op (ev_var rfl h_feed_here) (ev_op (ev_var rfl h_at) ev_int rd_add) (rd_ixL (by walk_at "at"))) ev_int (rd_mod (by walk_at "arith"))) ev_int rd_gt))) (h_at _))) g7.s (fun σ' H' J => ?_) (fun h3 hb G8 H8 g8 => ?_) (fun hb G8 H8 g8 => ⟨G8, pl, rfl, g8⟩)
    · obtain ⟨G8, pl, rfl, g8⟩ := J
      have h_feed_here := h_feed_here.mono g8.g
      have gA := gA.trans g8
      have i_n : ∀ G, Dx G (.int num) (.int num) := fun _ => .int _
      have i_c : ∀ G, Dx G (.int cp) (.int cp) := fun _ => .int _
      have i_p : ∀ G, Dx G (.int pl) (.int pl) := fun _ => .int _
      have i_w : ∀ G, Dx G (.str word) (.str word) := fun _ => .str _
      have i_t : ∀ G, Dx G (.str to) (.str to) := fun _ => .str _
      refine q_when (b := decide (word ∈ (["sign", "blank"] : List Str))) (et_test (ev_inT2 (ev_var rfl (i_w _)))) g8.s (fun hb G9 H9 g9 => ?_) (fun hb G9 H9 g9 => ?_)
      · have h_feed_here := h_feed_here.mono g9.g
        have gA := gA.trans g9
        refine s_ret (ev_tup (ea_cons (ev_var rfl (i_w _)) (ea_cons (ev_var rfl (i_n _)) (ea_cons (ev_var rfl (i_c _)) (ea_cons (ev_var rfl (i_t _)) (ea_cons ((fun h_at => (ev_op (ev_op (ev_op (ev_var rfl h_feed_here) (ev_op (ev_var rfl h_at) ev_int rd_add) (rd_ixL (by walk_at "at"))) ev_int (rd_mod (by walk_at "arith"))) ev_int rd_gt)) (h_at _)) ea_nil))))) (by show 5 ≤ 100000; decide)) g9.s fun v G10 H10 g10 hv => ?_
        have hb := of_decide_eq_true hb
        simp only [List.mem_cons, List.not_mem_nil, or_false] at hb
        rcases hb with rfl | rfl
        · exact k (.sign (num, cp, to, _)) v G10 H10 trivial (gA.trans g10) hv
        · exact k (.blank (num, cp, to, _)) v G10 H10 trivial (gA.trans g10) hv
      have gA := gA.trans g9
      have hb := of_decide_eq_false hb
      simp only [List.mem_cons, List.not_mem_nil, or_false, not_or] at hb
      refine q_when (b := decide (word = "hand")) (et_test (ev_op (ev_var rfl (i_w _)) ev_str rd_eqS)) g9.s (fun hb2 G10 H10 g10 => ?_) (fun hb2 G10 H10 g10 => ?_)
      · obtain rfl := of_decide_eq_true hb2
        exact s_ret (d := (Dd.hand (num, cp, to)).data) (ev_tup (ea_cons (ev_var rfl (i_w _)) (ea_cons (ev_var rfl (i_n _)) (ea_cons (ev_var rfl (i_c _)) (ea_cons (ev_var rfl (i_t _)) ea_nil)))) (by show 4 ≤ 100000; decide)) g10.s fun v G11 H11 g11 hv => k (.hand (num, cp, to)) v G11 H11 trivial ((gA.trans g10).trans g11) hv
      have gA := gA.trans g10
      refine q_when (b := decide (word = "lose")) (et_test (ev_op (ev_var rfl (i_w _)) ev_str rd_eqS)) g10.s (fun hb3 G11 H11 g11 => ?_) (fun hb3 G11 H11 g11 => ?_)
      · obtain rfl := of_decide_eq_true hb3
        exact s_ret (d := (Dd.lose num).data) (ev_tup (ea_cons (ev_var rfl (i_w _)) (ea_cons (ev_var rfl (i_n _)) ea_nil)) (by show 2 ≤ 100000; decide)) g11.s fun v G12 H12 g12 hv => k (.lose num) v G12 H12 trivial ((gA.trans g11).trans g12) hv
      have gA := gA.trans g11
      refine q_when (b := decide (word = "ask")) (et_test (ev_op (ev_var rfl (i_w _)) ev_str rd_eqS)) g11.s (fun hb4 G12 H12 g12 => ?_) (fun hb4 G12 H12 g12 => ?_)
      · obtain rfl := of_decide_eq_true hb4
        exact s_ret (d := (Dd.ask (num, cp, pl)).data) (ev_tup (ea_cons (ev_var rfl (i_w _)) (ea_cons (ev_var rfl (i_n _)) (ea_cons (ev_var rfl (i_c _)) (ea_cons (ev_var rfl (i_p _)) ea_nil)))) (by show 4 ≤ 100000; decide)) g12.s fun v G13 H13 g13 hv => k (.ask (num, cp, pl)) v G13 H13 trivial ((gA.trans g12).trans g13) hv
      have gA := gA.trans g12
      refine q_when (b := decide (word = "honour")) (et_test (ev_op (ev_var rfl (i_w _)) ev_str rd_eqS)) g12.s (fun hb5 G13 H13 g13 => ?_) (fun hb5 G13 H13 g13 => ?_)
      · obtain rfl := of_decide_eq_true hb5
        exact s_ret (d := (Dd.honour (num, cp, to, pl)).data) (ev_tup (ea_cons (ev_var rfl (i_w _)) (ea_cons (ev_var rfl (i_n _)) (ea_cons (ev_var rfl (i_c _)) (ea_cons (ev_var rfl (i_t _)) (ea_cons (ev_var rfl (i_p _)) ea_nil))))) (by show 5 ≤ 100000; decide)) g13.s fun v G14 H14 g14 hv => k (.honour (num, cp, to, pl)) v G14 H14 trivial ((gA.trans g13).trans g14) hv
      have gA := gA.trans g13
      refine s_ret (ev_tup (ea_cons (ev_var rfl (i_w _)) (ea_cons (ev_var rfl (i_n _)) (ea_cons (ev_var rfl (i_c _)) ea_nil))) (by show 3 ≤ 100000; decide)) g13.s fun v G14 H14 g14 hv => ?_
      simp only [List.mem_cons, List.not_mem_nil, or_false] at hw
      rcases hw with rfl | rfl | rfl | rfl | rfl | rfl | rfl | rfl | rfl
      · exact k (.accept (num, cp)) v G14 H14 trivial (gA.trans g14) hv
      · exact absurd rfl hb.1
      · exact absurd rfl hb.2
      · exact absurd rfl (of_decide_eq_false hb2)
      · exact absurd rfl (of_decide_eq_false hb3)
      · exact k (.present (num, cp)) v G14 H14 trivial (gA.trans g14) hv
      · exact k (.protest (num, cp)) v G14 H14 trivial (gA.trans g14) hv
      · exact absurd rfl (of_decide_eq_false hb4)
      · exact absurd rfl (of_decide_eq_false hb5)
    · rw [Bool.and_eq_true] at hb
      have hpn : 0 < ps.length := by
        have h1 := hb.1
        rw [eqv_nil] at h1
        cases ps with
        | nil => cases h1
        | cons _ _ => show 0 < _ + 1; omega
      have h_feed_here := h_feed_here.mono g8.g
      have h_places := h_places.mono g8.g
      have hl : ((ps.map PyData.int).length : Int) = (ps.length : Int) := by rw [List.length_map]
      have hp0 : (0 : Int) < (ps.length : Int) := by omega
      have hm0 := Int.emod_nonneg (nth fs (at_ + 5)) (b := (ps.length : Int)) (by omega)
      have hm1 := Int.emod_lt_of_pos (nth fs (at_ + 5)) hp0
      refine s_asg (ev_op (ev_var rfl h_places) (ev_op ((fun h_at => (ev_op (ev_var rfl h_feed_here) (ev_op (ev_var rfl h_at) ev_int rd_add) (rd_ixL (by walk_at "at")))) (h_at _)) (ev_is (ev_cb (ea_cons (ev_var rfl h_places) ea_nil) cd_lenL) (congrArg PyData.int hl)) (rd_mod hp0)) (rd_ixL (atI_int hm0 (by omega)))) g8.s fun v G9 H9 g9 hv => ?_
      obtain rfl := hv.int_eq
      exact h3 _ _ ⟨G9, _, rfl, g8.trans g9⟩
  · -- within the numbers of bills
    rw [Bool.and_eq_true] at hb
    have hb1 := of_decide_eq_true hb.1
    have hb2 := of_decide_eq_true hb.2
    have hst := hst.step g5
    have hlt : (num - 1).toNat < bs.length := by omega
    have e1 : ((num - 1).toNat : Int) = num - 1 := by omega
    have hmem : bs[(num - 1).toNat] ∈ bs := List.getElem_mem hlt
    have hget : bs[(num - 1).toNat]? = some bs[(num - 1).toNat] := List.getElem?_eq_getElem hlt
    generalize bs[(num - 1).toNat] = bb at hget hmem
    have hat1 : atI (bs.map seenB) (num - 1) = some (seenB bb) := by
      have h : atI (bs.map seenB) (((num - 1).toNat : Nat) : Int) = some (seenB bb) := atI_nat (by rw [List.getElem?_map, hget]; rfl)
      rwa [e1] at h
    obtain ⟨ps, hps, hpl⟩ := open_ints bb
    have hbb := hbo bb hmem
    have h8b := hbb.1.2
    have e_bill : ∀ {σ : L2.St} {G H : Hp}, StAt G H p c ve vb m day bs → σ[2]? = some (some (.ref p)) → σ[6]? = some (some (.int num)) → EvD (tOp (rIxL K) (tOp (rIxL K) (tVar 2) (tC (.int 3))) (tOp (rI0 fun i j => .int (i - j)) (tVar 6) (tC (.int 1)))) σ G H (seenB bb) := fun x h2 h6 =>
      ev_op (ev_st3 x h2) (ev_op (ev_var h6 (.int num)) ev_int rd_sub) (rd_ixL hat1)
    refine q_asg (d := .int bb.issue) (ev_op (e_bill hst rfl rfl) ev_int (rd_ixL (atI_nat (j := 8) rfl))) g5.s fun v7 G6 H6 g6 hv => ?_
    obtain rfl := hv.int_eq
    have hst := hst.step g6
    refine s_asg (ev_is (EvM.dat (ev_callM (fl := openB) bb (ea_cons (e_bill hst rfl rfl) ea_nil) hbb)) (congrArg PyData.list hps)) g6.s fun v8' G7 H7 g7 hv => ?_
    exact h3 _ _ ⟨G7, bb.issue, ps, v8', rfl, (g5.trans g6).trans g7, hv, by omega⟩

end
end

-- la11.txt
section

local macro_rules | `(tactic| walk_at "arith") => `(tactic| first | omega | decide | (unfold CMul; omega) | (unfold CDiv; omega) | (unfold CPow; decide) | (refine ⟨?_, ?_⟩ <;> omega) | (simp; done) | (simp; omega))
local macro_rules | `(tactic| walk_at "wide") => `(tactic| exact ⟨by decide, by decide +kernel⟩)
section
variable {P : Program} {w : World} {K : PySem.W.Frag} {mg : Str → Option Value} {base : Heap} {A : Ad}
/-! ### what else a deed keeps: the names, the texts of the bills -/
def BX (b : Bil) : Prop := Sm b.drawee ∧ Sm b.payee ∧ Sm b.phase
structure Mo (s s' : Hl) : Prop where
  nm : nms s'.m = nms s.m ∨ ∃ z, isName z = true ∧ nms s'.m = nms s.m ++ [z]
  bx : (∀ b ∈ s.bs, BX b) → ∀ b ∈ s'.bs, BX b
theorem sm_running : Sm "running" := by have : ∀ c ∈ ("running" : Str).cps.toList, c < 128 := by decide +kernel
                                        exact this
theorem sm_paid : Sm "paid" := by have : ∀ c ∈ ("paid" : Str).cps.toList, c < 128 := by decide +kernel
                                  exact this
theorem sm_unpaid : Sm "unpaid" := by have : ∀ c ∈ ("unpaid" : Str).cps.toList, c < 128 := by decide +kernel
                                      exact this
theorem sm_protested : Sm "protested" := by have : ∀ c ∈ ("protested" : Str).cps.toList, c < 128 := by decide +kernel
                                            exact this
theorem sm_phP (b : Bool) : Sm (phP b) := by unfold phP; split; exact sm_paid; exact sm_unpaid
theorem bilOf_mem {s : Hl} {i : Nat} (h : i < s.bs.length) : bilOf s i ∈ s.bs := by
  unfold bilOf
  rw [List.getD_eq_getElem?_getD, List.getElem?_eq_getElem h]
  exact List.getElem_mem h
theorem Mo.set {s : Hl} {m : Mp} {fl : List Str} {day : Int} {ds : List PyData} {i : Nat} {b : Bil} (hi : i < s.bs.length) (hm : nms m = nms s.m) (hb : BX (bilOf s i) → BX b) : Mo s ⟨m, fl, day, s.bs.set i b, ds⟩ :=
  ⟨Or.inl hm, fun h x hx => by
    rcases List.mem_or_eq_of_mem_set hx with q | q
    · exact h x q
    · rw [q]; exact hb (h _ (bilOf_mem hi))⟩
theorem phases_bx (paid : List Int) : ∀ (l : List Int) (s : Hl), (∀ b ∈ s.bs, BX b) → (∀ n ∈ l, 1 ≤ n ∧ n ≤ s.bs.length) → ∀ b ∈ (phasesS paid l s).bs, BX b
  | [], _, o, _ => o
  | n :: l, s, o, h => by
    have h1 := h n (by simp)
    have e : (phS paid s n).bs.length = s.bs.length := by show (s.bs.set _ _).length = _; rw [List.length_set]
    refine phases_bx paid l (phS paid s n) (fun b hb => ?_) (fun k hk => by rw [e]; exact h k (by simp [hk]))
    have hb : b ∈ s.bs.set _ _ := hb
    rcases List.mem_or_eq_of_mem_set hb with hb | hb
    · exact o b hb
    · have hk : BX (bilN s n) := o _ (bilOf_mem (by omega))
      rw [hb]
      exact ⟨hk.1, hk.2.1, sm_phP _⟩
theorem sign_more {s s' : Hl} {y : Hl × PyData} {t : PyData} {x : Int × Int × Str × Bool × Bool} {d : PyData} (h1 : signonD s x = .ok y) (h : Except.ok (tell y.1 t, PyData.none) = (.ok (s', d) : DR)) : Mo s s' := by
  obtain ⟨i, g1, h1⟩ := seqE_inv h1
  obtain ⟨d2, g2, h1⟩ := seqE_inv h1
  obtain ⟨d3, g3, h1⟩ := seqE_inv h1
  obtain ⟨d4, g4, h1⟩ := seqE_inv h1
  split at h1
  · cases h1
  · split at h1
    · cases h1
    · cases h1
      cases h
      exact Mo.set (copyR_lt g1) rfl fun q => q
theorem run_more {s s' : Hl} {D : Dd} {d : PyData} (o : Okb s) (h : D.run s = .ok (s', d)) : Mo s s' := by
  cases D with
  | house z c =>
    have h : houseD s (z, c) = _ := h
    unfold houseD at h
    split at h
    · cases h
    · rename_i h1
      split at h
      · cases h
      · rename_i hg
        obtain ⟨d1, h2, h⟩ := seqE_inv h
        split at h
        · cases h
        · obtain ⟨m', h3, h⟩ := seqE_inv h
          cases h
          refine ⟨Or.inr ⟨z, by simpa using h1, ?_⟩, fun q => q⟩
          unfold addR at h3
          simp only at h3
          rw [if_neg hg] at h3
          split at h3
          · cases h3
          · cases h3
            show nms (put s.m z c) = _
            unfold put
            rw [if_neg hg]
            unfold nms
            rw [List.map_append]; rfl
  | putin z c =>
    obtain ⟨d1, h1, h⟩ := seqE_inv (show inD s (z, c) = _ from h)
    obtain ⟨d2, h2, h⟩ := seqE_inv h
    obtain ⟨m', h3, h⟩ := seqE_inv h
    cases h
    exact ⟨Or.inl (fill_nms h3), fun q => q⟩
  | out z c =>
    obtain ⟨d1, h1, h⟩ := seqE_inv (show outD s (z, c) = _ from h)
    obtain ⟨d2, h2, h⟩ := seqE_inv h
    obtain ⟨m', h3, h⟩ := seqE_inv h
    cases h
    exact ⟨Or.inl (spend_nms h3), fun q => q⟩
  | fail z =>
    obtain ⟨d1, h1, h⟩ := seqE_inv (show failD s z = _ from h)
    obtain ⟨d2, h2, h⟩ := seqE_inv h
    cases h
    exact ⟨Or.inl rfl, fun q => q⟩
  | mend z =>
    obtain ⟨d1, h1, h⟩ := seqE_inv (show mendD s z = _ from h)
    split at h
    · cases h
      exact ⟨Or.inl rfl, fun q => q⟩
    · cases h
  | days n =>
    have h : daysD s n = _ := h
    unfold daysD at h
    split at h
    · cases h
      exact ⟨Or.inl rfl, fun q => q⟩
    · cases h
  | draw x =>
    obtain ⟨d1, h1, h⟩ := seqE_inv (show drawD s x = _ from h)
    obtain ⟨d2, h2, h⟩ := seqE_inv h
    obtain ⟨d3, h3, h⟩ := seqE_inv h
    obtain ⟨d4, h4, h⟩ := seqE_inv h
    obtain ⟨d5, h5, h⟩ := seqE_inv h
    split at h
    · split at h
      · cases h
      · cases h
        refine ⟨Or.inl rfl, fun q b hb => ?_⟩
        rcases List.mem_append.mp hb with hb | hb
        · exact q b hb
        · have e : b = newBil x.1 x.2.1 x.2.2.1 x.2.2.2.1 x.2.2.2.2.1 x.2.2.2.2.2 := by simpa using hb
          rw [e]
          exact ⟨sm_house o h2, sm_house o h3, sm_running⟩
    · cases h
  | accept x =>
    obtain ⟨i, h1, h⟩ := seqE_inv (show acceptD s x = _ from h)
    obtain ⟨d2, h2, h⟩ := seqE_inv h
    obtain ⟨d3, h3, h⟩ := seqE_inv h
    split at h
    · cases h
    · cases h
      exact Mo.set (copyR_lt h1) rfl fun q => q
  | sign x =>
    obtain ⟨y, h1, h⟩ := seqE_inv (show signD "sign" false s x = _ from h)
    exact sign_more h1 h
  | blank x =>
    obtain ⟨y, h1, h⟩ := seqE_inv (show signD "blank" true s x = _ from h)
    exact sign_more h1 h
  | hand x =>
    obtain ⟨i, h1, h⟩ := seqE_inv (show handD s x = _ from h)
    obtain ⟨d2, h2, h⟩ := seqE_inv h
    obtain ⟨d3, h3, h⟩ := seqE_inv h
    split at h
    · cases h
    · split at h
      · cases h
      · cases h
        exact Mo.set (copyR_lt h1) rfl fun q => q
  | lose n =>
    obtain ⟨i, h1, h⟩ := seqE_inv (show loseD s n = _ from h)
    split at h
    · cases h
    · split at h
      · cases h
      · cases h
        exact Mo.set (findR_lt h1) rfl fun q => q
  | present x =>
    obtain ⟨i, h1, h⟩ := seqE_inv (show presentD s x = _ from h)
    obtain ⟨d2, h2, h⟩ := seqE_inv h
    split at h
    · cases h
    · obtain ⟨paid, h3, h⟩ := seqE_inv h
      obtain ⟨m, h4, h⟩ := seqE_inv h
      cases h
      have hm : nms m = nms s.m := by
        unfold payP at h4
        split at h4
        · exact pay_nms h4
        · cases h4; rfl
      exact Mo.set (copyR_lt h1) hm fun q => ⟨q.1, q.2.1, sm_phP _⟩
  | protest x =>
    obtain ⟨i, h1, h⟩ := seqE_inv (show protestD s x = _ from h)
    obtain ⟨d2, h2, h⟩ := seqE_inv h
    split at h
    · cases h
    · split at h
      · cases h
      · cases h
        exact Mo.set (copyR_lt h1) rfl fun q => ⟨q.1, q.2.1, sm_protested⟩
  | ask x =>
    obtain ⟨i, h1, h⟩ := seqE_inv (show askD s x = _ from h)
    obtain ⟨d2, h2, h⟩ := seqE_inv h
    split at h
    · obtain ⟨d3, h3, h⟩ := seqE_inv h
      obtain ⟨m, h4, h⟩ := seqE_inv h
      cases h
      refine Mo.set (copyR_lt h1) (pay_nms h4) fun q => ?_
      unfold askBil
      split
      · exact ⟨q.1, q.2.1, sm_paid⟩
      · exact q
    · cases h
  | honour x =>
    obtain ⟨i, h1, h⟩ := seqE_inv (show honourD s x = _ from h)
    obtain ⟨d2, h2, h⟩ := seqE_inv h
    obtain ⟨d3, h3, h⟩ := seqE_inv h
    split at h
    · cases h
    · split at h
      · split at h
        · cases h
        · split at h
          · cases h
          · obtain ⟨d4, h4, h⟩ := seqE_inv h
            obtain ⟨m, h5, h⟩ := seqE_inv h
            cases h
            exact Mo.set (copyR_lt h1) (pay_nms h5) fun q => q
      · cases h
  | fair zs =>
    obtain ⟨d1, h1, h⟩ := seqE_inv (show fairD s zs = _ from h)
    cases h
    obtain ⟨hall, hnd⟩ := checkN_ok h1
    have rng : ∀ n ∈ fairI s zs, 1 ≤ n ∧ n ≤ s.bs.length := fun n hn => by
      obtain ⟨i, hf, _⟩ := fairI_find hn
      unfold findR at hf
      split at hf
      · assumption
      · cases hf
    exact ⟨Or.inl (nms_moves _ _ _ fun z hz => mem_nms.mpr (hall z (mem_srt.mp hz))), fun q => phases_bx (paidL s zs) (fairI s zs) s q rng⟩
/-! a name that the law draws is one -/
theorem sign_low (p k : Int) : ∀ c ∈ (nmSign p k).cps.toList, c ∈ alpha.cps.toList := fun c hc => by
  have e : (nmSign p k).cps.toList = [alpha.cps.toList.getD ((p / 32 + 11 * k) % 26).toNat 0] := rfl
  rw [e, List.mem_singleton] at hc
  rw [hc]
  exact getD_of (P := fun c => c ∈ alpha.cps.toList) (fun x hx => hx) (by rw [alpha_len]; omega)
theorem mem_app {y z : Str} {Q : Nat → Prop} (h : ∀ c ∈ y.cps.toList, Q c) (k : ∀ c ∈ z.cps.toList, Q c) : ∀ c ∈ (y ++ z).cps.toList, Q c := fun c hc => by
  have e : (y ++ z).cps.toList = y.cps.toList ++ z.cps.toList := Array.toList_append
  rw [e] at hc
  rcases List.mem_append.mp hc with q | q
  · exact h c q
  · exact k c q
theorem mem_cut {z : Str} {lo hi : Option Int} {Q : Nat → Prop} (h : ∀ c ∈ z.cps.toList, Q c) : ∀ c ∈ (cutS z lo hi).cps.toList, Q c := fun c hc => by
  unfold cutS at hc
  exact h c (List.mem_of_mem_drop (List.mem_of_mem_take hc))
theorem name_of {z : Str} (h1 : 1 ≤ z.length) (h8 : z.length ≤ 8) (hc : ∀ c ∈ z.cps.toList, c ∈ alpha.cps.toList) : isName z = true := by
  unfold isName
  rw [decide_eq_true (by omega : (1 : Int) ≤ (z.length : Int)), decide_eq_true (by omega : (z.length : Int) ≤ 8)]
  refine (Bool.and_eq_true _ _).mpr ⟨rfl, List.all_eq_true.mpr fun b hb => ?_⟩
  obtain ⟨i, hi, rfl⟩ := List.mem_map.mp hb
  have hi2 : i < z.cps.size := List.mem_range.mp hi
  refine decide_eq_true (hc _ ?_)
  rw [Array.getElem?_eq_getElem hi2]
  show z.cps[i] ∈ _
  exact Array.getElem_mem_toList hi2
theorem words_name : ∀ z ∈ words, isName z = true := by decide +kernel
theorem nm_name (p k : Int) : isName (nm p k) = true := by
  have hm : ∀ c ∈ mistral.cps.toList, c ∈ alpha.cps.toList := by decide +kernel
  have h1 : (nmSign p k).length = 1 := rfl
  have a0 : 0 ≤ p / 4 % 8 ∧ p / 4 % 8 < 8 := by omega
  refine getD_of (xs := nmL p k) (P := fun z => isName z = true) (fun z hz => ?_) (by show (p % 4).toNat < 4; omega)
  unfold nmL at hz
  simp only [List.mem_cons, List.not_mem_nil, or_false] at hz
  rcases hz with rfl | rfl | rfl | rfl
  · exact name_of (by omega) (by omega) (sign_low p k)
  · obtain ⟨n, hn⟩ : ∃ n : Nat, p / 4 % 8 = (n : Int) := ⟨(p / 4 % 8).toNat, by omega⟩
    have hl : (cutS mistral none (some (p / 4 % 8)) ++ nmSign p k ++ cutS mistral (some (p / 4 % 8)) none).length = 8 := by
      have e : (cutS mistral none (some (p / 4 % 8)) ++ nmSign p k ++ cutS mistral (some (p / 4 % 8)) none).length = (cutS mistral none (some (p / 4 % 8))).length + (nmSign p k).length + (cutS mistral (some (p / 4 % 8)) none).length := by
        show ((cutS mistral none (some (p / 4 % 8))).cps ++ (nmSign p k).cps ++ (cutS mistral (some (p / 4 % 8)) none).cps).size = _
        rw [Array.size_append, Array.size_append]
        rfl
      have c2 := cut2_len mistral n (by rw [mistral_len]; omega)
      rw [mistral_len] at c2
      rw [e, h1, hn]
      omega
    exact name_of (by omega) (by omega) (mem_app (mem_app (mem_cut hm) (sign_low p k)) (mem_cut hm))
  · have hl : (repS (nmSign p k) (1 + (p / 4 % 8 + 3 * k) % 8)).length = 1 * (1 + (p / 4 % 8 + 3 * k) % 8).toNat := by rw [repS_len (by omega), h1]
    exact name_of (by omega) (by omega) (repS_mem (P := fun c => c ∈ alpha.cps.toList) (sign_low p k))
  · exact getD_of (P := fun z => isName z = true) words_name (by show ((p / 4 % 8 + k) % 9).toNat < 9; omega)

end
end

-- la12.txt
section

local macro_rules | `(tactic| walk_at "arith") => `(tactic| first | omega | decide | (unfold CMul; omega) | (unfold CDiv; omega) | (unfold CPow; decide) | (refine ⟨?_, ?_⟩ <;> omega) | (simp; done) | (simp; omega))
local macro_rules | `(tactic| walk_at "wide") => `(tactic| exact ⟨by decide, by decide +kernel⟩)
section
variable {P : Program} {w : World} {K : PySem.W.Frag} {mg : Str → Option Value} {base : Heap} {A : Ad}
/-! ### any deed that the law draws -/
local macro_rules | `(tactic| walk_at "at") => `(tactic| first | exact atI_feed ‹FeedOk _› (by omega) (by omega) | exact atI_sign (by omega) (by first | omega | (refine Int.lt_of_lt_of_le (Int.emod_lt_of_pos _ (by decide)) (by decide +kernel))))
local macro_rules | `(tactic| walk_at "pre") => `(tactic| first | trivial | omega)
theorem canLay_rowS {r : Rw} (h : ∀ p ∈ r, Sm p.1) : PyData.canLayAll0 (encR r) = true := by
  induction r with
  | nil => rfl
  | cons p r ih =>
    have h1 : PyData.strOk p.1 = true := (h p (by simp)).ok
    have h2 := ih fun q hq => h q (by simp [hq])
    show PyData.canLayAll0 (encP p :: encR r) = true
    rw [PyData.canLayAll0, h2]
    unfold encP
    simp [PyData.canLay0, PyData.canLayAll0, h1]
theorem shaped_bills {bs : List Bil} (h : ∀ b ∈ bs, BOk b) (hx : ∀ b ∈ bs, BX b) : SeqAt.shaped (.list (bs.map seenB)) = true := by
  have go : PyData.canLayAll0 (bs.map seenB) = true ∧ PyData.depthAll (bs.map seenB) ≤ 20 := by
    induction bs with
    | nil => exact ⟨rfl, by show PyData.depthAll [] ≤ 20; unfold PyData.depthAll; omega⟩
    | cons b bs ih =>
      obtain ⟨x, y⟩ := ih (fun c hc => h c (by simp [hc])) fun c hc => hx c (by simp [hc])
      have hb := h b (by simp)
      have hc := hx b (by simp)
      have d0 : PyData.strOk (b.places.getD 1 ("", false)).1 = true := (hb.2.2.2 _ (getD_mem2 (by have := hb.1.1; omega))).ok
      have d1 : PyData.strOk b.drawee = true := hc.1.ok
      have d2 : PyData.strOk b.payee = true := hc.2.1.ok
      have d3 : PyData.strOk b.phase = true := hc.2.2.ok
      have d4 : PyData.strOk b.keeper = true := hb.2.2.1.ok
      have d5 := canLay_rowS hb.2.2.2
      have d6 := depth_row (r := b.places)
      refine ⟨?_, ?_⟩
      · rw [List.map_cons, PyData.canLayAll0, x]
        unfold seenB
        simp only [PyData.canLay0, PyData.canLayAll0, d0, d1, d2, d3, d4, d5, Bool.and_self]
      · have hd : (seenB b).depth ≤ 10 := by
          unfold seenB
          simp only [PyData.depthAll, PyData.depth]
          omega
        rw [List.map_cons, PyData.depthAll]
        omega
  unfold SeqAt.shaped
  rw [Bool.and_eq_true]
  refine ⟨by rw [PyData.canLay0]; exact go.1, decide_eq_true ?_⟩
  simp only [PyData.depth]
  have := go.2
  omega
def lawWords : List Str := ["draw", "accept", "sign", "present", "ask", "days", "accept", "draw", "sign", "blank", "protest", "hand", "in", "out", "honour", "present", "fail", "mend", "lose", "ask", "protest", "days", "house"]
structure StOk (m : Mp) (bs : List Bil) : Prop where
  m1 : 1 ≤ m.length
  m9 : m.length ≤ 9
  ln : ∀ z ∈ nms m, z.length ≤ 100
  b4 : bs.length ≤ 40
  bo : ∀ b ∈ bs, BOk b
  bx : ∀ b ∈ bs, BX b
abbrev spLDeed : Sp := fun vs H Q _ => ∃ (G : Hp) (fs : List Int) (at_ : Int) (p c : Addr) (ve vb : V) (m : Mp) (day : Int) (bs : List Bil) (v0 : V), vs = [v0, .int at_, .ref p] ∧ Sb G H ∧ Dx G v0 (.list (fs.map .int)) ∧ FeedOk fs ∧ (0 ≤ at_ ∧ at_ ≤ 262) ∧
  StAt G H p c ve vb m day bs ∧ StOk m bs ∧ ∀ (D : Dd) (v : V) (G' H' : Hp), D.good → Gr [] G H G' H' → Dx G' v D.data → Q v H'
theorem three {α : Type} {l : List α} (h : l.length = 3) : ∃ a b c, l = [a, b, c] := by
  match l, h with
  | [a, b, c], _ => exact ⟨a, b, c, rfl⟩
theorem ok_Ldeed (T : Txt K mg A) : FnOk P w K mg base CX0 5 A.a_Ldeed A.d_Ldeed ["_law_feed_here", "_law_at", "_law_state"] spLDeed := by
  have G_Lname := ok_Lname (P := P) (w := w) (base := base) T
  have G_Lbill_deed := ok_Lbill_deed (P := P) (w := w) (base := base) T
  refine T.F_Ldeed.ok sc_Ldeed (fun vs H Q E h => by obtain ⟨_, _, _, _, _, _, _, _, _, _, _, rfl, _⟩ := h; rfl) (fun cdv A' outer st H vs Q E hr h => ?_)
  obtain ⟨G, fs, at_, p, c, ve, vb, m, day, bs, v0, rfl, s0, h_feed_here, hok, hat, hst, hso, k⟩ := h
  have h_at : ∀ G, Dx G (.int at_) (.int at_) := fun _ => .int _
  have hm9 := hso.m9
  refine ⟨_, (pss_cons (ps_set (i := 3) sc_Ldeed.nd rfl (Or.inl rfl) (pe_lst (pa_cons pe_str (pa_cons pe_str (pa_cons pe_str (pa_cons pe_str (pa_cons pe_str (pa_cons pe_str (pa_cons pe_str (pa_cons pe_str (pa_cons pe_str (pa_cons pe_str (pa_cons pe_str pa_nil)))))))))))))
      (pss_cons (ps_set (i := 3) sc_Ldeed.nd rfl (Or.inl rfl) (pe_op op_cat (pv 3) (pe_lst (pa_cons pe_str (pa_cons pe_str (pa_cons pe_str (pa_cons pe_str (pa_cons pe_str (pa_cons pe_str (pa_cons pe_str (pa_cons pe_str (pa_cons pe_str pa_nil))))))))))))
      (pss_cons (ps_set (i := 3) sc_Ldeed.nd rfl (Or.inl rfl) (pe_op op_cat (pv 3) (pe_lst (pa_cons pe_str (pa_cons pe_str (pa_cons pe_str pa_nil))))))
      (pss_cons (ps_set (i := 4) sc_Ldeed.nd rfl (Or.inl rfl) (pe_ix (ix_listK (K := K)) (pv 3) (pe_op op_mod (pe_ix (ix_listK (K := K)) (pv 0) (pv 1) (fun _ _ => rfl)) pe_int) (fun _ _ => rfl)))
      (pss_cons (ps_set (i := 5) sc_Ldeed.nd rfl (Or.inl rfl) (pe_ix (ix_listK (K := K)) (pe_lst (pa_cons pe_int (pa_cons pe_int (pa_cons pe_int (pa_cons pe_int (pa_cons pe_int (pa_cons (pe_op op_pow pe_int pe_int) pa_nil))))))) (pe_op op_mod (pe_ix (ix_listK (K := K)) (pv 0) pe_int (fun _ _ => rfl)) pe_int) (fun _ _ => rfl)))
      (pss_cons (ps_set (i := 6) sc_Ldeed.nd rfl (Or.inr rfl) (pe_callB (call_sortedD rfl) (by rfl) T.b.sorted (by decide +kernel) (pa_cons (pe_ix (ix_listK (K := K)) (pv 2) pe_int (fun _ _ => rfl)) pa_nil)))
      (pss_cons (ps_setLc (i := 7) (own := [("_law_k", 10)]) (g := gName 10) rfl sc_Ldeed.nd rfl rfl (sw_true rfl rfl rfl (by decide +kernel)) (pi_tup (pe_tup (pa_cons pe_int (pa_cons pe_int (pa_cons pe_int pa_nil))))) (blkOk_by (own := [("_law_k", 10)]) (N := N_Ldeed) (sc := defScope s_Ldeed) (by decide +kernel)) (fun _ _ _ _ _ => (pg_name (i := 10) sc_Ldeed.nd rfl (Or.inl rfl))) (fun _ _ _ _ _ => pts_nil) (fun _ _ _ _ _ => by exact (pe_ix (ix_listK (K := K)) (pv 6) (pe_op op_mod (pe_ix (ix_listK (K := K)) (pv 0) (pe_op op_add (pv 1) (pv 10)) (fun _ _ => rfl)) (pe_callB (call_lenK (K := K)) (by rfl) T.b.len (by decide +kernel) (pa_cons (pv 6) pa_nil))) (fun _ _ => rfl))))
      (pss_cons (ps_if (pt_cmpR op_eq (pe_op op_mod (pe_ix (ix_listK (K := K)) (pv 0) (pe_op op_add (pv 1) pe_int) (fun _ _ => rfl)) pe_int) pe_int (nomark _))
      (pss_one (ps_asg (pe_ix (ix_listK (K := K)) (pe_lst (pa_cons pe_str (pa_cons pe_str (pa_cons pe_str pa_nil)))) (pe_op op_mod (pe_ix (ix_listK (K := K)) (pv 0) (pe_op op_add (pv 1) pe_int) (fun _ _ => rfl)) pe_int) (fun _ _ => rfl)) (pg_sub (pv 7) (pe_op op_mod (pe_ix (ix_listK (K := K)) (pv 0) (pe_op op_add (pv 1) pe_int) (fun _ _ => rfl)) pe_int) set_list)))
      pss_nil)
      (pss_cons (ps_if (pt_cmpR (op_inK (K := K)) (pv 4) (pe_tup (pa_cons pe_str (pa_cons pe_str pa_nil))) rfl)
      (pss_one (ps_ret (pe_tup (pa_cons (pv 4) (pa_cons (pe_ix (ix_listK (K := K)) (pv 7) pe_int (fun _ _ => rfl)) pa_nil)))))
      pss_nil)
      (pss_cons (ps_if (pt_cmpR (op_inK (K := K)) (pv 4) (pe_tup (pa_cons pe_str (pa_cons pe_str pa_nil))) rfl)
      (pss_one (ps_ret (pe_tup (pa_cons (pv 4) (pa_cons (pe_ix (ix_listK (K := K)) (pv 7) pe_int (fun _ _ => rfl)) (pa_cons (pe_op op_sub (pe_op op_mul (pv 5) (pe_op op_mod (pe_ix (ix_listK (K := K)) (pv 0) (pe_op op_add (pv 1) pe_int) (fun _ _ => rfl)) pe_int)) (pe_callTy call_int1 (by rfl) T.b.int_ (by decide +kernel) (pa_cons (pe_cmpR op_eq (pe_op op_mod (pe_ix (ix_listK (K := K)) (pv 0) (pe_op op_add (pv 1) pe_int) (fun _ _ => rfl)) pe_int) pe_int (nomark _)) pa_nil))) pa_nil))))))
      pss_nil)
      (pss_cons (ps_if (pt_cmpR op_eq (pv 4) pe_str (nomark _))
      (pss_cons (ps_set (i := 8) sc_Ldeed.nd rfl (Or.inl rfl) (pe_ix (ix_listK (K := K)) (pe_lst (pa_cons (pe_call G_Lname (hr.mono (by omega)) (by rfl) T.m_Lname T.F_Lname.kp T.b_Lname .nil pass0 (pa_cons (pe_ix (ix_listK (K := K)) (pv 0) pe_int (fun _ _ => rfl)) (pa_cons (pe_op op_mod (pe_callB (call_lenK (K := K)) (by rfl) T.b.len (by decide +kernel) (pa_cons (pv 6) pa_nil)) pe_int) pa_nil))) (pa_cons (pe_ix (ix_listK (K := K)) (pv 7) pe_int (fun _ _ => rfl)) (pa_cons pe_str pa_nil)))) (pe_op op_mod (pe_ix (ix_listK (K := K)) (pv 0) (pe_op op_add (pv 1) pe_int) (fun _ _ => rfl)) pe_int) (fun _ _ => rfl)))
      (pss_cons (ps_if (pt_cmpR op_eq (pv 8) pe_str (nomark _))
      (pss_one (ps_set (i := 8) sc_Ldeed.nd rfl (Or.inl rfl) pe_str))
      pss_nil)
      (pss_one (ps_ret (pe_tup (pa_cons (pv 4) (pa_cons (pv 8) (pa_cons (pe_op op_sub (pe_op op_mul (pv 5) (pe_op op_mod (pe_ix (ix_listK (K := K)) (pv 0) (pe_op op_add (pv 1) pe_int) (fun _ _ => rfl)) pe_int)) (pe_op op_fdiv (pe_op op_mod (pe_ix (ix_listK (K := K)) (pv 0) (pe_op op_add (pv 1) pe_int) (fun _ _ => rfl)) pe_int) pe_int)) pa_nil))))))))
      pss_nil)
      (pss_cons (ps_if (pt_cmpR op_eq (pv 4) pe_str (nomark _))
      (pss_one (ps_ret (pe_tup (pa_cons (pv 4) (pa_cons (pe_ix (ix_listK (K := K)) (pe_lst (pa_cons pe_int (pa_cons pe_int (pa_cons pe_int (pa_cons pe_int (pa_cons pe_int (pa_cons pe_int (pa_cons pe_int (pa_cons pe_int (pa_cons pe_int (pa_cons (pe_un un_neg pe_int) (pa_cons pe_int (pa_cons pe_int pa_nil))))))))))))) (pe_op op_mod (pe_ix (ix_listK (K := K)) (pv 0) (pe_op op_add (pv 1) pe_int) (fun _ _ => rfl)) pe_int) (fun _ _ => rfl)) pa_nil)))))
      pss_nil)
      (pss_cons (ps_if (PW.pt (pw_or (pt_cmpR op_eq (pv 4) pe_str (nomark _)) (pw_or1 (pt_cmpR (op_eqDK (K := K) hr.units) (pe_ix (ix_listK (K := K)) (pv 2) pe_int (fun _ _ => rfl)) (pe_lst pa_nil) (nomark _)))))
      (pss_cons (ps_set (i := 9) sc_Ldeed.nd rfl (Or.inl rfl) (pe_op op_add (pe_ix (ix_listK (K := K)) (pv 2) pe_int (fun _ _ => rfl)) (pe_ix (ix_listK (K := K)) (pe_lst (pa_cons pe_int (pa_cons pe_int (pa_cons pe_int (pa_cons pe_int (pa_cons pe_int (pa_cons pe_int (pa_cons pe_int (pa_cons (pe_un un_neg pe_int) (pa_cons pe_int (pa_cons pe_int (pa_cons pe_int (pa_cons pe_int pa_nil))))))))))))) (pe_op op_mod (pe_ix (ix_listK (K := K)) (pv 0) (pe_op op_add (pv 1) pe_int) (fun _ _ => rfl)) pe_int) (fun _ _ => rfl))))
      (pss_one (ps_ret (pe_tup (pa_cons pe_str (pa_cons (pe_ix (ix_listK (K := K)) (pv 7) pe_int (fun _ _ => rfl)) (pa_cons (pe_ix (ix_listK (K := K)) (pv 7) pe_int (fun _ _ => rfl)) (pa_cons (pe_ix (ix_listK (K := K)) (pv 7) pe_int (fun _ _ => rfl)) (pa_cons (pe_op op_mul (pv 5) (pe_op op_mod (pe_ix (ix_listK (K := K)) (pv 0) (pe_op op_add (pv 1) pe_int) (fun _ _ => rfl)) pe_int)) (pa_cons (pv 9) (pa_cons (pe_cmpR op_gt (pe_op op_mod (pe_ix (ix_listK (K := K)) (pv 0) (pe_op op_add (pv 1) pe_int) (fun _ _ => rfl)) pe_int) pe_int (nomark _)) pa_nil)))))))))))
      pss_nil)
      (pss_one (ps_ret (pe_call G_Lbill_deed (hr.mono (by omega)) (by rfl) T.m_Lbill_deed T.F_Lbill_deed.kp T.b_Lbill_deed .nil pass0 (pa_cons (pv 0) (pa_cons (pv 1) (pa_cons (pv 2) (pa_cons (pv 4) (pa_cons (pe_ix (ix_listK (K := K)) (pv 7) pe_int (fun _ _ => rfl)) pa_nil))))))))))))))))))))), ?_⟩
  have b0 := nth_ok hok (i := at_) (by omega) (by omega)
  have b1 := nth_ok hok (i := at_ + 1) (by omega) (by omega)
  have b4 := nth_ok hok (i := at_ + 4) (by omega) (by omega)
  have b5 := nth_ok hok (i := at_ + 5) (by omega) (by omega)
  have b6 := nth_ok hok (i := at_ + 6) (by omega) (by omega)
  have q1 := nth_ok hok (i := 1) (by omega) (by omega)
  have q2 := nth_ok hok (i := 2) (by omega) (by omega)
  refine q_asg ((ev_lst (ea_cons ev_str (ea_cons ev_str (ea_cons ev_str (ea_cons ev_str (ea_cons ev_str (ea_cons ev_str (ea_cons ev_str (ea_cons ev_str (ea_cons ev_str (ea_cons ev_str (ea_cons ev_str ea_nil))))))))))) (by walk_at "arith"))).dat s0 fun v3 G1 H1 g1 h_words => ?_
  refine q_asg (EvM.dat (ev_opM (ev_var rfl h_words) ((ev_lst (ea_cons ev_str (ea_cons ev_str (ea_cons ev_str (ea_cons ev_str (ea_cons ev_str (ea_cons ev_str (ea_cons ev_str (ea_cons ev_str (ea_cons ev_str ea_nil))))))))) (by walk_at "arith"))).dat (rd_cat (by show 11 + 9 ≤ 100000; decide)))) g1.s fun v3 G2 H2 g2 h_words => ?_
  refine q_asg (EvM.dat (ev_opM (ev_var rfl h_words) ((ev_lst (ea_cons ev_str (ea_cons ev_str (ea_cons ev_str ea_nil))) (by walk_at "arith"))).dat (rd_cat (by show 20 + 3 ≤ 100000; decide)))) g2.s fun v3 G3 H3 g3 h_words => ?_
  have gA := (g1.trans g2).trans g3
  have h_feed_here := h_feed_here.mono gA.g
  have hst := hst.step gA
  have h_words : Dx G3 v3 (.list (lawWords.map .str)) := h_words
  refine q_asg (ev_op (ev_var rfl h_words) ((fun h_at => (ev_op (ev_op (ev_var rfl h_feed_here) (ev_var rfl h_at) (rd_ixL (by walk_at "at"))) ev_int (rd_mod (by walk_at "arith")))) (h_at _)) (rd_ixL (atI_strs (zs := lawWords) (by omega) (by show _ < (23 : Int); omega)))) g3.s fun v4 G4 H4 g4 hv => ?_
  obtain rfl := hv.str_eq
  have hw : lawWords.getD (nth fs at_ % 23).toNat default ∈ lawWords := getD_of (P := fun z => z ∈ lawWords) (fun _ h => h) (by show _ < 23; omega)
  generalize lawWords.getD (nth fs at_ % 23).toNat default = word at hw
  have h_feed_here := h_feed_here.mono g4.g
  have hst := hst.step g4
  have gA := gA.trans g4
  obtain ⟨hc0, hc1⟩ := scale_b fs
  refine q_asg (ev_scale (ev_op (ev_op (ev_var rfl h_feed_here) ev_int (rd_ixL (by walk_at "at"))) ev_int (rd_mod (by walk_at "arith")))) g4.s fun v5 G5 H5 g5 hv => ?_
  obtain rfl := hv.int_eq
  generalize scaleOf fs = sc at hc0 hc1
  have h_feed_here := h_feed_here.mono g5.g
  have hst := hst.step g5
  have gA := gA.trans g5
  have h_scale : ∀ G, Dx G (.int sc) (.int sc) := fun _ => .int _
  refine q_asg (EvM.dat (ev_sort0 hst rfl (by omega))) g5.s fun v6 G6 H6 g6 h_names => ?_
  have h_feed_here := h_feed_here.mono g6.g
  have hst := hst.step g6
  have gA := gA.trans g6
  have hN : ∀ z ∈ srt (nms m), z.length ≤ 100 := fun z hz => hso.ln z (mem_srt.mp hz)
  have hNl : (srt (nms m)).length = m.length := by rw [len_srt]; unfold nms; rw [List.length_map]
  have hm1 := hso.m1
  generalize srt (nms m) = N at h_names hN hNl
  have lN : ((N.map PyData.str).length : Int) = (N.length : Int) := by rw [List.length_map]
  have hN0 : (0 : Int) < (N.length : Int) := by omega
  have h_word : ∀ G, Dx G (.str word) (.str word) := fun _ => .str _
  refine q_asgM (ev_lcTn (ds := [.int 1, .int 2, .int 3]) (fun _ => true) (fun i => .str (N.getD (nth fs (at_ + ((i : Int) + 1)) % (N.length : Int)).toNat default)) (ev_tup (ea_cons ev_int (ea_cons ev_int (ea_cons ev_int ea_nil))) (by show 3 ≤ 100000; decide)) (by show 3 ≤ 40000; decide) (fun _ => rfl) (fun _ _ _ _ _ _ _ _ => et_yes) (fun i z x G7 H7 g7 hz hx _ => by
    have hz3 : i < 3 ∧ z = .int ((i : Int) + 1) := by
      match i, hz with
      | 0, h => exact ⟨by omega, by cases h; rfl⟩
      | 1, h => exact ⟨by omega, by cases h; rfl⟩
      | 2, h => exact ⟨by omega, by cases h; rfl⟩
    obtain ⟨hi3, rfl⟩ := hz3
    have h_k := hx
    have h_feed_here := h_feed_here.mono g7.g
    have h_names := h_names.mono g7.g
    have hm0 := Int.emod_nonneg (nth fs (at_ + ((i : Int) + 1))) (b := (N.length : Int)) (by omega)
    have hm1 := Int.emod_lt_of_pos (nth fs (at_ + ((i : Int) + 1))) hN0
    exact ev_op (ev_var rfl h_names) (ev_op ((fun h_at => (ev_op (ev_var rfl h_feed_here) (ev_op (ev_var rfl h_at) (ev_var rfl h_k) rd_add) (rd_ixL (by walk_at "at")))) (h_at _)) (ev_is (ev_cb (ea_cons (ev_var rfl h_names) ea_nil) cd_lenL) (congrArg PyData.int lN)) (rd_mod hN0)) (rd_ixL (atI_strs hm0 hm1)))) g6.s fun q xs G7 H7 g7 q0 qn ql hx => ?_
  obtain ⟨Z, hZ3, hZl, hxZ⟩ : ∃ Z : List Str, Z.length = 3 ∧ (∀ z ∈ Z, z.length ≤ 100) ∧ Dxs G7 xs (Z.map .str) := by
    refine ⟨(List.range 3).map fun i : Nat => N.getD (nth fs (at_ + ((i : Int) + 1)) % (N.length : Int)).toNat default, rfl, fun z hz => ?_, ?_⟩
    · obtain ⟨i, _, rfl⟩ := List.mem_map.mp hz
      refine getD_of (P := fun z : Str => z.length ≤ 100) hN ?_
      have hm1 := Int.emod_lt_of_pos (nth fs (at_ + ((i : Int) + 1))) hN0
      have hm0 := Int.emod_nonneg (nth fs (at_ + ((i : Int) + 1))) (b := (N.length : Int)) (by omega)
      omega
    · rw [List.map_map]
      rw [given_map] at hx
      exact hx
  have hxZ := hxZ.strs_eq
  subst hxZ
  refine q_whenJ (fun σ' H' => ∃ (G' : Hp) (Z : List Str), σ' = [some v0, some (.int at_), some (.ref p), some v3, some (.str word), some (.int sc), some v6, some (.ref q), none, none, none] ∧ Gr [] G6 H6 G' H' ∧ Dx G' (.ref q) (.list (Z.map .str)) ∧ Z.length = 3 ∧ ∀ z ∈ Z, z.length ≤ 100)
    ((fun h_feed_here h_at => (et_test (ev_op (ev_op (ev_op (ev_var rfl h_feed_here) (ev_op (ev_var rfl h_at) ev_int rd_add) (rd_ixL (by walk_at "at"))) ev_int (rd_mod (by walk_at "arith"))) ev_int rd_eqI))) (h_feed_here.mono g7.g) (h_at _)) g7.s (fun σ' H' J => ?_) (fun h3 hb G8 H8 g8 => ?_) (fun hb G8 H8 g8 => ?_)
  rotate_left
  · -- one of the three exchanged
    have h_feed_here := h_feed_here.mono (g7.trans g8).g
    have hq8 := sb_of g8 _ _ ql
    have hn8 := g8.n _ _ ql qn
    obtain ⟨y, hy, hyl⟩ : ∃ y : Str, (["nobody", "Bad", ""] : List Str).getD (nth fs (at_ + 6) % 3).toNat default = y ∧ y.length ≤ 100 := ⟨_, rfl, getD_of (P := fun z : Str => z.length ≤ 100) (by decide +kernel) (by show _ < 3; omega)⟩
    refine (ev_op ((ev_lst (ea_cons ev_str (ea_cons ev_str (ea_cons ev_str ea_nil))) (by walk_at "arith"))).dat ((fun h_at => (ev_op (ev_op (ev_var rfl h_feed_here) (ev_op (ev_var rfl h_at) ev_int rd_add) (rd_ixL (by walk_at "at"))) ev_int (rd_mod (by walk_at "arith")))) (h_at _)) (rd_ixL (d := .str y) (by rw [← hy]; exact atI_strs (zs := ["nobody", "Bad", ""]) (by omega) (by show _ < (3 : Int); omega)))) G8 H8 (.refl g8.s) _ fun v G9 H9 g9 hv => ?_
    have h_feed_here := h_feed_here.mono g9.g
    obtain rfl := hv.str_eq
    have hq9 := sb_of g9 _ _ hq8
    have hn9 := g9.n _ _ hq8 hn8
    refine ⟨_, rfl, ((fun h_at => (ev_op (ev_op (ev_var rfl h_feed_here) (ev_op (ev_var rfl h_at) ev_int rd_add) (rd_ixL (by walk_at "at"))) ev_int (rd_mod (by walk_at "arith")))) (h_at _)) G9 H9 (.refl g9.s) _ fun u G10 H10 g10 hu => ?_⟩
    obtain rfl := hu.int_eq
    have hq10 := sb_of g10 _ _ hq9
    have hn10 := g10.n _ _ hq9 hn9
    have m0 : 0 ≤ nth fs (at_ + 5) % 3 ∧ nth fs (at_ + 5) % 3 < 3 := by omega
    refine ⟨q, _, _, (nth fs (at_ + 5) % 3).toNat, rfl, rfl, hq10, ?_, h3 _ _ ⟨upd G10 q (.lst ((Z.set (nth fs (at_ + 5) % 3).toNat y).map V.str)), Z.set (nth fs (at_ + 5) % 3).toNat y, rfl, ?_, .lst upd_same ?_, by rw [List.length_set]; exact hZ3, fun z hz => ?_⟩⟩
    · unfold ixN
      rw [if_pos m0.1, if_pos (by rw [List.length_map, hZ3]; exact m0.2)]
    · have gg := ((g7.trans g8).trans g9).trans g10
      rw [List.map_set]
      exact (gg.write (o := .lst ((Z.map V.str).set (nth fs (at_ + 5) % 3).toNat (.str y))) (Or.inr q0) hn10).freeze upd_same hn10 q0
    · exact dxs_strs _
    · rcases List.mem_or_eq_of_mem_set hz with h | h
      · exact hZl z h
      · rw [h]; exact hyl
  · exact ⟨upd G8 q (.lst (Z.map V.str)), Z, rfl, (g7.trans g8).freeze (sb_of g8 _ _ ql) (g8.n _ _ ql qn) q0, .lst upd_same (dxs_strs _), hZ3, hZl⟩
  obtain ⟨G8, Z, rfl, g8, h_some, hZ3, hZl⟩ := J
  obtain ⟨z0, z1, z2, rfl⟩ := three hZ3
  have l0 := hZl z0 (by simp)
  have l1 := hZl z1 (by simp)
  have h_feed_here := h_feed_here.mono g8.g
  have h_names := h_names.mono g8.g
  have hst := hst.step g8
  have gA := gA.trans g8
  have e_some : ∀ {G1 H1} {σ : L2.St} {u : V} {j : Nat} {z : Str}, Dx G1 u (.list ([z0, z1, z2].map .str)) → σ[7]? = some (some u) → [z0, z1, z2][j]? = some z → EvD (tOp (rIxL K) (tVar 7) (tC (.int (j : Nat)))) σ G1 H1 (.str z) := fun x h e =>
    ev_op (ev_var h x) ev_int (rd_ixL (atI_nat (by rw [List.getElem?_map, e]; rfl)))
  refine q_when (b := decide (word ∈ (["fail", "mend"] : List Str))) (et_test (ev_inT2 (ev_var rfl (h_word _)))) g8.s (fun hb G9 H9 g9 => ?_) (fun hb1 G9 H9 g9 => ?_)
  · refine s_ret (ev_tup (ea_cons (ev_var rfl (h_word _)) (ea_cons (e_some (j := 1) (h_some.mono g9.g) rfl rfl) ea_nil)) (by show 2 ≤ 100000; decide)) g9.s fun v G10 H10 g10 hv => ?_
    have hb := of_decide_eq_true hb
    simp only [List.mem_cons, List.not_mem_nil, or_false] at hb
    rcases hb with rfl | rfl
    · exact k (.fail z1) v G10 H10 trivial ((gA.trans g9).trans g10) hv
    · exact k (.mend z1) v G10 H10 trivial ((gA.trans g9).trans g10) hv
  have hb1 := of_decide_eq_false hb1
  simp only [List.mem_cons, List.not_mem_nil, or_false, not_or] at hb1
  have gA := gA.trans g9
  have h_some := h_some.mono g9.g
  have h_feed_here := h_feed_here.mono g9.g
  have h_names := h_names.mono g9.g
  have hst := hst.step g9
  refine q_when (b := decide (word ∈ (["in", "out"] : List Str))) (et_test (ev_inT2 (ev_var rfl (h_word _)))) g9.s (fun hb G10 H10 g10 => ?_) (fun hb2 G10 H10 g10 => ?_)
  · have h_feed_here := h_feed_here.mono g10.g
    refine s_ret (ev_tup (ea_cons (ev_var rfl (h_word _)) (ea_cons (e_some (j := 1) (h_some.mono g10.g) rfl rfl) (ea_cons ((fun h_at h_scale => (ev_op (ev_op (ev_var rfl h_scale) (ev_op (ev_op (ev_var rfl h_feed_here) (ev_op (ev_var rfl h_at) ev_int rd_add) (rd_ixL (by walk_at "at"))) ev_int (rd_mod (by walk_at "arith"))) (rd_mul (by walk_at "arith"))) (ev_cb (ea_cons (ev_op (ev_op (ev_op (ev_var rfl h_feed_here) (ev_op (ev_var rfl h_at) ev_int rd_add) (rd_ixL (by walk_at "at"))) ev_int (rd_mod (by walk_at "arith"))) ev_int rd_eqI) ea_nil) cd_intB) rd_sub)) (h_at _) (h_scale _)) ea_nil))) (by show 3 ≤ 100000; decide)) g10.s fun v G11 H11 g11 hv => ?_
    have hb := of_decide_eq_true hb
    simp only [List.mem_cons, List.not_mem_nil, or_false] at hb
    rcases hb with rfl | rfl
    · exact k (.putin z1 _) v G11 H11 trivial ((gA.trans g10).trans g11) hv
    · exact k (.out z1 _) v G11 H11 trivial ((gA.trans g10).trans g11) hv
  have hb2 := of_decide_eq_false hb2
  simp only [List.mem_cons, List.not_mem_nil, or_false, not_or] at hb2
  have gA := gA.trans g10
  have h_some := h_some.mono g10.g
  have h_feed_here := h_feed_here.mono g10.g
  have h_names := h_names.mono g10.g
  have hst := hst.step g10
  refine q_when (b := decide (word = "house")) (et_test (ev_op (ev_var rfl (h_word _)) ev_str rd_eqS)) g10.s (fun hb G11 H11 g11 => ?_) (fun hb3 G11 H11 g11 => ?_)
  · obtain rfl := of_decide_eq_true hb
    have h_some := h_some.mono g11.g
    have h_feed_here := h_feed_here.mono g11.g
    have h_names := h_names.mono g11.g
    have gA := gA.trans g11
    refine q_asg (ev_op (EvM.dat (ds := ([nm (nth fs 2) ((N.length : Int) % 9), z1, "abcdefghi"] : List Str).map .str) (ev_lst (ea_cons (ev_call (f := fun x => .str (nm x.1 x.2)) (nth fs 2, (N.length : Int) % 9) (ea_cons (ev_op (ev_var rfl h_feed_here) ev_int (rd_ixL (by walk_at "at"))) (ea_cons (ev_op (ev_is (ev_cb (ea_cons (ev_var rfl h_names) ea_nil) cd_lenL) (congrArg PyData.int lN)) ev_int (rd_mod (by decide))) ea_nil)) ⟨q2, by show 0 ≤ (N.length : Int) % 9 ∧ (N.length : Int) % 9 < 100; omega⟩) (ea_cons (e_some (j := 1) h_some rfl rfl) (ea_cons ev_str ea_nil))) (by show 3 ≤ 100000; decide)))
      ((fun h_at => (ev_op (ev_op (ev_var rfl h_feed_here) (ev_op (ev_var rfl h_at) ev_int rd_add) (rd_ixL (by walk_at "at"))) ev_int (rd_mod (by walk_at "arith")))) (h_at _)) (rd_ixL (atI_strs (by omega) (by show _ < (3 : Int); omega)))) g11.s fun v8 G12 H12 g12 hv => ?_
    obtain rfl := hv.str_eq
    have hz : (([nm (nth fs 2) ((N.length : Int) % 9), z1, "abcdefghi"] : List Str).getD (nth fs (at_ + 1) % 3).toNat default).length ≤ 100 := getD_of (P := fun z : Str => z.length ≤ 100) (fun z hz => by
      simp only [List.mem_cons, List.not_mem_nil, or_false] at hz
      rcases hz with rfl | rfl | rfl
      · have := (nm_ok (nth fs 2) ((N.length : Int) % 9)).len; omega
      · exact l1
      · decide +kernel) (by show _ < 3; omega)
    generalize ([nm (nth fs 2) ((N.length : Int) % 9), z1, "abcdefghi"] : List Str).getD (nth fs (at_ + 1) % 3).toNat default = z at hz
    have h_feed_here := h_feed_here.mono g12.g
    have gA := gA.trans g12
    refine q_whenJ (fun σ' H' => ∃ (G' : Hp) (z : Str), σ' = [some v0, some (.int at_), some (.ref p), some v3, some (.str "house"), some (.int sc), some v6, some (.ref q), some (.str z), none, none] ∧ Gr [] G12 H12 G' H' ∧ z.length ≤ 100)
      (et_test (ev_op (ev_var rfl (.str z)) ev_str rd_eqS)) g12.s (fun σ' H' J => ?_) (fun h3 hb G13 H13 g13 => s_asg ev_str g13.s fun v G14 H14 g14 hv => ?_) (fun hb G13 H13 g13 => ⟨G13, z, rfl, g13, hz⟩)
    · obtain ⟨G13, z, rfl, g13, hz⟩ := J
      have h_feed_here := h_feed_here.mono g13.g
      exact s_ret (ev_tup (ea_cons (ev_var rfl (.str _)) (ea_cons (ev_var rfl (.str z)) (ea_cons ((fun h_at h_scale => (ev_op (ev_op (ev_var rfl h_scale) (ev_op (ev_op (ev_var rfl h_feed_here) (ev_op (ev_var rfl h_at) ev_int rd_add) (rd_ixL (by walk_at "at"))) ev_int (rd_mod (by walk_at "arith"))) (rd_mul (by walk_at "arith"))) (ev_op (ev_op (ev_op (ev_var rfl h_feed_here) (ev_op (ev_var rfl h_at) ev_int rd_add) (rd_ixL (by walk_at "at"))) ev_int (rd_mod (by walk_at "arith"))) ev_int (rd_fdiv (by walk_at "arith"))) rd_sub)) (h_at _) (h_scale _)) ea_nil))) (by show 3 ≤ 100000; decide)) g13.s fun v G14 H14 g14 hv => k (.house z _) v G14 H14 hz ((gA.trans g13).trans g14) hv
    · obtain rfl := hv.str_eq
      exact h3 _ _ ⟨G14, "No", rfl, g13.trans g14, by decide +kernel⟩
  have hb3 := of_decide_eq_false hb3
  have gA := gA.trans g11
  have h_some := h_some.mono g11.g
  have h_feed_here := h_feed_here.mono g11.g
  have hst := hst.step g11
  refine q_when (b := decide (word = "days")) (et_test (ev_op (ev_var rfl (h_word _)) ev_str rd_eqS)) g11.s (fun hb G12 H12 g12 => ?_) (fun hb4 G12 H12 g12 => ?_)
  · obtain rfl := of_decide_eq_true hb
    have h_feed_here := h_feed_here.mono g12.g
    exact s_ret (ev_tup (ea_cons (ev_var rfl (h_word _)) (ea_cons (ev_op (EvM.dat (ds := ([1, 2, 1, 3, 1, 4, 0, 1000, 1001, -1, 2, 1] : List Int).map .int) (ev_lst (ea_cons ev_int (ea_cons ev_int (ea_cons ev_int (ea_cons ev_int (ea_cons ev_int (ea_cons ev_int (ea_cons ev_int (ea_cons ev_int (ea_cons ev_int (ea_cons (ev_neg ev_int) (ea_cons ev_int (ea_cons ev_int ea_nil)))))))))))) (by walk_at "arith"))) ((fun h_at => (ev_op (ev_op (ev_var rfl h_feed_here) (ev_op (ev_var rfl h_at) ev_int rd_add) (rd_ixL (by walk_at "at"))) ev_int (rd_mod (by walk_at "arith")))) (h_at _)) (rd_ixL (atI_int (by omega) (by show _ < (12 : Int); omega)))) ea_nil)) (by show 2 ≤ 100000; decide)) g12.s fun v G13 H13 g13 hv => k (.days _) v G13 H13 trivial ((gA.trans g12).trans g13) hv
  have hb4 := of_decide_eq_false hb4
  have gA := gA.trans g12
  have h_some := h_some.mono g12.g
  have h_feed_here := h_feed_here.mono g12.g
  have hst := hst.step g12
  refine q_when (b := decide (word = "draw") || (bs.map seenB).isEmpty) (evt_is (et_or (et_test (ev_op (ev_var rfl (h_word _)) ev_str rd_eqS)) (fun _ => et_test (ev_op (ev_st3 hst rfl) (EvM.dat (ev_lst ea_nil (by show 0 ≤ 100000; decide))) (rd_eqD (shaped_bills hso.bo hso.bx) shaped_nil)))) (by rw [eqv_nil])) g12.s (fun hb G13 H13 g13 => ?_) (fun hb5 G13 H13 g13 => ?_)
  · have h_some := h_some.mono g13.g
    have h_feed_here := h_feed_here.mono g13.g
    have hst := hst.step g13
    refine q_asg (ev_op (ev_st2 hst rfl) (ev_op (EvM.dat (ds := ([0, 0, 1, 0, 2, 0, 3, -1, 1000, 1001, 0, 1] : List Int).map .int) (ev_lst (ea_cons ev_int (ea_cons ev_int (ea_cons ev_int (ea_cons ev_int (ea_cons ev_int (ea_cons ev_int (ea_cons ev_int (ea_cons (ev_neg ev_int) (ea_cons ev_int (ea_cons ev_int (ea_cons ev_int (ea_cons ev_int ea_nil)))))))))))) (by walk_at "arith"))) ((fun h_at => (ev_op (ev_op (ev_var rfl h_feed_here) (ev_op (ev_var rfl h_at) ev_int rd_add) (rd_ixL (by walk_at "at"))) ev_int (rd_mod (by walk_at "arith")))) (h_at _)) (rd_ixL (atI_int (by omega) (by show _ < (12 : Int); omega)))) rd_add) g13.s fun v9 G14 H14 g14 hv => ?_
    obtain rfl := hv.int_eq
    generalize day + _ = due
    have h_some := h_some.mono g14.g
    have h_feed_here := h_feed_here.mono g14.g
    exact s_ret (ev_tup (ea_cons ev_str (ea_cons (e_some (j := 0) h_some rfl rfl) (ea_cons (e_some (j := 1) h_some rfl rfl) (ea_cons (e_some (j := 2) h_some rfl rfl) (ea_cons ((fun h_at h_scale => (ev_op (ev_var rfl h_scale) (ev_op (ev_op (ev_var rfl h_feed_here) (ev_op (ev_var rfl h_at) ev_int rd_add) (rd_ixL (by walk_at "at"))) ev_int (rd_mod (by walk_at "arith"))) (rd_mul (by walk_at "arith")))) (h_at _) (h_scale _)) (ea_cons (ev_var rfl (.int due)) (ea_cons ((fun h_at => (ev_op (ev_op (ev_op (ev_var rfl h_feed_here) (ev_op (ev_var rfl h_at) ev_int rd_add) (rd_ixL (by walk_at "at"))) ev_int (rd_mod (by walk_at "arith"))) ev_int rd_gt)) (h_at _)) ea_nil))))))) (by show 7 ≤ 100000; decide)) g14.s fun v G15 H15 g15 hv => k (.draw (z0, z1, z2, _, due, _)) v G15 H15 trivial (((gA.trans g13).trans g14).trans g15) hv
  rw [Bool.or_eq_false_iff] at hb5
  have hb6 := of_decide_eq_false hb5.1
  have hbs : bs ≠ [] := fun e => by have := hb5.2; rw [e] at this; cases this
  have h_some := h_some.mono g13.g
  have h_feed_here := h_feed_here.mono g13.g
  have hst := hst.step g13
  have gA := gA.trans g13
  have hbw : word ∈ BillWords := by
    unfold lawWords at hw
    simp only [List.mem_cons, List.not_mem_nil, or_false] at hw
    simp only [List.mem_cons, List.not_mem_nil, or_false]
    grind
  refine retI ⟨_, rfl, _, rfl, _, rfl, _, rfl, (e_some (j := 0) h_some rfl rfl) G13 H13 (.refl g13.s) _ fun v G14 H14 g14 hv => ?_⟩
  obtain rfl := hv.str_eq
  exact ⟨G14, fs, at_, p, c, ve, vb, m, day, bs, word, z0, v0, rfl, g14.s, h_feed_here.mono g14.g, hok, hat, hst.step g14, hbs, hso.b4, hso.bo, hbw, fun D v G15 H15 hD g15 hv => k D v G15 H15 hD ((gA.trans g14).trans g15) hv⟩

end
end

-- la13.txt
section

local macro_rules | `(tactic| walk_at "arith") => `(tactic| first | omega | decide | (unfold CMul; omega) | (unfold CDiv; omega) | (unfold CPow; decide) | (refine ⟨?_, ?_⟩ <;> omega) | (simp; done) | (simp; omega))
local macro_rules | `(tactic| walk_at "wide") => `(tactic| exact ⟨by decide, by decide +kernel⟩)
section
variable {P : Program} {w : World} {K : PySem.W.Frag} {mg : Str → Option Value} {base : Heap} {A : Ad}
/-! ### what the law looks at; any deed -/
local macro_rules | `(tactic| walk_at "at") => `(tactic| first | exact atI_feed ‹FeedOk _› (by omega) (by omega) | exact atI_sign (by omega) (by first | omega | (refine Int.lt_of_lt_of_le (Int.emod_lt_of_pos _ (by decide)) (by decide +kernel))))
local macro_rules | `(tactic| walk_at "pre") => `(tactic| first | trivial | omega)
theorem ok_Lany_deed (T : Txt K mg A) : FnOk P w K mg base CX0 6 A.a_Lany_deed A.d_Lany_deed ["_law_feed_here", "_law_at", "_law_state"] spLDeed := by
  have G_Ldeed := ok_Ldeed (P := P) (w := w) (base := base) T
  have G_Lfair_names := ok_Lfair_names (P := P) (w := w) (base := base) T
  refine T.F_Lany_deed.ok sc_Lany_deed (fun vs H Q E h => by obtain ⟨_, _, _, _, _, _, _, _, _, _, _, rfl, _⟩ := h; rfl) (fun cdv A' outer st H vs Q E hr h => ?_)
  obtain ⟨G, fs, at_, p, c, ve, vb, m, day, bs, v0, rfl, s0, h_feed_here, hok, hat, hst, hso, k⟩ := h
  have h_at : ∀ G, Dx G (.int at_) (.int at_) := fun _ => .int _
  have hm9 := hso.m9
  refine ⟨_, (pss_cons (ps_if (pt_cmpR op_eq (pe_op op_mod (pe_ix (ix_listK (K := K)) (pv 0) (pe_op op_add (pv 1) pe_int) (fun _ _ => rfl)) pe_int) pe_int (nomark _))
      (pss_one (ps_ret (pe_call G_Lfair_names (hr.mono (by omega)) (by rfl) T.m_Lfair_names T.F_Lfair_names.kp T.b_Lfair_names .nil pass0 (pa_cons (pv 0) (pa_cons (pv 1) (pa_cons (pe_callB (call_sortedD rfl) (by rfl) T.b.sorted (by decide +kernel) (pa_cons (pe_ix (ix_listK (K := K)) (pv 2) pe_int (fun _ _ => rfl)) pa_nil)) pa_nil))))))
      pss_nil)
      (pss_one (ps_ret (pe_call G_Ldeed (hr.mono (by omega)) (by rfl) T.m_Ldeed T.F_Ldeed.kp T.b_Ldeed .nil pass0 (pa_cons (pv 0) (pa_cons (pv 1) (pa_cons (pv 2) pa_nil))))))), ?_⟩
  refine q_when ((fun h_at => (et_test (ev_op (ev_op (ev_op (ev_var rfl h_feed_here) (ev_op (ev_var rfl h_at) ev_int rd_add) (rd_ixL (by walk_at "at"))) ev_int (rd_mod (by walk_at "arith"))) ev_int rd_eqI))) (h_at _)) s0 (fun hb G1 H1 g1 => ?_) (fun hb G1 H1 g1 => ?_)
  · have h_feed_here := h_feed_here.mono g1.g
    have hst := hst.step g1
    refine (ev_callR (R := fun _ => FairTold) (fs, at_, srt (nms m)) (ea_cons (ev_var rfl h_feed_here) (ea_cons (ev_var rfl (h_at _)) (ea_cons (EvM.dat (ev_sort0 hst rfl (by omega))) ea_nil))) ⟨hok, hat, by rw [len_srt]; unfold nms; rw [List.length_map]; exact hm9⟩) G1 H1 (.refl g1.s) _ fun v d G2 H2 g2 hd hv => ?_
    obtain ⟨zs, hz, rfl⟩ := hd
    exact k (.fair zs) v G2 H2 hz (g1.trans g2) hv
  · refine retI ⟨_, rfl, _, rfl, _, rfl, ?_⟩
    exact ⟨G1, fs, at_, p, c, ve, vb, m, day, bs, v0, rfl, g1.s, h_feed_here.mono g1.g, hok, hat, hst.step g1, hso, fun D v G2 H2 hD g2 hv => k D v G2 H2 hD (g1.trans g2) hv⟩
theorem put_sub {m : Mp} {z : Str} {c : Int} : ∀ y ∈ nms (put m z c), y ∈ nms m ∨ y = z := fun y hy => by
  unfold put at hy
  split at hy
  · left
    unfold nms repl at hy
    rw [List.map_map] at hy
    obtain ⟨q, hq, e⟩ := List.mem_map.mp hy
    unfold nms
    refine List.mem_map.mpr ⟨q, hq, ?_⟩
    rw [← e]
    simp only [Function.comp]
    split <;> first | rfl | assumption | (symm; assumption)
  · unfold nms at hy
    rw [List.map_append] at hy
    rcases List.mem_append.mp hy with h | h
    · exact Or.inl h
    · exact Or.inr (by simpa using h)
theorem put_pos {m : Mp} {z : Str} {c : Int} : 1 ≤ (put m z c).length := by
  unfold put
  split
  · rename_i h
    unfold repl
    rw [List.length_map]
    cases m with
    | nil => cases h
    | cons _ _ => show 1 ≤ _ + 1; omega
  · rw [List.length_append]; show 1 ≤ m.length + 1; omega
theorem s_forR2 {K : PySem.W.Frag} {σ : L2.St} {G H : Hp} {D : Ends} {tu : TS} {t : TA} {j : Nat} {lo m : Int} (M : List Addr) (I : Nat → L2.St → Hp → Hp → Prop) (h : EvA t σ G H [.int lo, .int m]) (hm : 0 ≤ lo ∧ lo ≤ m ∧ m ≤ 100000) (s : Sb G H) (h0 : ∀ G1 H1, Gr [] G H G1 H1 → I 0 σ G1 H1)
    (hs : ∀ G1 H1, Gr [] G H G1 H1 → ∀ (n : Nat) σ' G' H', lo + (n : Int) < m → Gr M G1 H1 G' H' → I n σ' G' H' → tu { D with nx := Nx M G1 H1 I (n + 1), ct := Nx M G1 H1 I (n + 1), bk := D.nx } (σ'.set j (some (.int (lo + (n : Int))))) H')
    (hd : ∀ σ' G' H', Gr M G H G' H' → I (m - lo).toNat σ' G' H' → D.nx σ' H') : tFor (iRng2 t) (gName j) tu D σ H :=
  h G H (.refl s) _ fun vs G1 H1 g1 x => by
    obtain ⟨u1, u2, rfl, hu1, hu2⟩ := dxs2 x
    refine ⟨lo, m, by rw [hu1.int_eq, hu2.int_eq], ⟨by omega, by omega, by omega, by omega⟩, for_range (lo := lo) (n := (m - lo).toNat) (Nx M G1 H1 I) ⟨G1, .refl g1.s, h0 G1 H1 g1⟩ (fun n σ' H' hn p => ?_) (fun σ' H' p => ?_)⟩
    · obtain ⟨G', g', w⟩ := p
      exact hs G1 H1 g1 n σ' G' H' (by omega) g' w
    · obtain ⟨G', g', w⟩ := p
      exact hd σ' G' H' (g1.any.trans g') w
theorem q_forR2 {K : PySem.W.Frag} {σ : L2.St} {G H : Hp} {D : Ends} {tu tz : TS} {t : TA} {j : Nat} {lo m : Int} (M : List Addr) (I : Nat → L2.St → Hp → Hp → Prop) (h : EvA t σ G H [.int lo, .int m]) (hm : 0 ≤ lo ∧ lo ≤ m ∧ m ≤ 100000) (s : Sb G H) (h0 : ∀ G1 H1, Gr [] G H G1 H1 → I 0 σ G1 H1)
    (hs : ∀ G1 H1, Gr [] G H G1 H1 → ∀ (n : Nat) σ' G' H', lo + (n : Int) < m → Gr M G1 H1 G' H' → I n σ' G' H' → tu { D with nx := Nx M G1 H1 I (n + 1), ct := Nx M G1 H1 I (n + 1), bk := tz D } (σ'.set j (some (.int (lo + (n : Int))))) H')
    (hd : ∀ σ' G' H', Gr M G H G' H' → I (m - lo).toNat σ' G' H' → tz D σ' H') : tSeq (tFor (iRng2 t) (gName j) tu) tz D σ H := s_forR2 (K := K) (D := { D with nx := tz D }) M I h hm s h0 hs hd
theorem e_copyof {B : Bd} {G H : Hp} {a : Ha} {s : Hl} {σ : L2.St} {te ta : TE} {E : XK} {n : Int} {i : Nat} {b : Bil} (h0 : EvV te σ G H (.ref a.h)) (w : W B G H a s) (o : Ok s) (hn : EvD ta σ G H (.int n)) (hf : findR s n = .ok i) (hb : bilOf s i = b) : EvD (tMeth B.C_Hall "copy_of" (spQ B copyofR aI) [] E te (tCons ta tNil)) σ G H (.int b.issue) :=
  (x_meth (f := copyofR) (args := aI) n h0 w o (ea_cons hn ea_nil)).ok (by unfold copyofR; rw [hf, ← hb]; rfl)
theorem e_row {B : Bd} {G H : Hp} {a : Ha} {s : Hl} {σ : L2.St} {te ta : TE} {E : XK} {n : Int} {i : Nat} {b : Bil} (h0 : EvV te σ G H (.ref a.h)) (w : W B G H a s) (o : Ok s) (hn : EvD ta σ G H (.int n)) (hf : findR s n = .ok i) (hb : bilOf s i = b) : EvD (tMeth B.C_Hall "row" (spQM B rowR aI) [] E te (tCons ta tNil)) σ G H (.list (encR b.places)) :=
  ((xm_meth (f := rowR) (args := aI) n h0 w o (ea_cons hn ea_nil)).ok (ds := encR b.places) (by unfold rowR; rw [hf, ← hb]; rfl)).dat
abbrev spSeen (B : Bd) : Sp := fun vs H Q _ => ∃ (G : Hp) (a : Ha) (s : Hl), vs = [.ref a.h] ∧ W B G H a s ∧ Ok s ∧ ∀ (p c : Addr) (ve vb : V) (m : Mp) (G' H' : Hp), Gr [] G H G' H' → StAt G' H' p c ve vb m s.day s.bs → (∀ z ∈ nms m, z ∈ nms s.m) → m.length ≤ 9 → (nms s.m ≠ [] → 1 ≤ m.length) → Q (.ref p) H'
theorem ok_Lseen {B : Bd} (T : Txt K mg A) (U : Ux K mg B) : FnOk P w K mg base CX0 3 A.a_Lseen A.d_Lseen ["_law_hall"] (spSeen B) := by
  have G_Hnames := ok_Hnames (P := P) (w := w) (base := base) T U
  have G_Hcoins := ok_Hcoins (P := P) (w := w) (base := base) T U
  have G_Hmanybills := ok_Hmanybills (P := P) (w := w) (base := base) T U
  have G_Hpaper := ok_Hpaper (P := P) (w := w) (base := base) T U
  have G_Hrow := ok_Hrow (P := P) (w := w) (base := base) T U
  have G_Hholder := ok_Hholder (P := P) (w := w) (base := base) T U
  have G_Hstate := ok_Hstate (P := P) (w := w) (base := base) T U
  have G_Hcopyof := ok_Hcopyof (P := P) (w := w) (base := base) T U
  have G_Htoday := ok_Htoday (P := P) (w := w) (base := base) T U
  refine T.F_Lseen.ok sc_Lseen (fun vs H Q E h => by obtain ⟨_, _, _, rfl, _⟩ := h; rfl) (fun cdv A' outer st H vs Q E hr h => ?_)
  obtain ⟨G, a, s, rfl, hW, hO, k⟩ := h
  have hm9 := hO.m
  have hb40 := hO.b
  refine ⟨_, (pss_cons (ps_set (i := 1) sc_Lseen.nd rfl (Or.inl rfl) pe_dnewK)
      (pss_cons (ps_for PassesOwn.never rfl (pi_list (pe_meth0 (pv 0) U.cl_Hall U.m_Hnames G_Hnames (hr.mono (by omega)) U.b_Hnames .nil pass0)) (pg_name (i := 2) sc_Lseen.nd rfl (Or.inl rfl))
      (pss_one (ps_dput (hu1 hr) (pv 1) (pv 2) (pe_meth (pv 0) U.cl_Hall U.m_Hcoins G_Hcoins (hr.mono (by omega)) U.b_Hcoins .nil passL (by exact (pa_cons (pv 2) pa_nil))) rfl)))
      (pss_cons (ps_set (i := 3) sc_Lseen.nd rfl (Or.inl rfl) (pe_lst pa_nil))
      (pss_cons (ps_for PassesOwn.never rfl (pi_range2 (by rfl) T.b.range (pa_cons pe_int (pa_cons (pe_op op_add (pe_meth0 (pv 0) U.cl_Hall U.m_Hmanybills G_Hmanybills (hr.mono (by omega)) U.b_Hmanybills .nil pass0) pe_int) pa_nil))) (pg_name (i := 4) sc_Lseen.nd rfl (Or.inl rfl))
      (pss_one (ps_expr (pe_bm PySem.F.plainAttrs_list PySem.F.slot_list_append PySem.F.type_list_append mt_append (pv 3) (pa_cons (pe_op op_cat (pe_callTy (call_listK (K := K)) (by rfl) T.b.list (by decide +kernel) (pa_cons (pe_meth (pv 0) U.cl_Hall U.m_Hpaper G_Hpaper (hr.mono (by omega)) U.b_Hpaper .nil passL (by exact (pa_cons (pv 4) pa_nil))) pa_nil)) (pe_lst (pa_cons (pe_meth (pv 0) U.cl_Hall U.m_Hrow G_Hrow (hr.mono (by omega)) U.b_Hrow .nil passL (by exact (pa_cons (pv 4) pa_nil))) (pa_cons (pe_meth (pv 0) U.cl_Hall U.m_Hholder G_Hholder (hr.mono (by omega)) U.b_Hholder .nil passL (by exact (pa_cons (pv 4) pa_nil))) (pa_cons (pe_meth (pv 0) U.cl_Hall U.m_Hstate G_Hstate (hr.mono (by omega)) U.b_Hstate .nil passL (by exact (pa_cons (pv 4) pa_nil))) (pa_cons (pe_meth (pv 0) U.cl_Hall U.m_Hcopyof G_Hcopyof (hr.mono (by omega)) U.b_Hcopyof .nil passL (by exact (pa_cons (pv 4) pa_nil))) pa_nil)))))) pa_nil)))))
      (pss_one (ps_ret (pe_lst (pa_cons (pv 1) (pa_cons pe_dnewK (pa_cons (pe_meth0 (pv 0) U.cl_Hall U.m_Htoday G_Htoday (hr.mono (by omega)) U.b_Htoday .nil pass0) (pa_cons (pv 3) pa_nil))))))))))), ?_⟩
  refine seqI fun c hc => ?_
  have g0 : Gr [] G H G (upd H c (.dK [])) := (Gr.refl hW.sb).own hc
  have hcn : G c = none := hW.sb.none hc
  have e0 : upd H c (.dK []) c = some (.dK (kvM [])) := upd_same
  have hW1 := hW.step g0
  have lnm : (srt (nms s.m)).length = s.m.length := by rw [len_srt]; unfold nms; rw [List.length_map]
  show tSeq _ _ _ [some (.ref a.h), some (.ref c), none, none, none] _
  generalize upd H c (.dK []) = H1 at g0 e0 hW1
  refine q_forL [c] (fun n σ' G' H' => ∃ (v2 : Option V) (m : Mp), σ' = [some (.ref a.h), some (.ref c), v2, none, none] ∧ H' c = some (.dK (kvM m)) ∧ G' c = none ∧ (∀ z ∈ nms m, z ∈ nms s.m) ∧ m.length ≤ n ∧ (0 < n → 1 ≤ m.length))
    (EvM.dat (e_names hW1 hO (evv_var rfl))) hW1.sb (fun G2 H2 g2 => ⟨none, [], rfl, sb_of g2 _ _ e0, g2.n _ _ e0 hcn, (fun _ h => by cases h), Nat.zero_le _, fun h => absurd h (Nat.lt_irrefl _)⟩) (fun G2 H2 g2 n d v σ' G3 H3 hd hv gg I => ?_) (fun σ' G2 H2 gg I => ?_)
  · obtain ⟨v2, m, rfl, hc3, hn3, hsub, hlen, hpos⟩ := I
    rw [List.getElem?_map] at hd
    obtain ⟨z, hz, rfl⟩ := Option.map_eq_some_iff.mp hd
    obtain rfl := hv.str_eq
    have hzm : z ∈ nms s.m := mem_srt.mp (List.mem_of_getElem? hz)
    have hn9 : n < s.m.length := by rw [← lnm]; exact (List.getElem?_eq_some_iff.mp hz).1
    have gB : Gr [] G H G3 H3 := Gr.drop ((g0.any.trans g2.any).trans gg) hc
    obtain ⟨cz, hcz⟩ := Option.isSome_iff_exists.mp (mem_nms.mp hzm)
    refine ((x_meth (f := coinsR) (args := aS) z (evv_var rfl) (hW.step gB) hO (ea_cons (ev_var rfl (.str z)) ea_nil)).ok (d := .int cz) (by unfold coinsR; rw [hcz])) G3 H3 (.refl gB.s) _ fun v4 G4 H4 g4 hv4 => ?_
    obtain rfl := hv4.int_eq
    have hc4 := sb_of g4 _ _ hc3
    have hn4 := g4.n _ _ hc3 hn3
    refine ⟨_, rfl, _, rfl, c, _, rfl, put_any hc4 (by omega) z cz, ?_⟩
    refine ⟨G4, (gg.trans g4.any).write (Or.inl (by simp)) hn4, _, put m z cz, rfl, upd_same, hn4, fun y hy => ?_, ?_, fun _ => put_pos⟩
    · rcases put_sub y hy with h | h
      · exact hsub y h
      · rw [h]; exact hzm
    · have := len_put m z cz; omega
  obtain ⟨v2, m, rfl, hc2, hn2, hsub, hlen, hpos⟩ := I
  rw [List.length_map, lnm] at hlen hpos
  have gB : Gr [] G H G2 H2 := Gr.drop (g0.any.trans gg) hc
  refine q_asgM (ev_lst ea_nil (by show 0 ≤ 100000; decide)) gB.s fun q xs G3 H3 g3 q0 qn ql hx => ?_
  cases hx
  have hc3 := sb_of g3 _ _ hc2
  have gB := gB.trans g3
  have gQ : H q = none := (Gr.drop (g0.any.trans gg) hc).free q0
  have hW3 := hW.step gB
  have el : (s.bs.length : Int) + 1 = (s.bs.length : Int) + 1 := rfl
  refine q_forR2 (K := K) [q] (fun n σ' G' H' => ∃ (v4 : Option V) (xs : List V), σ' = [some (.ref a.h), some (.ref c), v2, some (.ref q), v4] ∧ H' q = some (.lst xs) ∧ G' q = none ∧ Dxs G' xs ((s.bs.take n).map seenB))
    (lo := 1) (m := (s.bs.length : Int) + 1) (ea_cons ev_int (ea_cons (ev_op (e_many (evv_var rfl) hW3 hO) ev_int rd_add) ea_nil)) ⟨by decide, by omega, by omega⟩ hW3.sb (fun G4 H4 g4 => ⟨none, [], rfl, sb_of g4 _ _ ql, g4.n _ _ ql qn, .nil⟩) (fun G4 H4 g4 n σ' G5 H5 hn gg2 I => ?_) (fun σ' G5 H5 gg2 I => ?_)
  · obtain ⟨v4, xs, rfl, hq5, hqn5, dx5⟩ := I
    have gC : Gr [] G H G5 H5 := Gr.drop ((gB.any.trans g4.any).trans gg2) gQ
    have hW5 := hW.step gC
    have hlt : n < s.bs.length := by omega
    have hf : findR s (1 + (n : Int)) = .ok n := by
      unfold findR
      rw [if_pos (by omega)]
      congr 1
      omega
    have hxl : xs.length = n := by rw [dx5.len, List.length_map, List.length_take]; omega
    dsimp only [List.set]
    refine s_app (l := q) (d := seenB (bilOf s n)) rfl hq5 hqn5 (EvM.dat (ev_opM (EvM.dat (ev_cbM (ea_cons (e_paper (evv_var rfl) hW5 hO (ev_var rfl (.int _)) hf rfl) ea_nil) cd_listT)) (EvM.dat (ev_lst (ea_cons (e_row (evv_var rfl) hW5 hO (ev_var rfl (.int _)) hf rfl) (ea_cons (e_holder (evv_var rfl) hW5 hO (ev_var rfl (.int _)) hf rfl) (ea_cons (e_state (evv_var rfl) hW5 hO (ev_var rfl (.int _)) hf rfl) (ea_cons (e_copyof (evv_var rfl) hW5 hO (ev_var rfl (.int _)) hf rfl) ea_nil)))) (by show 4 ≤ 100000; decide))) (rd_cat (by show 5 + 4 ≤ 100000; decide)))) gC.s (by omega) fun v6 G6 H6 g6 hv6 gq hqn6 => ?_
    refine ⟨G6, gg2.trans gq, _, xs ++ [v6], rfl, upd_same, hqn6, ?_⟩
    have e : s.bs.take (n + 1) = s.bs.take n ++ [bilOf s n] := by
      rw [List.take_add_one, List.getElem?_eq_getElem hlt]
      unfold bilOf
      rw [List.getD_eq_getElem?_getD, List.getElem?_eq_getElem hlt]; rfl
    rw [e, List.map_append]
    exact (dx5.mono g6.g).app (Dxs.one hv6)
  obtain ⟨v4, xs, rfl, hq5, hqn5, dx5⟩ := I
  have e : (s.bs.take ((s.bs.length : Int) + 1 - 1).toNat) = s.bs := by
    have : ((s.bs.length : Int) + 1 - 1).toNat = s.bs.length := by omega
    rw [this, List.take_length]
  rw [e] at dx5
  have gC : Gr [] G H G5 H5 := Gr.drop (gB.any.trans gg2) gQ
  have hc5 : H5 c = some (.dK (kvM m)) := gg2.h c _ (by
    have : c ≠ q := fun e => by rw [e, q0] at hc2; cases hc2
    simpa using this) hc3
  have gD : Gr [] G H (upd G5 q (.lst xs)) H5 := gC.freeze hq5 hqn5 gQ
  refine retI ⟨_, rfl, fun ve hve => ?_⟩
  have gE : Gr [] G H (upd G5 q (.lst xs)) (upd H5 ve (.dK [])) := gD.own hve
  refine (e_today (evv_var rfl) (hW.step gE) hO) _ _ (.refl gE.s) _ fun v6 G6 H6 g6 hv6 => ?_
  obtain rfl := hv6.int_eq
  refine ⟨_, rfl, by rw [sizeLine_eq]; show 4 ≤ _; omega, fun p hp => ?_⟩
  have gF := gE.trans g6
  refine k p c (.ref ve) (.ref q) m G6 _ (gF.own hp) ⟨upd_same, ?_, ?_⟩ hsub (by omega) (fun h => hpos ?_)
  · have hcv : c ≠ ve := fun e => by rw [← e, hc5] at hve; cases hve
    have hc6 := sb_of g6 _ _ ((upd_ne hcv).trans hc5)
    have hcp : c ≠ p := fun e => by rw [← e, hc6] at hp; cases hp
    exact (upd_ne hcp).trans hc6
  · exact .lst (g6.g _ _ upd_same) ((dx5.mono (Sb.new hqn5)).mono g6.g)
  · cases e : s.m with
    | nil => exact (h (by rw [e]; rfl)).elim
    | cons _ _ => show 0 < _ + 1; omega

end
end

-- la14.txt
section

local macro_rules | `(tactic| walk_at "arith") => `(tactic| first | omega | decide | (unfold CMul; omega) | (unfold CDiv; omega) | (unfold CPow; decide) | (refine ⟨?_, ?_⟩ <;> omega) | (simp; done) | (simp; omega))
local macro_rules | `(tactic| walk_at "wide") => `(tactic| exact ⟨by decide, by decide +kernel⟩)
section
variable {P : Program} {w : World} {K : PySem.W.Frag} {mg : Str → Option Value} {base : Heap} {A : Ad}
/-! ### the comparison -/
mutual
def dep : PyData → Nat
  | .list ds => 1 + deps ds
  | .tuple ds => 1 + deps ds
  | _ => 0
def deps : List PyData → Nat
  | [] => 0
  | d :: ds => max (dep d) (deps ds)
end
theorem dep_le : ∀ {ds : List PyData} {d : PyData}, d ∈ ds → dep d ≤ deps ds
  | e :: es, d, h => by
    rcases List.mem_cons.mp h with h | h
    · subst h; unfold deps; exact Nat.le_max_left _ _
    · unfold deps; exact Nat.le_trans (dep_le h) (Nat.le_max_right _ _)
mutual
/-- data that the comparison goes through -/
def good : PyData → Bool
  | .list ds => decide (ds.length ≤ 40000) && goods ds
  | .tuple ds => decide (ds.length ≤ 40000) && goods ds
  | .dict _ => false
  | _ => true
def goods : List PyData → Bool
  | [] => true
  | d :: ds => good d && goods ds
end
theorem good_of : ∀ {ds : List PyData} {d : PyData}, goods ds = true → d ∈ ds → good d = true
  | e :: es, d, hg, h => by
    unfold goods at hg
    rw [Bool.and_eq_true] at hg
    rcases List.mem_cons.mp h with h | h
    · subst h; exact hg.1
    · exact good_of hg.2 h
abbrev spSame (n : Nat) : Sp := SpD (α := PyData) (fun d => [d, d]) (fun d => dep d ≤ n ∧ good d = true) (fun _ => .bool true)
theorem rd_eqX {d : PyData} (h : dep d = 0) (hd : good d = true) : RD rEq d d (.bool true) := fun G1 _ x y s hx hy _ q => by
  have e : x = y := by
    cases hx with
    | non => rw [hy.non_eq]
    | bl b => rw [hy.bl_eq]
    | int i => rw [hy.int_eq]
    | str z => rw [hy.str_eq]
    | lst _ _ => unfold dep at h; omega
    | tup _ _ => unfold dep at h; omega
  subst e
  refine ⟨?_, ?_⟩
  · cases hx with
    | non => rfl
    | bl b => rfl
    | int i => rfl
    | str z => rfl
    | lst _ _ => unfold dep at h; omega
    | tup _ _ => unfold dep at h; omega
  · rw [decide_eq_true rfl]; exact q _ G1 _ (.refl s) (.bl _)
theorem rd_ixanyL {K : PySem.W.Frag} {ds : List PyData} {i : Int} {d : PyData} (h : atI ds i = some d) : RD (rIx K) (.list ds) (.int i) d := fun G1 H1 x y s hx hy Q q => Or.inl (rd_ixL h G1 H1 x y s hx hy Q q)
theorem rd_ixanyT {K : PySem.W.Frag} {ds : List PyData} {i : Int} {d : PyData} (h : atI ds i = some d) : RD (rIx K) (.tuple ds) (.int i) d := fun G1 H1 x y s hx hy Q q => Or.inr (Or.inl (rd_ixT h G1 H1 x y s hx hy Q q))
theorem atI_getD {ds : List PyData} {i : Nat} (h : i < ds.length) : atI ds (i : Int) = some (ds.getD i .none) := by
  refine atI_nat ?_
  rw [List.getD_eq_getElem?_getD, List.getElem?_eq_getElem h]; rfl
theorem getD_mem {ds : List PyData} {i : Nat} (h : i < ds.length) : ds.getD i .none ∈ ds := by
  rw [List.getD_eq_getElem?_getD, List.getElem?_eq_getElem h]; exact List.getElem_mem h
theorem given_true (n : Nat) : (given n (fun _ => true) fun _ => PyData.bool true) = (List.replicate n true).map .bool := by
  unfold given
  induction n with
  | zero => rfl
  | succ n ih =>
    rw [List.range_succ, List.filter_append, List.map_append, ih, List.replicate_succ', List.map_append]
    rfl
theorem all_rep (n : Nat) : (List.replicate n true).all id = true := by
  induction n with
  | zero => rfl
  | succ n ih => rw [List.replicate_succ, List.all_cons, ih]; rfl
local macro_rules | `(tactic| walk_at "eqx") => `(tactic| first | rfl | (unfold dep; rfl) | (unfold good; rfl))
local macro_rules | `(tactic| walk_at "pre") => `(tactic| first | exact hcall _ ‹_› | trivial)
local macro_rules | `(tactic| walk_at "lenany") => `(tactic| first | exact cd_lenL | exact cd_lenT)
local macro_rules | `(tactic| walk_at "ixany") => `(tactic| first | exact rd_ixanyL (atI_getD (by omega)) | exact rd_ixanyT (atI_getD (by omega)))
local macro_rules | `(tactic| walk_at "bools") => `(tactic| exact given_true _)
local macro_rules | `(tactic| walk_at "kit") => `(tactic| first | exact kit_NoneType_bool | exact kit_NoneType_int | exact kit_NoneType_str | exact kit_NoneType_list | exact kit_NoneType_tuple | exact kit_bool_bool | exact kit_bool_int | exact kit_bool_str | exact kit_bool_list | exact kit_bool_tuple | exact kit_int_bool | exact kit_int_int | exact kit_int_str | exact kit_int_list | exact kit_int_tuple | exact kit_str_bool | exact kit_str_int | exact kit_str_str | exact kit_str_list | exact kit_str_tuple | exact kit_list_bool | exact kit_list_int | exact kit_list_str | exact kit_list_list | exact kit_list_tuple | exact kit_tuple_bool | exact kit_tuple_int | exact kit_tuple_str | exact kit_tuple_list | exact kit_tuple_tuple)
def spSame' : Nat → Sp
  | 0 => fun _ _ _ _ => False
  | n + 1 => spSame n
theorem step_Lsame (T : Txt K mg A) (n : Nat) (G_Lsame : FnOk P w K mg base CX0 n A.a_Lsame A.d_Lsame ["_law_found", "_law_due"] (spSame' n)) : FnOk P w K mg base CX0 (n + 1) A.a_Lsame A.d_Lsame ["_law_found", "_law_due"] (spSame n) := by
  refine T.F_Lsame.ok sc_Lsame (fun vs H Q E h => ?_) (fun cdv A' outer s H vs Q E hr h => ?_)
  · obtain ⟨G, x, _, hx, _⟩ := h
    exact hx.len
  · obtain ⟨G, d, s0, hx, ⟨hdep, hgood⟩, k⟩ := h
    obtain ⟨v0, v1, rfl, h_found, h_due⟩ := dxs2 hx
    refine ⟨_, (pss_cons (ps_if (pt_val (pe_callB (call_isiTK (K := K)) (by rfl) T.b.isinstance (by decide +kernel) (pa_cons (pv 1) (pa_cons (pe_tup (pa_cons (pe_bltn (by rfl) T.b.tuple (by decide +kernel) (v := .ty "tuple") rfl) (pa_cons (pe_bltn (by rfl) T.b.list (by decide +kernel) (v := .ty "list") rfl) pa_nil))) pa_nil))))
      (pss_cons (ps_if (PW.pt (pw_or (pt_cmpR op_ne (pe_callB (call_isiKK (K := K)) (by rfl) T.b.isinstance (by decide +kernel) (pa_cons (pv 1) (pa_cons (pe_bltn (by rfl) T.b.tuple (by decide +kernel) (v := .ty "tuple") rfl) pa_nil))) (pe_callB (call_isiKK (K := K)) (by rfl) T.b.isinstance (by decide +kernel) (pa_cons (pv 0) (pa_cons (pe_bltn (by rfl) T.b.tuple (by decide +kernel) (v := .ty "tuple") rfl) pa_nil))) (nomark _)) (pw_or1 (pt_cmpR op_ne (pe_callB (call_isiKK (K := K)) (by rfl) T.b.isinstance (by decide +kernel) (pa_cons (pv 1) (pa_cons (pe_bltn (by rfl) T.b.list (by decide +kernel) (v := .ty "list") rfl) pa_nil))) (pe_callB (call_isiKK (K := K)) (by rfl) T.b.isinstance (by decide +kernel) (pa_cons (pv 0) (pa_cons (pe_bltn (by rfl) T.b.list (by decide +kernel) (v := .ty "list") rfl) pa_nil))) (nomark _)))))
      (pss_one (ps_ret pe_bl))
      pss_nil)
      (pss_one (ps_ret (pe_and (pe_cmpR op_eq (pe_callB (call_lenK (K := K)) (by rfl) T.b.len (by decide +kernel) (pa_cons (pv 0) pa_nil)) (pe_callB (call_lenK (K := K)) (by rfl) T.b.len (by decide +kernel) (pa_cons (pv 1) pa_nil)) (nomark _)) (pe_one (pe_callB (cr_allK (K := K) rfl) (by rfl) T.b.all (by decide +kernel) (pa_cons (pe_lc (own := [("_law_k", 2)]) (g := gName 2) rfl sc_Lsame.nd (pi_range1 (by rfl) T.b.range (pa_cons (pe_callB (call_lenK (K := K)) (by rfl) T.b.len (by decide +kernel) (pa_cons (pv 1) pa_nil)) pa_nil)) (blkOk_by (own := [("_law_k", 2)]) (N := N_Lsame) (sc := defScope s_Lsame) (by decide +kernel)) (fun _ _ _ _ _ => (pg_name (i := 2) sc_Lsame.nd rfl (Or.inl rfl))) (fun _ _ _ _ _ => pts_nil) (fun _ _ _ _ _ => by exact (pe_call G_Lsame hr (by rfl) T.m_Lsame T.F_Lsame.kp T.b_Lsame .nil pass0 (pa_cons (pe_ix (ix_seqK (K := K)) (pv 0) (pv 2) (fun _ _ => rfl)) (pa_cons (pe_ix (ix_seqK (K := K)) (pv 1) (pv 2) (fun _ _ => rfl)) pa_nil))))) pa_nil)))))))
      pss_nil)
      (pss_cons (ps_if (pt_cmpR op_isN (pv 1) pe_non (nomark _))
      (pss_one (ps_ret (pe_cmpR op_isN (pv 0) pe_non (nomark _))))
      pss_nil)
      (pss_cons (ps_if (PW.pt (pw_or (pt_val (pe_callB (call_isiKK (K := K)) (by rfl) T.b.isinstance (by decide +kernel) (pa_cons (pv 1) (pa_cons (pe_bltn (by rfl) T.b.bool (by decide +kernel) (v := .ty "bool") rfl) pa_nil)))) (pw_or1 (pt_val (pe_callB (call_isiKK (K := K)) (by rfl) T.b.isinstance (by decide +kernel) (pa_cons (pv 0) (pa_cons (pe_bltn (by rfl) T.b.bool (by decide +kernel) (v := .ty "bool") rfl) pa_nil)))))))
      (pss_one (ps_ret (pe_and (pe_callB (call_isiKK (K := K)) (by rfl) T.b.isinstance (by decide +kernel) (pa_cons (pv 1) (pa_cons (pe_bltn (by rfl) T.b.bool (by decide +kernel) (v := .ty "bool") rfl) pa_nil))) (pe_and (pe_callB (call_isiKK (K := K)) (by rfl) T.b.isinstance (by decide +kernel) (pa_cons (pv 0) (pa_cons (pe_bltn (by rfl) T.b.bool (by decide +kernel) (v := .ty "bool") rfl) pa_nil))) (pe_one (pe_cmpR op_eq (pv 0) (pv 1) (nomark _)))))))
      pss_nil)
      (pss_one (ps_ret (pe_and (pe_cmpR op_eq (pe_callB (call_isiKK (K := K)) (by rfl) T.b.isinstance (by decide +kernel) (pa_cons (pv 0) (pa_cons (pe_bltn (by rfl) T.b.int_ (by decide +kernel) (v := .ty "int") rfl) pa_nil))) (pe_callB (call_isiKK (K := K)) (by rfl) T.b.isinstance (by decide +kernel) (pa_cons (pv 1) (pa_cons (pe_bltn (by rfl) T.b.int_ (by decide +kernel) (v := .ty "int") rfl) pa_nil))) (nomark _)) (pe_one (pe_cmpR op_eq (pv 0) (pv 1) (nomark _))))))))), ?_⟩
    have ret : ∀ {te : TE} {D : Ends} {G1 H1 : Hp}, D.rt = Q → Gr [] G H G1 H1 → EvD te [some v0, some v1, none] G1 H1 (.bool true) → tRet te D [some v0, some v1, none] H1 := fun {te D G1 H1} hD g1 he => by
      subst hD
      exact s_ret he g1.s fun v G2 H2 g2 hv => k v G2 H2 (g1.trans g2) hv
    have g0 : Gr [] G H G H := .refl s0
    cases d with
    | none =>
      refine q_when (b := false) (evt_is (et_B (ev_isiT2 (ev_var rfl h_due) (by walk_at "kit") (by walk_at "kit"))) rfl) s0 (fun hb => by cases hb) (fun _ G1 H1 g1 => ?_)
      have h_found := h_found.mono g1.g; have h_due := h_due.mono g1.g
      refine q_when (b := true) (evt_is (et_test (ev_op (ev_var rfl h_due) ev_non rd_isN)) rfl) g1.s (fun _ G2 H2 g2 => ?_) (fun hb => by cases hb)
      have h_found := h_found.mono g2.g
      exact ret rfl (g1.trans g2) (ev_op (ev_var rfl h_found) ev_non rd_isN)
    | bool b =>
      refine q_when (b := false) (evt_is (et_B (ev_isiT2 (ev_var rfl h_due) (by walk_at "kit") (by walk_at "kit"))) rfl) s0 (fun hb => by cases hb) (fun _ G1 H1 g1 => ?_)
      have h_found := h_found.mono g1.g; have h_due := h_due.mono g1.g
      refine q_when (b := false) (evt_is (et_test (ev_op (ev_var rfl h_due) ev_non rd_isN)) rfl) g1.s (fun hb => by cases hb) (fun _ G2 H2 g2 => ?_)
      have h_found := h_found.mono g2.g; have h_due := h_due.mono g2.g
      refine q_when (b := true) (evt_is (et_or (et_B (ev_isi (ev_var rfl h_due) (by walk_at "kit"))) (fun _ => (et_B (ev_isi (ev_var rfl h_found) (by walk_at "kit"))))) rfl) g2.s (fun _ G3 H3 g3 => ?_) (fun hb => by cases hb)
      have h_found := h_found.mono g3.g; have h_due := h_due.mono g3.g
      exact ret rfl ((g1.trans g2).trans g3) (ev_is (ev_andV (ev_isi (ev_var rfl h_due) (by walk_at "kit")) (fun _ => (ev_andV (ev_isi (ev_var rfl h_found) (by walk_at "kit")) (fun _ => (ev_op (ev_var rfl h_found) (ev_var rfl h_due) (rd_eqX (by walk_at "eqx") (by walk_at "eqx"))))))) rfl)
    | int i =>
      refine q_when (b := false) (evt_is (et_B (ev_isiT2 (ev_var rfl h_due) (by walk_at "kit") (by walk_at "kit"))) rfl) s0 (fun hb => by cases hb) (fun _ G1 H1 g1 => ?_)
      have h_found := h_found.mono g1.g; have h_due := h_due.mono g1.g
      refine q_when (b := false) (evt_is (et_test (ev_op (ev_var rfl h_due) ev_non rd_isN)) rfl) g1.s (fun hb => by cases hb) (fun _ G2 H2 g2 => ?_)
      have h_found := h_found.mono g2.g; have h_due := h_due.mono g2.g
      refine q_when (b := false) (evt_is (et_or (et_B (ev_isi (ev_var rfl h_due) (by walk_at "kit"))) (fun _ => (et_B (ev_isi (ev_var rfl h_found) (by walk_at "kit"))))) rfl) g2.s (fun hb => by cases hb) (fun _ G3 H3 g3 => ?_)
      have h_found := h_found.mono g3.g; have h_due := h_due.mono g3.g
      exact ret rfl ((g1.trans g2).trans g3) (ev_is (ev_andV (ev_op (ev_isi (ev_var rfl h_found) (by walk_at "kit")) (ev_isi (ev_var rfl h_due) (by walk_at "kit")) rd_eqB) (fun _ => (ev_op (ev_var rfl h_found) (ev_var rfl h_due) (rd_eqX (by walk_at "eqx") (by walk_at "eqx"))))) rfl)
    | str z =>
      refine q_when (b := false) (evt_is (et_B (ev_isiT2 (ev_var rfl h_due) (by walk_at "kit") (by walk_at "kit"))) rfl) s0 (fun hb => by cases hb) (fun _ G1 H1 g1 => ?_)
      have h_found := h_found.mono g1.g; have h_due := h_due.mono g1.g
      refine q_when (b := false) (evt_is (et_test (ev_op (ev_var rfl h_due) ev_non rd_isN)) rfl) g1.s (fun hb => by cases hb) (fun _ G2 H2 g2 => ?_)
      have h_found := h_found.mono g2.g; have h_due := h_due.mono g2.g
      refine q_when (b := false) (evt_is (et_or (et_B (ev_isi (ev_var rfl h_due) (by walk_at "kit"))) (fun _ => (et_B (ev_isi (ev_var rfl h_found) (by walk_at "kit"))))) rfl) g2.s (fun hb => by cases hb) (fun _ G3 H3 g3 => ?_)
      have h_found := h_found.mono g3.g; have h_due := h_due.mono g3.g
      exact ret rfl ((g1.trans g2).trans g3) (ev_is (ev_andV (ev_op (ev_isi (ev_var rfl h_found) (by walk_at "kit")) (ev_isi (ev_var rfl h_due) (by walk_at "kit")) rd_eqB) (fun _ => (ev_op (ev_var rfl h_found) (ev_var rfl h_due) (rd_eqX (by walk_at "eqx") (by walk_at "eqx"))))) rfl)
    | list ds =>
      unfold dep at hdep
      obtain ⟨m, rfl⟩ : ∃ m, n = m + 1 := ⟨n - 1, by omega⟩
      unfold good at hgood
      rw [Bool.and_eq_true] at hgood
      obtain ⟨hl, hg⟩ := hgood
      have hl := of_decide_eq_true hl
      refine q_when (b := true) (evt_is (et_B (ev_isiT2 (ev_var rfl h_due) (by walk_at "kit") (by walk_at "kit"))) rfl) s0 (fun _ G1 H1 g1 => ?_) (fun hb => by cases hb)
      have h_found := h_found.mono g1.g; have h_due := h_due.mono g1.g
      refine q_when (b := false) (evt_is (et_or (et_test (ev_op (ev_isi (ev_var rfl h_due) (by walk_at "kit")) (ev_isi (ev_var rfl h_found) (by walk_at "kit")) rd_neB)) (fun _ => (et_test (ev_op (ev_isi (ev_var rfl h_due) (by walk_at "kit")) (ev_isi (ev_var rfl h_found) (by walk_at "kit")) rd_neB)))) rfl) g1.s (fun hb => by cases hb) (fun _ G2 H2 g2 => ?_)
      have h_found := h_found.mono g2.g; have h_due := h_due.mono g2.g
      have hcall : ∀ i : Nat, (i : Int) < ((ds.length : Nat) : Int) → dep (ds.getD i .none) ≤ m ∧ good (ds.getD i .none) = true := fun i hi => by
        have hm := getD_mem (show i < ds.length by omega)
        exact ⟨Nat.le_trans (dep_le hm) (by omega), good_of hg hm⟩
      exact ret rfl (g1.trans g2) (ev_is (ev_andV (ev_op (ev_cb (ea_cons (ev_var rfl h_found) ea_nil) cd_lenL) (ev_cb (ea_cons (ev_var rfl h_due) ea_nil) cd_lenL) rd_eqI)
        (fun _ => ev_cb (ea_cons (ev_lcR (fun _ => true) (fun _ => .bool true) (ea_cons (ev_cb (ea_cons (ev_var rfl h_due) ea_nil) cd_lenL) ea_nil) (by omega) (fun _ => rfl) (fun i hi => et_yes)
          (fun i hi hf => ev_call (ds.getD i .none) (ea_cons (ev_op (ev_var rfl h_found) (ev_var rfl (.int _)) (rd_ixanyL (atI_getD (by omega)))) (ea_cons (ev_op (ev_var rfl h_due) (ev_var rfl (.int _)) (rd_ixanyL (atI_getD (by omega)))) ea_nil)) (hcall i hi))).dat ea_nil) (cd_all' (given_true _))))
        (by rw [all_rep, decide_eq_true rfl]; rfl))
    | tuple ds =>
      unfold dep at hdep
      obtain ⟨m, rfl⟩ : ∃ m, n = m + 1 := ⟨n - 1, by omega⟩
      unfold good at hgood
      rw [Bool.and_eq_true] at hgood
      obtain ⟨hl, hg⟩ := hgood
      have hl := of_decide_eq_true hl
      refine q_when (b := true) (evt_is (et_B (ev_isiT2 (ev_var rfl h_due) (by walk_at "kit") (by walk_at "kit"))) rfl) s0 (fun _ G1 H1 g1 => ?_) (fun hb => by cases hb)
      have h_found := h_found.mono g1.g; have h_due := h_due.mono g1.g
      refine q_when (b := false) (evt_is (et_or (et_test (ev_op (ev_isi (ev_var rfl h_due) (by walk_at "kit")) (ev_isi (ev_var rfl h_found) (by walk_at "kit")) rd_neB)) (fun _ => (et_test (ev_op (ev_isi (ev_var rfl h_due) (by walk_at "kit")) (ev_isi (ev_var rfl h_found) (by walk_at "kit")) rd_neB)))) rfl) g1.s (fun hb => by cases hb) (fun _ G2 H2 g2 => ?_)
      have h_found := h_found.mono g2.g; have h_due := h_due.mono g2.g
      have hcall : ∀ i : Nat, (i : Int) < ((ds.length : Nat) : Int) → dep (ds.getD i .none) ≤ m ∧ good (ds.getD i .none) = true := fun i hi => by
        have hm := getD_mem (show i < ds.length by omega)
        exact ⟨Nat.le_trans (dep_le hm) (by omega), good_of hg hm⟩
      exact ret rfl (g1.trans g2) (ev_is (ev_andV (ev_op (ev_cb (ea_cons (ev_var rfl h_found) ea_nil) cd_lenT) (ev_cb (ea_cons (ev_var rfl h_due) ea_nil) cd_lenT) rd_eqI)
        (fun _ => ev_cb (ea_cons (ev_lcR (fun _ => true) (fun _ => .bool true) (ea_cons (ev_cb (ea_cons (ev_var rfl h_due) ea_nil) cd_lenT) ea_nil) (by omega) (fun _ => rfl) (fun i hi => et_yes)
          (fun i hi hf => ev_call (ds.getD i .none) (ea_cons (ev_op (ev_var rfl h_found) (ev_var rfl (.int _)) (rd_ixanyT (atI_getD (by omega)))) (ea_cons (ev_op (ev_var rfl h_due) (ev_var rfl (.int _)) (rd_ixanyT (atI_getD (by omega)))) ea_nil)) (hcall i hi))).dat ea_nil) (cd_all' (given_true _))))
        (by rw [all_rep, decide_eq_true rfl]; rfl))
    | dict _ => unfold good at hgood; cases hgood
theorem ok_Lsame (T : Txt K mg A) : ∀ n : Nat, FnOk P w K mg base CX0 n A.a_Lsame A.d_Lsame ["_law_found", "_law_due"] (spSame' n)
  | 0 => ⟨fun _ _ _ _ h => h.elim, fun _ _ _ _ _ _ _ _ _ _ _ _ _ h => h.elim⟩
  | n + 1 => step_Lsame T n (ok_Lsame T n)

end
end

-- la15.txt
section

local macro_rules | `(tactic| walk_at "arith") => `(tactic| first | omega | decide | (unfold CMul; omega) | (unfold CDiv; omega) | (unfold CPow; decide) | (refine ⟨?_, ?_⟩ <;> omega) | (simp; done) | (simp; omega))
local macro_rules | `(tactic| walk_at "wide") => `(tactic| exact ⟨by decide, by decide +kernel⟩)
section
variable {P : Program} {w : World} {K : PySem.W.Frag} {mg : Str → Option Value} {base : Heap} {A : Ad}
/-! ### the law -/
local macro_rules | `(tactic| walk_at "at") => `(tactic| first | exact atI_feed ‹FeedOk _› (by omega) (by omega) | exact atI_sign (by omega) (by first | omega | (refine Int.lt_of_lt_of_le (Int.emod_lt_of_pos _ (by decide)) (by decide +kernel))))
local macro_rules | `(tactic| walk_at "pre") => `(tactic| first | trivial | omega)
theorem deps_le {k : Nat} : ∀ {ds : List PyData}, (∀ d ∈ ds, dep d ≤ k) → deps ds ≤ k
  | [], _ => by unfold deps; exact Nat.zero_le _
  | d :: ds, h => by unfold deps; exact Nat.max_le.mpr ⟨h d (by simp), deps_le fun e he => h e (by simp [he])⟩
theorem goods_all : ∀ {ds : List PyData}, (∀ d ∈ ds, good d = true) → goods ds = true
  | [], _ => by unfold goods; rfl
  | d :: ds, h => by unfold goods; rw [h d (by simp), goods_all fun e he => h e (by simp [he])]; rfl
theorem strs_dep (zs : List Str) : deps (zs.map .str) ≤ 0 := deps_le fun d hd => by
  obtain ⟨z, _, rfl⟩ := List.mem_map.mp hd
  unfold dep; exact Nat.le_refl _
theorem strs_good (zs : List Str) : goods (zs.map .str) = true := goods_all fun d hd => by
  obtain ⟨z, _, rfl⟩ := List.mem_map.mp hd
  unfold good; rfl
theorem dd_dep (D : Dd) : dep D.data ≤ 2 := by
  cases D with
  | fair zs =>
    have := strs_dep zs
    show dep (.tuple [.str "fair", .tuple (zs.map .str)]) ≤ 2
    simp only [dep, deps]
    omega
  | _ => simp [Dd.data, Dd.args, aDraw, aSn, aIIS, aIII, aHon, dep, deps]
theorem dd_good {D : Dd} (h : D.good) : good D.data = true := by
  cases D with
  | fair zs =>
    have h : zs.length ≤ 1000 := h
    have := strs_good zs
    show good (.tuple [.str "fair", .tuple (zs.map .str)]) = true
    simp only [good, goods, this, List.length_map, List.length_cons, List.length_nil]
    rw [decide_eq_true (by omega : zs.length ≤ 40000)]; rfl
  | _ => simp [Dd.data, Dd.args, aDraw, aSn, aIIS, aIII, aHon, good, goods]
def spLaw (K : PySem.W.Frag) : Sp := fun vs H Q _ => ∃ (a : Addr) (ns : List Int), vs = [.ref a] ∧ SqL K H a (ns.map V.int) ∧ ns.length ≤ 63 ∧ (∀ z ∈ ns, Builtin.Int.intBits z ≤ 1048576) ∧ ∀ H', Q (.bl true) H'
theorem house_first {D : Dd} (h : HouseOk D) : ∃ s' d, D.run hall0 = .ok (s', d) ∧ nms s'.m ≠ [] := by
  obtain ⟨p, k, c, rfl, h0, h1⟩ := h
  refine ⟨_, _, (?_ : houseD hall0 (nm p k, c) = .ok (tell ⟨[(nm p k, c)], [], 0, [], []⟩ (.tuple [.str "house", .str (nm p k), .int c]), .none)), by show [nm p k] ≠ []; exact fun e => by cases e⟩
  unfold houseD
  rw [nm_name p k, if_neg (by decide)]
  have hg : get hall0.m (nm p k) = none := rfl
  rw [hg, if_neg (by decide)]
  have hk : ∃ d, chkCoins (c, 0) = .ok d := by
    unfold chkCoins
    simp only
    rw [if_pos ⟨h0, h1⟩]
    exact ⟨_, rfl⟩
  obtain ⟨d, hk⟩ := hk
  rw [seqE_ok hk, if_neg (by show ¬ 9 ≤ 0; decide)]
  have ha : addR hall0.m (nm p k) c = .ok [(nm p k, c)] := by
    unfold addR
    rw [hg, if_neg (by decide), if_neg (by omega)]
    unfold put
    rw [hg, if_neg (by decide)]; rfl
  rw [seqE_ok ha]; rfl
structure Lw (B : Bd) (G H : Hp) (a : Ha) (s : Hl) (l : Addr) (xs : List V) (n : Nat) : Prop where
  w : W B G H a s
  ok : Okb s
  bx : ∀ b ∈ s.bs, BX b
  ln : ∀ z ∈ nms s.m, z.length ≤ 100
  hl : H l = some (.lst xs)
  nl : G l = none
  dx : Dxs G xs s.ds
  out : ¬ a.In l
  len : s.ds.length ≤ n
  pos : 0 < n → nms s.m ≠ []
  z0 : n = 0 → s = hall0
  gd : ∀ d ∈ s.ds, ∃ D : Dd, D.good ∧ d = D.data
theorem Lw.step {B : Bd} {G H G' H' : Hp} {a : Ha} {s : Hl} {l : Addr} {xs : List V} {n : Nat} (L : Lw B G H a s l xs n) (g : Gr [] G H G' H') : Lw B G' H' a s l xs n :=
  ⟨L.w.step g, L.ok, L.bx, L.ln, sb_of g _ _ L.hl, g.n _ _ L.hl L.nl, L.dx.mono g.g, L.out, L.len, L.pos, L.z0, L.gd⟩
theorem Lw.same {B : Bd} {G H : Hp} {a : Ha} {s : Hl} {l : Addr} {xs : List V} {n : Nat} (L : Lw B G H a s l xs n) (h30 : n ≤ 4000) : dep (.list s.ds) ≤ 3 ∧ good (.list s.ds) = true := by
  have h1 : deps s.ds ≤ 2 := deps_le fun d hd => by obtain ⟨D, _, rfl⟩ := L.gd d hd; exact dd_dep D
  have h2 : goods s.ds = true := goods_all fun d hd => by obtain ⟨D, hD, rfl⟩ := L.gd d hd; exact dd_good hD
  have := L.len
  refine ⟨by unfold dep; omega, ?_⟩
  unfold good
  rw [h2, decide_eq_true (by omega : s.ds.length ≤ 40000)]; rfl
/-- a deed that was refused -/
theorem Lw.refused {B : Bd} {G H : Hp} {a : Ha} {s : Hl} {l : Addr} {xs : List V} {n : Nat} {D : Dd} {k : Kd} (L : Lw B G H a s l xs n) (hz : n = 0 → HouseOk D) (h : D.run s = .error k) : Lw B G H a s l xs (n + 1) := by
  have hn : 0 < n := by
    rcases Nat.eq_zero_or_pos n with e | e
    · obtain ⟨s', d, h1, _⟩ := house_first (hz e)
      rw [L.z0 e, h1] at h; cases h
    · exact e
  exact ⟨L.w, L.ok, L.bx, L.ln, L.hl, L.nl, L.dx, L.out, Nat.le_succ_of_le L.len, fun _ => L.pos hn, fun e => by omega, L.gd⟩
/-- a deed that was done, and its tuple put behind the story -/
theorem Lw.done {B : Bd} {G H G1 H1 : Hp} {a a1 : Ha} {s s1 : Hl} {l : Addr} {xs : List V} {n : Nat} {D : Dd} {d : PyData} {v : V} (L : Lw B G H a s l xs n) (h30 : n ≤ 4000) (hz : n = 0 → HouseOk D) (hD : D.good) (h : D.run s = .ok (s1, d)) (w : W B G1 H1 a1 s1)
    (hl : G1 l = none) (hv : Dx G1 v D.data) (dx : Dxs G1 xs s.ds) (out : ¬ a1.In l) : Lw B G1 (upd H1 l (.lst (xs ++ [v]))) a1 s1 l (xs ++ [v]) (n + 1) := by
  have hlen := L.len
  obtain ⟨ok1, e1⟩ := run_ok L.ok (by omega) h
  have mo := run_more L.ok h
  refine ⟨w.mutp out hl, ok1, mo.bx L.bx, fun z hz => ?_, upd_same, hl, by rw [e1]; exact dx.app (Dxs.one hv), out, by rw [e1, List.length_append]; exact Nat.succ_le_succ hlen, fun _ => ?_, fun e => by omega, fun x hx => ?_⟩
  · rcases mo.nm with e | ⟨y, hy, e⟩
    · rw [e] at hz; exact L.ln z hz
    · rw [e] at hz
      rcases List.mem_append.mp hz with q | q
      · exact L.ln z q
      · have : z = y := by simpa using q
        rw [this]
        unfold isName at hy
        rw [Bool.and_eq_true, Bool.and_eq_true] at hy
        have := of_decide_eq_true hy.1.2
        omega
  · rcases Nat.eq_zero_or_pos n with e | e
    · obtain ⟨s', d', h1, h2⟩ := house_first (hz e)
      rw [L.z0 e, h1] at h
      cases h; exact h2
    · have hp := L.pos e
      rcases mo.nm with q | ⟨y, _, q⟩
      · rw [q]; exact hp
      · rw [q]; exact fun z => by simp at z
  · rw [e1] at hx
    rcases List.mem_append.mp hx with q | q
    · exact L.gd x q
    · exact ⟨D, hD, by simpa using q⟩
section
variable {σ : L2.St} {G H : Hp} {D : Ends} {t tz tu : TS} {K : PySem.W.Frag}
theorem q_J (J : L2.St → Hp → Prop) (h3 : ∀ σ' H', J σ' H' → tz D σ' H') (h : (∀ σ' H', J σ' H' → tz D σ' H') → t { D with nx := tz D } σ H) : tSeq t tz D σ H := h h3
theorem q_forR0 {ta : TA} {j : Nat} {m : Int} (I : Nat → L2.St → Hp → Prop) (h : EvA ta σ G H [.int m]) (hm : 0 ≤ m ∧ m ≤ 100000) (s : Sb G H) (h0 : ∀ G1 H1, Gr [] G H G1 H1 → I 0 σ H1)
    (hs : ∀ (n : Nat) σ' H', (n : Int) < m → I n σ' H' → tu { D with nx := I (n + 1), ct := I (n + 1), bk := tz D } (σ'.set j (some (.int (n : Int)))) H') (hd : ∀ σ' H', I m.toNat σ' H' → tz D σ' H') : tSeq (tFor (iRng1 ta) (gName j) tu) tz D σ H :=
  h G H (.refl s) _ fun vs G1 H1 g1 x => by
    obtain ⟨v, rfl, hv⟩ := dxs1 x
    refine ⟨m, by rw [hv.int_eq], by omega, by omega, for_range (lo := 0) (n := m.toNat) I (h0 G1 H1 g1) (fun n σ' H' hn p => ?_) (fun σ' H' p => hd σ' H' p)⟩
    have e0 : (0 : Int) + (n : Int) = (n : Int) := Int.zero_add _
    show tu _ (σ'.set j (some (.int ((0 : Int) + (n : Int))))) H'
    rw [e0]
    exact hs n σ' H' (by omega) p
theorem W.freeze {B : Bd} {a : Ha} {s : Hl} {p : Addr} {o : HO} (w : W B G H a s) (hp : H p = some o) (hn : G p = none) (ho : ¬ a.In p) : W B (upd G p o) H a s :=
  ⟨w.sb.add hp, w.la, w.lp, w.inj, fun i x h => by obtain ⟨u, e, c⟩ := w.ct i x h; exact ⟨u, e, c.mono (Sb.new hn)⟩, fun i x h => (upd_ne (fun q => ho ⟨i, by rw [← q]; exact h⟩)).trans (w.ng i x h)⟩
theorem W.out {B : Bd} {a : Ha} {s : Hl} {p : Addr} (w : W B G H a s) (hp : H p = none) : ¬ a.In p := fun ⟨j, hj⟩ => by
  obtain ⟨o', e', _⟩ := w.ct j p hj
  rw [hp] at e'; cases e'
end
theorem ok_Law {B : Bd} (T : Txt K mg A) (U : Ux K mg B) : FnOk P w K mg base CX0 11 A.a_Law A.d_Law ["_law_script"] (spLaw K) := by
  have G_Lfeed := ok_Lfeed (P := P) (w := w) (base := base) T
  have G_Hinit := ok_Hinit (P := P) (w := w) (base := base) T U
  have G_Lhouses := ok_Lhouses (P := P) (w := w) (base := base) T
  have G_Lany_deed := ok_Lany_deed (P := P) (w := w) (base := base) T
  have G_Lseen := ok_Lseen (P := P) (w := w) (base := base) T U
  have G_Ldid := ok_Ldid (P := P) (w := w) (base := base) T U
  have G_Hstory := ok_Hstory (P := P) (w := w) (base := base) T U
  have G_Hmoment := ok_Hmoment (P := P) (w := w) (base := base) T U
  have G_Lsame : FnOk P w K mg base CX0 4 A.a_Lsame A.d_Lsame ["_law_found", "_law_due"] (spSame 3) := ok_Lsame (P := P) (w := w) (base := base) T 4
  refine T.F_Law.ok sc_Law (fun vs H Q E h => by obtain ⟨_, _, rfl, _⟩ := h; rfl) (fun cdv A' outer st H vs Q E hr h => ?_)
  obtain ⟨a0, ns, rfl, hS, hlen, _, k⟩ := h
  refine ⟨_, (pss_cons (ps_set (i := 1) sc_Law.nd rfl (Or.inl rfl) (pe_call G_Lfeed (hr.mono (by omega)) (by rfl) T.m_Lfeed T.F_Lfeed.kp T.b_Lfeed .nil pass0 (pa_cons (pv 0) pa_nil)))
      (pss_cons (ps_set (i := 2) sc_Law.nd rfl (Or.inl rfl) (pe_make0 U.mk_Hall G_Hinit (hr.mono (by omega)) (by rfl) U.g_Hall U.b_Hinit .nil pass0))
      (pss_cons (ps_set (i := 3) sc_Law.nd rfl (Or.inl rfl) (pe_lst pa_nil))
      (pss_cons (ps_set (i := 4) sc_Law.nd rfl (Or.inl rfl) (pe_call G_Lhouses (hr.mono (by omega)) (by rfl) T.m_Lhouses T.F_Lhouses.kp T.b_Lhouses .nil pass0 (pa_cons (pv 1) pa_nil)))
      (pss_cons (ps_for PassesOwn.never rfl (pi_range1 (by rfl) T.b.range (pa_cons (pe_op op_add (pe_callB (call_lenK (K := K)) (by rfl) T.b.len (by decide +kernel) (pa_cons (pv 4) pa_nil)) (pe_op op_mod (pe_ix (ix_listK (K := K)) (pv 1) pe_int (fun _ _ => rfl)) pe_int)) pa_nil)) (pg_name (i := 5) sc_Law.nd rfl (Or.inl rfl))
      (pss_cons (ps_if (pt_cmpR op_lt (pv 5) (pe_callB (call_lenK (K := K)) (by rfl) T.b.len (by decide +kernel) (pa_cons (pv 4) pa_nil)) (nomark _))
      (pss_one (ps_set (i := 6) sc_Law.nd rfl (Or.inl rfl) (pe_ix (ix_listK (K := K)) (pv 4) (pv 5) (fun _ _ => rfl))))
      (pss_one (ps_set (i := 6) sc_Law.nd rfl (Or.inl rfl) (pe_call G_Lany_deed (hr.mono (by omega)) (by rfl) T.m_Lany_deed T.F_Lany_deed.kp T.b_Lany_deed .nil pass0 (pa_cons (pv 1) (pa_cons (pe_op op_add pe_int (pe_op op_mul pe_int (pe_op op_sub (pv 5) (pe_callB (call_lenK (K := K)) (by rfl) T.b.len (by decide +kernel) (pa_cons (pv 4) pa_nil))))) (pa_cons (pe_call G_Lseen (hr.mono (by omega)) (by rfl) T.m_Lseen T.F_Lseen.kp T.b_Lseen .nil pass0 (pa_cons (pv 2) pa_nil)) pa_nil)))))))
      (pss_cons (ps_if (pt_val (pe_call G_Ldid (hr.mono (by omega)) (by rfl) T.m_Ldid T.F_Ldid.kp T.b_Ldid .nil pass0 (pa_cons (pv 2) (pa_cons (pv 6) pa_nil))))
      (pss_one (ps_expr (pe_bm PySem.F.plainAttrs_list PySem.F.slot_list_append PySem.F.type_list_append mt_append (pv 3) (pa_cons (pv 6) pa_nil))))
      pss_nil)
      (pss_cons (ps_set (i := 7) sc_Law.nd rfl (Or.inl rfl) (pe_meth0 (pv 2) U.cl_Hall U.m_Hstory G_Hstory (hr.mono (by omega)) U.b_Hstory .nil pass0))
      (pss_cons (ps_if (PW.pt (pw_or (pt_not (pt_val (pe_call G_Lsame (hr.mono (by omega)) (by rfl) T.m_Lsame T.F_Lsame.kp T.b_Lsame .nil pass0 (pa_cons (pv 7) (pa_cons (pv 3) pa_nil))))) (pw_or1 (pt_not (pt_val (pe_call G_Lsame (hr.mono (by omega)) (by rfl) T.m_Lsame T.F_Lsame.kp T.b_Lsame .nil pass0 (pa_cons (pe_meth0 (pv 2) U.cl_Hall U.m_Hmoment G_Hmoment (hr.mono (by omega)) U.b_Hmoment .nil pass0) (pa_cons (pe_callB (call_lenK (K := K)) (by rfl) T.b.len (by decide +kernel) (pa_cons (pv 3) pa_nil)) pa_nil))))))))
      (pss_one (ps_ret pe_bl))
      pss_nil)
      (pss_cons (ps_expr (pe_bm PySem.F.plainAttrs_list PySem.F.slot_list_append PySem.F.type_list_append mt_append (pv 7) (pa_cons (pe_tup (pa_cons pe_str (pa_cons pe_int pa_nil))) pa_nil)))
      (pss_one (ps_expr (pe_bm0 PySem.F.plainAttrs_list PySem.F.slot_list_reverse PySem.F.type_list_reverse mt_reverse (pv 7))))))))))
      (pss_one (ps_ret (pe_call G_Lsame (hr.mono (by omega)) (by rfl) T.m_Lsame T.F_Lsame.kp T.b_Lsame .nil pass0 (pa_cons (pe_meth0 (pv 2) U.cl_Hall U.m_Hstory G_Hstory (hr.mono (by omega)) U.b_Hstory .nil pass0) (pa_cons (pv 3) pa_nil)))))))))), ?_⟩
  refine q_feed rfl hS hlen fun lf fs G1 H1 hok g1 h_feed_here => ?_
  -- a hall
  refine seqI ?_
  show tMake _ _ _ _ _ _ _ _
  intro u ux hu hux hne
  have sG : Sb G1 (upd (upd H1 ux (.own u)) u (.ins B.C_Hall ux [])) := ((g1.s.mut (g1.s.none hux)).mut (g1.s.none hu))
  refine ⟨G1, u, ux, rfl, sG, upd_same, g1.s.none hu, fun G2 H2 a gr ea fr hW => ⟨rfl, ?_⟩⟩
  subst ea
  show tSeq _ _ _ [some (.ref a0), some (.ref lf), some (.ref a.h), none, none, none, none, none] _
  have h_feed_here := h_feed_here.mono gr.g
  -- the story
  refine q_asgM (ev_lst ea_nil (by show 0 ≤ 100000; decide)) hW.sb fun l xs G3 H3 g3 l0 ln ll hx => ?_
  cases hx
  have hout : ¬ a.In l := hW.out l0
  have hW := hW.step g3
  have h_feed_here := h_feed_here.mono g3.g
  have okb0 : Okb hall0 := ⟨⟨Nat.zero_le _, Nat.zero_le _, Nat.zero_le _, Nat.zero_le _, (fun _ h => by cases h), (fun _ h => by cases h), (fun _ h => by cases h), (fun _ h => by cases h)⟩, fun _ h => by cases h⟩
  have L : Lw B G3 H3 a hall0 l [] 0 := ⟨hW, okb0, (fun _ h => by cases h), (fun _ h => by cases h), ll, ln, .nil, hout, Nat.le_refl _, fun h => absurd h (Nat.lt_irrefl _), fun _ => rfl, fun _ h => by cases h⟩
  -- the houses
  refine seqI ⟨_, rfl, ⟨G3, fs, _, rfl, hW.sb, h_feed_here, hok, fun hd dl xs4 G4 H4 hl9 hl2 hhd g4 d0 dn dll dx4 => ?_⟩⟩
  have g4f := g4.freeze dll dn d0
  have L := L.step g4f
  have h_feed_here := h_feed_here.mono g4f.g
  have h_deeds : Dx (upd G4 dl (.lst xs4)) (.ref dl) (.list (hd.map Dd.data)) := .lst upd_same (dx4.mono (Sb.new dn))
  show tSeq _ _ _ [some (.ref a0), some (.ref lf), some (.ref a.h), some (.ref l), some (.ref dl), none, none, none] _
  generalize upd G4 dl (.lst xs4) = G5 at L h_feed_here h_deeds
  have b12 := nth_ok hok (i := 12) (by omega) (by omega)
  have ldl : ((hd.map Dd.data).length : Int) = (hd.length : Int) := by rw [List.length_map]
  refine q_forR0 (fun n σ' H' => ∃ (G' : Hp) (a : Ha) (s : Hl) (xs : List V) (v5 v6 v7 : Option V), σ' = [some (.ref a0), some (.ref lf), some (.ref a.h), some (.ref l), some (.ref dl), v5, v6, v7] ∧ Lw B G' H' a s l xs n ∧ Dx G' (.ref lf) (.list (fs.map .int)) ∧ Dx G' (.ref dl) (.list (hd.map Dd.data)))
    (ea_cons (ev_op (ev_cb (ea_cons (ev_var rfl h_deeds) ea_nil) cd_lenL) (ev_op (ev_op (ev_var rfl h_feed_here) ev_int (rd_ixL (by walk_at "at"))) ev_int (rd_mod (by walk_at "arith"))) rd_add) ea_nil) (by rw [ldl]; omega) L.w.sb (fun G6 H6 g6 => ⟨G6, a, hall0, [], none, none, none, rfl, L.step g6, h_feed_here.mono g6.g, h_deeds.mono g6.g⟩) (fun n σ' H5 hn I => ?_) (fun σ' H5 I => ?_)
  · obtain ⟨G5, a, s, xs, v5, v6, v7, rfl, L, h_feed_here, h_deeds⟩ := I
    rw [ldl] at hn
    have hn40 : n < 40 := by omega
    dsimp only [List.set]
    -- which deed
    refine q_J (fun σ' H' => ∃ (G' : Hp) (D : Dd) (v6 : V), σ' = [some (.ref a0), some (.ref lf), some (.ref a.h), some (.ref l), some (.ref dl), some (.int (n : Nat)), some v6, v7] ∧ Lw B G' H' a s l xs n ∧ Dx G' (.ref lf) (.list (fs.map .int)) ∧ Dx G' (.ref dl) (.list (hd.map Dd.data)) ∧ Dx G' v6 D.data ∧ D.good ∧ (n = 0 → HouseOk D))
      (fun σ' H6 J => ?_) (fun h3 => ?_)
    rotate_left
    · have h_k : ∀ G, Dx G (.int (n : Nat)) (.int (n : Nat)) := fun _ => .int _
      refine s_if ((fun h_k => (et_test (ev_op (ev_var rfl h_k) (ev_cb (ea_cons (ev_var rfl h_deeds) ea_nil) cd_lenL) rd_lt))) (h_k _)) L.w.sb (fun hb G6 H6 g6 => ?_) (fun hb G6 H6 g6 => ?_)
      · have hb := of_decide_eq_true hb
        rw [ldl] at hb
        have hlt : n < hd.length := by omega
        have hmem : hd[n] ∈ hd := List.getElem_mem hlt
        have hget : hd[n]? = some hd[n] := List.getElem?_eq_getElem hlt
        generalize hd[n] = D at hmem hget
        have hho := hhd D hmem
        have h_deeds := h_deeds.mono g6.g
        refine s_asg (d := D.data) (ev_op (ev_var rfl h_deeds) (ev_var rfl (h_k _)) (rd_ixL (atI_nat (by rw [List.getElem?_map, hget]; rfl)))) g6.s fun v G7 H7 g7 hv => ?_
        refine h3 _ _ ⟨G7, D, v, rfl, (L.step g6).step g7, (h_feed_here.mono g6.g).mono g7.g, h_deeds.mono g7.g, hv, ?_, fun _ => hho⟩
        obtain ⟨pp, kk, cc, rfl, _⟩ := hho
        show (nm pp kk).length ≤ 100
        have := (nm_ok pp kk).len
        omega
      · have hb := of_decide_eq_false hb
        rw [ldl] at hb
        have L6 := L.step g6
        have h_feed_here := h_feed_here.mono g6.g
        have h_deeds := h_deeds.mono g6.g
        refine ⟨_, rfl, (((fun h_k => (ev_op ev_int (ev_op ev_int (ev_op (ev_var rfl h_k) (ev_cb (ea_cons (ev_var rfl h_deeds) ea_nil) cd_lenL) rd_sub) (rd_mul (by walk_at "arith"))) rd_add)) (h_k _)) G6 H6 (.refl g6.s) _ fun v G7 H7 g7 hv => ?_)⟩
        obtain rfl := hv.int_eq
        rw [ldl]
        have L7 := L6.step g7
        have h_feed_here := h_feed_here.mono g7.g
        have h_deeds := h_deeds.mono g7.g
        refine ⟨_, rfl, ⟨G7, a, s, rfl, L7.w, L7.ok.ok, fun p c ve vb m G8 H8 g8 hst hsub hm9 hpos => ?_⟩⟩
        have L8 := L7.step g8
        refine ⟨G8, fs, _, p, c, ve, vb, m, s.day, s.bs, _, rfl, g8.s, h_feed_here.mono g8.g, hok, by omega, hst, ⟨hpos (L.pos (by omega)), hm9, fun z hz => L.ln z (hsub z hz), L.ok.ok.b, L.ok.bo, L.bx⟩, fun D v G9 H9 hD g9 hv => ?_⟩
        exact h3 _ _ ⟨G9, D, v, rfl, L8.step g9, (h_feed_here.mono g8.g).mono g9.g, (h_deeds.mono g8.g).mono g9.g, hv, hD, fun e => by omega⟩
    obtain ⟨G6, D, v6, rfl, L, h_feed_here, h_deeds, h_deed_here, hD, hz⟩ := J
    -- done or refused
    refine q_J (fun σ' H' => ∃ (G' : Hp) (a : Ha) (s : Hl) (xs : List V) (v6 : V), σ' = [some (.ref a0), some (.ref lf), some (.ref a.h), some (.ref l), some (.ref dl), some (.int (n : Nat)), some v6, v7] ∧ Lw B G' H' a s l xs (n + 1) ∧ Dx G' (.ref lf) (.list (fs.map .int)) ∧ Dx G' (.ref dl) (.list (hd.map Dd.data)))
      (fun σ' H7 J => ?_) (fun h3 => ?_)
    rotate_left
    · refine ⟨_, rfl, _, rfl, ⟨G6, a, s, D, v6, rfl, h_deed_here, L.w, L.ok.ok, hD, fun kk hk G7 H7 g7 => ?_, fun s1 d hrun a1 G7 H7 c7 ea w7 => ?_⟩⟩
      · refine ⟨_, rfl, ifF rfl (nxI ?_)⟩
        exact h3 _ _ ⟨G7, a, s, xs, v6, rfl, (L.step g7).refused hz hk, h_feed_here.mono g7.g, h_deeds.mono g7.g⟩
      · refine ⟨_, rfl, ifT rfl ?_⟩
        have hl7 := c7.h l _ L.out L.hl
        have hn7 := c7.n l _ L.hl L.nl
        have hout7 : ¬ a1.In l := fun q => by
          rcases c7.f l q with q | q
          · exact L.out q
          · rw [L.hl] at q; cases q
        have hxl : xs.length = s.ds.length := L.dx.len
        have hsl := L.len
        refine s_app (d := D.data) rfl hl7 hn7 (ev_var rfl (h_deed_here.mono c7.g)) c7.s (by omega) fun v G8 H8 g8 hv gl hn8 => ?_
        exact h3 _ _ ⟨G8, a1, s1, xs ++ [v], v6, by rw [ea], L.done (by omega) hz hD hrun (w7.step g8) hn8 hv ((L.dx.mono c7.g).mono g8.g) hout7, (h_feed_here.mono c7.g).mono g8.g, (h_deeds.mono c7.g).mono g8.g⟩
    obtain ⟨G7, a, s, xs, v6, rfl, L, h_feed_here, h_deeds⟩ := J
    -- the story told
    obtain ⟨sd, sg⟩ := L.same (by omega)
    refine q_asgM ((xm_meth (f := fun s (_ : Unit) => .ok s.ds) (args := fun _ => []) () (evv_var rfl) L.w L.ok.ok ea_nil).ok rfl) L.w.sb fun t ys G8 H8 g8 t0 tn tl ty => ?_
    have L8 := L.step g8
    have htl : l ≠ t := fun e => by have := L.hl; rw [e, t0] at this; cases this
    have w9 := (L8.w.freeze tl tn (L.w.out t0)).freeze L8.hl ((upd_ne htl).trans L8.nl) L8.out
    have x1 : Dx (upd (upd G8 t (.lst ys)) l (.lst xs)) (.ref t) (.list s.ds) := .lst ((upd_ne (Ne.symm htl)).trans upd_same) ((ty.mono (Sb.new tn)).mono (Sb.new ((upd_ne htl).trans L8.nl)))
    have x2 : Dx (upd (upd G8 t (.lst ys)) l (.lst xs)) (.ref l) (.list s.ds) := .lst upd_same ((L8.dx.mono (Sb.new tn)).mono (Sb.new ((upd_ne htl).trans L8.nl)))
    refine q_when (b := false) (evt_is (et_or (b := !true) (c := !true) (et_not (et_B (ev_call (f := fun _ => .bool true) (.list s.ds) (ea_cons (ev_var rfl x1) (ea_cons (ev_var rfl x2) ea_nil)) ⟨sd, sg⟩)))
      (fun _ => et_not (et_B (ev_call (f := fun _ => .bool true) (.int (s.ds.length : Nat)) (ea_cons ((x_meth (f := fun s (_ : Unit) => .ok (.int (s.ds.length : Nat))) (args := fun _ => []) () (evv_var rfl) w9 L.ok.ok ea_nil).ok rfl) (ea_cons (ev_cb (ea_cons (ev_var rfl x2) ea_nil) cd_lenL) ea_nil)) ⟨by unfold dep; exact Nat.zero_le _, by unfold good; rfl⟩)))) rfl) w9.sb (fun hb => by cases hb) (fun _ G9 H9 g9 => ?_)
    have s89 : Gr [] G8 H8 G8 H9 := gr_sb g8.s (sb_of g9)
    have tl9 := sb_of g9 _ _ tl
    have hyl : ys.length = s.ds.length := ty.len
    have hsl := L.len
    refine q_app (d := .tuple [.str "days", .int 1]) rfl tl9 tn (ev_tup (ea_cons ev_str (ea_cons ev_int ea_nil)) (by show 2 ≤ 100000; decide)) s89.s (by omega) fun v G10 H10 g10 hv gt tn10 => ?_
    have gall : Gr [] G7 H7 G10 (upd H10 t (.lst (ys ++ [v]))) := Gr.drop (((g8.trans s89).any.trans gt)) t0
    refine ⟨.ref t, rfl, Or.inl ⟨rfl, _, Or.inl (Or.inl upd_same)⟩, t, _, rfl, rfl, upd_same, ?_⟩
    have gall := gall.write (o := .lst (ys ++ [v]).reverse) (Or.inr t0) tn10
    exact ⟨G10, a, s, xs, _, _, _, rfl, L.step gall, h_feed_here.mono gall.g, h_deeds.mono gall.g⟩
  · obtain ⟨G5, a, s, xs, v5, v6, v7, rfl, L, h_feed_here, h_deeds⟩ := I
    have hn40 : ((((hd.map Dd.data).length : Nat) : Int) + nth fs 12 % 25).toNat ≤ 4000 := by rw [ldl]; omega
    obtain ⟨sd, sg⟩ := L.same hn40
    have w9 := L.w.freeze L.hl L.nl L.out
    have x2 : Dx (upd G5 l (.lst xs)) (.ref l) (.list s.ds) := .lst upd_same (L.dx.mono (Sb.new L.nl))
    refine s_ret (ev_call (f := fun _ => .bool true) (.list s.ds) (ea_cons (((xm_meth (f := fun s (_ : Unit) => .ok s.ds) (args := fun _ => []) () (evv_var rfl) w9 L.ok.ok ea_nil).ok rfl).dat) (ea_cons (ev_var rfl x2) ea_nil)) ⟨sd, sg⟩) w9.sb fun v G6 H6 g6 hv => ?_
    obtain rfl := hv.bl_eq
    exact k H6

end
end
theorem all_mk {l : PySem.W.OpenLaw} {w : World} {K : PySem.W.Frag} {h : Heap} {mg : Str → Option Value} {fa f0 f1 f2 f3 f4 f5 f6 f7 f8 f9 f10 f11 f12 f13 f14 f15 f16 f17 f18 f19 f20 f21 f22 f23 f24 f25 f26 f27 f28 f29 f30 f31 f32 f33 f34 f35 f36 f37 f38 f39 f40 f41 f42 f43 f44 f45 f46 f47 f48 f49 f50 f51 f52 f53 f54 f55 f56 f57 f58 f59 f60 f61 f62 f63 f64 f65 f66 f67 f68 f69 f70 f71 f72 f73 f74 f75 f76 f77 f78 f79 f80 f81 C_Bill C_Purses C_Hall cH cBadName cTaken cBadCoins cFull cNoHouse cNoCoins cFailed cStanding cBadCount cBadDay cNoBill cVoid cClosed cAccepted cSame cNotBlank cNotYet cNotPresented cProtested cTooLate cNotBound cCantPay cNotProtested cIsBound cTwice : Addr} (X : K.In h) (G : h.Ns mainGlobals mg) (hfa : mg "law" = some (.ref fa))
    {od0 an0 od1 an1 od2 an2 od3 an3 od4 an4 od5 an5 od6 an6 od7 an7 od8 an8 od9 an9 od10 an10 od11 an11 od12 an12 od13 an13 od14 an14 od15 an15 od16 an16 od17 an17 od18 an18 od19 an19 od20 an20 od21 an21 od22 an22 od23 an23 od24 an24 od25 an25 od26 an26 od27 an27 od28 an28 od29 an29 od30 an30 od31 an31 od32 an32 od33 an33 od34 an34 od35 an35 od36 an36 od37 an37 od38 an38 od39 an39 od40 an40 od41 an41 od42 an42 od43 an43 od44 an44 od45 an45 od46 an46 od47 an47 od48 an48 od49 an49 od50 an50 od51 an51 od52 an52 od53 an53 od54 an54 od55 an55 od56 an56 od57 an57 od58 an58 od59 an59 od60 an60 od61 an61 od62 an62 od63 an63 od64 an64 od65 an65 od66 an66 od67 an67 od68 an68 od69 an69 od70 an70 od71 an71 od72 an72 od73 an73 od74 an74 od75 an75 od76 an76 od77 an77 od78 an78 od79 an79 od80 an80 od81 an81 : Option Addr} {sl0 sl1 sl2 sl3 sl4 sl5 sl6 sl7 sl8 sl9 sl10 sl11 sl12 sl13 sl14 sl15 sl16 sl17 sl18 sl19 sl20 sl21 sl22 sl23 sl24 sl25 sl26 sl27 sl28 sl29 sl30 sl31 sl32 sl33 sl34 sl35 sl36 sl37 sl38 sl39 sl40 sl41 sl42 sl43 sl44 sl45 sl46 sl47 sl48 sl49 sl50 sl51 sl52 sl53 sl54 sl55 sl56 sl57 sl58 sl59 sl60 sl61 sl62 sl63 sl64 sl65 sl66 sl67 sl68 sl69 sl70 sl71 sl72 sl73 sl74 sl75 sl76 sl77 sl78 sl79 sl80 sl81 : Array (Option Value)} {oc0 kV0 dc0 pm0 cd0 ct0 oc1 kV1 dc1 pm1 cd1 ct1 oc2 kV2 dc2 pm2 cd2 ct2 oc3 kV3 dc3 pm3 cd3 ct3 oc4 kV4 dc4 pm4 cd4 ct4 oc5 kV5 dc5 pm5 cd5 ct5 oc6 kV6 dc6 pm6 cd6 ct6 oc7 kV7 dc7 pm7 cd7 ct7 oc8 kV8 dc8 pm8 cd8 ct8 oc9 kV9 dc9 pm9 cd9 ct9 oc10 kV10 dc10 pm10 cd10 ct10 oc11 kV11 dc11 pm11 cd11 ct11 oc12 kV12 dc12 pm12 cd12 ct12 oc13 kV13 dc13 pm13 cd13 ct13 oc14 kV14 dc14 pm14 cd14 ct14 oc15 kV15 dc15 pm15 cd15 ct15 oc16 kV16 dc16 pm16 cd16 ct16 oc17 kV17 dc17 pm17 cd17 ct17 oc18 kV18 dc18 pm18 cd18 ct18 oc19 kV19 dc19 pm19 cd19 ct19 oc20 kV20 dc20 pm20 cd20 ct20 oc21 kV21 dc21 pm21 cd21 ct21 oc22 kV22 dc22 pm22 cd22 ct22 oc23 kV23 dc23 pm23 cd23 ct23 oc24 kV24 dc24 pm24 cd24 ct24 oc25 kV25 dc25 pm25 cd25 ct25 oc26 kV26 dc26 pm26 cd26 ct26 oc27 kV27 dc27 pm27 cd27 ct27 oc28 kV28 dc28 pm28 cd28 ct28 oc29 kV29 dc29 pm29 cd29 ct29 oc30 kV30 dc30 pm30 cd30 ct30 oc31 kV31 dc31 pm31 cd31 ct31 oc32 kV32 dc32 pm32 cd32 ct32 oc33 kV33 dc33 pm33 cd33 ct33 oc34 kV34 dc34 pm34 cd34 ct34 oc35 kV35 dc35 pm35 cd35 ct35 oc36 kV36 dc36 pm36 cd36 ct36 oc37 kV37 dc37 pm37 cd37 ct37 oc38 kV38 dc38 pm38 cd38 ct38 oc39 kV39 dc39 pm39 cd39 ct39 oc40 kV40 dc40 pm40 cd40 ct40 oc41 kV41 dc41 pm41 cd41 ct41 oc42 kV42 dc42 pm42 cd42 ct42 oc43 kV43 dc43 pm43 cd43 ct43 oc44 kV44 dc44 pm44 cd44 ct44 oc45 kV45 dc45 pm45 cd45 ct45 oc46 kV46 dc46 pm46 cd46 ct46 oc47 kV47 dc47 pm47 cd47 ct47 oc48 kV48 dc48 pm48 cd48 ct48 oc49 kV49 dc49 pm49 cd49 ct49 oc50 kV50 dc50 pm50 cd50 ct50 oc51 kV51 dc51 pm51 cd51 ct51 oc52 kV52 dc52 pm52 cd52 ct52 oc53 kV53 dc53 pm53 cd53 ct53 oc54 kV54 dc54 pm54 cd54 ct54 oc55 kV55 dc55 pm55 cd55 ct55 oc56 kV56 dc56 pm56 cd56 ct56 oc57 kV57 dc57 pm57 cd57 ct57 oc58 kV58 dc58 pm58 cd58 ct58 oc59 kV59 dc59 pm59 cd59 ct59 oc60 kV60 dc60 pm60 cd60 ct60 oc61 kV61 dc61 pm61 cd61 ct61 oc62 kV62 dc62 pm62 cd62 ct62 oc63 kV63 dc63 pm63 cd63 ct63 oc64 kV64 dc64 pm64 cd64 ct64 oc65 kV65 dc65 pm65 cd65 ct65 oc66 kV66 dc66 pm66 cd66 ct66 oc67 kV67 dc67 pm67 cd67 ct67 oc68 kV68 dc68 pm68 cd68 ct68 oc69 kV69 dc69 pm69 cd69 ct69 oc70 kV70 dc70 pm70 cd70 ct70 oc71 kV71 dc71 pm71 cd71 ct71 oc72 kV72 dc72 pm72 cd72 ct72 oc73 kV73 dc73 pm73 cd73 ct73 oc74 kV74 dc74 pm74 cd74 ct74 oc75 kV75 dc75 pm75 cd75 ct75 oc76 kV76 dc76 pm76 cd76 ct76 oc77 kV77 dc77 pm77 cd77 ct77 oc78 kV78 dc78 pm78 cd78 ct78 oc79 kV79 dc79 pm79 cd79 ct79 oc80 kV80 dc80 pm80 cd80 ct80 oc81 kV81 dc81 pm81 cd81 ct81 : Value} {t_RUNNING t_PAID t_UNPAID t_PROTESTED t_LONGEST_NAME t_FIRST_SIGNED t_MOST_COINS t_MOST_HOUSES t_MOST_BILLS t_MOST_COPIES t_MOST_PLACES t_MOST_DAYS t_LAST_DUE t_PROTEST_DAYS : Tok}
    (a0 : PySem.W.nsIn K mainGlobals "check_names" = some (some (.ref f0)))
    (l0 : K.lookup f0 = some ⟨oc0, od0, .func (PySem.W.fnOf "check_names" "check_names" (defArgs s_check_names) (defBody s_check_names) (defScope s_check_names) .none kV0 dc0 pm0 an0 cd0 ct0), sl0⟩)
    (c0 : PySem.W.codeIn K cd0 "check_names" = true)
    (k0 : PySem.W.keepIn K (.ref f0) = true)
    (a1 : PySem.W.nsIn K mainGlobals "stands_there" = some (some (.ref f1)))
    (l1 : K.lookup f1 = some ⟨oc1, od1, .func (PySem.W.fnOf "stands_there" "stands_there" (defArgs s_stands_there) (defBody s_stands_there) (defScope s_stands_there) .none kV1 dc1 pm1 an1 cd1 ct1), sl1⟩)
    (c1 : PySem.W.codeIn K cd1 "stands_there" = true)
    (k1 : PySem.W.keepIn K (.ref f1) = true)
    (a2 : PySem.W.nsIn K mainGlobals "fair_bills" = some (some (.ref f2)))
    (l2 : K.lookup f2 = some ⟨oc2, od2, .func (PySem.W.fnOf "fair_bills" "fair_bills" (defArgs s_fair_bills) (defBody s_fair_bills) (defScope s_fair_bills) .none kV2 dc2 pm2 an2 cd2 ct2), sl2⟩)
    (c2 : PySem.W.codeIn K cd2 "fair_bills" = true)
    (k2 : PySem.W.keepIn K (.ref f2) = true)
    (a3 : PySem.W.nsIn K mainGlobals "debts" = some (some (.ref f3)))
    (l3 : K.lookup f3 = some ⟨oc3, od3, .func (PySem.W.fnOf "debts" "debts" (defArgs s_debts) (defBody s_debts) (defScope s_debts) .none kV3 dc3 pm3 an3 cd3 ct3), sl3⟩)
    (c3 : PySem.W.codeIn K cd3 "debts" = true)
    (k3 : PySem.W.keepIn K (.ref f3) = true)
    (a4 : PySem.W.nsIn K mainGlobals "paid_by" = some (some (.ref f4)))
    (l4 : K.lookup f4 = some ⟨oc4, od4, .func (PySem.W.fnOf "paid_by" "paid_by" (defArgs s_paid_by) (defBody s_paid_by) (defScope s_paid_by) .none kV4 dc4 pm4 an4 cd4 ct4), sl4⟩)
    (c4 : PySem.W.codeIn K cd4 "paid_by" = true)
    (k4 : PySem.W.keepIn K (.ref f4) = true)
    (a5 : PySem.W.nsIn K mainGlobals "got_by" = some (some (.ref f5)))
    (l5 : K.lookup f5 = some ⟨oc5, od5, .func (PySem.W.fnOf "got_by" "got_by" (defArgs s_got_by) (defBody s_got_by) (defScope s_got_by) .none kV5 dc5 pm5 an5 cd5 ct5), sl5⟩)
    (c5 : PySem.W.codeIn K cd5 "got_by" = true)
    (k5 : PySem.W.keepIn K (.ref f5) = true)
    (a6 : PySem.W.nsIn K mainGlobals "payments_of" = some (some (.ref f6)))
    (l6 : K.lookup f6 = some ⟨oc6, od6, .func (PySem.W.fnOf "payments_of" "payments_of" (defArgs s_payments_of) (defBody s_payments_of) (defScope s_payments_of) .none kV6 dc6 pm6 an6 cd6 ct6), sl6⟩)
    (c6 : PySem.W.codeIn K cd6 "payments_of" = true)
    (k6 : PySem.W.keepIn K (.ref f6) = true)
    (a7 : PySem.W.nsIn K mainGlobals "crowd" = some (some (.ref f7)))
    (l7 : K.lookup f7 = some ⟨oc7, od7, .func (PySem.W.fnOf "crowd" "crowd" (defArgs s_crowd) (defBody s_crowd) (defScope s_crowd) .none kV7 dc7 pm7 an7 cd7 ct7), sl7⟩)
    (c7 : PySem.W.codeIn K cd7 "crowd" = true)
    (k7 : PySem.W.keepIn K (.ref f7) = true)
    (a8 : PySem.W.nsIn K mainGlobals "nets" = some (some (.ref f8)))
    (l8 : K.lookup f8 = some ⟨oc8, od8, .func (PySem.W.fnOf "nets" "nets" (defArgs s_nets) (defBody s_nets) (defScope s_nets) .none kV8 dc8 pm8 an8 cd8 ct8), sl8⟩)
    (c8 : PySem.W.codeIn K cd8 "nets" = true)
    (k8 : PySem.W.keepIn K (.ref f8) = true)
    (a9 : PySem.W.nsIn K mainGlobals "paid_bills" = some (some (.ref f9)))
    (l9 : K.lookup f9 = some ⟨oc9, od9, .func (PySem.W.fnOf "paid_bills" "paid_bills" (defArgs s_paid_bills) (defBody s_paid_bills) (defScope s_paid_bills) .none kV9 dc9 pm9 an9 cd9 ct9), sl9⟩)
    (c9 : PySem.W.codeIn K cd9 "paid_bills" = true)
    (k9 : PySem.W.keepIn K (.ref f9) = true)
    (a10 : PySem.W.nsIn K mainGlobals "check_amount" = some (some (.ref f10)))
    (l10 : K.lookup f10 = some ⟨oc10, od10, .func (PySem.W.fnOf "check_amount" "check_amount" (defArgs s_check_amount) (defBody s_check_amount) (defScope s_check_amount) .none kV10 dc10 pm10 an10 cd10 ct10), sl10⟩)
    (c10 : PySem.W.codeIn K cd10 "check_amount" = true)
    (k10 : PySem.W.keepIn K (.ref f10) = true)
    (a11 : PySem.W.nsIn K mainGlobals "is_name" = some (some (.ref f11)))
    (l11 : K.lookup f11 = some ⟨oc11, od11, .func (PySem.W.fnOf "is_name" "is_name" (defArgs s_is_name) (defBody s_is_name) (defScope s_is_name) .none kV11 dc11 pm11 an11 cd11 ct11), sl11⟩)
    (c11 : PySem.W.codeIn K cd11 "is_name" = true)
    (k11 : PySem.W.keepIn K (.ref f11) = true)
    (a12 : PySem.W.nsIn K mainGlobals "reach" = some (some (.ref f12)))
    (l12 : K.lookup f12 = some ⟨oc12, od12, .func (PySem.W.fnOf "reach" "reach" (defArgs s_reach) (defBody s_reach) (defScope s_reach) .none kV12 dc12 pm12 an12 cd12 ct12), sl12⟩)
    (c12 : PySem.W.codeIn K cd12 "reach" = true)
    (k12 : PySem.W.keepIn K (.ref f12) = true)
    (a13 : PySem.W.nsIn K mainGlobals "askable" = some (some (.ref f13)))
    (l13 : K.lookup f13 = some ⟨oc13, od13, .func (PySem.W.fnOf "askable" "askable" (defArgs s_askable) (defBody s_askable) (defScope s_askable) .none kV13 dc13 pm13 an13 cd13 ct13), sl13⟩)
    (c13 : PySem.W.codeIn K cd13 "askable" = true)
    (k13 : PySem.W.keepIn K (.ref f13) = true)
    (a14 : PySem.W.nsIn K mainGlobals "returned" = some (some (.ref f14)))
    (l14 : K.lookup f14 = some ⟨oc14, od14, .func (PySem.W.fnOf "returned" "returned" (defArgs s_returned) (defBody s_returned) (defScope s_returned) .none kV14 dc14 pm14 an14 cd14 ct14), sl14⟩)
    (c14 : PySem.W.codeIn K cd14 "returned" = true)
    (k14 : PySem.W.keepIn K (.ref f14) = true)
    (a15 : PySem.W.nsIn K mainGlobals "honoured" = some (some (.ref f15)))
    (l15 : K.lookup f15 = some ⟨oc15, od15, .func (PySem.W.fnOf "honoured" "honoured" (defArgs s_honoured) (defBody s_honoured) (defScope s_honoured) .none kV15 dc15 pm15 an15 cd15 ct15), sl15⟩)
    (c15 : PySem.W.codeIn K cd15 "honoured" = true)
    (k15 : PySem.W.keepIn K (.ref f15) = true)
    (a16 : PySem.W.nsIn K mainGlobals "check_returned" = some (some (.ref f16)))
    (l16 : K.lookup f16 = some ⟨oc16, od16, .func (PySem.W.fnOf "check_returned" "check_returned" (defArgs s_check_returned) (defBody s_check_returned) (defScope s_check_returned) .none kV16 dc16 pm16 an16 cd16 ct16), sl16⟩)
    (c16 : PySem.W.codeIn K cd16 "check_returned" = true)
    (k16 : PySem.W.keepIn K (.ref f16) = true)
    (a17 : PySem.W.nsIn K mainGlobals "open_places" = some (some (.ref f17)))
    (l17 : K.lookup f17 = some ⟨oc17, od17, .func (PySem.W.fnOf "open_places" "open_places" (defArgs s_open_places) (defBody s_open_places) (defScope s_open_places) .none kV17 dc17 pm17 an17 cd17 ct17), sl17⟩)
    (c17 : PySem.W.codeIn K cd17 "open_places" = true)
    (k17 : PySem.W.keepIn K (.ref f17) = true)
    (a18 : PySem.W.nsIn K mainGlobals "check_coins" = some (some (.ref f18)))
    (l18 : K.lookup f18 = some ⟨oc18, od18, .func (PySem.W.fnOf "check_coins" "check_coins" (defArgs s_check_coins) (defBody s_check_coins) (defScope s_check_coins) .none kV18 dc18 pm18 an18 cd18 ct18), sl18⟩)
    (c18 : PySem.W.codeIn K cd18 "check_coins" = true)
    (k18 : PySem.W.keepIn K (.ref f18) = true)
    (a19 : PySem.W.nsIn K mainGlobals "check_running" = some (some (.ref f19)))
    (l19 : K.lookup f19 = some ⟨oc19, od19, .func (PySem.W.fnOf "check_running" "check_running" (defArgs s_check_running) (defBody s_check_running) (defScope s_check_running) .none kV19 dc19 pm19 an19 cd19 ct19), sl19⟩)
    (c19 : PySem.W.codeIn K cd19 "check_running" = true)
    (k19 : PySem.W.keepIn K (.ref f19) = true)
    (a20 : PySem.W.nsIn K mainGlobals "_law_feed" = some (some (.ref f20)))
    (l20 : K.lookup f20 = some ⟨oc20, od20, .func (PySem.W.fnOf "_law_feed" "_law_feed" (defArgs s_Lfeed) (defBody s_Lfeed) (defScope s_Lfeed) .none kV20 dc20 pm20 an20 cd20 ct20), sl20⟩)
    (c20 : PySem.W.codeIn K cd20 "_law_feed" = true)
    (k20 : PySem.W.keepIn K (.ref f20) = true)
    (a21 : PySem.W.nsIn K mainGlobals "_law_name" = some (some (.ref f21)))
    (l21 : K.lookup f21 = some ⟨oc21, od21, .func (PySem.W.fnOf "_law_name" "_law_name" (defArgs s_Lname) (defBody s_Lname) (defScope s_Lname) .none kV21 dc21 pm21 an21 cd21 ct21), sl21⟩)
    (c21 : PySem.W.codeIn K cd21 "_law_name" = true)
    (k21 : PySem.W.keepIn K (.ref f21) = true)
    (a22 : PySem.W.nsIn K mainGlobals "_law_reach" = some (some (.ref f22)))
    (l22 : K.lookup f22 = some ⟨oc22, od22, .func (PySem.W.fnOf "_law_reach" "_law_reach" (defArgs s_Lreach) (defBody s_Lreach) (defScope s_Lreach) .none kV22 dc22 pm22 an22 cd22 ct22), sl22⟩)
    (c22 : PySem.W.codeIn K cd22 "_law_reach" = true)
    (k22 : PySem.W.keepIn K (.ref f22) = true)
    (a23 : PySem.W.nsIn K mainGlobals "_law_askable" = some (some (.ref f23)))
    (l23 : K.lookup f23 = some ⟨oc23, od23, .func (PySem.W.fnOf "_law_askable" "_law_askable" (defArgs s_Laskable) (defBody s_Laskable) (defScope s_Laskable) .none kV23 dc23 pm23 an23 cd23 ct23), sl23⟩)
    (c23 : PySem.W.codeIn K cd23 "_law_askable" = true)
    (k23 : PySem.W.keepIn K (.ref f23) = true)
    (a24 : PySem.W.nsIn K mainGlobals "_law_houses" = some (some (.ref f24)))
    (l24 : K.lookup f24 = some ⟨oc24, od24, .func (PySem.W.fnOf "_law_houses" "_law_houses" (defArgs s_Lhouses) (defBody s_Lhouses) (defScope s_Lhouses) .none kV24 dc24 pm24 an24 cd24 ct24), sl24⟩)
    (c24 : PySem.W.codeIn K cd24 "_law_houses" = true)
    (k24 : PySem.W.keepIn K (.ref f24) = true)
    (a25 : PySem.W.nsIn K mainGlobals "_law_bill_deed" = some (some (.ref f25)))
    (l25 : K.lookup f25 = some ⟨oc25, od25, .func (PySem.W.fnOf "_law_bill_deed" "_law_bill_deed" (defArgs s_Lbill_deed) (defBody s_Lbill_deed) (defScope s_Lbill_deed) .none kV25 dc25 pm25 an25 cd25 ct25), sl25⟩)
    (c25 : PySem.W.codeIn K cd25 "_law_bill_deed" = true)
    (k25 : PySem.W.keepIn K (.ref f25) = true)
    (a26 : PySem.W.nsIn K mainGlobals "_law_fair_names" = some (some (.ref f26)))
    (l26 : K.lookup f26 = some ⟨oc26, od26, .func (PySem.W.fnOf "_law_fair_names" "_law_fair_names" (defArgs s_Lfair_names) (defBody s_Lfair_names) (defScope s_Lfair_names) .none kV26 dc26 pm26 an26 cd26 ct26), sl26⟩)
    (c26 : PySem.W.codeIn K cd26 "_law_fair_names" = true)
    (k26 : PySem.W.keepIn K (.ref f26) = true)
    (a27 : PySem.W.nsIn K mainGlobals "_law_deed" = some (some (.ref f27)))
    (l27 : K.lookup f27 = some ⟨oc27, od27, .func (PySem.W.fnOf "_law_deed" "_law_deed" (defArgs s_Ldeed) (defBody s_Ldeed) (defScope s_Ldeed) .none kV27 dc27 pm27 an27 cd27 ct27), sl27⟩)
    (c27 : PySem.W.codeIn K cd27 "_law_deed" = true)
    (k27 : PySem.W.keepIn K (.ref f27) = true)
    (a28 : PySem.W.nsIn K mainGlobals "_law_same" = some (some (.ref f28)))
    (l28 : K.lookup f28 = some ⟨oc28, od28, .func (PySem.W.fnOf "_law_same" "_law_same" (defArgs s_Lsame) (defBody s_Lsame) (defScope s_Lsame) .none kV28 dc28 pm28 an28 cd28 ct28), sl28⟩)
    (c28 : PySem.W.codeIn K cd28 "_law_same" = true)
    (k28 : PySem.W.keepIn K (.ref f28) = true)
    (a29 : PySem.W.nsIn K mainGlobals "_law_open" = some (some (.ref f29)))
    (l29 : K.lookup f29 = some ⟨oc29, od29, .func (PySem.W.fnOf "_law_open" "_law_open" (defArgs s_Lopen) (defBody s_Lopen) (defScope s_Lopen) .none kV29 dc29 pm29 an29 cd29 ct29), sl29⟩)
    (c29 : PySem.W.codeIn K cd29 "_law_open" = true)
    (k29 : PySem.W.keepIn K (.ref f29) = true)
    (a30 : PySem.W.nsIn K mainGlobals "_law_any_deed" = some (some (.ref f30)))
    (l30 : K.lookup f30 = some ⟨oc30, od30, .func (PySem.W.fnOf "_law_any_deed" "_law_any_deed" (defArgs s_Lany_deed) (defBody s_Lany_deed) (defScope s_Lany_deed) .none kV30 dc30 pm30 an30 cd30 ct30), sl30⟩)
    (c30 : PySem.W.codeIn K cd30 "_law_any_deed" = true)
    (k30 : PySem.W.keepIn K (.ref f30) = true)
    (a31 : PySem.W.nsIn K mainGlobals "_law_seen" = some (some (.ref f31)))
    (l31 : K.lookup f31 = some ⟨oc31, od31, .func (PySem.W.fnOf "_law_seen" "_law_seen" (defArgs s_Lseen) (defBody s_Lseen) (defScope s_Lseen) .none kV31 dc31 pm31 an31 cd31 ct31), sl31⟩)
    (c31 : PySem.W.codeIn K cd31 "_law_seen" = true)
    (k31 : PySem.W.keepIn K (.ref f31) = true)
    (a32 : PySem.W.nsIn K mainGlobals "_law_paper_do" = some (some (.ref f32)))
    (l32 : K.lookup f32 = some ⟨oc32, od32, .func (PySem.W.fnOf "_law_paper_do" "_law_paper_do" (defArgs s_Lpaper_do) (defBody s_Lpaper_do) (defScope s_Lpaper_do) .none kV32 dc32 pm32 an32 cd32 ct32), sl32⟩)
    (c32 : PySem.W.codeIn K cd32 "_law_paper_do" = true)
    (k32 : PySem.W.keepIn K (.ref f32) = true)
    (a33 : PySem.W.nsIn K mainGlobals "_law_do" = some (some (.ref f33)))
    (l33 : K.lookup f33 = some ⟨oc33, od33, .func (PySem.W.fnOf "_law_do" "_law_do" (defArgs s_Ldo) (defBody s_Ldo) (defScope s_Ldo) .none kV33 dc33 pm33 an33 cd33 ct33), sl33⟩)
    (c33 : PySem.W.codeIn K cd33 "_law_do" = true)
    (k33 : PySem.W.keepIn K (.ref f33) = true)
    (a34 : PySem.W.nsIn K mainGlobals "_law_did" = some (some (.ref f34)))
    (l34 : K.lookup f34 = some ⟨oc34, od34, .func (PySem.W.fnOf "_law_did" "_law_did" (defArgs s_Ldid) (defBody s_Ldid) (defScope s_Ldid) .none kV34 dc34 pm34 an34 cd34 ct34), sl34⟩)
    (c34 : PySem.W.codeIn K cd34 "_law_did" = true)
    (k34 : PySem.W.keepIn K (.ref f34) = true)
    (a35 : PySem.W.nsIn K mainGlobals "law" = some (some (.ref f35)))
    (l35 : K.lookup f35 = some ⟨oc35, od35, .func (PySem.W.fnOf "law" "law" (defArgs s_Law) (defBody s_Law) (defScope s_Law) .none kV35 dc35 pm35 an35 cd35 ct35), sl35⟩)
    (c35 : PySem.W.codeIn K cd35 "law" = true)
    (k35 : PySem.W.keepIn K (.ref f35) = true)
    (gc_RUNNING : PySem.W.nsIn K mainGlobals "RUNNING" = some (some (.str "running" t_RUNNING)))
    (gc_PAID : PySem.W.nsIn K mainGlobals "PAID" = some (some (.str "paid" t_PAID)))
    (gc_UNPAID : PySem.W.nsIn K mainGlobals "UNPAID" = some (some (.str "unpaid" t_UNPAID)))
    (gc_PROTESTED : PySem.W.nsIn K mainGlobals "PROTESTED" = some (some (.str "protested" t_PROTESTED)))
    (gc_LONGEST_NAME : PySem.W.nsIn K mainGlobals "LONGEST_NAME" = some (some (.int 8 t_LONGEST_NAME)))
    (gc_FIRST_SIGNED : PySem.W.nsIn K mainGlobals "FIRST_SIGNED" = some (some (.int 2 t_FIRST_SIGNED)))
    (gc_MOST_COINS : PySem.W.nsIn K mainGlobals "MOST_COINS" = some (some (.int 1000000000000 t_MOST_COINS)))
    (gc_MOST_HOUSES : PySem.W.nsIn K mainGlobals "MOST_HOUSES" = some (some (.int 9 t_MOST_HOUSES)))
    (gc_MOST_BILLS : PySem.W.nsIn K mainGlobals "MOST_BILLS" = some (some (.int 40 t_MOST_BILLS)))
    (gc_MOST_COPIES : PySem.W.nsIn K mainGlobals "MOST_COPIES" = some (some (.int 3 t_MOST_COPIES)))
    (gc_MOST_PLACES : PySem.W.nsIn K mainGlobals "MOST_PLACES" = some (some (.int 8 t_MOST_PLACES)))
    (gc_MOST_DAYS : PySem.W.nsIn K mainGlobals "MOST_DAYS" = some (some (.int 1000 t_MOST_DAYS)))
    (gc_LAST_DUE : PySem.W.nsIn K mainGlobals "LAST_DUE" = some (some (.int 1000 t_LAST_DUE)))
    (gc_PROTEST_DAYS : PySem.W.nsIn K mainGlobals "PROTEST_DAYS" = some (some (.int 3 t_PROTEST_DAYS)))
    (gC_Bill : PySem.W.nsIn K mainGlobals "Bill" = some (some (.ref C_Bill)))
    (gC_Purses : PySem.W.nsIn K mainGlobals "Purses" = some (some (.ref C_Purses)))
    (gC_Hall : PySem.W.nsIn K mainGlobals "Hall" = some (some (.ref C_Hall)))
    (a36 : PySem.W.findIn K (.ref C_Bill) "__init__" = some (some (.ref f36)))
    (i36 : PySem.W.isFn K (.ref f36) = true)
    (l36 : K.lookup f36 = some ⟨oc36, od36, .func (PySem.W.fnOf "__init__" "Bill.__init__" (defArgs s_Binit) (defBody s_Binit) (defScope s_Binit) .none kV36 dc36 pm36 an36 cd36 ct36), sl36⟩)
    (c36 : PySem.W.codeIn K cd36 "Bill.__init__" = true)
    (k36 : PySem.W.keepIn K (.ref f36) = true)
    (a37 : PySem.W.findIn K (.ref C_Bill) "written" = some (some (.ref f37)))
    (i37 : PySem.W.isFn K (.ref f37) = true)
    (l37 : K.lookup f37 = some ⟨oc37, od37, .func (PySem.W.fnOf "written" "Bill.written" (defArgs s_Bwritten) (defBody s_Bwritten) (defScope s_Bwritten) .none kV37 dc37 pm37 an37 cd37 ct37), sl37⟩)
    (c37 : PySem.W.codeIn K cd37 "Bill.written" = true)
    (k37 : PySem.W.keepIn K (.ref f37) = true)
    (a38 : PySem.W.findIn K (.ref C_Purses) "__init__" = some (some (.ref f38)))
    (i38 : PySem.W.isFn K (.ref f38) = true)
    (l38 : K.lookup f38 = some ⟨oc38, od38, .func (PySem.W.fnOf "__init__" "Purses.__init__" (defArgs s_Minit) (defBody s_Minit) (defScope s_Minit) .none kV38 dc38 pm38 an38 cd38 ct38), sl38⟩)
    (c38 : PySem.W.codeIn K cd38 "Purses.__init__" = true)
    (k38 : PySem.W.keepIn K (.ref f38) = true)
    (a39 : PySem.W.findIn K (.ref C_Purses) "add_purse" = some (some (.ref f39)))
    (i39 : PySem.W.isFn K (.ref f39) = true)
    (l39 : K.lookup f39 = some ⟨oc39, od39, .func (PySem.W.fnOf "add_purse" "Purses.add_purse" (defArgs s_Maddpurse) (defBody s_Maddpurse) (defScope s_Maddpurse) .none kV39 dc39 pm39 an39 cd39 ct39), sl39⟩)
    (c39 : PySem.W.codeIn K cd39 "Purses.add_purse" = true)
    (k39 : PySem.W.keepIn K (.ref f39) = true)
    (a40 : PySem.W.findIn K (.ref C_Purses) "coins" = some (some (.ref f40)))
    (i40 : PySem.W.isFn K (.ref f40) = true)
    (l40 : K.lookup f40 = some ⟨oc40, od40, .func (PySem.W.fnOf "coins" "Purses.coins" (defArgs s_Mcoins) (defBody s_Mcoins) (defScope s_Mcoins) .none kV40 dc40 pm40 an40 cd40 ct40), sl40⟩)
    (c40 : PySem.W.codeIn K cd40 "Purses.coins" = true)
    (k40 : PySem.W.keepIn K (.ref f40) = true)
    (a41 : PySem.W.findIn K (.ref C_Purses) "fill" = some (some (.ref f41)))
    (i41 : PySem.W.isFn K (.ref f41) = true)
    (l41 : K.lookup f41 = some ⟨oc41, od41, .func (PySem.W.fnOf "fill" "Purses.fill" (defArgs s_Mfill) (defBody s_Mfill) (defScope s_Mfill) .none kV41 dc41 pm41 an41 cd41 ct41), sl41⟩)
    (c41 : PySem.W.codeIn K cd41 "Purses.fill" = true)
    (k41 : PySem.W.keepIn K (.ref f41) = true)
    (a42 : PySem.W.findIn K (.ref C_Purses) "spend" = some (some (.ref f42)))
    (i42 : PySem.W.isFn K (.ref f42) = true)
    (l42 : K.lookup f42 = some ⟨oc42, od42, .func (PySem.W.fnOf "spend" "Purses.spend" (defArgs s_Mspend) (defBody s_Mspend) (defScope s_Mspend) .none kV42 dc42 pm42 an42 cd42 ct42), sl42⟩)
    (c42 : PySem.W.codeIn K cd42 "Purses.spend" = true)
    (k42 : PySem.W.keepIn K (.ref f42) = true)
    (a43 : PySem.W.findIn K (.ref C_Purses) "pay" = some (some (.ref f43)))
    (i43 : PySem.W.isFn K (.ref f43) = true)
    (l43 : K.lookup f43 = some ⟨oc43, od43, .func (PySem.W.fnOf "pay" "Purses.pay" (defArgs s_Mpay) (defBody s_Mpay) (defScope s_Mpay) .none kV43 dc43 pm43 an43 cd43 ct43), sl43⟩)
    (c43 : PySem.W.codeIn K cd43 "Purses.pay" = true)
    (k43 : PySem.W.keepIn K (.ref f43) = true)
    (a44 : PySem.W.findIn K (.ref C_Purses) "all_names" = some (some (.ref f44)))
    (i44 : PySem.W.isFn K (.ref f44) = true)
    (l44 : K.lookup f44 = some ⟨oc44, od44, .func (PySem.W.fnOf "all_names" "Purses.all_names" (defArgs s_Mallnames) (defBody s_Mallnames) (defScope s_Mallnames) .none kV44 dc44 pm44 an44 cd44 ct44), sl44⟩)
    (c44 : PySem.W.codeIn K cd44 "Purses.all_names" = true)
    (k44 : PySem.W.keepIn K (.ref f44) = true)
    (a45 : PySem.W.findIn K (.ref C_Hall) "__init__" = some (some (.ref f45)))
    (i45 : PySem.W.isFn K (.ref f45) = true)
    (l45 : K.lookup f45 = some ⟨oc45, od45, .func (PySem.W.fnOf "__init__" "Hall.__init__" (defArgs s_Hinit) (defBody s_Hinit) (defScope s_Hinit) .none kV45 dc45 pm45 an45 cd45 ct45), sl45⟩)
    (c45 : PySem.W.codeIn K cd45 "Hall.__init__" = true)
    (k45 : PySem.W.keepIn K (.ref f45) = true)
    (a46 : PySem.W.findIn K (.ref C_Hall) "check_house" = some (some (.ref f46)))
    (i46 : PySem.W.isFn K (.ref f46) = true)
    (l46 : K.lookup f46 = some ⟨oc46, od46, .func (PySem.W.fnOf "check_house" "Hall.check_house" (defArgs s_Hcheckhouse) (defBody s_Hcheckhouse) (defScope s_Hcheckhouse) .none kV46 dc46 pm46 an46 cd46 ct46), sl46⟩)
    (c46 : PySem.W.codeIn K cd46 "Hall.check_house" = true)
    (k46 : PySem.W.keepIn K (.ref f46) = true)
    (a47 : PySem.W.findIn K (.ref C_Hall) "check_standing" = some (some (.ref f47)))
    (i47 : PySem.W.isFn K (.ref f47) = true)
    (l47 : K.lookup f47 = some ⟨oc47, od47, .func (PySem.W.fnOf "check_standing" "Hall.check_standing" (defArgs s_Hcheckstanding) (defBody s_Hcheckstanding) (defScope s_Hcheckstanding) .none kV47 dc47 pm47 an47 cd47 ct47), sl47⟩)
    (c47 : PySem.W.codeIn K cd47 "Hall.check_standing" = true)
    (k47 : PySem.W.keepIn K (.ref f47) = true)
    (a48 : PySem.W.findIn K (.ref C_Hall) "check_payer" = some (some (.ref f48)))
    (i48 : PySem.W.isFn K (.ref f48) = true)
    (l48 : K.lookup f48 = some ⟨oc48, od48, .func (PySem.W.fnOf "check_payer" "Hall.check_payer" (defArgs s_Hcheckpayer) (defBody s_Hcheckpayer) (defScope s_Hcheckpayer) .none kV48 dc48 pm48 an48 cd48 ct48), sl48⟩)
    (c48 : PySem.W.codeIn K cd48 "Hall.check_payer" = true)
    (k48 : PySem.W.keepIn K (.ref f48) = true)
    (a49 : PySem.W.findIn K (.ref C_Hall) "find_bill" = some (some (.ref f49)))
    (i49 : PySem.W.isFn K (.ref f49) = true)
    (l49 : K.lookup f49 = some ⟨oc49, od49, .func (PySem.W.fnOf "find_bill" "Hall.find_bill" (defArgs s_Hfindbill) (defBody s_Hfindbill) (defScope s_Hfindbill) .none kV49 dc49 pm49 an49 cd49 ct49), sl49⟩)
    (c49 : PySem.W.codeIn K cd49 "Hall.find_bill" = true)
    (k49 : PySem.W.keepIn K (.ref f49) = true)
    (a50 : PySem.W.findIn K (.ref C_Hall) "find_copy" = some (some (.ref f50)))
    (i50 : PySem.W.isFn K (.ref f50) = true)
    (l50 : K.lookup f50 = some ⟨oc50, od50, .func (PySem.W.fnOf "find_copy" "Hall.find_copy" (defArgs s_Hfindcopy) (defBody s_Hfindcopy) (defScope s_Hfindcopy) .none kV50 dc50 pm50 an50 cd50 ct50), sl50⟩)
    (c50 : PySem.W.codeIn K cd50 "Hall.find_copy" = true)
    (k50 : PySem.W.keepIn K (.ref f50) = true)
    (a51 : PySem.W.findIn K (.ref C_Hall) "house" = some (some (.ref f51)))
    (i51 : PySem.W.isFn K (.ref f51) = true)
    (l51 : K.lookup f51 = some ⟨oc51, od51, .func (PySem.W.fnOf "house" "Hall.house" (defArgs s_Hhouse) (defBody s_Hhouse) (defScope s_Hhouse) .none kV51 dc51 pm51 an51 cd51 ct51), sl51⟩)
    (c51 : PySem.W.codeIn K cd51 "Hall.house" = true)
    (k51 : PySem.W.keepIn K (.ref f51) = true)
    (a52 : PySem.W.findIn K (.ref C_Hall) "put_in" = some (some (.ref f52)))
    (i52 : PySem.W.isFn K (.ref f52) = true)
    (l52 : K.lookup f52 = some ⟨oc52, od52, .func (PySem.W.fnOf "put_in" "Hall.put_in" (defArgs s_Hputin) (defBody s_Hputin) (defScope s_Hputin) .none kV52 dc52 pm52 an52 cd52 ct52), sl52⟩)
    (c52 : PySem.W.codeIn K cd52 "Hall.put_in" = true)
    (k52 : PySem.W.keepIn K (.ref f52) = true)
    (a53 : PySem.W.findIn K (.ref C_Hall) "take_out" = some (some (.ref f53)))
    (i53 : PySem.W.isFn K (.ref f53) = true)
    (l53 : K.lookup f53 = some ⟨oc53, od53, .func (PySem.W.fnOf "take_out" "Hall.take_out" (defArgs s_Htakeout) (defBody s_Htakeout) (defScope s_Htakeout) .none kV53 dc53 pm53 an53 cd53 ct53), sl53⟩)
    (c53 : PySem.W.codeIn K cd53 "Hall.take_out" = true)
    (k53 : PySem.W.keepIn K (.ref f53) = true)
    (a54 : PySem.W.findIn K (.ref C_Hall) "fail" = some (some (.ref f54)))
    (i54 : PySem.W.isFn K (.ref f54) = true)
    (l54 : K.lookup f54 = some ⟨oc54, od54, .func (PySem.W.fnOf "fail" "Hall.fail" (defArgs s_Hfail) (defBody s_Hfail) (defScope s_Hfail) .none kV54 dc54 pm54 an54 cd54 ct54), sl54⟩)
    (c54 : PySem.W.codeIn K cd54 "Hall.fail" = true)
    (k54 : PySem.W.keepIn K (.ref f54) = true)
    (a55 : PySem.W.findIn K (.ref C_Hall) "mend" = some (some (.ref f55)))
    (i55 : PySem.W.isFn K (.ref f55) = true)
    (l55 : K.lookup f55 = some ⟨oc55, od55, .func (PySem.W.fnOf "mend" "Hall.mend" (defArgs s_Hmend) (defBody s_Hmend) (defScope s_Hmend) .none kV55 dc55 pm55 an55 cd55 ct55), sl55⟩)
    (c55 : PySem.W.codeIn K cd55 "Hall.mend" = true)
    (k55 : PySem.W.keepIn K (.ref f55) = true)
    (a56 : PySem.W.findIn K (.ref C_Hall) "pass_days" = some (some (.ref f56)))
    (i56 : PySem.W.isFn K (.ref f56) = true)
    (l56 : K.lookup f56 = some ⟨oc56, od56, .func (PySem.W.fnOf "pass_days" "Hall.pass_days" (defArgs s_Hpassdays) (defBody s_Hpassdays) (defScope s_Hpassdays) .none kV56 dc56 pm56 an56 cd56 ct56), sl56⟩)
    (c56 : PySem.W.codeIn K cd56 "Hall.pass_days" = true)
    (k56 : PySem.W.keepIn K (.ref f56) = true)
    (a57 : PySem.W.findIn K (.ref C_Hall) "draw" = some (some (.ref f57)))
    (i57 : PySem.W.isFn K (.ref f57) = true)
    (l57 : K.lookup f57 = some ⟨oc57, od57, .func (PySem.W.fnOf "draw" "Hall.draw" (defArgs s_Hdraw) (defBody s_Hdraw) (defScope s_Hdraw) .none kV57 dc57 pm57 an57 cd57 ct57), sl57⟩)
    (c57 : PySem.W.codeIn K cd57 "Hall.draw" = true)
    (k57 : PySem.W.keepIn K (.ref f57) = true)
    (a58 : PySem.W.findIn K (.ref C_Hall) "accept" = some (some (.ref f58)))
    (i58 : PySem.W.isFn K (.ref f58) = true)
    (l58 : K.lookup f58 = some ⟨oc58, od58, .func (PySem.W.fnOf "accept" "Hall.accept" (defArgs s_Haccept) (defBody s_Haccept) (defScope s_Haccept) .none kV58 dc58 pm58 an58 cd58 ct58), sl58⟩)
    (c58 : PySem.W.codeIn K cd58 "Hall.accept" = true)
    (k58 : PySem.W.keepIn K (.ref f58) = true)
    (a59 : PySem.W.findIn K (.ref C_Hall) "sign" = some (some (.ref f59)))
    (i59 : PySem.W.isFn K (.ref f59) = true)
    (l59 : K.lookup f59 = some ⟨oc59, od59, .func (PySem.W.fnOf "sign" "Hall.sign" (defArgs s_Hsign) (defBody s_Hsign) (defScope s_Hsign) .none kV59 dc59 pm59 an59 cd59 ct59), sl59⟩)
    (c59 : PySem.W.codeIn K cd59 "Hall.sign" = true)
    (k59 : PySem.W.keepIn K (.ref f59) = true)
    (a60 : PySem.W.findIn K (.ref C_Hall) "sign_blank" = some (some (.ref f60)))
    (i60 : PySem.W.isFn K (.ref f60) = true)
    (l60 : K.lookup f60 = some ⟨oc60, od60, .func (PySem.W.fnOf "sign_blank" "Hall.sign_blank" (defArgs s_Hsignblank) (defBody s_Hsignblank) (defScope s_Hsignblank) .none kV60 dc60 pm60 an60 cd60 ct60), sl60⟩)
    (c60 : PySem.W.codeIn K cd60 "Hall.sign_blank" = true)
    (k60 : PySem.W.keepIn K (.ref f60) = true)
    (a61 : PySem.W.findIn K (.ref C_Hall) "sign_on" = some (some (.ref f61)))
    (i61 : PySem.W.isFn K (.ref f61) = true)
    (l61 : K.lookup f61 = some ⟨oc61, od61, .func (PySem.W.fnOf "sign_on" "Hall.sign_on" (defArgs s_Hsignon) (defBody s_Hsignon) (defScope s_Hsignon) .none kV61 dc61 pm61 an61 cd61 ct61), sl61⟩)
    (c61 : PySem.W.codeIn K cd61 "Hall.sign_on" = true)
    (k61 : PySem.W.keepIn K (.ref f61) = true)
    (a62 : PySem.W.findIn K (.ref C_Hall) "hand" = some (some (.ref f62)))
    (i62 : PySem.W.isFn K (.ref f62) = true)
    (l62 : K.lookup f62 = some ⟨oc62, od62, .func (PySem.W.fnOf "hand" "Hall.hand" (defArgs s_Hhand) (defBody s_Hhand) (defScope s_Hhand) .none kV62 dc62 pm62 an62 cd62 ct62), sl62⟩)
    (c62 : PySem.W.codeIn K cd62 "Hall.hand" = true)
    (k62 : PySem.W.keepIn K (.ref f62) = true)
    (a63 : PySem.W.findIn K (.ref C_Hall) "lose" = some (some (.ref f63)))
    (i63 : PySem.W.isFn K (.ref f63) = true)
    (l63 : K.lookup f63 = some ⟨oc63, od63, .func (PySem.W.fnOf "lose" "Hall.lose" (defArgs s_Hlose) (defBody s_Hlose) (defScope s_Hlose) .none kV63 dc63 pm63 an63 cd63 ct63), sl63⟩)
    (c63 : PySem.W.codeIn K cd63 "Hall.lose" = true)
    (k63 : PySem.W.keepIn K (.ref f63) = true)
    (a64 : PySem.W.findIn K (.ref C_Hall) "present" = some (some (.ref f64)))
    (i64 : PySem.W.isFn K (.ref f64) = true)
    (l64 : K.lookup f64 = some ⟨oc64, od64, .func (PySem.W.fnOf "present" "Hall.present" (defArgs s_Hpresent) (defBody s_Hpresent) (defScope s_Hpresent) .none kV64 dc64 pm64 an64 cd64 ct64), sl64⟩)
    (c64 : PySem.W.codeIn K cd64 "Hall.present" = true)
    (k64 : PySem.W.keepIn K (.ref f64) = true)
    (a65 : PySem.W.findIn K (.ref C_Hall) "protest" = some (some (.ref f65)))
    (i65 : PySem.W.isFn K (.ref f65) = true)
    (l65 : K.lookup f65 = some ⟨oc65, od65, .func (PySem.W.fnOf "protest" "Hall.protest" (defArgs s_Hprotest) (defBody s_Hprotest) (defScope s_Hprotest) .none kV65 dc65 pm65 an65 cd65 ct65), sl65⟩)
    (c65 : PySem.W.codeIn K cd65 "Hall.protest" = true)
    (k65 : PySem.W.keepIn K (.ref f65) = true)
    (a66 : PySem.W.findIn K (.ref C_Hall) "ask" = some (some (.ref f66)))
    (i66 : PySem.W.isFn K (.ref f66) = true)
    (l66 : K.lookup f66 = some ⟨oc66, od66, .func (PySem.W.fnOf "ask" "Hall.ask" (defArgs s_Hask) (defBody s_Hask) (defScope s_Hask) .none kV66 dc66 pm66 an66 cd66 ct66), sl66⟩)
    (c66 : PySem.W.codeIn K cd66 "Hall.ask" = true)
    (k66 : PySem.W.keepIn K (.ref f66) = true)
    (a67 : PySem.W.findIn K (.ref C_Hall) "honour" = some (some (.ref f67)))
    (i67 : PySem.W.isFn K (.ref f67) = true)
    (l67 : K.lookup f67 = some ⟨oc67, od67, .func (PySem.W.fnOf "honour" "Hall.honour" (defArgs s_Hhonour) (defBody s_Hhonour) (defScope s_Hhonour) .none kV67 dc67 pm67 an67 cd67 ct67), sl67⟩)
    (c67 : PySem.W.codeIn K cd67 "Hall.honour" = true)
    (k67 : PySem.W.keepIn K (.ref f67) = true)
    (a68 : PySem.W.findIn K (.ref C_Hall) "fair" = some (some (.ref f68)))
    (i68 : PySem.W.isFn K (.ref f68) = true)
    (l68 : K.lookup f68 = some ⟨oc68, od68, .func (PySem.W.fnOf "fair" "Hall.fair" (defArgs s_Hfair) (defBody s_Hfair) (defScope s_Hfair) .none kV68 dc68 pm68 an68 cd68 ct68), sl68⟩)
    (c68 : PySem.W.codeIn K cd68 "Hall.fair" = true)
    (k68 : PySem.W.keepIn K (.ref f68) = true)
    (a69 : PySem.W.findIn K (.ref C_Hall) "names" = some (some (.ref f69)))
    (i69 : PySem.W.isFn K (.ref f69) = true)
    (l69 : K.lookup f69 = some ⟨oc69, od69, .func (PySem.W.fnOf "names" "Hall.names" (defArgs s_Hnames) (defBody s_Hnames) (defScope s_Hnames) .none kV69 dc69 pm69 an69 cd69 ct69), sl69⟩)
    (c69 : PySem.W.codeIn K cd69 "Hall.names" = true)
    (k69 : PySem.W.keepIn K (.ref f69) = true)
    (a70 : PySem.W.findIn K (.ref C_Hall) "coins" = some (some (.ref f70)))
    (i70 : PySem.W.isFn K (.ref f70) = true)
    (l70 : K.lookup f70 = some ⟨oc70, od70, .func (PySem.W.fnOf "coins" "Hall.coins" (defArgs s_Hcoins) (defBody s_Hcoins) (defScope s_Hcoins) .none kV70 dc70 pm70 an70 cd70 ct70), sl70⟩)
    (c70 : PySem.W.codeIn K cd70 "Hall.coins" = true)
    (k70 : PySem.W.keepIn K (.ref f70) = true)
    (a71 : PySem.W.findIn K (.ref C_Hall) "stands" = some (some (.ref f71)))
    (i71 : PySem.W.isFn K (.ref f71) = true)
    (l71 : K.lookup f71 = some ⟨oc71, od71, .func (PySem.W.fnOf "stands" "Hall.stands" (defArgs s_Hstands) (defBody s_Hstands) (defScope s_Hstands) .none kV71 dc71 pm71 an71 cd71 ct71), sl71⟩)
    (c71 : PySem.W.codeIn K cd71 "Hall.stands" = true)
    (k71 : PySem.W.keepIn K (.ref f71) = true)
    (a72 : PySem.W.findIn K (.ref C_Hall) "can_pay" = some (some (.ref f72)))
    (i72 : PySem.W.isFn K (.ref f72) = true)
    (l72 : K.lookup f72 = some ⟨oc72, od72, .func (PySem.W.fnOf "can_pay" "Hall.can_pay" (defArgs s_Hcanpay) (defBody s_Hcanpay) (defScope s_Hcanpay) .none kV72 dc72 pm72 an72 cd72 ct72), sl72⟩)
    (c72 : PySem.W.codeIn K cd72 "Hall.can_pay" = true)
    (k72 : PySem.W.keepIn K (.ref f72) = true)
    (a73 : PySem.W.findIn K (.ref C_Hall) "today" = some (some (.ref f73)))
    (i73 : PySem.W.isFn K (.ref f73) = true)
    (l73 : K.lookup f73 = some ⟨oc73, od73, .func (PySem.W.fnOf "today" "Hall.today" (defArgs s_Htoday) (defBody s_Htoday) (defScope s_Htoday) .none kV73 dc73 pm73 an73 cd73 ct73), sl73⟩)
    (c73 : PySem.W.codeIn K cd73 "Hall.today" = true)
    (k73 : PySem.W.keepIn K (.ref f73) = true)
    (a74 : PySem.W.findIn K (.ref C_Hall) "many_bills" = some (some (.ref f74)))
    (i74 : PySem.W.isFn K (.ref f74) = true)
    (l74 : K.lookup f74 = some ⟨oc74, od74, .func (PySem.W.fnOf "many_bills" "Hall.many_bills" (defArgs s_Hmanybills) (defBody s_Hmanybills) (defScope s_Hmanybills) .none kV74 dc74 pm74 an74 cd74 ct74), sl74⟩)
    (c74 : PySem.W.codeIn K cd74 "Hall.many_bills" = true)
    (k74 : PySem.W.keepIn K (.ref f74) = true)
    (a75 : PySem.W.findIn K (.ref C_Hall) "paper" = some (some (.ref f75)))
    (i75 : PySem.W.isFn K (.ref f75) = true)
    (l75 : K.lookup f75 = some ⟨oc75, od75, .func (PySem.W.fnOf "paper" "Hall.paper" (defArgs s_Hpaper) (defBody s_Hpaper) (defScope s_Hpaper) .none kV75 dc75 pm75 an75 cd75 ct75), sl75⟩)
    (c75 : PySem.W.codeIn K cd75 "Hall.paper" = true)
    (k75 : PySem.W.keepIn K (.ref f75) = true)
    (a76 : PySem.W.findIn K (.ref C_Hall) "state" = some (some (.ref f76)))
    (i76 : PySem.W.isFn K (.ref f76) = true)
    (l76 : K.lookup f76 = some ⟨oc76, od76, .func (PySem.W.fnOf "state" "Hall.state" (defArgs s_Hstate) (defBody s_Hstate) (defScope s_Hstate) .none kV76 dc76 pm76 an76 cd76 ct76), sl76⟩)
    (c76 : PySem.W.codeIn K cd76 "Hall.state" = true)
    (k76 : PySem.W.keepIn K (.ref f76) = true)
    (a77 : PySem.W.findIn K (.ref C_Hall) "holder" = some (some (.ref f77)))
    (i77 : PySem.W.isFn K (.ref f77) = true)
    (l77 : K.lookup f77 = some ⟨oc77, od77, .func (PySem.W.fnOf "holder" "Hall.holder" (defArgs s_Hholder) (defBody s_Hholder) (defScope s_Hholder) .none kV77 dc77 pm77 an77 cd77 ct77), sl77⟩)
    (c77 : PySem.W.codeIn K cd77 "Hall.holder" = true)
    (k77 : PySem.W.keepIn K (.ref f77) = true)
    (a78 : PySem.W.findIn K (.ref C_Hall) "copy_of" = some (some (.ref f78)))
    (i78 : PySem.W.isFn K (.ref f78) = true)
    (l78 : K.lookup f78 = some ⟨oc78, od78, .func (PySem.W.fnOf "copy_of" "Hall.copy_of" (defArgs s_Hcopyof) (defBody s_Hcopyof) (defScope s_Hcopyof) .none kV78 dc78 pm78 an78 cd78 ct78), sl78⟩)
    (c78 : PySem.W.codeIn K cd78 "Hall.copy_of" = true)
    (k78 : PySem.W.keepIn K (.ref f78) = true)
    (a79 : PySem.W.findIn K (.ref C_Hall) "row" = some (some (.ref f79)))
    (i79 : PySem.W.isFn K (.ref f79) = true)
    (l79 : K.lookup f79 = some ⟨oc79, od79, .func (PySem.W.fnOf "row" "Hall.row" (defArgs s_Hrow) (defBody s_Hrow) (defScope s_Hrow) .none kV79 dc79 pm79 an79 cd79 ct79), sl79⟩)
    (c79 : PySem.W.codeIn K cd79 "Hall.row" = true)
    (k79 : PySem.W.keepIn K (.ref f79) = true)
    (a80 : PySem.W.findIn K (.ref C_Hall) "story" = some (some (.ref f80)))
    (i80 : PySem.W.isFn K (.ref f80) = true)
    (l80 : K.lookup f80 = some ⟨oc80, od80, .func (PySem.W.fnOf "story" "Hall.story" (defArgs s_Hstory) (defBody s_Hstory) (defScope s_Hstory) .none kV80 dc80 pm80 an80 cd80 ct80), sl80⟩)
    (c80 : PySem.W.codeIn K cd80 "Hall.story" = true)
    (k80 : PySem.W.keepIn K (.ref f80) = true)
    (a81 : PySem.W.findIn K (.ref C_Hall) "moment" = some (some (.ref f81)))
    (i81 : PySem.W.isFn K (.ref f81) = true)
    (l81 : K.lookup f81 = some ⟨oc81, od81, .func (PySem.W.fnOf "moment" "Hall.moment" (defArgs s_Hmoment) (defBody s_Hmoment) (defScope s_Hmoment) .none kV81 dc81 pm81 an81 cd81 ct81), sl81⟩)
    (c81 : PySem.W.codeIn K cd81 "Hall.moment" = true)
    (k81 : PySem.W.keepIn K (.ref f81) = true)
    (pg_Bill : PySem.W.plainGet K C_Bill Str.empty = true)
    (hd_Bill : PySem.W.hasDictIn K C_Bill = true)
    (po_Bill : PySem.W.plainOver K C_Bill = true)
    (sa_Bill : PySem.W.findIn K (.ref C_Bill) "__setattr__" = some (some (.builtin "object.__setattr__")))
    (mk_Bill : PySem.W.makesIn K C_Bill = true)
    (kc_Bill : PySem.W.keepIn K (.ref C_Bill) = true)
    (n_Bill_drawee : PySem.W.findIn K (.ref C_Bill) "drawee" = some none)
    (n_Bill_payee : PySem.W.findIn K (.ref C_Bill) "payee" = some none)
    (n_Bill_amount : PySem.W.findIn K (.ref C_Bill) "amount" = some none)
    (n_Bill_due : PySem.W.findIn K (.ref C_Bill) "due" = some none)
    (n_Bill_places : PySem.W.findIn K (.ref C_Bill) "places" = some none)
    (n_Bill_keeper : PySem.W.findIn K (.ref C_Bill) "keeper" = some none)
    (n_Bill_phase : PySem.W.findIn K (.ref C_Bill) "phase" = some none)
    (n_Bill_issue : PySem.W.findIn K (.ref C_Bill) "issue" = some none)
    (n_Bill_blank : PySem.W.findIn K (.ref C_Bill) "blank" = some none)
    (pg_Purses : PySem.W.plainGet K C_Purses Str.empty = true)
    (hd_Purses : PySem.W.hasDictIn K C_Purses = true)
    (po_Purses : PySem.W.plainOver K C_Purses = true)
    (sa_Purses : PySem.W.findIn K (.ref C_Purses) "__setattr__" = some (some (.builtin "object.__setattr__")))
    (mk_Purses : PySem.W.makesIn K C_Purses = true)
    (kc_Purses : PySem.W.keepIn K (.ref C_Purses) = true)
    (n_Purses_held : PySem.W.findIn K (.ref C_Purses) "held" = some none)
    (pg_Hall : PySem.W.plainGet K C_Hall Str.empty = true)
    (hd_Hall : PySem.W.hasDictIn K C_Hall = true)
    (po_Hall : PySem.W.plainOver K C_Hall = true)
    (sa_Hall : PySem.W.findIn K (.ref C_Hall) "__setattr__" = some (some (.builtin "object.__setattr__")))
    (mk_Hall : PySem.W.makesIn K C_Hall = true)
    (kc_Hall : PySem.W.keepIn K (.ref C_Hall) = true)
    (n_Hall_purses : PySem.W.findIn K (.ref C_Hall) "purses" = some none)
    (n_Hall_failed : PySem.W.findIn K (.ref C_Hall) "failed" = some none)
    (n_Hall_day : PySem.W.findIn K (.ref C_Hall) "day" = some none)
    (n_Hall_bills : PySem.W.findIn K (.ref C_Hall) "bills" = some none)
    (n_Hall_deeds : PySem.W.findIn K (.ref C_Hall) "deeds" = some none)
    (gH : PySem.W.nsIn K mainGlobals "HallError" = some (some (.ref cH)))
    (bH : PySem.W.subIn K (.ref cH) (.type "BaseException") = some true)
    (hH : PySem.W.hasDictIn K cH = true)
    (tH : PySem.W.typeIn K (.ref cH) = some (.type "type"))
    (g_BadName : PySem.W.nsIn K mainGlobals "BadName" = some (some (.ref cBadName)))
    (x_BadName : PySem.W.excIn K cBadName veTl "ValueError.__new__" = true)
    (k_BadName : PySem.W.keepIn K (.ref cBadName) = true)
    (b_BadName : PySem.W.subIn K (.ref cBadName) (.type "BaseException") = some true)
    (t_BadName : PySem.W.typeIn K (.ref cBadName) = some (.type "type"))
    (s_BadName : PySem.W.subIn K (.ref cBadName) (.ref cH) = some true)
    (g_Taken : PySem.W.nsIn K mainGlobals "Taken" = some (some (.ref cTaken)))
    (x_Taken : PySem.W.excIn K cTaken veTl "ValueError.__new__" = true)
    (k_Taken : PySem.W.keepIn K (.ref cTaken) = true)
    (b_Taken : PySem.W.subIn K (.ref cTaken) (.type "BaseException") = some true)
    (t_Taken : PySem.W.typeIn K (.ref cTaken) = some (.type "type"))
    (s_Taken : PySem.W.subIn K (.ref cTaken) (.ref cH) = some true)
    (g_BadCoins : PySem.W.nsIn K mainGlobals "BadCoins" = some (some (.ref cBadCoins)))
    (x_BadCoins : PySem.W.excIn K cBadCoins veTl "ValueError.__new__" = true)
    (k_BadCoins : PySem.W.keepIn K (.ref cBadCoins) = true)
    (b_BadCoins : PySem.W.subIn K (.ref cBadCoins) (.type "BaseException") = some true)
    (t_BadCoins : PySem.W.typeIn K (.ref cBadCoins) = some (.type "type"))
    (s_BadCoins : PySem.W.subIn K (.ref cBadCoins) (.ref cH) = some true)
    (g_Full : PySem.W.nsIn K mainGlobals "Full" = some (some (.ref cFull)))
    (x_Full : PySem.W.excIn K cFull veTl "ValueError.__new__" = true)
    (k_Full : PySem.W.keepIn K (.ref cFull) = true)
    (b_Full : PySem.W.subIn K (.ref cFull) (.type "BaseException") = some true)
    (t_Full : PySem.W.typeIn K (.ref cFull) = some (.type "type"))
    (s_Full : PySem.W.subIn K (.ref cFull) (.ref cH) = some true)
    (g_NoHouse : PySem.W.nsIn K mainGlobals "NoHouse" = some (some (.ref cNoHouse)))
    (x_NoHouse : PySem.W.excIn K cNoHouse veTl "ValueError.__new__" = true)
    (k_NoHouse : PySem.W.keepIn K (.ref cNoHouse) = true)
    (b_NoHouse : PySem.W.subIn K (.ref cNoHouse) (.type "BaseException") = some true)
    (t_NoHouse : PySem.W.typeIn K (.ref cNoHouse) = some (.type "type"))
    (s_NoHouse : PySem.W.subIn K (.ref cNoHouse) (.ref cH) = some true)
    (g_NoCoins : PySem.W.nsIn K mainGlobals "NoCoins" = some (some (.ref cNoCoins)))
    (x_NoCoins : PySem.W.excIn K cNoCoins veTl "ValueError.__new__" = true)
    (k_NoCoins : PySem.W.keepIn K (.ref cNoCoins) = true)
    (b_NoCoins : PySem.W.subIn K (.ref cNoCoins) (.type "BaseException") = some true)
    (t_NoCoins : PySem.W.typeIn K (.ref cNoCoins) = some (.type "type"))
    (s_NoCoins : PySem.W.subIn K (.ref cNoCoins) (.ref cH) = some true)
    (g_Failed : PySem.W.nsIn K mainGlobals "Failed" = some (some (.ref cFailed)))
    (x_Failed : PySem.W.excIn K cFailed veTl "ValueError.__new__" = true)
    (k_Failed : PySem.W.keepIn K (.ref cFailed) = true)
    (b_Failed : PySem.W.subIn K (.ref cFailed) (.type "BaseException") = some true)
    (t_Failed : PySem.W.typeIn K (.ref cFailed) = some (.type "type"))
    (s_Failed : PySem.W.subIn K (.ref cFailed) (.ref cH) = some true)
    (g_Standing : PySem.W.nsIn K mainGlobals "Standing" = some (some (.ref cStanding)))
    (x_Standing : PySem.W.excIn K cStanding veTl "ValueError.__new__" = true)
    (k_Standing : PySem.W.keepIn K (.ref cStanding) = true)
    (b_Standing : PySem.W.subIn K (.ref cStanding) (.type "BaseException") = some true)
    (t_Standing : PySem.W.typeIn K (.ref cStanding) = some (.type "type"))
    (s_Standing : PySem.W.subIn K (.ref cStanding) (.ref cH) = some true)
    (g_BadCount : PySem.W.nsIn K mainGlobals "BadCount" = some (some (.ref cBadCount)))
    (x_BadCount : PySem.W.excIn K cBadCount veTl "ValueError.__new__" = true)
    (k_BadCount : PySem.W.keepIn K (.ref cBadCount) = true)
    (b_BadCount : PySem.W.subIn K (.ref cBadCount) (.type "BaseException") = some true)
    (t_BadCount : PySem.W.typeIn K (.ref cBadCount) = some (.type "type"))
    (s_BadCount : PySem.W.subIn K (.ref cBadCount) (.ref cH) = some true)
    (g_BadDay : PySem.W.nsIn K mainGlobals "BadDay" = some (some (.ref cBadDay)))
    (x_BadDay : PySem.W.excIn K cBadDay veTl "ValueError.__new__" = true)
    (k_BadDay : PySem.W.keepIn K (.ref cBadDay) = true)
    (b_BadDay : PySem.W.subIn K (.ref cBadDay) (.type "BaseException") = some true)
    (t_BadDay : PySem.W.typeIn K (.ref cBadDay) = some (.type "type"))
    (s_BadDay : PySem.W.subIn K (.ref cBadDay) (.ref cH) = some true)
    (g_NoBill : PySem.W.nsIn K mainGlobals "NoBill" = some (some (.ref cNoBill)))
    (x_NoBill : PySem.W.excIn K cNoBill veTl "ValueError.__new__" = true)
    (k_NoBill : PySem.W.keepIn K (.ref cNoBill) = true)
    (b_NoBill : PySem.W.subIn K (.ref cNoBill) (.type "BaseException") = some true)
    (t_NoBill : PySem.W.typeIn K (.ref cNoBill) = some (.type "type"))
    (s_NoBill : PySem.W.subIn K (.ref cNoBill) (.ref cH) = some true)
    (g_Void : PySem.W.nsIn K mainGlobals "Void" = some (some (.ref cVoid)))
    (x_Void : PySem.W.excIn K cVoid veTl "ValueError.__new__" = true)
    (k_Void : PySem.W.keepIn K (.ref cVoid) = true)
    (b_Void : PySem.W.subIn K (.ref cVoid) (.type "BaseException") = some true)
    (t_Void : PySem.W.typeIn K (.ref cVoid) = some (.type "type"))
    (s_Void : PySem.W.subIn K (.ref cVoid) (.ref cH) = some true)
    (g_Closed : PySem.W.nsIn K mainGlobals "Closed" = some (some (.ref cClosed)))
    (x_Closed : PySem.W.excIn K cClosed veTl "ValueError.__new__" = true)
    (k_Closed : PySem.W.keepIn K (.ref cClosed) = true)
    (b_Closed : PySem.W.subIn K (.ref cClosed) (.type "BaseException") = some true)
    (t_Closed : PySem.W.typeIn K (.ref cClosed) = some (.type "type"))
    (s_Closed : PySem.W.subIn K (.ref cClosed) (.ref cH) = some true)
    (g_Accepted : PySem.W.nsIn K mainGlobals "Accepted" = some (some (.ref cAccepted)))
    (x_Accepted : PySem.W.excIn K cAccepted veTl "ValueError.__new__" = true)
    (k_Accepted : PySem.W.keepIn K (.ref cAccepted) = true)
    (b_Accepted : PySem.W.subIn K (.ref cAccepted) (.type "BaseException") = some true)
    (t_Accepted : PySem.W.typeIn K (.ref cAccepted) = some (.type "type"))
    (s_Accepted : PySem.W.subIn K (.ref cAccepted) (.ref cH) = some true)
    (g_Same : PySem.W.nsIn K mainGlobals "Same" = some (some (.ref cSame)))
    (x_Same : PySem.W.excIn K cSame veTl "ValueError.__new__" = true)
    (k_Same : PySem.W.keepIn K (.ref cSame) = true)
    (b_Same : PySem.W.subIn K (.ref cSame) (.type "BaseException") = some true)
    (t_Same : PySem.W.typeIn K (.ref cSame) = some (.type "type"))
    (s_Same : PySem.W.subIn K (.ref cSame) (.ref cH) = some true)
    (g_NotBlank : PySem.W.nsIn K mainGlobals "NotBlank" = some (some (.ref cNotBlank)))
    (x_NotBlank : PySem.W.excIn K cNotBlank veTl "ValueError.__new__" = true)
    (k_NotBlank : PySem.W.keepIn K (.ref cNotBlank) = true)
    (b_NotBlank : PySem.W.subIn K (.ref cNotBlank) (.type "BaseException") = some true)
    (t_NotBlank : PySem.W.typeIn K (.ref cNotBlank) = some (.type "type"))
    (s_NotBlank : PySem.W.subIn K (.ref cNotBlank) (.ref cH) = some true)
    (g_NotYet : PySem.W.nsIn K mainGlobals "NotYet" = some (some (.ref cNotYet)))
    (x_NotYet : PySem.W.excIn K cNotYet veTl "ValueError.__new__" = true)
    (k_NotYet : PySem.W.keepIn K (.ref cNotYet) = true)
    (b_NotYet : PySem.W.subIn K (.ref cNotYet) (.type "BaseException") = some true)
    (t_NotYet : PySem.W.typeIn K (.ref cNotYet) = some (.type "type"))
    (s_NotYet : PySem.W.subIn K (.ref cNotYet) (.ref cH) = some true)
    (g_NotPresented : PySem.W.nsIn K mainGlobals "NotPresented" = some (some (.ref cNotPresented)))
    (x_NotPresented : PySem.W.excIn K cNotPresented veTl "ValueError.__new__" = true)
    (k_NotPresented : PySem.W.keepIn K (.ref cNotPresented) = true)
    (b_NotPresented : PySem.W.subIn K (.ref cNotPresented) (.type "BaseException") = some true)
    (t_NotPresented : PySem.W.typeIn K (.ref cNotPresented) = some (.type "type"))
    (s_NotPresented : PySem.W.subIn K (.ref cNotPresented) (.ref cH) = some true)
    (g_Protested : PySem.W.nsIn K mainGlobals "Protested" = some (some (.ref cProtested)))
    (x_Protested : PySem.W.excIn K cProtested veTl "ValueError.__new__" = true)
    (k_Protested : PySem.W.keepIn K (.ref cProtested) = true)
    (b_Protested : PySem.W.subIn K (.ref cProtested) (.type "BaseException") = some true)
    (t_Protested : PySem.W.typeIn K (.ref cProtested) = some (.type "type"))
    (s_Protested : PySem.W.subIn K (.ref cProtested) (.ref cH) = some true)
    (g_TooLate : PySem.W.nsIn K mainGlobals "TooLate" = some (some (.ref cTooLate)))
    (x_TooLate : PySem.W.excIn K cTooLate veTl "ValueError.__new__" = true)
    (k_TooLate : PySem.W.keepIn K (.ref cTooLate) = true)
    (b_TooLate : PySem.W.subIn K (.ref cTooLate) (.type "BaseException") = some true)
    (t_TooLate : PySem.W.typeIn K (.ref cTooLate) = some (.type "type"))
    (s_TooLate : PySem.W.subIn K (.ref cTooLate) (.ref cH) = some true)
    (g_NotBound : PySem.W.nsIn K mainGlobals "NotBound" = some (some (.ref cNotBound)))
    (x_NotBound : PySem.W.excIn K cNotBound veTl "ValueError.__new__" = true)
    (k_NotBound : PySem.W.keepIn K (.ref cNotBound) = true)
    (b_NotBound : PySem.W.subIn K (.ref cNotBound) (.type "BaseException") = some true)
    (t_NotBound : PySem.W.typeIn K (.ref cNotBound) = some (.type "type"))
    (s_NotBound : PySem.W.subIn K (.ref cNotBound) (.ref cH) = some true)
    (g_CantPay : PySem.W.nsIn K mainGlobals "CantPay" = some (some (.ref cCantPay)))
    (x_CantPay : PySem.W.excIn K cCantPay veTl "ValueError.__new__" = true)
    (k_CantPay : PySem.W.keepIn K (.ref cCantPay) = true)
    (b_CantPay : PySem.W.subIn K (.ref cCantPay) (.type "BaseException") = some true)
    (t_CantPay : PySem.W.typeIn K (.ref cCantPay) = some (.type "type"))
    (s_CantPay : PySem.W.subIn K (.ref cCantPay) (.ref cH) = some true)
    (g_NotProtested : PySem.W.nsIn K mainGlobals "NotProtested" = some (some (.ref cNotProtested)))
    (x_NotProtested : PySem.W.excIn K cNotProtested veTl "ValueError.__new__" = true)
    (k_NotProtested : PySem.W.keepIn K (.ref cNotProtested) = true)
    (b_NotProtested : PySem.W.subIn K (.ref cNotProtested) (.type "BaseException") = some true)
    (t_NotProtested : PySem.W.typeIn K (.ref cNotProtested) = some (.type "type"))
    (s_NotProtested : PySem.W.subIn K (.ref cNotProtested) (.ref cH) = some true)
    (g_IsBound : PySem.W.nsIn K mainGlobals "IsBound" = some (some (.ref cIsBound)))
    (x_IsBound : PySem.W.excIn K cIsBound veTl "ValueError.__new__" = true)
    (k_IsBound : PySem.W.keepIn K (.ref cIsBound) = true)
    (b_IsBound : PySem.W.subIn K (.ref cIsBound) (.type "BaseException") = some true)
    (t_IsBound : PySem.W.typeIn K (.ref cIsBound) = some (.type "type"))
    (s_IsBound : PySem.W.subIn K (.ref cIsBound) (.ref cH) = some true)
    (g_Twice : PySem.W.nsIn K mainGlobals "Twice" = some (some (.ref cTwice)))
    (x_Twice : PySem.W.excIn K cTwice veTl "ValueError.__new__" = true)
    (k_Twice : PySem.W.keepIn K (.ref cTwice) = true)
    (b_Twice : PySem.W.subIn K (.ref cTwice) (.type "BaseException") = some true)
    (t_Twice : PySem.W.typeIn K (.ref cTwice) = some (.type "type"))
    (s_Twice : PySem.W.subIn K (.ref cTwice) (.ref cH) = some true)
    (z_len : PySem.W.nsIn K mainGlobals "len" = some none)
    (z_range : PySem.W.nsIn K mainGlobals "range" = some none)
    (z_abs : PySem.W.nsIn K mainGlobals "abs" = some none)
    (z_int : PySem.W.nsIn K mainGlobals "int" = some none)
    (z_sum : PySem.W.nsIn K mainGlobals "sum" = some none)
    (z_isinstance : PySem.W.nsIn K mainGlobals "isinstance" = some none)
    (z_tuple : PySem.W.nsIn K mainGlobals "tuple" = some none)
    (z_list : PySem.W.nsIn K mainGlobals "list" = some none)
    (z_all : PySem.W.nsIn K mainGlobals "all" = some none)
    (z_bool : PySem.W.nsIn K mainGlobals "bool" = some none)
    (z_max : PySem.W.nsIn K mainGlobals "max" = some none)
    (z_enumerate : PySem.W.nsIn K mainGlobals "enumerate" = some none)
    (z_sorted : PySem.W.nsIn K mainGlobals "sorted" = some none)
    (z_str : PySem.W.nsIn K mainGlobals "str" = some none)
    : ∃ fd : FuncData, (∀ (s : Shared) (v : Value), BindsTo s fd ⟨[v], []⟩ [("_law_script", v)]) ∧ ∀ base : Heap, K.In base → base.Ns mainGlobals mg → FnOk l.prog w K mg base CX0 11 fa fd ["_law_script"] (spLaw K) := by
  have e := hfa.symm.trans (PySem.W.mg_of X G a35)
  cases e
  have F0 := fun_mk (st := s_check_names) l0 c0 k0
  have b0 := F0.binds (ps := ["hall", "names"]) fun _ _ _ _ _ _ us hl => match us, hl with | [_, _], _ => rfl
  have F1 := fun_mk (st := s_stands_there) l1 c1 k1
  have b1 := F1.binds (ps := ["hall", "names", "bill"]) fun _ _ _ _ _ _ us hl => match us, hl with | [_, _, _], _ => rfl
  have F2 := fun_mk (st := s_fair_bills) l2 c2 k2
  have b2 := F2.binds (ps := ["hall", "names"]) fun _ _ _ _ _ _ us hl => match us, hl with | [_, _], _ => rfl
  have F3 := fun_mk (st := s_debts) l3 c3 k3
  have b3 := F3.binds (ps := ["hall", "names"]) fun _ _ _ _ _ _ us hl => match us, hl with | [_, _], _ => rfl
  have F4 := fun_mk (st := s_paid_by) l4 c4 k4
  have b4 := F4.binds (ps := ["payments", "payer"]) fun _ _ _ _ _ _ us hl => match us, hl with | [_, _], _ => rfl
  have F5 := fun_mk (st := s_got_by) l5 c5 k5
  have b5 := F5.binds (ps := ["payments", "taker"]) fun _ _ _ _ _ _ us hl => match us, hl with | [_, _], _ => rfl
  have F6 := fun_mk (st := s_payments_of) l6 c6 k6
  have b6 := F6.binds (ps := ["owed", "payers"]) fun _ _ _ _ _ _ us hl => match us, hl with | [_, _], _ => rfl
  have F7 := fun_mk (st := s_crowd) l7 c7 k7
  have b7 := F7.binds (ps := ["hall", "names"]) fun _ _ _ _ _ _ us hl => match us, hl with | [_, _], _ => rfl
  have F8 := fun_mk (st := s_nets) l8 c8 k8
  have b8 := F8.binds (ps := ["hall", "names"]) fun _ _ _ _ _ _ us hl => match us, hl with | [_, _], _ => rfl
  have F9 := fun_mk (st := s_paid_bills) l9 c9 k9
  have b9 := F9.binds (ps := ["hall", "names"]) fun _ _ _ _ _ _ us hl => match us, hl with | [_, _], _ => rfl
  have F10 := fun_mk (st := s_check_amount) l10 c10 k10
  have b10 := F10.binds (ps := ["coins"]) fun _ _ _ _ _ _ us hl => match us, hl with | [_], _ => rfl
  have F11 := fun_mk (st := s_is_name) l11 c11 k11
  have b11 := F11.binds (ps := ["word"]) fun _ _ _ _ _ _ us hl => match us, hl with | [_], _ => rfl
  have F12 := fun_mk (st := s_reach) l12 c12 k12
  have b12 := F12.binds (ps := ["row", "house"]) fun _ _ _ _ _ _ us hl => match us, hl with | [_, _], _ => rfl
  have F13 := fun_mk (st := s_askable) l13 c13 k13
  have b13 := F13.binds (ps := ["row", "holder", "protested"]) fun _ _ _ _ _ _ us hl => match us, hl with | [_, _, _], _ => rfl
  have F14 := fun_mk (st := s_returned) l14 c14 k14
  have b14 := F14.binds (ps := ["row", "place"]) fun _ _ _ _ _ _ us hl => match us, hl with | [_, _], _ => rfl
  have F15 := fun_mk (st := s_honoured) l15 c15 k15
  have b15 := F15.binds (ps := ["row", "place"]) fun _ _ _ _ _ _ us hl => match us, hl with | [_, _], _ => rfl
  have F16 := fun_mk (st := s_check_returned) l16 c16 k16
  have b16 := F16.binds (ps := ["hall", "bill"]) fun _ _ _ _ _ _ us hl => match us, hl with | [_, _], _ => rfl
  have F17 := fun_mk (st := s_open_places) l17 c17 k17
  have b17 := F17.binds (ps := ["hall", "bill"]) fun _ _ _ _ _ _ us hl => match us, hl with | [_, _], _ => rfl
  have F18 := fun_mk (st := s_check_coins) l18 c18 k18
  have b18 := F18.binds (ps := ["coins", "least"]) fun _ _ _ _ _ _ us hl => match us, hl with | [_, _], _ => rfl
  have F19 := fun_mk (st := s_check_running) l19 c19 k19
  have b19 := F19.binds (ps := ["drawn"]) fun _ _ _ _ _ _ us hl => match us, hl with | [_], _ => rfl
  have F20 := fun_mk (st := s_Lfeed) l20 c20 k20
  have b20 := F20.binds (ps := ["_law_script"]) fun _ _ _ _ _ _ us hl => match us, hl with | [_], _ => rfl
  have F21 := fun_mk (st := s_Lname) l21 c21 k21
  have b21 := F21.binds (ps := ["_law_pick", "_law_k"]) fun _ _ _ _ _ _ us hl => match us, hl with | [_, _], _ => rfl
  have F22 := fun_mk (st := s_Lreach) l22 c22 k22
  have b22 := F22.binds (ps := ["_law_row", "_law_house"]) fun _ _ _ _ _ _ us hl => match us, hl with | [_, _], _ => rfl
  have F23 := fun_mk (st := s_Laskable) l23 c23 k23
  have b23 := F23.binds (ps := ["_law_row", "_law_holder", "_law_protested"]) fun _ _ _ _ _ _ us hl => match us, hl with | [_, _, _], _ => rfl
  have F24 := fun_mk (st := s_Lhouses) l24 c24 k24
  have b24 := F24.binds (ps := ["_law_feed_here"]) fun _ _ _ _ _ _ us hl => match us, hl with | [_], _ => rfl
  have F25 := fun_mk (st := s_Lbill_deed) l25 c25 k25
  have b25 := F25.binds (ps := ["_law_feed_here", "_law_at", "_law_state", "_law_word", "_law_to"]) fun _ _ _ _ _ _ us hl => match us, hl with | [_, _, _, _, _], _ => rfl
  have F26 := fun_mk (st := s_Lfair_names) l26 c26 k26
  have b26 := F26.binds (ps := ["_law_feed_here", "_law_at", "_law_names"]) fun _ _ _ _ _ _ us hl => match us, hl with | [_, _, _], _ => rfl
  have F27 := fun_mk (st := s_Ldeed) l27 c27 k27
  have b27 := F27.binds (ps := ["_law_feed_here", "_law_at", "_law_state"]) fun _ _ _ _ _ _ us hl => match us, hl with | [_, _, _], _ => rfl
  have F28 := fun_mk (st := s_Lsame) l28 c28 k28
  have b28 := F28.binds (ps := ["_law_found", "_law_due"]) fun _ _ _ _ _ _ us hl => match us, hl with | [_, _], _ => rfl
  have F29 := fun_mk (st := s_Lopen) l29 c29 k29
  have b29 := F29.binds (ps := ["_law_bill"]) fun _ _ _ _ _ _ us hl => match us, hl with | [_], _ => rfl
  have F30 := fun_mk (st := s_Lany_deed) l30 c30 k30
  have b30 := F30.binds (ps := ["_law_feed_here", "_law_at", "_law_state"]) fun _ _ _ _ _ _ us hl => match us, hl with | [_, _, _], _ => rfl
  have F31 := fun_mk (st := s_Lseen) l31 c31 k31
  have b31 := F31.binds (ps := ["_law_hall"]) fun _ _ _ _ _ _ us hl => match us, hl with | [_], _ => rfl
  have F32 := fun_mk (st := s_Lpaper_do) l32 c32 k32
  have b32 := F32.binds (ps := ["_law_hall", "_law_deed_here"]) fun _ _ _ _ _ _ us hl => match us, hl with | [_, _], _ => rfl
  have F33 := fun_mk (st := s_Ldo) l33 c33 k33
  have b33 := F33.binds (ps := ["_law_hall", "_law_deed_here"]) fun _ _ _ _ _ _ us hl => match us, hl with | [_, _], _ => rfl
  have F34 := fun_mk (st := s_Ldid) l34 c34 k34
  have b34 := F34.binds (ps := ["_law_hall", "_law_deed_here"]) fun _ _ _ _ _ _ us hl => match us, hl with | [_, _], _ => rfl
  have F35 := fun_mk (st := s_Law) l35 c35 k35
  have b35 := F35.binds (ps := ["_law_script"]) fun _ _ _ _ _ _ us hl => match us, hl with | [_], _ => rfl
  have F36 := fun_mk (st := s_Binit) l36 c36 k36
  have b36 := F36.binds (ps := ["self", "drawer", "drawee", "payee", "amount", "due", "bound"]) fun _ _ _ _ _ _ us hl => match us, hl with | [_, _, _, _, _, _, _], _ => rfl
  have F37 := fun_mk (st := s_Bwritten) l37 c37 k37
  have b37 := F37.binds (ps := ["self"]) fun _ _ _ _ _ _ us hl => match us, hl with | [_], _ => rfl
  have F38 := fun_mk (st := s_Minit) l38 c38 k38
  have b38 := F38.binds (ps := ["self"]) fun _ _ _ _ _ _ us hl => match us, hl with | [_], _ => rfl
  have F39 := fun_mk (st := s_Maddpurse) l39 c39 k39
  have b39 := F39.binds (ps := ["self", "name", "coins"]) fun _ _ _ _ _ _ us hl => match us, hl with | [_, _, _], _ => rfl
  have F40 := fun_mk (st := s_Mcoins) l40 c40 k40
  have b40 := F40.binds (ps := ["self", "name"]) fun _ _ _ _ _ _ us hl => match us, hl with | [_, _], _ => rfl
  have F41 := fun_mk (st := s_Mfill) l41 c41 k41
  have b41 := F41.binds (ps := ["self", "name", "coins"]) fun _ _ _ _ _ _ us hl => match us, hl with | [_, _, _], _ => rfl
  have F42 := fun_mk (st := s_Mspend) l42 c42 k42
  have b42 := F42.binds (ps := ["self", "name", "coins"]) fun _ _ _ _ _ _ us hl => match us, hl with | [_, _, _], _ => rfl
  have F43 := fun_mk (st := s_Mpay) l43 c43 k43
  have b43 := F43.binds (ps := ["self", "payer", "taker", "coins"]) fun _ _ _ _ _ _ us hl => match us, hl with | [_, _, _, _], _ => rfl
  have F44 := fun_mk (st := s_Mallnames) l44 c44 k44
  have b44 := F44.binds (ps := ["self"]) fun _ _ _ _ _ _ us hl => match us, hl with | [_], _ => rfl
  have F45 := fun_mk (st := s_Hinit) l45 c45 k45
  have b45 := F45.binds (ps := ["self"]) fun _ _ _ _ _ _ us hl => match us, hl with | [_], _ => rfl
  have F46 := fun_mk (st := s_Hcheckhouse) l46 c46 k46
  have b46 := F46.binds (ps := ["self", "name"]) fun _ _ _ _ _ _ us hl => match us, hl with | [_, _], _ => rfl
  have F47 := fun_mk (st := s_Hcheckstanding) l47 c47 k47
  have b47 := F47.binds (ps := ["self", "name"]) fun _ _ _ _ _ _ us hl => match us, hl with | [_, _], _ => rfl
  have F48 := fun_mk (st := s_Hcheckpayer) l48 c48 k48
  have b48 := F48.binds (ps := ["self", "name", "amount"]) fun _ _ _ _ _ _ us hl => match us, hl with | [_, _, _], _ => rfl
  have F49 := fun_mk (st := s_Hfindbill) l49 c49 k49
  have b49 := F49.binds (ps := ["self", "bill"]) fun _ _ _ _ _ _ us hl => match us, hl with | [_, _], _ => rfl
  have F50 := fun_mk (st := s_Hfindcopy) l50 c50 k50
  have b50 := F50.binds (ps := ["self", "bill", "copy"]) fun _ _ _ _ _ _ us hl => match us, hl with | [_, _, _], _ => rfl
  have F51 := fun_mk (st := s_Hhouse) l51 c51 k51
  have b51 := F51.binds (ps := ["self", "name", "coins"]) fun _ _ _ _ _ _ us hl => match us, hl with | [_, _, _], _ => rfl
  have F52 := fun_mk (st := s_Hputin) l52 c52 k52
  have b52 := F52.binds (ps := ["self", "name", "coins"]) fun _ _ _ _ _ _ us hl => match us, hl with | [_, _, _], _ => rfl
  have F53 := fun_mk (st := s_Htakeout) l53 c53 k53
  have b53 := F53.binds (ps := ["self", "name", "coins"]) fun _ _ _ _ _ _ us hl => match us, hl with | [_, _, _], _ => rfl
  have F54 := fun_mk (st := s_Hfail) l54 c54 k54
  have b54 := F54.binds (ps := ["self", "name"]) fun _ _ _ _ _ _ us hl => match us, hl with | [_, _], _ => rfl
  have F55 := fun_mk (st := s_Hmend) l55 c55 k55
  have b55 := F55.binds (ps := ["self", "name"]) fun _ _ _ _ _ _ us hl => match us, hl with | [_, _], _ => rfl
  have F56 := fun_mk (st := s_Hpassdays) l56 c56 k56
  have b56 := F56.binds (ps := ["self", "many"]) fun _ _ _ _ _ _ us hl => match us, hl with | [_, _], _ => rfl
  have F57 := fun_mk (st := s_Hdraw) l57 c57 k57
  have b57 := F57.binds (ps := ["self", "drawer", "drawee", "payee", "amount", "due", "bound"]) fun _ _ _ _ _ _ us hl => match us, hl with | [_, _, _, _, _, _, _], _ => rfl
  have F58 := fun_mk (st := s_Haccept) l58 c58 k58
  have b58 := F58.binds (ps := ["self", "bill", "copy"]) fun _ _ _ _ _ _ us hl => match us, hl with | [_, _, _], _ => rfl
  have F59 := fun_mk (st := s_Hsign) l59 c59 k59
  have b59 := F59.binds (ps := ["self", "bill", "copy", "to", "bound"]) fun _ _ _ _ _ _ us hl => match us, hl with | [_, _, _, _, _], _ => rfl
  have F60 := fun_mk (st := s_Hsignblank) l60 c60 k60
  have b60 := F60.binds (ps := ["self", "bill", "copy", "to", "bound"]) fun _ _ _ _ _ _ us hl => match us, hl with | [_, _, _, _, _], _ => rfl
  have F61 := fun_mk (st := s_Hsignon) l61 c61 k61
  have b61 := F61.binds (ps := ["self", "bill", "copy", "to", "bound", "blank"]) fun _ _ _ _ _ _ us hl => match us, hl with | [_, _, _, _, _, _], _ => rfl
  have F62 := fun_mk (st := s_Hhand) l62 c62 k62
  have b62 := F62.binds (ps := ["self", "bill", "copy", "to"]) fun _ _ _ _ _ _ us hl => match us, hl with | [_, _, _, _], _ => rfl
  have F63 := fun_mk (st := s_Hlose) l63 c63 k63
  have b63 := F63.binds (ps := ["self", "bill"]) fun _ _ _ _ _ _ us hl => match us, hl with | [_, _], _ => rfl
  have F64 := fun_mk (st := s_Hpresent) l64 c64 k64
  have b64 := F64.binds (ps := ["self", "bill", "copy"]) fun _ _ _ _ _ _ us hl => match us, hl with | [_, _, _], _ => rfl
  have F65 := fun_mk (st := s_Hprotest) l65 c65 k65
  have b65 := F65.binds (ps := ["self", "bill", "copy"]) fun _ _ _ _ _ _ us hl => match us, hl with | [_, _, _], _ => rfl
  have F66 := fun_mk (st := s_Hask) l66 c66 k66
  have b66 := F66.binds (ps := ["self", "bill", "copy", "place"]) fun _ _ _ _ _ _ us hl => match us, hl with | [_, _, _, _], _ => rfl
  have F67 := fun_mk (st := s_Hhonour) l67 c67 k67
  have b67 := F67.binds (ps := ["self", "bill", "copy", "name", "place"]) fun _ _ _ _ _ _ us hl => match us, hl with | [_, _, _, _, _], _ => rfl
  have F68 := fun_mk (st := s_Hfair) l68 c68 k68
  have b68 := F68.binds (ps := ["self", "names"]) fun _ _ _ _ _ _ us hl => match us, hl with | [_, _], _ => rfl
  have F69 := fun_mk (st := s_Hnames) l69 c69 k69
  have b69 := F69.binds (ps := ["self"]) fun _ _ _ _ _ _ us hl => match us, hl with | [_], _ => rfl
  have F70 := fun_mk (st := s_Hcoins) l70 c70 k70
  have b70 := F70.binds (ps := ["self", "name"]) fun _ _ _ _ _ _ us hl => match us, hl with | [_, _], _ => rfl
  have F71 := fun_mk (st := s_Hstands) l71 c71 k71
  have b71 := F71.binds (ps := ["self", "name"]) fun _ _ _ _ _ _ us hl => match us, hl with | [_, _], _ => rfl
  have F72 := fun_mk (st := s_Hcanpay) l72 c72 k72
  have b72 := F72.binds (ps := ["self", "name", "amount"]) fun _ _ _ _ _ _ us hl => match us, hl with | [_, _, _], _ => rfl
  have F73 := fun_mk (st := s_Htoday) l73 c73 k73
  have b73 := F73.binds (ps := ["self"]) fun _ _ _ _ _ _ us hl => match us, hl with | [_], _ => rfl
  have F74 := fun_mk (st := s_Hmanybills) l74 c74 k74
  have b74 := F74.binds (ps := ["self"]) fun _ _ _ _ _ _ us hl => match us, hl with | [_], _ => rfl
  have F75 := fun_mk (st := s_Hpaper) l75 c75 k75
  have b75 := F75.binds (ps := ["self", "bill"]) fun _ _ _ _ _ _ us hl => match us, hl with | [_, _], _ => rfl
  have F76 := fun_mk (st := s_Hstate) l76 c76 k76
  have b76 := F76.binds (ps := ["self", "bill"]) fun _ _ _ _ _ _ us hl => match us, hl with | [_, _], _ => rfl
  have F77 := fun_mk (st := s_Hholder) l77 c77 k77
  have b77 := F77.binds (ps := ["self", "bill"]) fun _ _ _ _ _ _ us hl => match us, hl with | [_, _], _ => rfl
  have F78 := fun_mk (st := s_Hcopyof) l78 c78 k78
  have b78 := F78.binds (ps := ["self", "bill"]) fun _ _ _ _ _ _ us hl => match us, hl with | [_, _], _ => rfl
  have F79 := fun_mk (st := s_Hrow) l79 c79 k79
  have b79 := F79.binds (ps := ["self", "bill"]) fun _ _ _ _ _ _ us hl => match us, hl with | [_, _], _ => rfl
  have F80 := fun_mk (st := s_Hstory) l80 c80 k80
  have b80 := F80.binds (ps := ["self"]) fun _ _ _ _ _ _ us hl => match us, hl with | [_], _ => rfl
  have F81 := fun_mk (st := s_Hmoment) l81 c81 k81
  have b81 := F81.binds (ps := ["self"]) fun _ _ _ _ _ _ us hl => match us, hl with | [_], _ => rfl
  have Tx : Txt K mg (Ad.mk _ _ _ _ _ _ _ _ _ _ _ _ _ _ _ _ _ _ _ _ _ _ _ _ _ _ _ _ _ _ _ _ _ _ _ _ _ _ _ _ _ _ _ _ _ _ _ _ _ _ _ _ _ _ _ _ _ _ _ _ _ _ _ _ _ _ _ _ _ _ _ _ _ _ _ _ _ _ _ _ _ _ _ _ _ _) := ⟨⟨PySem.W.mg_none_of X G z_len, PySem.W.mg_none_of X G z_range, PySem.W.mg_none_of X G z_abs, PySem.W.mg_none_of X G z_int, PySem.W.mg_none_of X G z_sum, PySem.W.mg_none_of X G z_isinstance, PySem.W.mg_none_of X G z_tuple, PySem.W.mg_none_of X G z_list, PySem.W.mg_none_of X G z_all, PySem.W.mg_none_of X G z_bool, PySem.W.mg_none_of X G z_max, PySem.W.mg_none_of X G z_enumerate, PySem.W.mg_none_of X G z_sorted, PySem.W.mg_none_of X G z_str⟩, PySem.W.mg_of X G gc_RUNNING, PySem.W.mg_of X G gc_PAID, PySem.W.mg_of X G gc_UNPAID, PySem.W.mg_of X G gc_PROTESTED, PySem.W.mg_of X G gc_LONGEST_NAME, PySem.W.mg_of X G gc_FIRST_SIGNED, PySem.W.mg_of X G gc_MOST_COINS, PySem.W.mg_of X G gc_MOST_HOUSES, PySem.W.mg_of X G gc_MOST_BILLS, PySem.W.mg_of X G gc_MOST_COPIES, PySem.W.mg_of X G gc_MOST_PLACES, PySem.W.mg_of X G gc_MOST_DAYS, PySem.W.mg_of X G gc_LAST_DUE, PySem.W.mg_of X G gc_PROTEST_DAYS, PySem.W.mg_of X G a0, F0, b0, PySem.W.mg_of X G a1, F1, b1, PySem.W.mg_of X G a2, F2, b2, PySem.W.mg_of X G a3, F3, b3, PySem.W.mg_of X G a4, F4, b4, PySem.W.mg_of X G a5, F5, b5, PySem.W.mg_of X G a6, F6, b6, PySem.W.mg_of X G a7, F7, b7, PySem.W.mg_of X G a8, F8, b8, PySem.W.mg_of X G a9, F9, b9, PySem.W.mg_of X G a10, F10, b10, PySem.W.mg_of X G a11, F11, b11, PySem.W.mg_of X G a12, F12, b12, PySem.W.mg_of X G a13, F13, b13, PySem.W.mg_of X G a14, F14, b14, PySem.W.mg_of X G a15, F15, b15, PySem.W.mg_of X G a16, F16, b16, PySem.W.mg_of X G a17, F17, b17, PySem.W.mg_of X G a18, F18, b18, PySem.W.mg_of X G a19, F19, b19, PySem.W.mg_of X G a20, F20, b20, PySem.W.mg_of X G a21, F21, b21, PySem.W.mg_of X G a22, F22, b22, PySem.W.mg_of X G a23, F23, b23, PySem.W.mg_of X G a24, F24, b24, PySem.W.mg_of X G a25, F25, b25, PySem.W.mg_of X G a26, F26, b26, PySem.W.mg_of X G a27, F27, b27, PySem.W.mg_of X G a28, F28, b28, PySem.W.mg_of X G a29, F29, b29, PySem.W.mg_of X G a30, F30, b30, PySem.W.mg_of X G a31, F31, b31, PySem.W.mg_of X G a32, F32, b32, PySem.W.mg_of X G a33, F33, b33, PySem.W.mg_of X G a34, F34, b34, PySem.W.mg_of X G a35, F35, b35⟩
  have X_BadName : ExT K mg "BadName" cBadName cH := ⟨PySem.W.mg_of X G g_BadName, x_BadName, k_BadName, b_BadName, t_BadName, PySem.W.exm_ref bH hH tH s_BadName⟩
  have X_Taken : ExT K mg "Taken" cTaken cH := ⟨PySem.W.mg_of X G g_Taken, x_Taken, k_Taken, b_Taken, t_Taken, PySem.W.exm_ref bH hH tH s_Taken⟩
  have X_BadCoins : ExT K mg "BadCoins" cBadCoins cH := ⟨PySem.W.mg_of X G g_BadCoins, x_BadCoins, k_BadCoins, b_BadCoins, t_BadCoins, PySem.W.exm_ref bH hH tH s_BadCoins⟩
  have X_Full : ExT K mg "Full" cFull cH := ⟨PySem.W.mg_of X G g_Full, x_Full, k_Full, b_Full, t_Full, PySem.W.exm_ref bH hH tH s_Full⟩
  have X_NoHouse : ExT K mg "NoHouse" cNoHouse cH := ⟨PySem.W.mg_of X G g_NoHouse, x_NoHouse, k_NoHouse, b_NoHouse, t_NoHouse, PySem.W.exm_ref bH hH tH s_NoHouse⟩
  have X_NoCoins : ExT K mg "NoCoins" cNoCoins cH := ⟨PySem.W.mg_of X G g_NoCoins, x_NoCoins, k_NoCoins, b_NoCoins, t_NoCoins, PySem.W.exm_ref bH hH tH s_NoCoins⟩
  have X_Failed : ExT K mg "Failed" cFailed cH := ⟨PySem.W.mg_of X G g_Failed, x_Failed, k_Failed, b_Failed, t_Failed, PySem.W.exm_ref bH hH tH s_Failed⟩
  have X_Standing : ExT K mg "Standing" cStanding cH := ⟨PySem.W.mg_of X G g_Standing, x_Standing, k_Standing, b_Standing, t_Standing, PySem.W.exm_ref bH hH tH s_Standing⟩
  have X_BadCount : ExT K mg "BadCount" cBadCount cH := ⟨PySem.W.mg_of X G g_BadCount, x_BadCount, k_BadCount, b_BadCount, t_BadCount, PySem.W.exm_ref bH hH tH s_BadCount⟩
  have X_BadDay : ExT K mg "BadDay" cBadDay cH := ⟨PySem.W.mg_of X G g_BadDay, x_BadDay, k_BadDay, b_BadDay, t_BadDay, PySem.W.exm_ref bH hH tH s_BadDay⟩
  have X_NoBill : ExT K mg "NoBill" cNoBill cH := ⟨PySem.W.mg_of X G g_NoBill, x_NoBill, k_NoBill, b_NoBill, t_NoBill, PySem.W.exm_ref bH hH tH s_NoBill⟩
  have X_Void : ExT K mg "Void" cVoid cH := ⟨PySem.W.mg_of X G g_Void, x_Void, k_Void, b_Void, t_Void, PySem.W.exm_ref bH hH tH s_Void⟩
  have X_Closed : ExT K mg "Closed" cClosed cH := ⟨PySem.W.mg_of X G g_Closed, x_Closed, k_Closed, b_Closed, t_Closed, PySem.W.exm_ref bH hH tH s_Closed⟩
  have X_Accepted : ExT K mg "Accepted" cAccepted cH := ⟨PySem.W.mg_of X G g_Accepted, x_Accepted, k_Accepted, b_Accepted, t_Accepted, PySem.W.exm_ref bH hH tH s_Accepted⟩
  have X_Same : ExT K mg "Same" cSame cH := ⟨PySem.W.mg_of X G g_Same, x_Same, k_Same, b_Same, t_Same, PySem.W.exm_ref bH hH tH s_Same⟩
  have X_NotBlank : ExT K mg "NotBlank" cNotBlank cH := ⟨PySem.W.mg_of X G g_NotBlank, x_NotBlank, k_NotBlank, b_NotBlank, t_NotBlank, PySem.W.exm_ref bH hH tH s_NotBlank⟩
  have X_NotYet : ExT K mg "NotYet" cNotYet cH := ⟨PySem.W.mg_of X G g_NotYet, x_NotYet, k_NotYet, b_NotYet, t_NotYet, PySem.W.exm_ref bH hH tH s_NotYet⟩
  have X_NotPresented : ExT K mg "NotPresented" cNotPresented cH := ⟨PySem.W.mg_of X G g_NotPresented, x_NotPresented, k_NotPresented, b_NotPresented, t_NotPresented, PySem.W.exm_ref bH hH tH s_NotPresented⟩
  have X_Protested : ExT K mg "Protested" cProtested cH := ⟨PySem.W.mg_of X G g_Protested, x_Protested, k_Protested, b_Protested, t_Protested, PySem.W.exm_ref bH hH tH s_Protested⟩
  have X_TooLate : ExT K mg "TooLate" cTooLate cH := ⟨PySem.W.mg_of X G g_TooLate, x_TooLate, k_TooLate, b_TooLate, t_TooLate, PySem.W.exm_ref bH hH tH s_TooLate⟩
  have X_NotBound : ExT K mg "NotBound" cNotBound cH := ⟨PySem.W.mg_of X G g_NotBound, x_NotBound, k_NotBound, b_NotBound, t_NotBound, PySem.W.exm_ref bH hH tH s_NotBound⟩
  have X_CantPay : ExT K mg "CantPay" cCantPay cH := ⟨PySem.W.mg_of X G g_CantPay, x_CantPay, k_CantPay, b_CantPay, t_CantPay, PySem.W.exm_ref bH hH tH s_CantPay⟩
  have X_NotProtested : ExT K mg "NotProtested" cNotProtested cH := ⟨PySem.W.mg_of X G g_NotProtested, x_NotProtested, k_NotProtested, b_NotProtested, t_NotProtested, PySem.W.exm_ref bH hH tH s_NotProtested⟩
  have X_IsBound : ExT K mg "IsBound" cIsBound cH := ⟨PySem.W.mg_of X G g_IsBound, x_IsBound, k_IsBound, b_IsBound, t_IsBound, PySem.W.exm_ref bH hH tH s_IsBound⟩
  have X_Twice : ExT K mg "Twice" cTwice cH := ⟨PySem.W.mg_of X G g_Twice, x_Twice, k_Twice, b_Twice, t_Twice, PySem.W.exm_ref bH hH tH s_Twice⟩
  have Ux : Ux K mg (Bd.mk C_Bill C_Purses C_Hall _ _ _ _ _ _ _ _ _ _ _ _ _ _ _ _ _ _ _ _ _ _ _ _ _ _ _ _ _ _ _ _ _ _ _ _ _ _ _ _ _ _ _ _ _ _ _ _ _ _ _ _ _ _ _ _ _ _ _ _ _ _ _ _ _ _ _ _ _ _ _ _ _ _ _ _ _ _ _ _ _ _ _ _ _ _ _ _ _ _ _ _ cH cBadName cTaken cBadCoins cFull cNoHouse cNoCoins cFailed cStanding cBadCount cBadDay cNoBill cVoid cClosed cAccepted cSame cNotBlank cNotYet cNotPresented cProtested cTooLate cNotBound cCantPay cNotProtested cIsBound cTwice) := ⟨⟨pg_Bill, hd_Bill, po_Bill, sa_Bill⟩, n_Bill_drawee, n_Bill_payee, n_Bill_amount, n_Bill_due, n_Bill_places, n_Bill_keeper, n_Bill_phase, n_Bill_issue, n_Bill_blank, PySem.W.mg_of X G gC_Bill, ⟨mk_Bill, a36, i36, kc_Bill⟩, ⟨pg_Purses, hd_Purses, po_Purses, sa_Purses⟩, n_Purses_held, PySem.W.mg_of X G gC_Purses, ⟨mk_Purses, a38, i38, kc_Purses⟩, ⟨pg_Hall, hd_Hall, po_Hall, sa_Hall⟩, n_Hall_purses, n_Hall_failed, n_Hall_day, n_Hall_bills, n_Hall_deeds, PySem.W.mg_of X G gC_Hall, ⟨mk_Hall, a45, i45, kc_Hall⟩, PySem.W.mg_of X G gH, F36, b36, F37, b37, ⟨a37, i37, k37⟩, F38, b38, F39, b39, ⟨a39, i39, k39⟩, F40, b40, ⟨a40, i40, k40⟩, F41, b41, ⟨a41, i41, k41⟩, F42, b42, ⟨a42, i42, k42⟩, F43, b43, ⟨a43, i43, k43⟩, F44, b44, ⟨a44, i44, k44⟩, F45, b45, F46, b46, ⟨a46, i46, k46⟩, F47, b47, ⟨a47, i47, k47⟩, F48, b48, ⟨a48, i48, k48⟩, F49, b49, ⟨a49, i49, k49⟩, F50, b50, ⟨a50, i50, k50⟩, F51, b51, ⟨a51, i51, k51⟩, F52, b52, ⟨a52, i52, k52⟩, F53, b53, ⟨a53, i53, k53⟩, F54, b54, ⟨a54, i54, k54⟩, F55, b55, ⟨a55, i55, k55⟩, F56, b56, ⟨a56, i56, k56⟩, F57, b57, ⟨a57, i57, k57⟩, F58, b58, ⟨a58, i58, k58⟩, F59, b59, ⟨a59, i59, k59⟩, F60, b60, ⟨a60, i60, k60⟩, F61, b61, ⟨a61, i61, k61⟩, F62, b62, ⟨a62, i62, k62⟩, F63, b63, ⟨a63, i63, k63⟩, F64, b64, ⟨a64, i64, k64⟩, F65, b65, ⟨a65, i65, k65⟩, F66, b66, ⟨a66, i66, k66⟩, F67, b67, ⟨a67, i67, k67⟩, F68, b68, ⟨a68, i68, k68⟩, F69, b69, ⟨a69, i69, k69⟩, F70, b70, ⟨a70, i70, k70⟩, F71, b71, ⟨a71, i71, k71⟩, F72, b72, ⟨a72, i72, k72⟩, F73, b73, ⟨a73, i73, k73⟩, F74, b74, ⟨a74, i74, k74⟩, F75, b75, ⟨a75, i75, k75⟩, F76, b76, ⟨a76, i76, k76⟩, F77, b77, ⟨a77, i77, k77⟩, F78, b78, ⟨a78, i78, k78⟩, F79, b79, ⟨a79, i79, k79⟩, F80, b80, ⟨a80, i80, k80⟩, F81, b81, ⟨a81, i81, k81⟩, X_BadName, X_Taken, X_BadCoins, X_Full, X_NoHouse, X_NoCoins, X_Failed, X_Standing, X_BadCount, X_BadDay, X_NoBill, X_Void, X_Closed, X_Accepted, X_Same, X_NotBlank, X_NotYet, X_NotPresented, X_Protested, X_TooLate, X_NotBound, X_CantPay, X_NotProtested, X_IsBound, X_Twice⟩
  exact ⟨_, fun s v => .of_eq rfl, fun base _ _ => ok_Law Tx Ux⟩
end My
open PySem PySem.W PyProof.Rows
set_option maxRecDepth 100000 in
set_option maxHeartbeats 0 in
theorem PySem.Challenge.cw_allonge_k34_the_story_holds : PySem.Challenge.rw_allonge_k34_the_story.Holds := by
  w_on; o_law; k_head; (case hw => w_witness2)
  k_fill
  refine L2.walk_ofB (l := PySem.Challenge.rw_allonge_k34_the_story) (n := 63) (k := 11) (x := "_law_script") (CX := fun _ => L2.CX0) (sp := fun w => My.spLaw _) rfl (by decide) rfl ⟨rfl, by decide, by decide⟩ (fun w h Y => PySem.W.kIn_of Y) ?F (fun _ _ a ns hl hb _ hS => ⟨a, ns, rfl, hS, hl, hb, fun _ => rfl⟩) (fun _ _ _ _ _ h => h)
  case F =>
    intro w mg fa h KX G hmg
    refine' My.all_mk KX G hmg ?a0 ?l0 ?c0 ?k0 ?a1 ?l1 ?c1 ?k1 ?a2 ?l2 ?c2 ?k2 ?a3 ?l3 ?c3 ?k3 ?a4 ?l4 ?c4 ?k4 ?a5 ?l5 ?c5 ?k5 ?a6 ?l6 ?c6 ?k6 ?a7 ?l7 ?c7 ?k7 ?a8 ?l8 ?c8 ?k8 ?a9 ?l9 ?c9 ?k9 ?a10 ?l10 ?c10 ?k10 ?a11 ?l11 ?c11 ?k11 ?a12 ?l12 ?c12 ?k12 ?a13 ?l13 ?c13 ?k13 ?a14 ?l14 ?c14 ?k14 ?a15 ?l15 ?c15 ?k15 ?a16 ?l16 ?c16 ?k16 ?a17 ?l17 ?c17 ?k17 ?a18 ?l18 ?c18 ?k18 ?a19 ?l19 ?c19 ?k19 ?a20 ?l20 ?c20 ?k20 ?a21 ?l21 ?c21 ?k21 ?a22 ?l22 ?c22 ?k22 ?a23 ?l23 ?c23 ?k23 ?a24 ?l24 ?c24 ?k24 ?a25 ?l25 ?c25 ?k25 ?a26 ?l26 ?c26 ?k26 ?a27 ?l27 ?c27 ?k27 ?a28 ?l28 ?c28 ?k28 ?a29 ?l29 ?c29 ?k29 ?a30 ?l30 ?c30 ?k30 ?a31 ?l31 ?c31 ?k31 ?a32 ?l32 ?c32 ?k32 ?a33 ?l33 ?c33 ?k33 ?a34 ?l34 ?c34 ?k34 ?a35 ?l35 ?c35 ?k35 ?gc_RUNNING ?gc_PAID ?gc_UNPAID ?gc_PROTESTED ?gc_LONGEST_NAME ?gc_FIRST_SIGNED ?gc_MOST_COINS ?gc_MOST_HOUSES ?gc_MOST_BILLS ?gc_MOST_COPIES ?gc_MOST_PLACES ?gc_MOST_DAYS ?gc_LAST_DUE ?gc_PROTEST_DAYS ?gC_Bill ?gC_Purses ?gC_Hall ?a36 ?i36 ?l36 ?c36 ?k36 ?a37 ?i37 ?l37 ?c37 ?k37 ?a38 ?i38 ?l38 ?c38 ?k38 ?a39 ?i39 ?l39 ?c39 ?k39 ?a40 ?i40 ?l40 ?c40 ?k40 ?a41 ?i41 ?l41 ?c41 ?k41 ?a42 ?i42 ?l42 ?c42 ?k42 ?a43 ?i43 ?l43 ?c43 ?k43 ?a44 ?i44 ?l44 ?c44 ?k44 ?a45 ?i45 ?l45 ?c45 ?k45 ?a46 ?i46 ?l46 ?c46 ?k46 ?a47 ?i47 ?l47 ?c47 ?k47 ?a48 ?i48 ?l48 ?c48 ?k48 ?a49 ?i49 ?l49 ?c49 ?k49 ?a50 ?i50 ?l50 ?c50 ?k50 ?a51 ?i51 ?l51 ?c51 ?k51 ?a52 ?i52 ?l52 ?c52 ?k52 ?a53 ?i53 ?l53 ?c53 ?k53 ?a54 ?i54 ?l54 ?c54 ?k54 ?a55 ?i55 ?l55 ?c55 ?k55 ?a56 ?i56 ?l56 ?c56 ?k56 ?a57 ?i57 ?l57 ?c57 ?k57 ?a58 ?i58 ?l58 ?c58 ?k58 ?a59 ?i59 ?l59 ?c59 ?k59 ?a60 ?i60 ?l60 ?c60 ?k60 ?a61 ?i61 ?l61 ?c61 ?k61 ?a62 ?i62 ?l62 ?c62 ?k62 ?a63 ?i63 ?l63 ?c63 ?k63 ?a64 ?i64 ?l64 ?c64 ?k64 ?a65 ?i65 ?l65 ?c65 ?k65 ?a66 ?i66 ?l66 ?c66 ?k66 ?a67 ?i67 ?l67 ?c67 ?k67 ?a68 ?i68 ?l68 ?c68 ?k68 ?a69 ?i69 ?l69 ?c69 ?k69 ?a70 ?i70 ?l70 ?c70 ?k70 ?a71 ?i71 ?l71 ?c71 ?k71 ?a72 ?i72 ?l72 ?c72 ?k72 ?a73 ?i73 ?l73 ?c73 ?k73 ?a74 ?i74 ?l74 ?c74 ?k74 ?a75 ?i75 ?l75 ?c75 ?k75 ?a76 ?i76 ?l76 ?c76 ?k76 ?a77 ?i77 ?l77 ?c77 ?k77 ?a78 ?i78 ?l78 ?c78 ?k78 ?a79 ?i79 ?l79 ?c79 ?k79 ?a80 ?i80 ?l80 ?c80 ?k80 ?a81 ?i81 ?l81 ?c81 ?k81 ?pg_Bill ?hd_Bill ?po_Bill ?sa_Bill ?mk_Bill ?kc_Bill ?n_Bill_drawee ?n_Bill_payee ?n_Bill_amount ?n_Bill_due ?n_Bill_places ?n_Bill_keeper ?n_Bill_phase ?n_Bill_issue ?n_Bill_blank ?pg_Purses ?hd_Purses ?po_Purses ?sa_Purses ?mk_Purses ?kc_Purses ?n_Purses_held ?pg_Hall ?hd_Hall ?po_Hall ?sa_Hall ?mk_Hall ?kc_Hall ?n_Hall_purses ?n_Hall_failed ?n_Hall_day ?n_Hall_bills ?n_Hall_deeds ?gH ?bH ?hH ?tH ?g_BadName ?x_BadName ?k_BadName ?b_BadName ?t_BadName ?s_BadName ?g_Taken ?x_Taken ?k_Taken ?b_Taken ?t_Taken ?s_Taken ?g_BadCoins ?x_BadCoins ?k_BadCoins ?b_BadCoins ?t_BadCoins ?s_BadCoins ?g_Full ?x_Full ?k_Full ?b_Full ?t_Full ?s_Full ?g_NoHouse ?x_NoHouse ?k_NoHouse ?b_NoHouse ?t_NoHouse ?s_NoHouse ?g_NoCoins ?x_NoCoins ?k_NoCoins ?b_NoCoins ?t_NoCoins ?s_NoCoins ?g_Failed ?x_Failed ?k_Failed ?b_Failed ?t_Failed ?s_Failed ?g_Standing ?x_Standing ?k_Standing ?b_Standing ?t_Standing ?s_Standing ?g_BadCount ?x_BadCount ?k_BadCount ?b_BadCount ?t_BadCount ?s_BadCount ?g_BadDay ?x_BadDay ?k_BadDay ?b_BadDay ?t_BadDay ?s_BadDay ?g_NoBill ?x_NoBill ?k_NoBill ?b_NoBill ?t_NoBill ?s_NoBill ?g_Void ?x_Void ?k_Void ?b_Void ?t_Void ?s_Void ?g_Closed ?x_Closed ?k_Closed ?b_Closed ?t_Closed ?s_Closed ?g_Accepted ?x_Accepted ?k_Accepted ?b_Accepted ?t_Accepted ?s_Accepted ?g_Same ?x_Same ?k_Same ?b_Same ?t_Same ?s_Same ?g_NotBlank ?x_NotBlank ?k_NotBlank ?b_NotBlank ?t_NotBlank ?s_NotBlank ?g_NotYet ?x_NotYet ?k_NotYet ?b_NotYet ?t_NotYet ?s_NotYet ?g_NotPresented ?x_NotPresented ?k_NotPresented ?b_NotPresented ?t_NotPresented ?s_NotPresented ?g_Protested ?x_Protested ?k_Protested ?b_Protested ?t_Protested ?s_Protested ?g_TooLate ?x_TooLate ?k_TooLate ?b_TooLate ?t_TooLate ?s_TooLate ?g_NotBound ?x_NotBound ?k_NotBound ?b_NotBound ?t_NotBound ?s_NotBound ?g_CantPay ?x_CantPay ?k_CantPay ?b_CantPay ?t_CantPay ?s_CantPay ?g_NotProtested ?x_NotProtested ?k_NotProtested ?b_NotProtested ?t_NotProtested ?s_NotProtested ?g_IsBound ?x_IsBound ?k_IsBound ?b_IsBound ?t_IsBound ?s_IsBound ?g_Twice ?x_Twice ?k_Twice ?b_Twice ?t_Twice ?s_Twice ?z_len ?z_range ?z_abs ?z_int ?z_sum ?z_isinstance ?z_tuple ?z_list ?z_all ?z_bool ?z_max ?z_enumerate ?z_sorted ?z_str
    (case a0 => k_is)
    (case l0 => k_is)
    (case c0 => k_is)
    (case k0 => k_is)
    (case a1 => k_is)
    (case l1 => k_is)
    (case c1 => k_is)
    (case k1 => k_is)
    (case a2 => k_is)
    (case l2 => k_is)
    (case c2 => k_is)
    (case k2 => k_is)
    (case a3 => k_is)
    (case l3 => k_is)
    (case c3 => k_is)
    (case k3 => k_is)
    (case a4 => k_is)
    (case l4 => k_is)
    (case c4 => k_is)
    (case k4 => k_is)
    (case a5 => k_is)
    (case l5 => k_is)
    (case c5 => k_is)
    (case k5 => k_is)
    (case a6 => k_is)
    (case l6 => k_is)
    (case c6 => k_is)
    (case k6 => k_is)
    (case a7 => k_is)
    (case l7 => k_is)
    (case c7 => k_is)
    (case k7 => k_is)
    (case a8 => k_is)
    (case l8 => k_is)
    (case c8 => k_is)
    (case k8 => k_is)
    (case a9 => k_is)
    (case l9 => k_is)
    (case c9 => k_is)
    (case k9 => k_is)
    (case a10 => k_is)
    (case l10 => k_is)
    (case c10 => k_is)
    (case k10 => k_is)
    (case a11 => k_is)
    (case l11 => k_is)
    (case c11 => k_is)
    (case k11 => k_is)
    (case a12 => k_is)
    (case l12 => k_is)
    (case c12 => k_is)
    (case k12 => k_is)
    (case a13 => k_is)
    (case l13 => k_is)
    (case c13 => k_is)
    (case k13 => k_is)
    (case a14 => k_is)
    (case l14 => k_is)
    (case c14 => k_is)
    (case k14 => k_is)
    (case a15 => k_is)
    (case l15 => k_is)
    (case c15 => k_is)
    (case k15 => k_is)
    (case a16 => k_is)
    (case l16 => k_is)
    (case c16 => k_is)
    (case k16 => k_is)
    (case a17 => k_is)
    (case l17 => k_is)
    (case c17 => k_is)
    (case k17 => k_is)
    (case a18 => k_is)
    (case l18 => k_is)
    (case c18 => k_is)
    (case k18 => k_is)
    (case a19 => k_is)
    (case l19 => k_is)
    (case c19 => k_is)
    (case k19 => k_is)
    (case a20 => k_is)
    (case l20 => k_is)
    (case c20 => k_is)
    (case k20 => k_is)
    (case a21 => k_is)
    (case l21 => k_is)
    (case c21 => k_is)
    (case k21 => k_is)
    (case a22 => k_is)
    (case l22 => k_is)
    (case c22 => k_is)
    (case k22 => k_is)
    (case a23 => k_is)
    (case l23 => k_is)
    (case c23 => k_is)
    (case k23 => k_is)
    (case a24 => k_is)
    (case l24 => k_is)
    (case c24 => k_is)
    (case k24 => k_is)
    (case a25 => k_is)
    (case l25 => k_is)
    (case c25 => k_is)
    (case k25 => k_is)
    (case a26 => k_is)
    (case l26 => k_is)
    (case c26 => k_is)
    (case k26 => k_is)
    (case a27 => k_is)
    (case l27 => k_is)
    (case c27 => k_is)
    (case k27 => k_is)
    (case a28 => k_is)
    (case l28 => k_is)
    (case c28 => k_is)
    (case k28 => k_is)
    (case a29 => k_is)
    (case l29 => k_is)
    (case c29 => k_is)
    (case k29 => k_is)
    (case a30 => k_is)
    (case l30 => k_is)
    (case c30 => k_is)
    (case k30 => k_is)
    (case a31 => k_is)
    (case l31 => k_is)
    (case c31 => k_is)
    (case k31 => k_is)
    (case a32 => k_is)
    (case l32 => k_is)
    (case c32 => k_is)
    (case k32 => k_is)
    (case a33 => k_is)
    (case l33 => k_is)
    (case c33 => k_is)
    (case k33 => k_is)
    (case a34 => k_is)
    (case l34 => k_is)
    (case c34 => k_is)
    (case k34 => k_is)
    (case a35 => k_is)
    (case l35 => k_is)
    (case c35 => k_is)
    (case k35 => k_is)
    (case gc_RUNNING => k_is)
    (case gc_PAID => k_is)
    (case gc_UNPAID => k_is)
    (case gc_PROTESTED => k_is)
    (case gc_LONGEST_NAME => k_is)
    (case gc_FIRST_SIGNED => k_is)
    (case gc_MOST_COINS => k_is)
    (case gc_MOST_HOUSES => k_is)
    (case gc_MOST_BILLS => k_is)
    (case gc_MOST_COPIES => k_is)
    (case gc_MOST_PLACES => k_is)
    (case gc_MOST_DAYS => k_is)
    (case gc_LAST_DUE => k_is)
    (case gc_PROTEST_DAYS => k_is)
    (case gC_Bill => k_is)
    (case gC_Purses => k_is)
    (case gC_Hall => k_is)
    (case a36 => k_is)
    (case i36 => k_is)
    (case l36 => k_is)
    (case c36 => k_is)
    (case k36 => k_is)
    (case a37 => k_is)
    (case i37 => k_is)
    (case l37 => k_is)
    (case c37 => k_is)
    (case k37 => k_is)
    (case a38 => k_is)
    (case i38 => k_is)
    (case l38 => k_is)
    (case c38 => k_is)
    (case k38 => k_is)
    (case a39 => k_is)
    (case i39 => k_is)
    (case l39 => k_is)
    (case c39 => k_is)
    (case k39 => k_is)
    (case a40 => k_is)
    (case i40 => k_is)
    (case l40 => k_is)
    (case c40 => k_is)
    (case k40 => k_is)
    (case a41 => k_is)
    (case i41 => k_is)
    (case l41 => k_is)
    (case c41 => k_is)
    (case k41 => k_is)
    (case a42 => k_is)
    (case i42 => k_is)
    (case l42 => k_is)
    (case c42 => k_is)
    (case k42 => k_is)
    (case a43 => k_is)
    (case i43 => k_is)
    (case l43 => k_is)
    (case c43 => k_is)
    (case k43 => k_is)
    (case a44 => k_is)
    (case i44 => k_is)
    (case l44 => k_is)
    (case c44 => k_is)
    (case k44 => k_is)
    (case a45 => k_is)
    (case i45 => k_is)
    (case l45 => k_is)
    (case c45 => k_is)
    (case k45 => k_is)
    (case a46 => k_is)
    (case i46 => k_is)
    (case l46 => k_is)
    (case c46 => k_is)
    (case k46 => k_is)
    (case a47 => k_is)
    (case i47 => k_is)
    (case l47 => k_is)
    (case c47 => k_is)
    (case k47 => k_is)
    (case a48 => k_is)
    (case i48 => k_is)
    (case l48 => k_is)
    (case c48 => k_is)
    (case k48 => k_is)
    (case a49 => k_is)
    (case i49 => k_is)
    (case l49 => k_is)
    (case c49 => k_is)
    (case k49 => k_is)
    (case a50 => k_is)
    (case i50 => k_is)
    (case l50 => k_is)
    (case c50 => k_is)
    (case k50 => k_is)
    (case a51 => k_is)
    (case i51 => k_is)
    (case l51 => k_is)
    (case c51 => k_is)
    (case k51 => k_is)
    (case a52 => k_is)
    (case i52 => k_is)
    (case l52 => k_is)
    (case c52 => k_is)
    (case k52 => k_is)
    (case a53 => k_is)
    (case i53 => k_is)
    (case l53 => k_is)
    (case c53 => k_is)
    (case k53 => k_is)
    (case a54 => k_is)
    (case i54 => k_is)
    (case l54 => k_is)
    (case c54 => k_is)
    (case k54 => k_is)
    (case a55 => k_is)
    (case i55 => k_is)
    (case l55 => k_is)
    (case c55 => k_is)
    (case k55 => k_is)
    (case a56 => k_is)
    (case i56 => k_is)
    (case l56 => k_is)
    (case c56 => k_is)
    (case k56 => k_is)
    (case a57 => k_is)
    (case i57 => k_is)
    (case l57 => k_is)
    (case c57 => k_is)
    (case k57 => k_is)
    (case a58 => k_is)
    (case i58 => k_is)
    (case l58 => k_is)
    (case c58 => k_is)
    (case k58 => k_is)
    (case a59 => k_is)
    (case i59 => k_is)
    (case l59 => k_is)
    (case c59 => k_is)
    (case k59 => k_is)
    (case a60 => k_is)
    (case i60 => k_is)
    (case l60 => k_is)
    (case c60 => k_is)
    (case k60 => k_is)
    (case a61 => k_is)
    (case i61 => k_is)
    (case l61 => k_is)
    (case c61 => k_is)
    (case k61 => k_is)
    (case a62 => k_is)
    (case i62 => k_is)
    (case l62 => k_is)
    (case c62 => k_is)
    (case k62 => k_is)
    (case a63 => k_is)
    (case i63 => k_is)
    (case l63 => k_is)
    (case c63 => k_is)
    (case k63 => k_is)
    (case a64 => k_is)
    (case i64 => k_is)
    (case l64 => k_is)
    (case c64 => k_is)
    (case k64 => k_is)
    (case a65 => k_is)
    (case i65 => k_is)
    (case l65 => k_is)
    (case c65 => k_is)
    (case k65 => k_is)
    (case a66 => k_is)
    (case i66 => k_is)
    (case l66 => k_is)
    (case c66 => k_is)
    (case k66 => k_is)
    (case a67 => k_is)
    (case i67 => k_is)
    (case l67 => k_is)
    (case c67 => k_is)
    (case k67 => k_is)
    (case a68 => k_is)
    (case i68 => k_is)
    (case l68 => k_is)
    (case c68 => k_is)
    (case k68 => k_is)
    (case a69 => k_is)
    (case i69 => k_is)
    (case l69 => k_is)
    (case c69 => k_is)
    (case k69 => k_is)
    (case a70 => k_is)
    (case i70 => k_is)
    (case l70 => k_is)
    (case c70 => k_is)
    (case k70 => k_is)
    (case a71 => k_is)
    (case i71 => k_is)
    (case l71 => k_is)
    (case c71 => k_is)
    (case k71 => k_is)
    (case a72 => k_is)
    (case i72 => k_is)
    (case l72 => k_is)
    (case c72 => k_is)
    (case k72 => k_is)
    (case a73 => k_is)
    (case i73 => k_is)
    (case l73 => k_is)
    (case c73 => k_is)
    (case k73 => k_is)
    (case a74 => k_is)
    (case i74 => k_is)
    (case l74 => k_is)
    (case c74 => k_is)
    (case k74 => k_is)
    (case a75 => k_is)
    (case i75 => k_is)
    (case l75 => k_is)
    (case c75 => k_is)
    (case k75 => k_is)
    (case a76 => k_is)
    (case i76 => k_is)
    (case l76 => k_is)
    (case c76 => k_is)
    (case k76 => k_is)
    (case a77 => k_is)
    (case i77 => k_is)
    (case l77 => k_is)
    (case c77 => k_is)
    (case k77 => k_is)
    (case a78 => k_is)
    (case i78 => k_is)
    (case l78 => k_is)
    (case c78 => k_is)
    (case k78 => k_is)
    (case a79 => k_is)
    (case i79 => k_is)
    (case l79 => k_is)
    (case c79 => k_is)
    (case k79 => k_is)
    (case a80 => k_is)
    (case i80 => k_is)
    (case l80 => k_is)
    (case c80 => k_is)
    (case k80 => k_is)
    (case a81 => k_is)
    (case i81 => k_is)
    (case l81 => k_is)
    (case c81 => k_is)
    (case k81 => k_is)
    (case pg_Bill => k_is)
    (case hd_Bill => k_is)
    (case po_Bill => k_is)
    (case sa_Bill => k_is)
    (case mk_Bill => k_is)
    (case kc_Bill => k_is)
    (case n_Bill_drawee => k_is)
    (case n_Bill_payee => k_is)
    (case n_Bill_amount => k_is)
    (case n_Bill_due => k_is)
    (case n_Bill_places => k_is)
    (case n_Bill_keeper => k_is)
    (case n_Bill_phase => k_is)
    (case n_Bill_issue => k_is)
    (case n_Bill_blank => k_is)
    (case pg_Purses => k_is)
    (case hd_Purses => k_is)
    (case po_Purses => k_is)
    (case sa_Purses => k_is)
    (case mk_Purses => k_is)
    (case kc_Purses => k_is)
    (case n_Purses_held => k_is)
    (case pg_Hall => k_is)
    (case hd_Hall => k_is)
    (case po_Hall => k_is)
    (case sa_Hall => k_is)
    (case mk_Hall => k_is)
    (case kc_Hall => k_is)
    (case n_Hall_purses => k_is)
    (case n_Hall_failed => k_is)
    (case n_Hall_day => k_is)
    (case n_Hall_bills => k_is)
    (case n_Hall_deeds => k_is)
    (case gH => k_is)
    (case bH => k_is)
    (case hH => k_is)
    (case tH => k_is)
    (case g_BadName => k_is)
    (case x_BadName => k_exc)
    (case k_BadName => k_is)
    (case b_BadName => k_is)
    (case t_BadName => k_is)
    (case s_BadName => k_is)
    (case g_Taken => k_is)
    (case x_Taken => k_exc)
    (case k_Taken => k_is)
    (case b_Taken => k_is)
    (case t_Taken => k_is)
    (case s_Taken => k_is)
    (case g_BadCoins => k_is)
    (case x_BadCoins => k_exc)
    (case k_BadCoins => k_is)
    (case b_BadCoins => k_is)
    (case t_BadCoins => k_is)
    (case s_BadCoins => k_is)
    (case g_Full => k_is)
    (case x_Full => k_exc)
    (case k_Full => k_is)
    (case b_Full => k_is)
    (case t_Full => k_is)
    (case s_Full => k_is)
    (case g_NoHouse => k_is)
    (case x_NoHouse => k_exc)
    (case k_NoHouse => k_is)
    (case b_NoHouse => k_is)
    (case t_NoHouse => k_is)
    (case s_NoHouse => k_is)
    (case g_NoCoins => k_is)
    (case x_NoCoins => k_exc)
    (case k_NoCoins => k_is)
    (case b_NoCoins => k_is)
    (case t_NoCoins => k_is)
    (case s_NoCoins => k_is)
    (case g_Failed => k_is)
    (case x_Failed => k_exc)
    (case k_Failed => k_is)
    (case b_Failed => k_is)
    (case t_Failed => k_is)
    (case s_Failed => k_is)
    (case g_Standing => k_is)
    (case x_Standing => k_exc)
    (case k_Standing => k_is)
    (case b_Standing => k_is)
    (case t_Standing => k_is)
    (case s_Standing => k_is)
    (case g_BadCount => k_is)
    (case x_BadCount => k_exc)
    (case k_BadCount => k_is)
    (case b_BadCount => k_is)
    (case t_BadCount => k_is)
    (case s_BadCount => k_is)
    (case g_BadDay => k_is)
    (case x_BadDay => k_exc)
    (case k_BadDay => k_is)
    (case b_BadDay => k_is)
    (case t_BadDay => k_is)
    (case s_BadDay => k_is)
    (case g_NoBill => k_is)
    (case x_NoBill => k_exc)
    (case k_NoBill => k_is)
    (case b_NoBill => k_is)
    (case t_NoBill => k_is)
    (case s_NoBill => k_is)
    (case g_Void => k_is)
    (case x_Void => k_exc)
    (case k_Void => k_is)
    (case b_Void => k_is)
    (case t_Void => k_is)
    (case s_Void => k_is)
    (case g_Closed => k_is)
    (case x_Closed => k_exc)
    (case k_Closed => k_is)
    (case b_Closed => k_is)
    (case t_Closed => k_is)
    (case s_Closed => k_is)
    (case g_Accepted => k_is)
    (case x_Accepted => k_exc)
    (case k_Accepted => k_is)
    (case b_Accepted => k_is)
    (case t_Accepted => k_is)
    (case s_Accepted => k_is)
    (case g_Same => k_is)
    (case x_Same => k_exc)
    (case k_Same => k_is)
    (case b_Same => k_is)
    (case t_Same => k_is)
    (case s_Same => k_is)
    (case g_NotBlank => k_is)
    (case x_NotBlank => k_exc)
    (case k_NotBlank => k_is)
    (case b_NotBlank => k_is)
    (case t_NotBlank => k_is)
    (case s_NotBlank => k_is)
    (case g_NotYet => k_is)
    (case x_NotYet => k_exc)
    (case k_NotYet => k_is)
    (case b_NotYet => k_is)
    (case t_NotYet => k_is)
    (case s_NotYet => k_is)
    (case g_NotPresented => k_is)
    (case x_NotPresented => k_exc)
    (case k_NotPresented => k_is)
    (case b_NotPresented => k_is)
    (case t_NotPresented => k_is)
    (case s_NotPresented => k_is)
    (case g_Protested => k_is)
    (case x_Protested => k_exc)
    (case k_Protested => k_is)
    (case b_Protested => k_is)
    (case t_Protested => k_is)
    (case s_Protested => k_is)
    (case g_TooLate => k_is)
    (case x_TooLate => k_exc)
    (case k_TooLate => k_is)
    (case b_TooLate => k_is)
    (case t_TooLate => k_is)
    (case s_TooLate => k_is)
    (case g_NotBound => k_is)
    (case x_NotBound => k_exc)
    (case k_NotBound => k_is)
    (case b_NotBound => k_is)
    (case t_NotBound => k_is)
    (case s_NotBound => k_is)
    (case g_CantPay => k_is)
    (case x_CantPay => k_exc)
    (case k_CantPay => k_is)
    (case b_CantPay => k_is)
    (case t_CantPay => k_is)
    (case s_CantPay => k_is)
    (case g_NotProtested => k_is)
    (case x_NotProtested => k_exc)
    (case k_NotProtested => k_is)
    (case b_NotProtested => k_is)
    (case t_NotProtested => k_is)
    (case s_NotProtested => k_is)
    (case g_IsBound => k_is)
    (case x_IsBound => k_exc)
    (case k_IsBound => k_is)
    (case b_IsBound => k_is)
    (case t_IsBound => k_is)
    (case s_IsBound => k_is)
    (case g_Twice => k_is)
    (case x_Twice => k_exc)
    (case k_Twice => k_is)
    (case b_Twice => k_is)
    (case t_Twice => k_is)
    (case s_Twice => k_is)
    (case z_len => k_is)
    (case z_range => k_is)
    (case z_abs => k_is)
    (case z_int => k_is)
    (case z_sum => k_is)
    (case z_isinstance => k_is)
    (case z_tuple => k_is)
    (case z_list => k_is)
    (case z_all => k_is)
    (case z_bool => k_is)
    (case z_max => k_is)
    (case z_enumerate => k_is)
    (case z_sorted => k_is)
    (case z_str => k_is)
