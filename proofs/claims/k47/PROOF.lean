import PyProof.Rows.All
import Wide.All
import OpenK.AllK
import Wide.FinOn
import Lean
import PyProof.EqAt
import PyProof.EqKinds
import PyProof.TupleCall
import PySem.Challenge.RW_calmring_k47_play_answers
abbrev Mv:=PySem.Value->PySem.Shared->Prop
abbrev Mw:=PySem.Str->Option PySem.Value
abbrev Mx:=List (Int×Int)
abbrev My:=List (PySem.Addr×PySem.Obj)
abbrev Mz:=PySem.Addr->Prop
abbrev MB:=List Int
abbrev MC:=List PySem.Value
abbrev MD:=List PySem.Addr
abbrev MF:=List PySem.Str
abbrev MG:=Option Int
abbrev MH:=Array PySem.Value
open List(range mem_filter mem_range mem_cons_self mem_cons_of_mem mem_cons mem_append mem_append_left getElem_inj getElem?_set_self getElem?_set_ne mem_append_right length_cons map_cons length_map append_nil nodup_cons replicate getElem?_append_right getElem?_replicate getElem?_append_left getElem?_map length_append zip_cons_cons map_nil length_drop size_toArray length_set Pairwise nodup_nil nodup_append Sublist all_cons any_eq_true pairwise_cons mem_map all_eq_true getD_eq_getElem?_getD getElem_of_mem getElem?_eq_getElem getElem_mem nodup_range getElem?_cons_succ eq_nil_of_length_eq_zero take_of_length_le foldl_cons map_append mem_singleton not_mem_nil getElem?_cons_zero map_id' length_filter_le map_eq_nil_iff findIdx?_cons)
open PySem.W(instObj methodObj lookIn plainGet hasDictIn handedIn plainGet_of plainOver takerIn makesIn emptyDict specialIn takesIn mroIn kitOne kia_one kitx_none kitx_bool kitx_int kitx_str kitx_list kitx_dict callWith_K readsIn findCls exmOne mg_of)
open PySem.Heap(lt_size SameBut get?_push_of_some get?_push_size size_push get?_update_self get?_update_other ExtBut)
open Nat(zero_le le_succ toDigits)
open Bool(or_eq_false_iff and_eq_true not_eq_true' eq_false_iff)
open Option(isSome_iff_exists map_eq_some_iff toList_some isNone)
open Int(emod_nonneg emod_lt_of_pos)
open Array(all_toList)
open PyProof.Rows(firstMet kmk_tree step_dedup)
set_option Elab.async false
set_option linter.all false
set_option maxRecDepth 100000
namespace PySem.W.Fast
theorem t:True:=trivial
def tw18161476149833193220:=t
def tw12088940516838502940:=t
def tw17688566743169103245:=t
def tw14594063682470224742:=t
def tw8397895123407046772:=t
def tw15585273584346680686:=t
def tw12751638876036024839:=t
def tw14855042962948413212:=t
def tw11997847097274703101:=t
def tw14404816434214675092:=t
def tw2968014444468504127:=t
def tw6099255446864509908:=t
def tw14207856648118135727:=t
def tw9855635166208002508:=t
def tw8962306068691881548:=t
def tw12692438684012897740:=t
def tw1392000552403070281:=t
def tw5399561969429425990:=t
def tw3257223889596464789:=t
def tw14983214079399167152:=t
def tw15202420629205607248:=t
def tw5187322419817052422:=t
def tw7193937377049309889:=t
def tw10198873977073277:=t
def tw1494315503190479859:=t
def tw2274541612175883423:=t
def tw14409397448121129144:=t
def tw15054221641605535351:=t
def tw3298456945917511158:=t
def tw244739639982995766:=t
def tw2595434021366703056:=t
def tw12509677299767631365:=t
def tw3640043027766141634:=t
def tw6628892339985262139:=t
def tw7471829060737773499:=t
def tw7645304740543451287:=t
def tw16541197596800654843:=t
def tw6708609287318773770:=t
def tw5491782239115316822:=t
def tw13479102239605279300:=t
def tw15793287935673698331:=t
def tw6024480496380995358:=t
def tw13887901817525643385:=t
def tw924947177634807171:=t
def tw5762938658064995354:=t
def tw510796242770326001:=t
def tw14069449261199820231:=t
def tw3060835251521714703:=t
def tw14743576846968348967:=t
def tw5884378564759865744:=t
def tw9029596591996593451:=t
def tw3563512757984910:=t
def tw17909466830367907961:=t
def tw3130494342628405510:=t
def tw13854840646270392446:=t
def tw16444303814152640311:=t
def tw4853996029219774594:=t
def tw17895386509492763188:=t
def tw10450233772688949330:=t
def tw2088739370840704272:=t
def tw12465238774334592575:=t
def tw2495364562609690332:=t
def tw9360030984236183154:=t
def tw8799465632400793811:=t
def tw7515949188115820145:=t
def tw11877480843689734:=t
def tw7366256052306422810:=t
def tw12295933254960162118:=t
def tw10904455969386380815:=t
def tw3460696304069877196:=t
def tw10293851254249908307:=t
def tw12042443008119635034:=t
def tw12326423071347529830:=t
def tw16465449573495288420:=t
def tw13602146043017868878:=t
def tw12635248886610725878:=t
def tw17495084633893174588:=t
def tw2350764344629431809:=t
def tw2398786012302008278:=t
def tw12254042846716953959:=t
def tw11679810024154135490:=t
def tw2739580054140451223:=t
def tw3156674562980334364:=t
def tw12282462481344189158:=t
def tw16255985431333665271:=t
def tw1080059904100392526:=t
def tw5341297075169172634:=t
def tw687589368978911189:=t
def tw12021018829328765373:=t
def tw7335021390107963702:=t
def tw6956417259980496264:=t
def tw13974926359914793343:=t
def tw5254542035737198385:=t
def tw3315855062133478982:=t
def tw11544716020933947607:=t
def tw1754476633010001663:=t
def tw7144950518246803561:=t
def tw9752151435891531442:=t
def tw889850081788460563:=t
def tw9366650904929968037:=t
def tw15450931917246184510:=t
def tw4056613233567422110:=t
def tw12396723554435330076:=t
def tw10160653879493241931:=t
def tw10399148184917820863:=t
def tw18341395259008207090:=t
def tw1414126726422935756:=t
def tw3958085917609620020:=t
def tw17467497156247797892:=t
def tw12696410372808963339:=t
def tw5192840884553270876:=t
def tw5839529830694302916:=t
def tw3693659470725297346:=t
def tw8829145479733316562:=t
def tw2403910725386365134:=t
def tw8283698134878031639:=t
def tw18198510529806020899:=t
def tw15194110549866176349:=t
def tw5748981458586947345:=t
def tw3347010345142782685:=t
def tw5231834593367887121:=t
def tw1926457818030866601:=t
def tw13738095118937101524:=t
def tw6503751333725367888:=t
def tw4512591282135450527:=t
def tw7034849606032171384:=t
def tw4776573182401173040:=t
def tw14890838847969821994:=t
def tw2629886647589335416:=t
def tw13513925669763058589:=t
def tw14397937653195291658:=t
def tw6795172467047246135:=t
def tw8373398073097436318:=t
def tw1234117444515573918:=t
def tw17308679869069767122:=t
def tw17890188459072629328:=t
def tw11240021343148893316:=t
def tw5294617053054882782:=t
def tw4315206863183084973:=t
def tw9459545940196656123:=t
def tw7453184106950084180:=t
def tw1698502088108872839:=t
def tw2871733153889969610:=t
def tw15306865310153601694:=t
def tw3298126492885080345:=t
def tw6953272754413865439:=t
def tw12517469441439314697:=t
def tw9262556697021520607:=t
def tw3295862883060506250:=t
def tw495037909164878315:=t
def tw9111787733974645237:=t
def tw1385806908927251623:=t
def tw396241313199816288:=t
def tw12743088988587300979:=t
def tw4046963983064804514:=t
def tw13130258377544130414:=t
def tw17582509424695597934:=t
def tw1940189361649393718:=t
def tw2061949695335413216:=t
def tw11358933985155499758:=t
def tw8510776970653972130:=t
def tw2479499160890999253:=t
def tw1636910351710022914:=t
def tw16922012114937665501:=t
def tw8053003820171391358:=t
def tw2504223261702132927:=t
def tw7245482308026842635:=t
def tw14366435546832167475:=t
def tw10664082487688770218:=t
def tw11326071119726261648:=t
def tw6672007465323136696:=t
def tw42628367188234885:=t
def tw271062238611512608:=t
def tw1331947022317766356:=t
def tw8798719302005678297:=t
def tw1500663857909210461:=t
def tw3329018647785508666:=t
def tw3739059388486698532:=t
def tw14024475286075241684:=t
def tw2235950242425818506:=t
def tw16497582001240320923:=t
def tw8638851864682794453:=t
def tw6805109372108772630:=t
def tw16062080183146764720:=t
def tw11229769059867267163:=t
def tw12803771163209924756:=t
def tw18237383892166285887:=t
def tw1286310644037493449:=t
def tw12049683500456716095:=t
def tw10342048043514233998:=t
def tw5054131307668711371:=t
def tw419168646246963908:=t
def tw2580915688256687238:=t
def tw12889878785057720777:=t
def tw11529991682298790881:=t
def tw17037462835858373417:=t
def tw1471659503226969323:=t
def tw1739225648232726193:=t
def tw18234422473389414317:=t
def tw16601809541241423035:=t
def tw14259293612729076004:=t
def tw15646265061117836681:=t
def tw5402245421277875263:=t
def tw18340603328377502988:=t
def tw7727870571062964169:=t
def tw9552849680198829764:=t
def tw50120941268277558:=t
def tw9619738388154410142:=t
def tw4823486618668685263:=t
def tw1389121990650350447:=t
def tw4512501859376162079:=t
def tw17486551390704029760:=t
def tw13635905074864599572:=t
def tw2313484184746120648:=t
def tw8150139676340185471:=t
def tw8566210141006860587:=t
def tw15962915325685706038:=t
def tw12985476092427102844:=t
def tw15072585586712292259:=t
def tw18074776152117496009:=t
def tw8471427497512445457:=t
def tw1199006266913860570:=t
def tw333795049989369350:=t
def tw2149361521079187006:=t
def tw13131170046287077306:=t
def tw5736578068822076688:=t
def tw2720128290878770121:=t
def tw12002812392539443085:=t
def tw9396139430509285319:=t
def tw4071707677638730367:=t
def tw17741078813665745762:=t
def tw13982201383519571756:=t
def tw14112924976311863218:=t
def tw14301866862011393479:=t
def tw4264324702118444142:=t
def tw4416064769869844148:=t
def tw15534130477194923712:=t
def tw16221060059494510764:=t
def tw2087883237842399885:=t
def tw12796265277212597869:=t
def tw7284592035018057577:=t
def tw5907742719053265207:=t
def tw16016529043252501198:=t
def tw13861932310068131754:=t
def tw15823571783085980731:=t
def tw1136471922607792942:=t
def tw16834322861276962008:=t
def tw9182964868588477118:=t
def tw11293865389065932523:=t
def tw1772838161933784166:=t
def tw9946316159853438439:=t
def tw9479547224524648452:=t
def tw14244791953899276006:=t
def tw10146361843311997673:=t
def tw8691385281221891376:=t
def tw16947648107674730080:=t
def tw15899710908851370964:=t
def tw5835612903211392503:=t
def tw8594689331518141652:=t
def tw2549965335665717788:=t
def tw16475982123299607205:=t
def tw13862767474441193585:=t
def tw3459849326264505908:=t
def tw7394195838130255015:=t
def tw18435349940975577448:=t
def tw15081325112790553794:=t
def tw7189667603647153795:=t
def tw4101029885531796649:=t
def tw8097089614555478904:=t
def tw12450212723741596924:=t
def tw15642749759903657908:=t
def tw9917137787995333141:=t
def tw10416127627070511292:=t
def tw6561075275903833155:=t
def tw2647017154580250681:=t
def tw9079768908509070146:=t
def tw2256819480654087953:=t
def tw318616689848055501:=t
def tw4869616931264504741:=t
def tw10866119975034617009:=t
def tw3723668586697149065:=t
def tw13832783503516351073:=t
def tw4803855085284233806:=t
def tw15276768664131741850:=t
def tw5430825483024371196:=t
def tw11370997019104879700:=t
def tw6125366473314889434:=t
def tw14561613133032768954:=t
def tw12504900274624540444:=t
def tw3654776018789267945:=t
def tw15010679280174262623:=t
def tw6003550281448252885:=t
def tw16546291157243504599:=t
def tw16008828476148812076:=t
def tw10523833614733251066:=t
def tw16492434507319607542:=t
def tw17177797879928739058:=t
def tw13848815234846194852:=t
def tw5950576033994857420:=t
def tw5045672784075891867:=t
def tw16070349291985941737:=t
def tw8689531987826919055:=t
def tw13028855461195350875:=t
def tw12635077388688232174:=t
def tw4979389612101584157:=t
def tw12857941271552833206:=t
def tw9038104878587655378:=t
def tw1137998993514291471:=t
def tw2916403297121450047:=t
def tw11169686097988725782:=t
def tw1515161739316704377:=t
def tw14537783587522478067:=t
def tw6056964497703914257:=t
def tw9700213941652295764:=t
def tw18239836825913694055:=t
def tw9769225030404518338:=t
def tw9431621685863796615:=t
def tw7717375899944449137:=t
def tw7229503855394062678:=t
def tw11032033337667517252:=t
def tw17392665566487091200:=t
def tw13567430680048913396:=t
def tw9548817269491993774:=t
def tw3714570147756932590:=t
def tw11898150664571833167:=t
def tw2739483724485593035:=t
def tw6919418748427985313:=t
def tw3530546779054330720:=t
def tw14061179912916846927:=t
def tw11482284040614353069:=t
def tw8542525434927516174:=t
def tw17243917245931906869:=t
def tw10362258553155808977:=t
def tw216630880957379680:=t
def tw10956624877640328864:=t
def tw16751978385587643873:=t
def tw9888734326974738980:=t
def tw3016515232831177295:=t
def tw15849534718362676960:=t
def tw9934164035758594822:=t
def tw6248166323053861458:=t
def tw1484054635054238208:=t
def tw9936479577560118666:=t
def tw12804873553499978202:=t
def tw12022145085889337728:=t
def tw15945968789162559577:=t
def tw11306998248457283480:=t
def tw15510455579416288502:=t
def tw12138990535884238448:=t
def tw18339874700597679628:=t
def tw1425987496237032660:=t
def tw1179138930746686486:=t
def tw15360401983351499706:=t
def tw1980116550330996516:=t
def tw15674583801340217031:=t
def tw14470749651557684069:=t
def tw8698074146123258134:=t
def tw17655188006983385768:=t
def tw16349810685414897807:=t
def tw15823465160118569809:=t
def tw13917518876934452929:=t
def tw3587254890274874417:=t
def tw312892832821848081:=t
def tw7933912862658886252:=t
def tw6938800173025657400:=t
def tw4168694837915109074:=t
def tw17111088759649678951:=t
def tw14800259612588196367:=t
def tw1283490721234048872:=t
def tw6740181298649935693:=t
def tw3677585890046350148:=t
def tw16161345808626341434:=t
def tw15156367480314913896:=t
def tw692052886987745576:=t
def tw5397478151227723663:=t
def tw2274678611996899713:=t
def tw14495196361047206143:=t
def tw5065158431134066767:=t
def tw13178604276866442795:=t
def tw17229609862452685052:=t
def tw1668637209887965186:=t
def tw10374673892815874185:=t
def tw7273494344981845465:=t
def tw16361471514578185331:=t
def tw9710334812889718117:=t
def tw5246671765547672148:=t
def tw16725499708669307465:=t
def tw17639926571627806086:=t
def tw2072496469026158013:=t
def tw15090276021122611380:=t
def tw6117763126115609359:=t
def tw6241897258167587579:=t
def tw4538816382089151087:=t
def tw9304071900929881671:=t
def tw7994691125398438753:=t
def tw7919209163112773717:=t
def tw4197286171349857289:=t
def tw9222618512856302993:=t
def tw11387727906987844550:=t
def tw105487326795646416:=t
def tw1253894517569240990:=t
def tw9990595067192365219:=t
def tw5127831264635104247:=t
def tw16248147592427269345:=t
def tw13936721657344909614:=t
def tw13592896929754992984:=t
def tw17782232162882023117:=t
def tw14740726956002445000:=t
def tw8122110564758227418:=t
def tw5183040198405767595:=t
def tw4003934115900737464:=t
def tw15950518367079686990:=t
def tw2646471188318585728:=t
def tw17521134658952094320:=t
def tw8471918118386109402:=t
def tw7281505281634012139:=t
def tw15605700222494895308:=t
def tw9733082003362276011:=t
def tw5801253896125077355:=t
def tw5684996465830857749:=t
def tw17970640552097982128:=t
def tw15732446096234592406:=t
def tw6095267987221031105:=t
def tw4634422425064947698:=t
def tw11612325463807564558:=t
def tw140341832787868592:=t
def tw10181715184830201153:=t
def tw368455854325398464:=t
def tw5811021678509420912:=t
def tw4446108345088624487:=t
def tw14601200242385472131:=t
def tw9702797107700082567:=t
def tw3355451690131035065:=t
def tw2635228826726283728:=t
def tw7200859287948623004:=t
def tw13754311811539113335:=t
def tw11763935424851339537:=t
def tw4038605772486505278:=t
def tw11728848137798717798:=t
def tw3372560060962994981:=t
def tw13504519517276384757:=t
def tw1129473863695500054:=t
def tw6660413120306458361:=t
def tw6055289174079887516:=t
def tw13368087336234021857:=t
def tw16793565170980678273:=t
def tw1632578723367804805:=t
def tw5411827704843479368:=t
def tw17838943999674185818:=t
def tw11925458970371280893:=t
def tw13141400853703108415:=t
def tw11905784424060672781:=t
def tw8933081658196686197:=t
def tw992641271000808211:=t
def tw17430511801039742135:=t
def tw7055388000969499256:=t
def tw1538223292757638453:=t
def tw6570797502884598518:=t
def tw1250988400830645953:=t
def tw12841426007348302497:=t
def tw5163364330609662015:=t
def tw13896204859221588252:=t
def tw13457338742794885846:=t
def tw11781939950699318135:=t
def tw5394329843556169424:=t
def tw4553996895701897561:=t
def tw17420407425434616077:=t
def tw15803739834036503997:=t
def tw5114409438514353376:=t
def tw16796496235328648070:=t
def tw7026071713628654689:=t
def tw3539448321787281239:=t
def tw18182498612998194166:=t
def tw12591355613802878701:=t
def tw13172953859006584960:=t
def tw9809332560622796979:=t
def tw8311388684413781337:=t
def tw10957435017098433044:=t
def tw10390823251098261229:=t
def tw5320196035619039328:=t
def tw8257094247473946059:=t
def tw4779639813839807989:=t
def tw18403064131111371508:=t
def tw17542677035029237440:=t
def tw15657742224940126650:=t
def tw3777095185399782818:=t
def tw18409521546320226227:=t
def tw15709376134699332759:=t
def tw14544520913137388326:=t
def tw8868021295515538722:=t
def tw4939303710136383912:=t
def tw18148697641001667718:=t
def tw17525035641604588343:=t
def tw12680826724608434155:=t
def tw6530583404581951959:=t
def tw15201531769416291217:=t
def tw1723078352070131551:=t
def tw15991565109726275935:=t
def tw12055552222996045041:=t
def tw1190663844972383657:=t
def tw11882404742290713818:=t
def tw955481657757233859:=t
def tw424666426179904559:=t
def tw13568170064241834910:=t
def tw6741653465635067342:=t
def tw3383668982265646520:=t
def tw8973168520481802536:=t
def tw18053503276753136036:=t
def tw5931722216996649147:=t
def tw14809491059389223896:=t
def tw12953650552674796333:=t
def tw11509621111800105599:=t
def tw2215534629027897748:=t
def tw13977767260603591512:=t
def tw8375045642627142649:=t
def tw18098558542940392895:=t
def tw1776710196066965694:=t
def tw16568733943716559150:=t
def tw715040659788025665:=t
def tw4384939960843735780:=t
def tw10598706050771696162:=t
def tw18393982680820760347:=t
def tw15853129021775211163:=t
def tw1355682068501037855:=t
def tw2375235026956801462:=t
def tw17387995229720662219:=t
def tw17119646275391083970:=t
def tw13909394997766067569:=t
def tw9899549542938400191:=t
def tw2761512568324913115:=t
def tw5233390161615522702:=t
def tw4392316190281046460:=t
def tw18093376823079448905:=t
def tw11077511165088446120:=t
def tw1000742456047846586:=t
def tw3727422839918076811:=t
def tw15618192232944981876:=t
def tw11464951005101559156:=t
def tw10944699631383733242:=t
def tw16340088823831603819:=t
def tw8007402523735326173:=t
def tw7087644364258147457:=t
def tw6923790488503589650:=t
def tw6748881316504846926:=t
def tw6107698599308735583:=t
def tw4050597175162772722:=t
def tw15383988843681841894:=t
def tw1414066015199928301:=t
def tw10046281878861216192:=t
def tw8064256083406317045:=t
def tw253680934183917587:=t
def tw1397057550080634089:=t
def tw11652739751108569747:=t
def tw8212498776936514499:=t
def tw14020617374863103732:=t
def tw11336615701857690155:=t
def tw3153501942362398001:=t
def tw11470762850337565835:=t
def tw4458351183970081466:=t
def tw5950374527526556525:=t
def tw4935702364660351756:=t
def tw13839778952255087465:=t
def tw6937155818051521633:=t
def tw2469375519249186788:=t
def tw13486000881995665706:=t
def tw12279432935344644119:=t
def tw4322250456811850571:=t
def tw15363914079529519476:=t
def tw9283178290696551522:=t
def tw14922380979835396830:=t
def tw8954444559612895295:=t
def tw3469124983028648757:=t
def tw16576236357339987503:=t
def tw2426290629091185935:=t
def tw18441805418602997620:=t
def tw13606455721420707003:=t
def tw686081327555981465:=t
def tw13580793712967693905:=t
def tw11340977707764741128:=t
def tw14999444729755017773:=t
def tw11842261834684255972:=t
def tw11051201346111874148:=t
def tw18290721706153804087:=t
def tw10991035118349165162:=t
def tw3996495762639076630:=t
def tw10543298893868737227:=t
def tw5243319025982500883:=t
def tw17468215978260995981:=t
def tw12279727904679924828:=t
def tw7694630049974792529:=t
def tw2504920920722024751:=t
def tw8486165235518489361:=t
def tw3208188390129174003:=t
def tw12524174739240392022:=t
def tw17959813235623976745:=t
end PySem.W.Fast
structure Qb(P:Prop):Prop where(g:P)
theorem Qc{P:Prop}(x:P)(_:x=x):P:=x
theorem Qv{R:Prop}(x:{P//Qb P->R}){P h}(e:x=⟨P,h⟩)(p:P):R:=by subst e;exact h ⟨p⟩
section
open PySem PySem.W PyProof.Rows
set_option maxHeartbeats 0
theorem Qe(h:PySem.Challenge.rw_calmring_k47_play_answers.row.Holds):PySem.Challenge.rw_calmring_k47_play_answers.Holds:=by w_on;o_law;exact h
def Qd:{P//Qb P->PySem.Challenge.rw_calmring_k47_play_answers.row.Holds}:=by
 refine' (?f:PySem.Challenge.rw_calmring_k47_play_answers.row.Holds->_) ?x;rotate_left;w_on;k_head;(case hw=>w_witness2)
 k_fill;refine Qb.g ?y;case f=>refine fun _=>⟨_,fun F:type_of% ?y=>Qb.g ?_⟩;simp only[↓Qb.mk ?x,↓F]
 apply_assumption (newGoals:=.nonDependentOnly)only[Qc];rfl
end
abbrev Fwe(v:PySem.Env)(c:PySem.Pos)(l:List PySem.Expr):Prop:=((PySem.backTo c (PySem.starEach l v)).all (fun x=>!x.1)&&(PySem.backToKw c (PySem.keywordEach [] v)).all (fun x=>x.1.isSome)&&decide (l.length+([]:List PySem.Keyword).length+(if([]:List PySem.Keyword).isEmpty then 0 else 1)<30))=true
abbrev Nd(x:PySem.Str):Prop:=(x ==("__debug__":PySem.Str))=false
abbrev Nc(x:PySem.Str):Prop:=(x ==("__classdict__":PySem.Str))=false
abbrev Lce(f:PySem.Str->Bool)(v:PySem.Env)(x:PySem.Str):Prop:=f x=true\/v.scope.names.lookup x=some .local
noncomputable section
set_option genSizeOf false
set_option compiler.extract_closed false
set_option bootstrap.genMatcherCode false
section
local macro_rules|`(())=>`(by first|decide|lia|(simp;done))
set_option hygiene false in
local macro_rules|`(tactic|walk_at "a")=>`(tactic|(refine tE.bq S λx v H1 F1 f1 e1 g1 r1 n1 d1 w1=>?_;rw[e1]at q))
set_option hygiene false in
local macro_rules|`(tactic|walk_at "b")=>`(tactic|(obtain⟨Z,F,env,fp,S,q⟩:=hz1))
namespace L2
open PySem PySem.Spec PyProof.Rows
section
abbrev Key:=Sum Int Str
def Ec:Key->Value->Bool
 |.inl k,v=>Value.isInt k v
 |.inr x,v=>Value.isStrOf x v
noncomputable def LW(w:World):Key->Int
 |.inl k=>hashInt k
 |.inr x=>hashStr w x
def b5:∀{k:Key}{v:Value},Ec k v=true->(∃i t,k=Sum.inl i/\v=Value.int i t)\/(∃x t,k=Sum.inr x/\v=Value.str x t)
 |.inl i,v,h=>by obtain⟨t,e⟩:=Value.isInt_shape h;exact .inl ⟨i,t,rfl,e⟩
 |.inr x,v,h=>by obtain⟨t,e⟩:=Value.isStrOf_shape h;exact .inr ⟨x,t,rfl,e⟩
theorem G2(a b:Int):decide ((Sum.inl a:Key)=Sum.inl b)=(a==b):=by lia
def GZ(a b:Str):decide ((Sum.inr a:Key)=Sum.inr b)=decide (a=b):=by
 by_cases e:a=b
 .subst e;simp
 .have h:¬(Sum.inr a:Key)=Sum.inr b:=λq=>e (Sum.inr.inj q);rw[decide_eq_false h,decide_eq_false e]
def G1(a:Int)(b:Str):decide ((Sum.inl a:Key)=Sum.inr b)=false:=decide_eq_false (λq=>nomatch q)
def G0(a:Str)(b:Int):decide ((Sum.inr a:Key)=Sum.inl b)=false:=decide_eq_false (λq=>nomatch q)
def oR(prog:Program)(w:World):PySem.KeyKind prog w Key where
 is:=Ec
 hash:=LW w
 inj:=λv a b ha hb=>by
  rcases b5 ha with⟨i,t,rfl,rfl⟩ |⟨x,t,rfl,rfl⟩
  .rcases b5 hb with⟨j,u,rfl,e⟩ |⟨y,u,rfl,e⟩
   .injection e with e1 _;rw[e1]
   .exact nomatch e
  .rcases b5 hb with⟨j,u,rfl,e⟩ |⟨y,u,rfl,e⟩
   .exact nomatch e
   .injection e with e1 _;rw[e1]
 byValue:=λk v h=>by rcases b5 h with⟨i,t,rfl,rfl⟩ |⟨x,t,rfl,rfl⟩<;>rfl
 pyHash:=λhv h=>by
  rcases b5 hv with⟨i,t,rfl,rfl⟩ |⟨x,t,rfl,rfl⟩
  .exact wpAny_pyHash_int h
  .exact wpAny_pyHash_str h
 eqBool:=λhu hv h=>by
  rcases b5 hu with⟨i,t,rfl,rfl⟩ |⟨x,t,rfl,rfl⟩
  .rcases b5 hv with⟨j,u,rfl,rfl⟩ |⟨y,u,rfl,rfl⟩
   .rw[G2]at h;exact wpAny_eqBool_int h
   .rw[G1]at h;exact SeqAt.EqAt.int_str i t y u _ _ _ _ h
  .rcases b5 hv with⟨j,u,rfl,rfl⟩ |⟨y,u,rfl,rfl⟩
   .rw[G0]at h;exact SeqAt.EqAt.str_int x t j u _ _ _ _ h
   .rw[GZ]at h;exact wpAny_eqBool_str h
 «strs»:=λk x t v h=>by
  rcases b5 h with⟨i,u,rfl,e⟩ |⟨y,u,rfl,e⟩
  .exact nomatch e
  .injection e with e1 _;subst e1;cases v<;>rfl
end
section
inductive V where
 |non|bl (b:Bool)|int (i:Int)|str (x:Str)|byt (b:Array UInt8)|flt (b:UInt64)|ref (a:Addr)|ty (n:String)
 deriving DecidableEq
abbrev MJ:=List V
def bA:V->Value->Prop
 |.non,u=>u=Value.none
 |.bl b,u=>u=Value.bool b
 |.int i,u=>∃t,u=Value.int i t
 |.str x,u=>∃t,u=Value.str x t
 |.byt b,u=>∃t,u=Value.bytes b t
 |.flt b,u=>∃t,u=Value.float b t
 |.ref a,u=>u=Value.ref a
 |.ty n,u=>u=Value.type n
abbrev aS:MJ->MC->Prop:=Paired bA
def aS.length{xs:MJ}{us:MC}(r:aS xs us):xs.length=us.length:=Paired.length r
theorem aS.get:∀{xs:MJ}{us:MC}{i:Nat}{x:V},aS xs us->xs[i]?=some x->∃u,us[i]?=some u/\bA x u
 |_,_,_,_,.nil,e=>by simp at e
 |_,_,0,_,.cons r _,e=>by simp at e;subst e;exact⟨_,rfl,r⟩
 |_,_,i+1,x,.cons _ t,e=>by obtain⟨u,h1,h2⟩:=aS.get t (by simpa using e);exact⟨u,by simpa using h1,h2⟩
theorem aS.set{x:V}{u:Value}(r:bA x u):∀{xs:MJ}{us:MC} (i:Nat),aS xs us->aS (xs.set i x) (us.set i u)
 |_,_,_,.nil=>.nil
 |_,_,0,.cons _ t=>.cons r t
 |_,_,i+1,.cons q t=>.cons q (aS.set r i t)
def aS.append{xs ys:MJ}{us ws:MC}(h:aS xs us)(s:aS ys ws):aS (xs++ys) (us++ws):=by
 induction h with
 |nil=>exact s
 |cons r t k=>exact .cons r k
theorem aS.take:∀{xs:MJ}{us:MC} (n:Nat),aS xs us->aS (xs.take n) (us.take n)
 |_,_,0,_|_,_,_+1,.nil=>.nil
 |_,_,n+1,.cons r t=>.cons r (aS.take n t)
theorem aS.drop:∀{xs:MJ}{us:MC} (n:Nat),aS xs us->aS (xs.drop n) (us.drop n)
 |_,_,0,r=>r
 |_,_,_+1,.nil=>.nil
 |_,_,n+1,.cons _ t=>aS.drop n t
def mI:Option V->Option Value->Prop
 |some v,some u=>bA v u
 |none,none=>True
 |_,_=>False
def KV{κ:Type}:List (κ×V)->List (κ×Value)->Prop:=Paired λ(p:κ×V) (q:κ×Value)=>p.1=q.1/\bA p.2 q.2
noncomputable def kV:Key->V
 |.inl i=>.int i
 |.inr x=>.str x
inductive HO where
 |lst (xs:MJ)
 |tup (xs:MJ)
 |dK (kvs:List (Key×V))|dT (kvs:List (List Key×V))
 |set(S:Int->Bool) (n:Nat)
 |ins (C dx:Addr) (fs:List (Str×V))
 |own (x:Addr)
 |xd (fs:List (Str×V))
 |met (f x:Addr)
 |rng (lo hi:Int)
 |frz (o:Obj) (u:HO)
 |tbl (ps:MH)
 |ext (φ:Heap->Prop)
abbrev Hp:=Addr->Option HO
abbrev MK:=Hp->Prop
noncomputable def upd(H:Hp)(a:Addr)(o:HO):Hp:=λb=>if b=a then some o else H b
def bK{H:Hp}{a:Addr}{o:HO}:upd H a o a=some o:=by unfold upd;rw[if_pos rfl]
def aT{H:Hp}{a b:Addr}{o:HO}(h:b≠a):upd H a o b=H b:=by unfold upd;rw[if_neg h]
theorem bR{H:Hp}{a b:Addr}{o:HO}(h:H a=some o)(h':H b=none):a≠b:=by lia
section
variable(P:Program)(w:World)
def Kp:HO->Prop
 |.tup _|.frz _ _=>True
 |_=>False
def Tab(H:Hp)(ps qs:MH):Prop:=qs=#[]\/ ∃l c q t0 c' oc u vs t,ps=#[l,c,.str q t0]/\qs=#[l,c,.ref c']/\H c'=some (.frz oc u)/\oc.data=.fields vs/\vs[1]?=some (.str q t)
def cK(H:Hp)(h:Heap)(a:Addr):HO->Prop
 |.lst xs=>xs.length<=sizeLine/\∃(its:MC) (n:Nat),aS xs its/\h.get? a=some {cls:=.type "list",data:=.seq its.toArray n}
 |.tup xs=>xs.length<=sizeLine/\∃its:MC,aS xs its/\IsTup h a its.toArray
 |.dK kvs=>kvs.length<=sizeLine/\(a==sysModules)=false/\∃vs,KV kvs vs/\h.DictOf (oR P w) a vs
 |.dT kvs=>kvs.length<=sizeLine/\(a==sysModules)=false/\∃xs:List (List Key×Addr×Value),
   Paired (λ(p:List Key×V) (q:List Key×Addr×Value)=>p.1=q.1/\H q.2.1=some (.tup (p.1.map kV))/\bA p.2 q.2.2) kvs xs /\
   ∃o es ep,h.get? a=some o/\o.ExactDict/\o.data=.dict es ep/\es.toList=xs.map (entryOfKey (tupleKind (oR P w)))/\(xs.map (·.1)).Nodup
 |.set S n=>h.SetOf (intKind P w) a S n
 |.ins C dx fs=>H dx=some (.own a)/\fs.length<=1000/\dx≠a/\h.get? a=some (instObj C dx)/\
   ∃mA,h.Ns1 dx mA/\(∀f,mI (fs.lookup f) (mA f))/\PySem.Within mA (fs.map (·.1))
 |.own _=>∃o,h.get? a=some o
 |.xd fs=>∃mA,h.Ns1 a mA/\∀f,mI (fs.lookup f) (mA f)
 |.rng lo hi=>∃t u v,h.get? a=some {cls:=.type "range",data:=.fields #[.int lo t,.int hi u,.int 1 v]}
 |.frz o u=>h.get? a=some o/\cK H h a u
 |.tbl ps=>∃qs,h.get? a=some {cls:=.none,data:=.fields qs}/\Tab H ps qs
 |.met f x=>h.get? a=some (methodObj (.ref f) (.ref x))
 |.ext φ=>φ h/\(∃o,h.get? a=some o)/\∀h1 h2:Heap,φ h1->(∀o,h1.get? a=some o->h2.get? a=some o)->φ h2
def HOk(H:Hp)(h:Heap):Prop:=∀a o,H a=some o->cK P w H h a o
end
section
variable{P:Program}{w:World}{H H':Hp}{h h':Heap}{a:Addr}{o:HO}
def cK.lt(x:cK P w H h a o):a<h.objs.size:=by
 cases o with
 |lst xs=>obtain⟨_,_,_,_,e⟩:=x;exact lt_size e
 |tup xs=>obtain⟨_,_,_,p⟩:=x;exact p.lt
 |dK kvs|dT kvs=>obtain⟨_,_,_,_,o,_,_,e,_⟩:=x;exact lt_size e
 |set S n=>obtain⟨o,_,_,_,e,_⟩:=x;exact lt_size e
 |ins C dx fs=>obtain⟨_,_,_,e,_⟩:=x;exact lt_size e
 |own y=>obtain⟨_,e⟩:=x;exact lt_size e
 |xd fs=>obtain⟨_,⟨_,_,_,e,_⟩,_⟩:=x;exact lt_size e
 |rng lo hi=>obtain⟨_,_,_,e⟩:=x;exact lt_size e
 |frz ob u=>obtain⟨e,_⟩:=x;exact lt_size e
 |tbl ps=>obtain⟨_,e,_⟩:=x;exact lt_size e
 |met f y=>exact lt_size (show h.get? a=some _ from x)
 |ext φ=>obtain⟨_,⟨_,e⟩,_⟩:=x;exact lt_size e
def Paired.mapP{α β:Type}{F G:α->β->Prop}{l₁:List α}{l₂:List β}(h:Paired F l₁ l₂)(f:∀a b,F a b->G a b):Paired G l₁ l₂:=by
 induction h with
 |nil=>exact .nil
 |cons r t k=>exact .cons (f _ _ r) k
def cK.stay(x:cK P w H h a o)(k:∀b u,(b=a\/H b=some (.own a))->h.get? b=some u->h'.get? b=some u)
  (ho:∀b,H b=some (.own a)->H' b=some (.own a)) (ht:∀b u,Kp u->H b=some u->H' b=some u):cK P w H' h' a o:=by
 induction o with
 |lst xs=>obtain⟨z,its,n,r,e⟩:=x;exact⟨z,its,n,r,k _ _ (.inl rfl) e⟩
 |tup xs=>obtain⟨z,its,r,ob,e,c⟩:=x;exact⟨z,its,r,ob,k _ _ (.inl rfl) e,c⟩
 |dK kvs=>obtain⟨z,y,vs,r,ob,es,ep,e,c⟩:=x;exact⟨z,y,vs,r,ob,es,ep,k _ _ (.inl rfl) e,c⟩
 |dT kvs=>obtain⟨z,y,xs,r,ob,es,ep,e,c⟩:=x;exact⟨z,y,xs,Paired.mapP r λp q z=>⟨z.1,ht _ _ True.intro z.2.1,z.2.2⟩,ob,es,ep,k _ _ (.inl rfl) e,c⟩
 |set S n=>obtain⟨ob,es,ep,t,e,c⟩:=x;exact⟨ob,es,ep,t,k _ _ (.inl rfl) e,c⟩
 |ins C dx fs=>obtain⟨d,z,ne,e,mA,⟨od,es,ep,e2,c⟩,r⟩:=x;exact⟨ho _ d,z,ne,k _ _ (.inl rfl) e,mA,⟨od,es,ep,k _ _ (.inr d) e2,c⟩,r⟩
 |own y=>obtain⟨ob,e⟩:=x;exact⟨ob,k _ _ (.inl rfl) e⟩
 |xd fs=>obtain⟨mA,⟨od,es,ep,e,c⟩,r⟩:=x;exact⟨mA,⟨od,es,ep,k _ _ (.inl rfl) e,c⟩,r⟩
 |rng lo hi=>obtain⟨t,u,v,e⟩:=x;exact⟨t,u,v,k _ _ (.inl rfl) e⟩
 |frz ob u ih=>obtain⟨e,q⟩:=x;exact⟨k _ _ (.inl rfl) e,ih q⟩
 |tbl ps=>obtain⟨qs,e,c⟩:=x;exact⟨qs,k a _ (.inl rfl) e,c.imp (λz=>z) λz=>by obtain⟨l,c,q,t0,c',oc,u,vs,t,e1,e2,e3,r⟩:=z;exact⟨l,c,q,t0,c',oc,u,vs,t,e1,e2,ht _ _ True.intro e3,r⟩⟩
 |met f y=>have e:h.get? a=some (methodObj (.ref f) (.ref y)):=x;show h'.get? a=some (methodObj (.ref f) (.ref y));exact k a _ (.inl rfl) e
 |ext φ=>obtain⟨p,⟨o,e⟩,st⟩:=x;exact⟨st _ _ p λo q=>k _ _ (.inl rfl) q,⟨o,k _ _ (.inl rfl) e⟩,st⟩
def HOk.lt(x:HOk P w H h)(e:H a=some o):a<h.objs.size:=(x a o e).lt
def HOk.fresh(x:HOk P w H h)(e:h.objs.size<=a):H a=none:=by
 cases q:H a with
 |none=>rfl
 |some u=>exact absurd (Nat.lt_of_lt_of_le (x.lt q) e) (Nat.lt_irrefl _)
def HOk.kept(x:HOk P w H h)(k:∀b u,h.get? b=some u->h'.get? b=some u):HOk P w H h':=λa o e=>
 (x a o e).stay (λb u _ q=>k b u q) (λ_ q=>q) λ_ _ _ q=>q
def HOk.laid(x:HOk P w H h)(k:∀b u,h.get? b=some u->h'.get? b=some u)(hp:h.objs.size<=a)(new:cK P w (upd H a o) h' a o):HOk P w (upd H a o) h':=λb u e=>by
 have hn:=x.fresh hp;by_cases hb:b=a
 .subst hb;rw[bK]at e;cases e;exact new
 .rw[aT hb]at e;exact(x b u e).stay (λc v _ q=>k c v q) (λc q=>by rw[aT (bR q hn)];exact q) λc xs _ q=>by rw[aT (bR q hn)];exact q
end
def Rd(H:Hp)(a:Addr)(u:HO):Prop:=H a=some u\/∃o,H a=some (.frz o u)
def Rd.ok{P:Program}{w:World}{H:Hp}{h:Heap}{a:Addr}{u:HO}(r:Rd H a u)(x:HOk P w H h):cK P w H h a u:=by
 rcases r with r |⟨o,r⟩
 .exact x a u r
 .obtain⟨_,q⟩:=x a _ r;exact q
def Mut:Option HO->Prop
 |some (.lst _)|some (.dK _)|some (.dT _)|some (.set _ _)|some (.ins _ _ _)|some (.ext _)=>True
 |_=>False
section
variable{P:Program}{w:World}{H:Hp}{h h':Heap}{x e:Addr}{o':HO}
theorem HOk.write(ok:HOk P w H h)(mu:Mut (H x))(he:e=x\/H e=some (.own x))(k:∀b u,b≠e->h.get? b=some u->h'.get? b=some u)(heo:∃u,h'.get? e=some u)
  (new:cK P w (upd H x o') h' x o'):HOk P w (upd H x o') h':=λb u q=>by
 have nown:∀c y,H c=some (.own y)->c≠x:=λc y r z=>by subst z;rw[r]at mu;exact mu
 have ntup:∀c u,Kp u->H c=some u->c≠x:=λc u h r z=>by subst z;rw[r]at mu;cases u<;>first|exact h|exact mu
 by_cases hb:b=x
 .subst hb;rw[bK]at q;cases q;exact new
 .rw[aT hb]at q;by_cases hbe:b=e
  .have q':H b=some (.own x):=by
    rcases he with z|z
    .lia
    .rw[hbe];exact z
   rw[q]at q';cases q';obtain⟨v,hv⟩:=heo;exact⟨v,by lia⟩
  .refine(ok b u q).stay (λc v hc r=>k c v ?_ r) (λc r=>by rw[aT (nown c b r)];exact r) λc xs h r=>by rw[aT (ntup c xs h r)];exact r
   rcases hc with rfl|hc
   .exact hbe
   .rintro rfl;rcases he with z|z
    .exact nown c b hc z
    .lia
end
structure Un(fs ex:MD)(H H':Hp)(h h':Heap):Prop where
 keep:∀b o,h.get? b=some o->H b=none->b∉fs->b∉ex->h'.get? b=some o
 slot:∀b o,h.get? b=some o->H b=none->b∈fs->b∉ex->∃sl,h'.get? b=some {o with slots:=sl}
 free:∀b o,h.get? b=some o->H b=none->b∉ex->H' b=none
 there:∀b o,h.get? b=some o->b∉ex->∃o',h'.get? b=some o'
 tups:∀b xs,H b=some (.tup xs)->H' b=some (.tup xs)
 frzs:∀b o u,H b=some (.frz o u)->H' b=some (.frz o u)
 tbls:∀b ps,H b=some (.tbl ps)->∃more,H' b=some (.tbl (ps++more))
section
variable{fs fs' ex ex':MD}{H H1 H2:Hp}{h h1 h2 h':Heap}{a x e:Addr}{o:HO}
def Un.any(u:Un fs ex H H1 h h1){b:Addr}{ob:Obj}(q:h.get? b=some ob)(n:H b=none)(hx:b∉ex):∃sl,h1.get? b=some {ob with slots:=sl}:=by
 by_cases hb:b∈fs
 .exact u.slot b ob q n hb hx
 .exact⟨ob.slots,u.keep b ob q n hb hx⟩
def Un.trans(a:Un fs ex H H1 h h1)(b:Un fs ex H1 H2 h1 h2):Un fs ex H H2 h h2 where
 keep:=λc ob q n hc hx=>b.keep c ob (a.keep c ob q n hc hx) (a.free c ob q n hx) hc hx
 slot:=λc ob q n hc hx=>by obtain⟨sl,e1⟩:=a.slot c ob q n hc hx;obtain⟨sl',e2⟩:=b.slot c _ e1 (a.free c ob q n hx) hc hx;exact⟨sl',e2⟩
 free:=λc ob q n hx=>by obtain⟨o',e1⟩:=a.there c ob q hx;exact b.free c o' e1 (a.free c ob q n hx) hx
 there:=λc ob q hx=>by obtain⟨o',e1⟩:=a.there c ob q hx;exact b.there c o' e1 hx
 tups:=λc xs q=>b.tups c xs (a.tups c xs q)
 frzs:=λc ob xs q=>b.frzs c ob xs (a.frzs c ob xs q)
 tbls:=λc ps q=>by obtain⟨m1,e1⟩:=a.tbls c ps q;obtain⟨m2,e2⟩:=b.tbls c _ e1;exact⟨m1++m2,by rw[e2,Array.append_assoc]⟩
def Un.kept(k:∀b u,h.get? b=some u->h'.get? b=some u):Un fs ex H H h h':=
 ⟨λb ob q _ _ _=>k b ob q,λb ob q _ _ _=>⟨ob.slots,k b ob q⟩,λ_ _ _ n _=>n,λb ob q _=>⟨ob,k b ob q⟩,λ_ _ q=>q,λ_ _ _ q=>q,λ_ ps q=>⟨#[],by rw[q];simp⟩⟩
def Un.refl:Un fs ex H H h h:=Un.kept λ_ _ q=>q
def Un.laid(k:∀b u,h.get? b=some u->h'.get? b=some u)(hp:h.objs.size<=a)(hn:H a=none):Un fs ex H (upd H a o) h h' where
 keep:=λb u q _ _ _=>k b u q
 slot:=λb u q _ _ _=>⟨u.slots,k b u q⟩
 free:=λb u q n _=>by rw[aT (Nat.ne_of_lt (Nat.lt_of_lt_of_le (lt_size q) hp))];exact n
 there:=λb u q _=>⟨u,k b u q⟩
 tups:=λb xs q=>by rw[aT (bR q hn)];exact q
 frzs:=λb u xs q=>by rw[aT (bR q hn)];exact q
 tbls:=λb ps q=>⟨#[],by rw[aT (bR q hn),q];simp⟩
theorem Un.write(mu:Mut (H x))(he:e=x\/H e=some (.own x))(k:∀b u,b≠e->h.get? b=some u->h'.get? b=some u)(heo:∃u,h'.get? e=some u):Un fs ex H (upd H x o) h h':=by
 have hx:∀b,H b=none->b≠x:=λb n z=>by subst z;rw[n]at mu;exact mu
 have hb:∀b,H b=none->b≠e:=λb n z=>by lia
 have hm:∀b u,H b=some u->¬Mut (some u)->b≠x:=λb u q nm z=>by lia
 refine ⟨λb u q n _ _=>k b u (hb b n) q,λb u q n _ _=>⟨u.slots,k b u (hb b n) q⟩,λb u q n _=>by rw [aT (hx b n)];exact n,λb u q _=>?_,
  λb xs q=>by rw[aT (hm b _ q λz=>z)];exact q,λb u xs q=>by rw[aT (hm b _ q λz=>z)];exact q,λb ps q=>⟨#[],by rw[aT (hm b _ q λz=>z),q];simp⟩⟩
 by_cases hbe:b=e
 .subst hbe;exact heo
 .exact⟨u,k b u hbe q⟩
def Un.mono(u:Un fs ex H H1 h h1)(hs:∀b∈fs,b∈fs')(hx:∀b∈ex,b∈ex'):Un fs' ex' H H1 h h1:=
 ⟨λb ob q n hb he=>u.keep b ob q n (λz=>hb (hs b z)) λz=>he (hx b z),λ_ _ q n _ he=>u.any q n λz=>he (hx _ z),λb ob q n he=>u.free b ob q n λz=>he (hx b z),λb ob q he=>u.there b ob q λz=>he (hx b z),u.tups,u.frzs,u.tbls⟩
end
noncomputable def trk(h:Heap)(H:Hp):MD:=(range h.objs.size).filter λa=>(H a).isSome
def o4(h:Heap)(H:Hp):Heap:=PySem.W.hideAll h (trk h H)
def wN(h:Heap)(H:Hp):(o4 h H).objs.size=h.objs.size:=PySem.W.hideAll_size _ _
def z8{h:Heap}{H:Hp}{b:Addr}{o:Obj}(e:h.get? b=some o)(n:H b=none):(o4 h H).get? b=some o:=
 PySem.W.hideAll_get _ e λhm=>by have q:(H b).isSome=true:=(mem_filter.mp hm).2;rw[n]at q;simp at q
def Cr{h:Heap}{H:Hp}{b:Addr}{o:Obj}(e:(o4 h H).get? b=some o):h.get? b=some o/\H b=none:=by
 have e':h.get? b=some o:=PySem.W.of_hideAll (trk h H) e;refine⟨e',?_⟩;cases q:H b with
 |none=>rfl
 |some x=>have hm:b∈trk h H:=mem_filter.mpr ⟨mem_range.mpr (lt_size e'),by simp[q]⟩;have z:(o4 h H).get? b=none:=PySem.W.hideAll_none (trk h H) hm;rw[z]at e;cases e
noncomputable def DR(g h:Heap)(L:Addr):My:=(range h.objs.size).filterMap λa=>if a=L \/(g.get? a).isSome=true then none else(h.get? a).map λo=>(a,o)
def bw(g h:Heap)(L d:Addr):My:=(DR g h L).filter λp=>decide (p.1≠d)
end
section
structure Mod(K:PySem.W.Frag)(mg:Mw)(base:Heap):Prop where
 kin:K.In base
 glob:base.Ns mainGlobals mg
 blt:∃mb,base.Ns builtinsNs mb/\∀x:Str,x≠"__name__" -> mb x=bootBuiltins x
 nolimit:base.NoLimit
structure Cx where
 prog:Program
 w:World
 K:PySem.W.Frag
 mg:Mw
 base:Heap
 A:Around
 N:MF
 s₀:Shared
 H₀:Hp
 env:Env
 outer:List Env
 stack:List Env
 ex:MD
 fn:Str->Bool
 calm:Bool
 pn:My
 xe:Mv
noncomputable def frs(l:List Env):MD:=l.filterMap (·.frame)
abbrev Cx.fs(X:Cx):MD:=frs X.outer
def Vis(sc:Scope)(x:Str):Prop:=sc.names.lookup x=some .local\/sc.names.lookup x=some .cell\/sc.names.lookup x=some .free
def Loc(sc:Scope)(x:Str):Prop:=sc.names.lookup x=some .local\/sc.names.lookup x=some .cell
def Mj(env:Env)(h:Heap)(m:Mw)(x:Str)(u:Value):Prop:=
 (env.kindOf x=some .local/\m x=some u)\/((env.kindOf x=some .cell\/env.kindOf x=some .free)/\∃c,env.cells.lookup x=some c/\h.IsCell c (some u))
structure Cx.Ok(X:Cx):Prop where
 mod:Mod X.K X.mg X.base
 kind:X.env.scope.kind=.function
 glob:X.env.globals=mainGlobals
 blt:X.env.builtins=builtinsNs
 above:X.s₀.heap.objs.size<=X.env.locals
 inj:∀x y c,X.env.cells.lookup x=some c->X.env.cells.lookup y=some c->x=y
 has:∀x,(X.env.kindOf x=some .cell\/X.env.kindOf x=some .free)->∃c,X.env.cells.lookup x=some c
 cab:∀x c,X.fn x=true->X.env.cells.lookup x=some c->X.s₀.heap.objs.size<=c
 hd:X.calm=true->X.A.handled=none
 frames:X.A.frames=some X.stack
 stk:X.stack=X.outer \/(X.stack=X.env::X.outer/\X.env.frame=some X.env.locals)
 exf:∀b∈X.ex,b≠X.env.locals/\∀x c,X.env.cells.lookup x=some c->c≠b
 bs:∀b o,X.base.get? b=some o->X.s₀.heap.get? b=some o/\X.H₀ b=none
 bsz:X.base.objs.size<=X.s₀.heap.objs.size
 noex:∀b o,X.base.get? b=some o->b∉X.ex
 exfs:∀b∈X.ex,b∉X.fs
 funs:X.s₀.heap.FunFrames X.base X.outer
 frf:∀b∈X.fs,X.H₀ b=none
structure Inv(X:Cx)(js:My)(Y:List (Option V))(H:Hp)(s:Shared):Prop where
 ok:X.Ok
 os:s.os=X.s₀.os
 bare:AllBare s.gens
 base:Un X.fs X.ex X.H₀ H X.s₀.heap s.heap
 loc:∃m,s.heap.Ns X.env.locals m/\∀(i:Nat) (x:Str) (v:V),X.N[i]?=some x->Y[i]?=some (some v)->Vis X.env.scope x->∃u,bA v u/\Mj X.env s.heap m x u
 cell:∀x c,X.env.cells.lookup x=some c->∃v,s.heap.IsCell c v
 free:H X.env.locals=none
 freeC:∀x c,X.env.cells.lookup x=some c->H c=none\/X.fn x=false/\∃o u,H c=some (.frz o u)
 pin:∀p∈X.pn++js,s.heap.get? p.1=some p.2/\H p.1=none/\p.1≠X.env.locals/\p.1∉X.fs/\∀v,p.2.data≠.cell v
 hok:HOk X.prog X.w H s.heap
 len:Y.length=X.N.length
section
variable{X:Cx}{js:My}{Y:List (Option V)}{H H':Hp}{s:Shared}{h':Heap}
def Cx.Ok.nofr(ok:X.Ok){b:Addr}{o:Obj}(e:X.base.get? b=some o):b∉X.fs:=λhb=>by have:=(ok.funs.mem hb).1;rw[e]at this;cases this
def Inv.bs(I:Inv X js Y H s):∀b o,X.base.get? b=some o->s.heap.get? b=some o/\H b=none:=λb o e=>
 ⟨I.base.keep b o (I.ok.bs b o e).1 (I.ok.bs b o e).2 (I.ok.nofr e) (I.ok.noex b o e),I.base.free b o (I.ok.bs b o e).1 (I.ok.bs b o e).2 (I.ok.noex b o e)⟩
def Inv.bk(I:Inv X js Y H s):∀b o,X.base.get? b=some o->s.heap.get? b=some o:=λb o e=>(I.bs b o e).1
def Inv.mod(I:Inv X js Y H s):Mod X.K X.mg X.base:=I.ok.mod
def Inv.kIn(I:Inv X js Y H s):X.K.In s.heap:=I.ok.mod.kin.keeps I.bk
def Inv.lt(I:Inv X js Y H s):X.env.locals<s.heap.objs.size:=let⟨_,hn,_⟩:=I.loc;hn.lt
def Inv.sz(I:Inv X js Y H s):X.s₀.heap.objs.size<=s.heap.objs.size:=Nat.le_trans I.ok.above (Nat.le_of_lt I.lt)
def Inv.nofs(I:Inv X js Y H s){a:Addr}(h:s.heap.objs.size<=a):a∉X.fs:=λhb=>by obtain⟨_,o,ho,_⟩:=I.ok.funs.mem hb;exact absurd (Nat.lt_of_lt_of_le (lt_size ho) (Nat.le_trans I.sz h)) (Nat.lt_irrefl _)
def Inv.cne(I:Inv X js Y H s):∀x c,X.env.cells.lookup x=some c->c≠X.env.locals:=λx c e z=>by obtain⟨v,o,ho,hd⟩:=I.cell x c e;obtain⟨m,⟨o',es,ep,ho',hd',_⟩,_⟩:=I.loc;rw[z,ho']at ho;cases ho;rw[hd']at hd;cases hd
def Inv.funs(I:Inv X js Y H s):s.heap.FunFrames X.base X.outer:=by
 have all:∀(l:List Env),(∀b∈frs l,b∈X.fs)->X.s₀.heap.FunFrames X.base l->s.heap.FunFrames X.base l:=by
  intro l
  induction l with
  |nil=>intro _ _;trivial
  |cons env r ih=>intro hs hl;obtain⟨hk,⟨L,o,hf,hn,ho,hd⟩,hr⟩:=hl;have hL:L∈X.fs:=hs L (by unfold frs;rw[List.filterMap_cons,hf];exact mem_cons_self);obtain⟨sl,e⟩:=I.base.slot L o ho (I.ok.frf L hL) hL λz=>I.ok.exfs L z hL;exact⟨hk,⟨L,_,hf,hn,e,hd⟩,ih (λb hb=>hs b (by unfold frs;rw[List.filterMap_cons,hf];exact mem_cons_of_mem _ hb)) hr⟩
 exact all X.outer (λ_ hb=>hb) I.ok.funs
def Inv.stack(I:Inv X js Y H s):s.heap.FunFrames X.base X.stack:=by
 rcases I.ok.stk with e |⟨e,hf⟩
 .rw[e];exact I.funs
 .rw[e];obtain⟨m,hn,_⟩:=I.loc;refine .cons (by rw[I.ok.kind];decide) hf hn ?_ I.funs;exact Heap.get?_none_of_le (Nat.le_trans I.ok.bsz I.ok.above)
def Inv.stkSub(I:Inv X js Y H s):∀b∈frs X.stack,b∈X.env.locals::X.fs:=λb hb=>by
 rcases I.ok.stk with e |⟨e,hf⟩
 .rw[e]at hb;exact mem_cons_of_mem _ hb
 .rw[e]at hb;unfold frs at hb;rw[List.filterMap_cons,hf]at hb;exact hb
def Inv.stkFree(I:Inv X js Y H s):∀b∈frs X.stack,H b=none:=λb hb=>by
 rcases mem_cons.mp (I.stkSub b hb)with e|hb
 .rw[e];exact I.free
 .obtain⟨_,o,ho,_⟩:=I.ok.funs.mem hb;exact I.base.free b o ho (I.ok.frf b hb) λz=>I.ok.exfs b z hb
def Inv.step{g':Array GenState}{t':Nat}{d':Drawn}{ch:MD}(I:Inv X js Y H s)
  (hch:∀b∈ch,(b∈X.ex\/X.s₀.heap.objs.size<=b)/\b≠X.env.locals/\(∀x c,X.env.cells.lookup x=some c->c≠b)/\∀p∈X.pn++js,p.1≠b)
  (keep:∀b o,b≠X.env.locals->b∉X.fs->b∉ch->s.heap.get? b=some o->H b=none->h'.get? b=some o)
  (slot:∀b o,b≠X.env.locals->b∈X.fs->b∉ch->s.heap.get? b=some o->H b=none->∃sl,h'.get? b=some {o with slots:=sl}) (free:∀b o,b∉ch->s.heap.get? b=some o->H b=none->H' b=none)
  (there:∀b o,b∉ch->s.heap.get? b=some o->∃o',h'.get? b=some o')
  (tups:∀b xs,H b=some (.tup xs)->H' b=some (.tup xs)) (frzs:∀b o u,H b=some (.frz o u)->H' b=some (.frz o u)) (tbls:∀b ps,H b=some (.tbl ps)->∃more,H' b=some (.tbl (ps++more)))
  (ns:∀m,s.heap.Ns X.env.locals m->h'.Ns X.env.locals m) (hok:HOk X.prog X.w H' h') (hg:AllBare g') :
  Inv X js Y H' {s with heap:=h',gens:=g',drawn:=d',toks:=t'}:=by
 have neL:∀b o,X.s₀.heap.get? b=some o->b≠X.env.locals:=λb o e=>Nat.ne_of_lt (Nat.lt_of_lt_of_le (lt_size e) I.ok.above);have neC:∀b o,X.s₀.heap.get? b=some o->b∉X.ex->b∉ch:=λb o e hx hb=>by
  rcases(hch b hb).1 with z|z
  .exact hx z
  .exact absurd (Nat.lt_of_lt_of_le (lt_size e) z) (Nat.lt_irrefl _)
 have cellK:∀x c,X.env.cells.lookup x=some c->∀v,s.heap.IsCell c v->h'.IsCell c v:=λx c e v hz1=>by
  obtain⟨o,ho,hd⟩:=hz1;have nch:c∉ch:=λz=>(hch c z).2.2.1 x c e rfl;rcases I.freeC x c e with n |⟨_,o',u,q⟩
  .by_cases hc:c∈X.fs
   .obtain⟨sl,q⟩:=slot c o (I.cne x c e) hc nch ho n;exact⟨_,q,hd⟩
   .exact⟨o,keep c o (I.cne x c e) hc nch ho n,hd⟩
  .obtain⟨q1,_⟩:=I.hok c _ q;obtain⟨q2,_⟩:=hok c _ (frzs c o' u q);rw[ho]at q1;cases q1;exact⟨o,q2,hd⟩
 refine⟨I.ok,I.os,hg,⟨λb o e n hb hx=>?_,λb o e n hb hx=>?_,λb o e n hx=>?_,λb o e hx=>?_,λb xs e=>tups b xs (I.base.tups b xs e),λb o xs e=>frzs b o xs (I.base.frzs b o xs e),λb ps e=>?_⟩,?_,λx c e=>?_,?_,λx c e=>?_,λp hp=>?_,hok,I.len⟩
 .exact keep b o (neL b o e) hb (neC b o e hx) (I.base.keep b o e n hb hx) (I.base.free b o e n hx)
 .obtain⟨sl,e1⟩:=I.base.slot b o e n hb hx;obtain⟨sl',e2⟩:=slot b _ (neL b o e) hb (neC b o e hx) e1 (I.base.free b o e n hx);exact⟨sl',e2⟩
 .obtain⟨o',e1⟩:=I.base.there b o e hx;exact free b o' (neC b o e hx) e1 (I.base.free b o e n hx)
 .obtain⟨o',e1⟩:=I.base.there b o e hx;exact there b o' (neC b o e hx) e1
 .obtain⟨m1,e1⟩:=I.base.tbls b ps e;obtain⟨m2,e2⟩:=tbls b _ e1;exact⟨m1++m2,by simp_all⟩
 .obtain⟨m,hn,hl⟩:=I.loc;refine⟨m,ns m hn,λi x v e1 e2 e3=>?_⟩;obtain⟨u,r,l⟩:=hl i x v e1 e2 e3;refine⟨u,r,?_⟩;rcases l with l |⟨k,c,e,z⟩
  .exact .inl l
  .exact .inr ⟨k,c,e,cellK x c e _ z⟩
 .obtain⟨v,z⟩:=I.cell x c e;exact⟨v,cellK x c e v z⟩
 .obtain⟨m,⟨o,_,_,ho,_⟩,_⟩:=I.loc;exact free _ o (λz=>(hch _ z).2.1 rfl) ho I.free
 .obtain⟨v,o,ho,hd⟩:=I.cell x c e;rcases I.freeC x c e with n |⟨n,o',u,q⟩
  .exact .inl (free c o (λz=>(hch c z).2.2.1 x c e rfl) ho n)
  .exact .inr ⟨n,o',u,frzs c o' u q⟩
 .obtain⟨e,n,ne,nf,d⟩:=I.pin p hp;have nch:p.1∉ch:=λz=>(hch p.1 z).2.2.2 p hp rfl;exact⟨keep p.1 p.2 ne nf nch e n,free p.1 p.2 nch e n,ne,nf,d⟩
theorem Inv.un{t':Nat}(I:Inv X js Y H s)(u:Un X.fs [] H H' s.heap h')(hok:HOk X.prog X.w H' h'):Inv X js Y H' {s with heap:=h',toks:=t'}:=by
 obtain⟨m,⟨o,es,ep,ho,r⟩,_⟩:=id I.loc;obtain⟨sl,hL⟩:=u.any ho I.free ();exact I.step (g':=s.gens) (d':=s.drawn) (ch:=[]) (λ_ z=>nomatch z) (λb o _ hb _ e n=>u.keep b o e n hb ()) (λb o _ hb _ e n=>u.slot b o e n hb ()) (λb o _ e n=>u.free b o e n ()) (λb o _ e=>u.there b o e ()) u.tups u.frzs u.tbls (λm' hm=>by
  obtain⟨o',es',ep',ho',r'⟩:=hm;rw[ho]at ho';cases ho';exact⟨_,es',ep',hL,r'⟩) hok I.bare
def Inv.call{g':Array GenState}{t':Nat}{d':Drawn}{ch:MD}(I:Inv X js Y H s)(u:Un (frs X.stack) ch H H' s.heap h')(hok:HOk X.prog X.w H' h')(hg:AllBare g')
  (hch:∀b∈ch,(b∈X.ex\/X.s₀.heap.objs.size<=b)/\b≠X.env.locals/\(∀x c,X.env.cells.lookup x=some c->c≠b)/\∀p∈X.pn++js,p.1≠b) :
  Inv X js Y H' {s with heap:=h',gens:=g',drawn:=d',toks:=t'}:=by
 obtain⟨m,⟨o,es,ep,ho,r⟩,_⟩:=id I.loc;obtain⟨sl,hL⟩:=u.any ho I.free λz=>(hch _ z).2.1 rfl;exact I.step (ch:=ch) hch (λb o hL hb hc e n=>u.keep b o e n (λz=>(mem_cons.mp (I.stkSub b z)).elim hL hb) hc) (λb o _ _ hc e n=>u.any e n hc) (λb o hc e n=>u.free b o e n hc) (λb o hc e=>u.there b o e hc) u.tups u.frzs u.tbls (λm' hm=>by
  obtain⟨o',es',ep',ho',r'⟩:=hm;rw[ho]at ho';cases ho';exact⟨_,es',ep',hL,r'⟩) hok hg
theorem Inv.turned{t':Nat}{it:Addr}(I:Inv X js Y H s)(k:∀b o,b≠it->s.heap.get? b=some o->h'.get? b=some o)(hn:H it=none)(hL:it≠X.env.locals)
  (h1:it∈X.ex\/X.s₀.heap.objs.size<=it) (h2:∀x c,X.env.cells.lookup x=some c->c≠it) (h3:∀p∈X.pn++js,p.1≠it):Inv X js Y H {s with heap:=h',toks:=t'}:=by
 have nit:∀b u,H b=some u->b≠it:=λb u e z=>by lia
 refine I.step (g':=s.gens) (d':=s.drawn) (ch:=[it]) (λb hb=>?_) (λb o _ _ hc e _=>k b o (λz=>hc (by simp[z])) e) (λb o _ _ hc e _=>⟨o.slots,k b o (λz=>hc (by simp[z])) e⟩) (λ_ _ _ _ n=>n)
  (λb o hc e=>⟨o,k b o (λz=>hc (by simp[z])) e⟩) (λ_ _ e=>e) (λ_ _ _ e=>e) (λb ps e=>⟨#[],by rw[e];simp⟩) (λm hm=>?_) (λb u e=>?_) I.bare
 .have e:b=it:=by simpa using hb
  subst e;exact⟨h1,hL,h2,h3⟩
 .obtain⟨o,es,ep,ho,r⟩:=hm;exact⟨o,es,ep,k _ o (Ne.symm hL) ho,r⟩
 .refine(I.hok b u e).stay (λc v hc q=>k c v ?_ q) (λ_ q=>q) λ_ _ _ q=>q;rcases hc with z|z
  .lia
  .exact nit c _ z
def Inv.tok(I:Inv X js Y H s)(t:Nat):Inv X js Y H {s with toks:=t}:=I.un (h':=s.heap) (t':=t) Un.refl I.hok
def Inv.kept{t':Nat}(I:Inv X js Y H s)(k:∀b u,s.heap.get? b=some u->h'.get? b=some u):Inv X js Y H {s with heap:=h',toks:=t'}:=I.un (Un.kept k) (I.hok.kept k)
def Inv.laid{a:Addr}{o:HO}{t':Nat}(I:Inv X js Y H s)(k:∀b u,s.heap.get? b=some u->h'.get? b=some u)(hp:s.heap.objs.size<=a)(new:cK X.prog X.w (upd H a o) h' a o) :
  Inv X js Y (upd H a o) {s with heap:=h',toks:=t'}:=I.un (Un.laid k hp (I.hok.fresh hp)) (I.hok.laid k hp new)
def Inv.write{x e:Addr}{o:HO}{t':Nat}(I:Inv X js Y H s)(mu:Mut (H x))(he:e=x\/H e=some (.own x))(k:∀b u,b≠e->s.heap.get? b=some u->h'.get? b=some u)(heo:∃u,h'.get? e=some u)
  (new:cK X.prog X.w (upd H x o) h' x o):Inv X js Y (upd H x o) {s with heap:=h',toks:=t'}:=I.un (Un.write mu he k heo) (I.hok.write mu he k heo new)
def Inv.pins_of{pins':My}(I:Inv X js Y H s)(h:∀p∈pins',s.heap.get? p.1=some p.2/\H p.1=none/\p.1≠X.env.locals/\p.1∉X.fs/\∀v,p.2.data≠.cell v):Inv X pins' Y H s:=
 ⟨I.ok,I.os,I.bare,I.base,I.loc,I.cell,I.free,I.freeC,λp hp=>(mem_append.mp hp).elim (λz=>I.pin p (mem_append_left _ z)) (h p),I.hok,I.len⟩
def qi{N:MF}(hN:N.Nodup){i j:Nat}{x:Str}(a:N[i]?=some x)(b:N[j]?=some x):i=j:=by obtain⟨h1,e1⟩:=List.getElem?_eq_some_iff.mp a;obtain⟨h2,e2⟩:=List.getElem?_eq_some_iff.mp b;exact(getElem_inj hN).mp (e1.trans e2.symm)
def mU{M:Model}{A:Around}{E:Mv}{i:Nat}{x:Str}{v:V}{u:Value}{Q:Unit->Shared->Prop}(I:Inv X js Y H s)(hN:X.N.Nodup)(hi:X.N[i]?=some x)(hx:Loc X.env.scope x)(r:bA v u)
  (h:∀s',Inv X js (Y.set i (some v)) H s'->(∃a,SameBut a s.heap s'.heap/\(a=X.env.locals\/X.env.cells.lookup x=some a))->Q .unit s') (hf:Lce X.fn X.env x:=by first|exact .inl rfl|exact .inr rfl|assumption):wpAny M A (storeName X.env x u) Q E s:=by
 obtain⟨m,hn,hl⟩:=id I.loc;have hcls:(X.env.scope.kind==.class ||(X.env.scope.kind==.module&&X.env.locals != X.env.globals))=false:=by rw[I.ok.kind];rfl
 have hiσ:i<Y.length:=by rw[I.len];exact(List.getElem?_eq_some_iff.mp hi).1
 have cne:=I.cne;have tracked:∀{a:Addr}{h':Heap},(∃o,s.heap.get? a=some o/\H a=none)->SameBut a s.heap h'->HOk X.prog X.w H h':=λ{a h'} ha hs b ob e=>by
  obtain⟨_,_,hfree⟩:=ha;refine(I.hok b ob e).stay (λc w' hc q=>(hs.2 c ?_).trans q) (λ_ q=>q) λ_ _ _ q=>q;rintro rfl;rcases hc with rfl|hc
  .rw[hfree]at e;cases e
  .rw[hfree]at hc;cases hc
 rcases hx with hk|hk
 .refine wpAny_storeName_local hk hn (λh' hn' hs=>?_) hcls;obtain⟨oL,_,_,hoL,_⟩:=id hn;refine h _ ⟨I.ok,I.os,I.bare,⟨λb o e n hb hx=>?_,λb o e n hb hx=>?_,I.base.free,λb o e hx=>?_,I.base.tups,I.base.frzs,I.base.tbls⟩,⟨_,hn',λj y v' e1 e2 e3=>?_⟩,λy c e=>?_,I.free,I.freeC,λp hp=>?_,tracked ⟨oL,hoL,I.free⟩ hs,by simpa using I.len⟩ ⟨_,hs,.inl rfl⟩
  .exact(hs.2 b (Nat.ne_of_lt (Nat.lt_of_lt_of_le (lt_size e) I.ok.above))).trans (I.base.keep b o e n hb hx)
  .obtain⟨sl,e1⟩:=I.base.slot b o e n hb hx;exact⟨sl,(hs.2 b (Nat.ne_of_lt (Nat.lt_of_lt_of_le (lt_size e) I.ok.above))).trans e1⟩
  .obtain⟨o',e1⟩:=I.base.there b o e hx;exact⟨o',(hs.2 b (Nat.ne_of_lt (Nat.lt_of_lt_of_le (lt_size e) I.ok.above))).trans e1⟩
  .by_cases hj:j=i
   .subst hj;rw[hi]at e1;cases e1;rw[getElem?_set_self hiσ]at e2;cases e2;exact⟨u,r,.inl ⟨hk,by simp⟩⟩
   .rw[getElem?_set_ne (Ne.symm hj)]at e2;obtain⟨u',r',q⟩:=hl j y v' e1 e2 e3;refine⟨u',r',?_⟩;rcases q with⟨k,e⟩ |⟨k,c,e,z⟩
    .refine .inl ⟨k,?_⟩;have:y≠x:=λe=>hj (qi hN e1 (e▸hi));simp[this,e]
    .exact .inr ⟨k,c,e,z.sameBut hs (cne y c e)⟩
  .obtain⟨w',z⟩:=I.cell y c e;exact⟨w',z.sameBut hs (cne y c e)⟩
  .obtain⟨e,n,ne,nf,d⟩:=I.pin p hp;exact⟨(hs.2 p.1 ne).trans e,n,ne,nf,d⟩
 .have hfn:X.fn x=true:=by
   rcases hf with z|z
   .exact z
   .rw[z]at hk;cases hk
  obtain⟨c,hc⟩:=I.ok.has x (.inl hk);obtain⟨w',z⟩:=I.cell x c hc;refine wpAny_storeName_cell I.ok.kind hk hc z (λh' hc' hs=>?_);obtain⟨oc,hoc,hocd⟩:=id z;refine h {s with heap:=h'} ⟨I.ok,I.os,I.bare,⟨λb o e n hb hx=>?_,λb o e n hb hx=>?_,I.base.free,λb o e hx=>?_,I.base.tups,I.base.frzs,I.base.tbls⟩,⟨m,hn.sameBut hs (Ne.symm (cne x c hc)),λj y v' e1 e2 e3=>?_⟩,λy c' e=>?_,I.free,I.freeC,λp hp=>?_,tracked ⟨oc,hoc,(I.freeC x c hc).resolve_right λq=>by rw[hfn]at q;cases q.1⟩ hs,by simpa using I.len⟩ ⟨c,hs,.inr hc⟩
  .exact(hs.2 b (Nat.ne_of_lt (Nat.lt_of_lt_of_le (lt_size e) (I.ok.cab x c hfn hc)))).trans (I.base.keep b o e n hb hx)
  .obtain⟨sl,e1⟩:=I.base.slot b o e n hb hx;exact⟨sl,(hs.2 b (Nat.ne_of_lt (Nat.lt_of_lt_of_le (lt_size e) (I.ok.cab x c hfn hc)))).trans e1⟩
  .obtain⟨o',e1⟩:=I.base.there b o e hx;exact⟨o',(hs.2 b (Nat.ne_of_lt (Nat.lt_of_lt_of_le (lt_size e) (I.ok.cab x c hfn hc)))).trans e1⟩
  .by_cases hj:j=i
   .subst hj;rw[hi]at e1;cases e1;rw[getElem?_set_self hiσ]at e2;cases e2;exact⟨u,r,.inr ⟨.inl hk,c,hc,hc'⟩⟩
   .rw[getElem?_set_ne (Ne.symm hj)]at e2;obtain⟨u',r',q⟩:=hl j y v' e1 e2 e3;refine⟨u',r',?_⟩;rcases q with q |⟨k,c',e,z'⟩
    .exact .inl q
    .refine .inr ⟨k,c',e,z'.sameBut hs ?_⟩;rintro rfl;exact hj (qi hN e1 (I.ok.inj _ _ _ e hc▸hi))
  .by_cases hcc:c'=c
   .subst hcc;exact⟨_,hc'⟩
   .obtain⟨w2,z2⟩:=I.cell y c' e;exact⟨w2,z2.sameBut hs hcc⟩
  .obtain⟨e,n,ne,nf,d⟩:=I.pin p hp;refine⟨(hs.2 p.1 ?_).trans e,n,ne,nf,d⟩;intro q;rw[q,hoc]at e;have q':oc=p.2:=Option.some.inj e;exact d w' (by rw[<- q'];exact hocd)
def kQ{M:Model}{A:Around}{E:Mv}{i:Nat}{x:Str}{v:V}{u:Value}{Q:Unit->Shared->Prop}(I:Inv X js Y H s)(hN:X.N.Nodup)(hi:X.N[i]?=some x)(hx:Loc X.env.scope x)(r:bA v u)
  (h:∀s',Inv X js (Y.set i (some v)) H s'->Q .unit s') (hf:Lce X.fn X.env x:=by first|exact .inl rfl|exact .inr rfl|assumption):wpAny M A (storeName X.env x u) Q E s:=
 mU I hN hi hx r (λs' I' _=>h s' I') hf
def Inv.call'{s':Shared}{ch:MD}(I:Inv X js Y H s)(ho:s'.os=s.os)(u:Un (frs X.stack) ch H H' s.heap s'.heap)(hok:HOk X.prog X.w H' s'.heap)(hg:AllBare s'.gens)
  (hch:∀b∈ch,(b∈X.ex\/X.s₀.heap.objs.size<=b)/\b≠X.env.locals/\(∀x c,X.env.cells.lookup x=some c->c≠b)/\∀p∈X.pn++js,p.1≠b):Inv X js Y H' s':=by
 obtain⟨h',g',d',t',o'⟩:=s';have e:o'=s.os:=ho;subst e;exact I.call (g':=g') (t':=t') (d':=d') u hok hg hch
end
abbrev XK:=Value->Option Addr->MK
abbrev St:=List (Option V)
abbrev VK:=V->MK
abbrev TE:=St->Hp->VK->Prop
abbrev TT:=St->Hp->(Bool->MK)->Prop
abbrev TA:=St->Hp->(MJ->MK)->Prop
structure Ends where
 nx:St->MK
 rt:VK
 bk:St->MK:=λ_ _=>False
 ct:St->MK:=λ_ _=>False
abbrev TS:=Ends->St->MK
def EP(X:Cx)(js:My)(Y:St)(Q:VK)(u:Value)(s':Shared):Prop:=∃v H',Inv X js Y H' s'/\bA v u/\Q v H'
def TP(X:Cx)(js:My)(Y:St)(Q:Bool->MK)(b:Bool)(s':Shared):Prop:=∃H',Inv X js Y H' s'/\Q b H'
def AP(X:Cx)(js:My)(Y:St)(Q:MJ->MK)(us:MC)(s':Shared):Prop:=∃vs H',Inv X js Y H' s'/\aS vs us/\Q vs H'
def SP(X:Cx)(js:My)(D:Ends)(f:Flow)(s':Shared):Prop:=
 match f with
 |.next=>∃σ' H',Inv X js σ' H' s'/\D.nx σ' H'
 |.brk=>∃σ' H',Inv X js σ' H' s'/\D.bk σ' H'
 |.cont=>∃σ' H',Inv X js σ' H' s'/\D.ct σ' H'
 |.ret u=>∃v σ' H',Inv X js σ' H' s'/\bA v u/\D.rt v H'
def PE(X:Cx)(e:Expr)(t:TE):Prop:=
 ∀(js:My) (s:Shared) (Y:St) (H:Hp) (Q:VK),Inv X js Y H s->t Y H Q->wpAny (model X.prog X.w) X.A (eval e X.env) (EP X js Y Q) X.xe s
def PT(X:Cx)(e:Expr)(t:TT):Prop:=
 ∀(js:My) (s:Shared) (Y:St) (H:Hp) (Q:Bool->MK),Inv X js Y H s->t Y H Q->wpAny (model X.prog X.w) X.A (isTrue e X.env (eval e X.env)) (TP X js Y Q) X.xe s
def PW(X:Cx)(e:Expr)(t:TT):Prop:=
 ∀(whole:Sem Value) (js:My) (s:Shared) (Y:St) (H:Hp) (Q:Bool->MK),Inv X js Y H s->t Y H Q->wpAny (model X.prog X.w) X.A (isTrue e X.env whole) (TP X js Y Q) X.xe s
def PW.pt{X:Cx}{e:Expr}{t:TT}(h:PW X e t):PT X e t:=h _
def PA(X:Cx)(es:List Expr)(t:TA):Prop:=
 ∀(pos:Pos) (js:My) (s:Shared) (Y:St) (H:Hp) (Q:MJ->MK),Inv X js Y H s->t Y H Q->wpAny (model X.prog X.w) X.A (spliced (backTo pos (starEach es X.env))) (AP X js Y Q) X.xe s
def PS(X:Cx)(st:Stmt)(t:TS):Prop:=
 ∀(js:My) (s:Shared) (Y:St) (H:Hp) (D:Ends),Inv X js Y H s->t D Y H->wpAny (model X.prog X.w) X.A (exec st X.env) (SP X js D) X.xe s
def PSs(X:Cx)(st:List Stmt)(t:TS):Prop:=
 ∀(js:My) (s:Shared) (Y:St) (H:Hp) (D:Ends),Inv X js Y H s->t D Y H->wpAny (model X.prog X.w) X.A (execs st X.env) (SP X js D) X.xe s
def thn{α:Type}{t:Sem α}{Q Q':α->Shared->Prop}{M:Model}{A:Around}{E:Mv}{s:Shared}(h:wpAny M A t Q E s)(hQ:∀a s,Q a s->Q' a s):wpAny M A t Q' E s:=wpAny_mono h hQ λ_ _ x=>x
end
section
section
variable{X:Cx}
def Io(i:Nat):TE:=λY H Q=>∃v,Y[i]?=some (some v)/\Q v H
def tC(v:V):TE:=λ_ H Q=>Q v H
def gx{i:Nat}{x:Str}{pos:Pos}(hN:X.N[i]?=some x)(hv:Vis X.env.scope x)(hd:Nd x:=by decide)(hcd:Nc x:=by decide):PE X (.Name x pos) (Io i):=by
 intro js s Y H Q I h;obtain⟨v,e,h⟩:=h;obtain⟨m,hn,hl⟩:=I.loc;obtain⟨u,r,l⟩:=hl i x v hN e hv;have fin:EP X js Y Q u s:=⟨v,H,I,r,h⟩
 rcases l with⟨hk,hm⟩ |⟨hk,c,hc,hcell⟩
 .exact wpAny_Name (wpAny_loadName_local I.ok.kind hk hn hm fin) hd
 .rcases hk with hk|hk
  .exact wpAny_Name (wpAny_loadName_cell I.ok.kind hk hc hcell fin) hd
  .exact wpAny_Name (wpAny_loadName_free I.ok.kind hk hc hcell fin hcd) hd
def yU{i j pos}:PE X (.Constant (.int i) j pos) (tC (.int i)):=λ_ _ _ H _ I h=>wpAny_Constant_int ⟨.int i,H,I.tok _,⟨_,rfl⟩,h⟩
def Jb{b j pos}:PE X (.Constant (.bool b) j pos) (tC (.bl b)):=λ_ _ _ H _ I h=>Constant_bool ⟨.bl b,H,I,rfl,h⟩
def yT{j pos}:PE X (.Constant .none j pos) (tC .non):=λ_ _ _ H _ I h=>Constant_none ⟨.non,H,I,rfl,h⟩
def yS{x j pos}:PE X (.Constant (.str x) j pos) (tC (.str x)):=λ_ _ _ H _ I h=>Calls.Constant_str ⟨.str x,H,I.tok _,⟨_,rfl⟩,h⟩
def Gl(X:Cx)(x:Str):Prop:=X.env.kindOf x=some .globalImplicit
def kJ{E:Mv}{js:My}{s:Shared}{Y:St}{H:Hp}{x:Str}{u:Value}{pos:Pos}{Q:Mv}(I:Inv X js Y H s)(hg:Gl X x)(hm:X.mg x=some u)(h:Q u s)
  (hd:Nd x:=by decide):wpAny (model X.prog X.w) X.A (eval (.Name x pos) X.env) Q E s:=
 Calls.Name_function_global I.ok.kind hg (Calls.loadGlobal_global (by rw[I.ok.glob];exact I.mod.glob.keeps I.bk) hm h) hd
def fm{E:Mv}{js:My}{s:Shared}{Y:St}{H:Hp}{x:Str}{u:Value}{pos:Pos}{Q:Mv}(I:Inv X js Y H s)(hg:Gl X x)(hm:X.mg x=none)(hv:bootBuiltins x=some u)(h:Q u s)
  (hn:x≠"__name__":=by decide) (hd:Nd x:=by decide):wpAny (model X.prog X.w) X.A (eval (.Name x pos) X.env) Q E s:=by
 obtain⟨mb,h1,h2⟩:=I.mod.blt;exact Calls.Name_function_global I.ok.kind hg (Calls.loadGlobal_builtin (by rw[I.ok.glob];exact I.mod.glob.keeps I.bk) hm (by rw[I.ok.blt];exact h1.keeps I.bk) ((h2 x hn).trans hv) h) hd
def gy{x:Str}{v:V}{u:Value}{pos:Pos}(hg:Gl X x)(hm:X.mg x=some u)(r:bA v u)(hd:Nd x:=by decide):PE X (.Name x pos) (tC v):=
 λ_ _ _ H _ I h=>kJ I hg hm ⟨v,H,I,r,h⟩ hd
def Ch{x:Str}{v:V}{u:Value}{pos:Pos}(hg:Gl X x)(hm:X.mg x=none)(hv:bootBuiltins x=some u)(r:bA v u)(hn:x≠"__name__":=by decide)(hd:Nd x:=by decide):PE X (.Name x pos) (tC v):=
 λ_ _ _ H _ I h=>fm I hg hm hv ⟨v,H,I,r,h⟩ hn hd
variable{a b:Expr}{ta tb:TE}{pos:Pos}
variable{tA tB':TT}{bw:List Expr}
def LA(t u:TT):TT:=λY H Q=>t Y H λc H1=>if c=true then u Y H1 Q else Q false H1
def tOr(t u:TT):TT:=λY H Q=>t Y H λc H1=>if c=true then Q true H1 else u Y H1 Q
def Lv(t:TT):TT:=λY H Q=>t Y H λc H1=>Q (!c) H1
def B6(ha:PT X a tA):PW X (.BoolOp .And [a] pos) tA:=by
 intro wh js s Y H Q I h;refine isTrue_and (thn (ha js s Y H Q I h) λc s1 e=>?_);cases c with
 |true=>exact isTrue_and_nil e
 |false=>exact e
def F7(ha:PT X a tA):PW X (.BoolOp .Or [a] pos) tA:=by
 intro wh js s Y H Q I h;refine isTrue_or (thn (ha js s Y H Q I h) λc s1 e=>?_);cases c with
 |false=>exact isTrue_or_nil e
 |true=>exact e
def F8(ha:PT X a tA)(hb:PW X (.BoolOp .And (b::bw) pos) tB'):PW X (.BoolOp .And (a::b::bw) pos) (LA tA tB'):=by
 intro wh js s Y H Q I h;refine isTrue_and (thn (ha js s Y H _ I h) λc s1 ⟨H1,I1,q1⟩=>?_);cases c with
 |true=>exact hb wh js s1 Y H1 Q I1 q1
 |false=>exact⟨H1,I1,q1⟩
def IZ(ha:PT X a tA)(hb:PW X (.BoolOp .Or (b::bw) pos) tB'):PW X (.BoolOp .Or (a::b::bw) pos) (tOr tA tB'):=by
 intro wh js s Y H Q I h;refine isTrue_or (thn (ha js s Y H _ I h) λc s1 ⟨H1,I1,q1⟩=>?_);cases c with
 |true=>exact⟨H1,I1,q1⟩
 |false=>exact hb wh js s1 Y H1 Q I1 q1
def F_(ha:PT X a tA):PT X (.UnaryOp .Not a pos) (Lv tA):=by intro js s Y H Q I h;exact isTrue_not (ha js s Y H (λc H1=>Q (!c) H1) I h)
def Iy(ta tb:TE):TE:=λY H Q=>ta Y H λx H1=>∃c,x=.bl c/\if c=true then tb Y H1 Q else Q (.bl false) H1
def Ir(ta:TE):TE:=λY H Q=>ta Y H λx H1=>∃c,x=.bl c/\Q (.bl (!c)) H1
def Gk{op}{t:TE}(h:PE X a t):PE X (.BoolOp op [a] pos) t:=λjs s Y H Q I hw=>BoolOp_one (h js s Y H Q I hw)
def Gp(ha:PE X a ta)(hb:PE X (.BoolOp .And (b::bw) pos) tb):PE X (.BoolOp .And (a::b::bw) pos) (Iy ta tb):=by
 intro js s Y H Q I h;refine BoolOp_and (thn (ha js s Y H _ I h) λv s1 zz=>?_);obtain⟨x,H1,I1,r1,q1⟩:=zz;obtain⟨c,rfl,q1⟩:=q1;cases r1;refine wpAny_truthy_bool ?_;cases c with
 |true=>exact hb js s1 Y H1 Q I1 q1
 |false=>exact⟨.bl false,H1,I1,rfl,q1⟩
def Gm(ha:PE X a ta):PE X (.UnaryOp .Not a pos) (Ir ta):=by intro js s Y H Q I h;refine UnaryOp_ (thn (ha js s Y H _ I h) λv s1 zz=>?_);obtain⟨x,H1,I1,r1,q1⟩:=zz;obtain⟨c,rfl,q1⟩:=q1;cases r1;exact not_of (wpAny_truthy_bool ⟨.bl (!c),H1,I1,rfl,q1⟩)
def tIf(t:TT)(ta tb:TE):TE:=λY H Q=>t Y H λc H1=>if c=true then ta Y H1 Q else tb Y H1 Q
def yV{c:Expr}(hc:PT X c tA)(ha:PE X a ta)(hb:PE X b tb):PE X (.IfExp c a b pos) (tIf tA ta tb):=by
 intro js s Y H Q I h;refine wpAny_IfExp (thn (hc js s Y H _ I h) λd s1 ⟨H1,I1,q1⟩=>?_);cases d with
 |true=>exact ha js s1 Y H1 Q I1 q1
 |false=>exact hb js s1 Y H1 Q I1 q1
end
end
section
def SqL(K:PySem.W.Frag)(H:Hp)(a:Addr)(xs:MJ):Prop:=
 Rd H a (.lst xs)\/
  ∃(o:Obj) (its:MH) (n:Nat),K.lookup a=some o/\o.cls=.type "list" /\ o.dict=none/\o.data=.seq its n/\its.size<=sizeLine/\aS xs its.toList
def SqT(K:PySem.W.Frag)(H:Hp)(a:Addr)(xs:MJ):Prop:=
 Rd H a (.tup xs)\/
  ∃(o:Obj) (its:MH) (n:Nat),K.lookup a=some o/\o.cls=.type "tuple" /\ o.data=.seq its n/\its.size<=sizeLine/\aS xs its.toList
noncomputable def KP:Value->Option V
 |.none=>some .non
 |.bool b=>some (.bl b)
 |.int i _=>some (.int i)
 |.str x _=>some (.str x)
 |.bytes b _=>some (.byt b)
 |.float b _=>some (.flt b)
 |.ref a=>some (.ref a)
 |.type n=>some (.ty n)
 |_=>none
def bA.abs{x:V}{u:Value}(r:bA x u):KP u=some x:=by
 cases x with
 |non|bl _=>cases r;rfl
 |int _|str _|byt _|flt _=>obtain⟨t,rfl⟩:=r;rfl
 |ref _|ty _=>cases r;rfl
def bA.inj{x y:V}{u:Value}(r:bA x u)(q:bA y u):x=y:=Option.some.inj (r.abs.symm.trans q.abs)
def aS.inj{xs ys:MJ}{us:MC}(h:aS xs us)(g:aS ys us):xs=ys:=by
 induction h generalizing ys with
 |nil=>cases g;rfl
 |cons r t k=>cases g with
  |cons r' t'=>rw[r.inj r',k t']
section
variable{X:Cx}{js:My}{Y:St}{H:Hp}{s:Shared}{a:Addr}{xs ys:MJ}
def SqL.of{K:PySem.W.Frag}(h:H a=some (.lst xs)):SqL K H a xs:=.inl (.inl h)
def SqT.of{K:PySem.W.Frag}(h:H a=some (.tup xs)):SqT K H a xs:=.inl (.inl h)
theorem Inv.list(I:Inv X js Y H s)(h:SqL X.K H a xs):∃its:MC,aS xs its/\PlainL s.heap a its.toArray/\xs.length<=sizeLine:=by
 rcases h with h |⟨o,its,n,hk,hc,hd,hs,hz,r⟩
 .obtain⟨z,its,n,r,e⟩:=h.ok I.hok;exact⟨its,r,⟨_,n,e,rfl,rfl,rfl⟩,z⟩
 .refine⟨its.toList,r,⟨o,n,I.kIn a o hk,hc,hd,by simpa using hs⟩,?_⟩;have e:=r.length;simp at e
  lia
def Inv.tuple(I:Inv X js Y H s)(h:SqT X.K H a xs):∃its:MC,aS xs its/\IsTup s.heap a its.toArray/\xs.length<=sizeLine:=by
 rcases h with h |⟨o,its,n,hk,hc,hs,hz,r⟩
 .obtain⟨z,its,r,p⟩:=h.ok I.hok;exact⟨its,r,p,z⟩
 .refine⟨its.toList,r,⟨o,I.kIn a o hk,hc,n,by simpa using hs⟩,?_⟩;have e:=r.length;simp only[Array.length_toList]at e
  lia
theorem Inv.list_inj(I:Inv X js Y H s)(h:SqL X.K H a xs)(h':SqL X.K H a ys):xs=ys:=by
 obtain⟨its,r,⟨o,n,e,_,_,d⟩,_⟩:=I.list h;obtain⟨its',r',⟨o',n',e',_,_,d'⟩,_⟩:=I.list h';rw[e]at e';cases e';rw[d]at d';injection d' with d1 _;have:its=its':=by lia
 subst this;exact r.inj r'
def Inv.tuple_inj(I:Inv X js Y H s)(h:SqT X.K H a xs)(h':SqT X.K H a ys):xs=ys:=by
 obtain⟨its,r,⟨o,e,_,n,d⟩,_⟩:=I.tuple h;obtain⟨its',r',⟨o',e',_,n',d'⟩,_⟩:=I.tuple h';rw[e]at e';cases e';rw[d]at d';injection d' with d1 _;have:its=its':=by lia
 subst this;exact r.inj r'
end
section
variable{X:Cx}{st:Stmt}{bw:List Stmt}{t u:TS}{e:Expr}{te:TE}{pos:Pos}
def Iu:TS:=λD Y H=>D.nx Y H
def Ls(t u:TS):TS:=λD Y H=>t {D with nx:=u D} Y H
def B8:PSs X [] Iu:=λ_ _ Y H _ I h=>wpAny_execs_nil ⟨Y,H,I,h⟩
def yH(h1:PS X st t)(h2:PSs X bw u):PSs X (st::bw) (Ls t u):=by
 intro js s Y H D I h;refine wpAny_execs_cons (thn (h1 js s Y H {D with nx:=u D} I h) λf s1 q=>?_);cases f with
 |next=>obtain⟨σ',H',I',q⟩:=q;exact h2 js s1 σ' H' D I' q
 |ret v|brk|cont=>exact q
def B7(h1:PS X st t):PSs X [st] t:=by
 intro js s Y H D I h;refine wpAny_execs_cons (thn (h1 js s Y H D I h) λf s1 q=>?_);cases f with
 |next=>exact wpAny_execs_nil q
 |ret v|brk|cont=>exact q
def Inv.quiet{js:My}{Y:St}{H:Hp}{s:Shared}(I:Inv X js Y H s):interactive X.env=false:=by simp[interactive,I.ok.kind]
def Iw(te:TE):TS:=λD Y H=>te Y H λ_ H1=>D.nx Y H1
def oJ(he:PE X e te)(hs:swapsWith e none pos.line X.env=pure false:=by rfl):PS X (.Expr e pos) (Iw te):=by intro js s Y H D I h;exact wpAny_Expr_any (thn (he js s Y H _ I h) λv s1 ⟨x,H1,I1,r1,q1⟩=>⟨Y,H1,I1,q1⟩) I.quiet hs
def Lu(te:TE):TS:=λD Y H=>te Y H D.rt
def oI(he:PE X e te):PS X (.Return (some e) pos) (Lu te):=by intro js s Y H D I h;exact wpAny_Return_some (thn (he js s Y H _ I h) λv s1 ⟨x,H1,I1,r1,q1⟩=>⟨x,Y,H1,I1,r1,q1⟩)
def Lx(c:TT)(t u:TS):TS:=λD Y H=>c Y H λb H1=>if b=true then t D Y H1 else u D Y H1
def I0{c:Expr}{a b:List Stmt}{tc:TT}(hc:PT X c tc)(ha:PSs X a t)(hb:PSs X b u):PS X (.If c a b pos) (Lx tc t u):=by
 intro js s Y H D I h;refine wpAny_If (thn (hc js s Y H _ I h) λd s1 ⟨H1,I1,q1⟩=>?_);cases d with
 |true=>exact ha js s1 Y H1 D I1 q1
 |false=>exact hb js s1 Y H1 D I1 q1
end
abbrev TG:=V->St->Hp->(St->MK)->Prop
abbrev TGs:=MJ->St->Hp->(St->MK)->Prop
def PG(X:Cx)(target:Expr)(t:TG):Prop:=
 ∀(js:My) (s:Shared) (Y:St) (H:Hp) (v:V) (u:Value) (Q:St->MK),Inv X js Y H s->bA v u->t v Y H Q ->
  wpAny (model X.prog X.w) X.A (assign target X.env u) (λ_ s'=>∃σ' H',Inv X js σ' H' s'/\Q σ' H') X.xe s
def PGs(X:Cx)(ts:List Expr)(t:TGs):Prop:=
 ∀(js:My) (s:Shared) (Y:St) (H:Hp) (vs:MJ) (us:MC) (Q:St->MK),Inv X js Y H s->aS vs us->t vs Y H Q ->
  wpAny (model X.prog X.w) X.A (assignInOrder ((assignEach ts X.env).map (·.2)) us) (λ_ s'=>∃σ' H',Inv X js σ' H' s'/\Q σ' H') X.xe s
abbrev HI:=V->V->V->Hp->(MK)->Prop
def KR(X:Cx)(t:HI):Prop:=
 ∀(js:My) (s:Shared) (Y:St) (H:Hp) (o i v:V) (ov iv u:Value) (Q:MK),Inv X js Y H s->bA o ov->bA i iv->bA v u->t o i v H Q ->
  wpAny (model X.prog X.w) X.A (setItem ov iv u) (λ_ s'=>∃H',Inv X js Y H' s'/\Q H') X.xe s
abbrev TIp:=V->V->Hp->VK->Prop
def PIp(X:Cx)(op:Operator)(t:TIp):Prop:=
 ∀(js:My) (s:Shared) (Y:St) (H:Hp) (x y:V) (v u:Value) (Q:VK),Inv X js Y H s->bA x v->bA y u->t x y H Q ->
  wpAny (model X.prog X.w) X.A (inplaceOp op v u) (EP X js Y Q) X.xe s
section
variable{X:Cx}{pos:Pos}
def Eg(i:Nat):TG:=λv Y H Q=>Q (Y.set i (some v)) H
def uu{i:Nat}{x:Str}(hN:X.N.Nodup)(hi:X.N[i]?=some x)(hx:Loc X.env.scope x)(hf:Lce X.fn X.env x:=by first|exact .inl rfl|exact .inr rfl|assumption):PG X (.Name x pos) (Eg i):=by intro js s Y H v u Q I r h;exact wpAny_assign_Name (kQ I hN hi hx r (λs' I'=>⟨_,H,I',h⟩) hf)
def L1:TGs:=λvs Y H Q=>vs=[]/\Q Y H
def JM(t:TG)(u:TGs):TGs:=λvs Y H Q=>∃v r,vs=v::r/\t v Y H λσ' H'=>u r σ' H' Q
def Cd:PGs X [] L1:=by intro js s Y H vs us Q I r h;obtain⟨e,h⟩:=h;subst e;cases r;exact assignInOrder_nil ⟨Y,H,I,h⟩
def yR{e:Expr}{es:List Expr}{t:TG}{u:TGs}(h1:PG X e t)(h2:PGs X es u)
  (hs:(assignEach (e::es) X.env).map (·.2)=assign e X.env::(assignEach es X.env).map (·.2):=by rfl):PGs X (e::es) (JM t u):=by
 intro js s Y H vs us Q I r h;obtain⟨v,vr,e1,h⟩:=h;subst e1;cases r with
 |cons r rr=>rw[hs];refine assignInOrder_cons (thn (h1 js s Y H _ _ _ I r h) λ_ s1 ⟨σ1,H1,I1,q1⟩=>?_);exact h2 js s1 σ1 H1 _ _ Q I1 rr q1
def LZ(K:PySem.W.Frag)(n:Nat)(t:TGs):TG:=λv Y H Q=>∃a xs,v=.ref a/\SqT K H a xs/\xs.length=n/\t xs Y H Q
theorem Gi{es:List Expr}{k:Nat}{t:TGs}{n:Nat}(hc:X.calm=true)(h:PGs X es t)
  (hn:(assignEach es X.env).length=n:=by rfl) (hst:(assignEach es X.env).findIdx? (·.1)=none:=by rfl):PG X (.Tuple es k pos) (LZ X.K n t):=by
 intro js s Y H v u Q I r hw;obtain⟨a,xs,e1,hq,hl,hw⟩:=hw;subst e1;cases r;obtain⟨its,rv,ht,hz⟩:=I.tuple hq;refine assign_Tuple_tuple (I.ok.hd hc) ht (by simp[hn,<- hl,rv.length]) hst λh' hx=>?_;have I1:Inv X js Y H {s with heap:=h'}:=I.kept (t':=s.toks) λb o e=>hx b o (Nat.ne_of_lt (lt_size e)) e;exact h js _ Y H xs _ Q I1 () hw
def L0(to ti:TE)(t:HI):TG:=λv Y H Q=>to Y H λo H1=>ti Y H1 λi H2=>t o i v H2 λH3=>Q Y H3
def Gj{o i:Expr}{to ti:TE}{t:HI}(ho:PE X o to)(hi:PE X i ti)(hs:KR X t)
  (ha:∀ v,assign (.Subscript o i pos) X.env v=(do
   let ov <- holding [v] (eval o X.env)
   let iv <- holding [v,ov] (eval i X.env)
   standAt pos
   holding [v,ov,iv] (setItem ov iv v)
   release [v,ov,iv] []):=by intro _;rfl):PG X (.Subscript o i pos) (L0 to ti t):=by
 intro js s Y H v u Q I r h;rw[ha];refine wpAny_bind (wpAny_holding (thn (ho js s Y H _ I h) λov s1 zz=>?_));obtain⟨x,H1,I1,r1,q1⟩:=zz;refine wpAny_bind (wpAny_holding (thn (hi js s1 Y H1 _ I1 q1) λiv s2 zz=>?_));obtain⟨y,H2,I2,r2,q2⟩:=zz;refine wpAny_bind (wpAny_standAt (wpAny_bind (wpAny_holding (thn (hs js s2 Y H2 x y v ov iv u _ I2 r1 r2 r q2) λ_ s3 ⟨H3,I3,q3⟩=>?_))));exact wpAny_release ⟨Y,H3,I3,q3⟩
def Ix(te:TE)(g:TG):TS:=λD Y H=>te Y H λx H1=>g x Y H1 D.nx
def Ge{tg e:Expr}{te:TE}{g:TG}(he:PE X e te)(hg:PG X tg g)(hs:swapsWithSole [tg] e pos.line X.env=pure false:=by rfl)(hw:swappedStores [tg] e X.env=pure none:=by rfl)
  (h1:(assignEach [tg] X.env).map (·.2)=[assign tg X.env]:=by rfl):PS X (.Assign [tg] e pos) (Ix te g):=by
 intro js s Y H D I h;refine wpAny_Assign_stores (thn (he js s Y H _ I h) λv s1 zz=>?_) hs hw;obtain⟨x,H1,I1,r1,q1⟩:=zz;rw[h1];exact thn (hg js s1 Y H1 x v _ I1 r1 q1) λ_ s2 q=>q
def Ga{i:Nat}{x:Str}{e:Expr}{te:TE}{pos':Pos}(hN:X.N.Nodup)(hi:X.N[i]?=some x)(hx:Loc X.env.scope x)(he:PE X e te)(hs:swapsWith e (some (.Name x pos')) pos.line X.env=pure false:=by rfl)(hf:Lce X.fn X.env x:=by first|exact .inl rfl|exact .inr rfl|assumption) :
  PS X (.Assign [.Name x pos'] e pos) (Ix te (Eg i)):=by
 intro js s Y H D I h;refine wpAny_Assign_Name (thn (he js s Y H _ I h) λv s1 zz=>?_) hs;obtain⟨y,H1,I1,r1,q1⟩:=zz;exact kQ I1 hN hi hx r1 (λs2 I2=>⟨_,H1,I2,q1⟩) hf
def Lz(i:Nat)(te:TE)(ti:TIp):TS:=λD Y H=>∃x,Y[i]?=some (some x)/\te Y H λy H1=>ti x y H1 λz H2=>D.nx (Y.set i (some z)) H2
def Gd{i:Nat}{x:Str}{e:Expr}{te:TE}{op:Operator}{ti:TIp}{pos':Pos}(hN:X.N.Nodup)(hi:X.N[i]?=some x)(hx:Loc X.env.scope x)(he:PE X e te)(ho:PIp X op ti)(hf:Lce X.fn X.env x:=by first|exact .inl rfl|exact .inr rfl|assumption) :
  PS X (.AugAssign (.Name x pos') op e pos) (Lz i te ti):=by
 intro js s Y H D I h;obtain⟨v,e1,h⟩:=h;obtain⟨m,hn,hl⟩:=I.loc;have vis:Vis X.env.scope x:=by rcases hx with k|k;exact .inl k;exact .inr (.inl k)
 obtain⟨u,r,l⟩:=hl i x v hi e1 vis;refine wpAny_AugAssign_Name ?_;have go:wpAny (model X.prog X.w) X.A (eval e X.env) (λw s₂=>wpAny (model X.prog X.w) X.A (inplaceOp op u w) (λr s₃=>wpAny (model X.prog X.w) X.A (storeName X.env x r) (λ_=>SP X js D .next) X.xe s₃) X.xe s₂) X.xe s:=by refine thn (he js s Y H _ I h) λw s1 hz1=>?_;obtain⟨y,H1,I1,r1,q1⟩:=hz1;refine thn (ho js s1 Y H1 v y u w _ I1 r r1 q1) λz s2 hz1=>?_;obtain⟨zv,H2,I2,r2,q2⟩:=hz1;exact kQ I2 hN hi hx r2 (λs3 I3=>⟨_,H2,I3,q2⟩) hf
 rcases l with⟨hk,hm⟩ |⟨hk,c,hc,hcell⟩
 .exact wpAny_loadName_local I.ok.kind hk hn hm go
 .rcases hk with hk|hk
  .exact wpAny_loadName_cell I.ok.kind hk hc hcell go
  .rcases hx with k|k
   .have:X.env.scope.names.lookup x=some .free:=hk;rw[k]at this;cases this
   .have:X.env.scope.names.lookup x=some .free:=hk;rw[k]at this;cases this
def EU(c:TT)(tb:TS):TS:=λD Y H=>∃W:Nat->St->MK,(∃m,W m Y H)/\∀m Y H,W m Y H ->
 c Y H λb H1=>if b=true then ∃N:St->MK,(∀σ' H',N σ' H'->∃m',m'<m/\W m' σ' H')/\tb {D with nx:=N,ct:=N,bk:=D.nx} Y H1 else D.nx Y H1
def yI{c:Expr}{body:List Stmt}{tc:TT}{tb:TS}(hp:PassesOwn (model X.prog X.w) X.A X.env X.xe)(hc:PT X c tc)(hb:PSs X body tb):PS X (.While c body [] pos) (EU tc tb):=by
 intro js s Y H D I h;obtain⟨W,⟨m0,w0⟩,turn⟩:=h;refine wpAny_While (codeAny_whileLoop (λn s'=>∃σ' H',Inv X js σ' H' s'/\W n σ' H') ?_ m0 ⟨Y,H,I,w0⟩);rintro n s1 ⟨σ1,H1,I1,w1⟩;refine wpAny_passesOwn hp (thn (hc js s1 σ1 H1 _ I1 (turn n σ1 H1 w1)) λb s2 ⟨H2,I2,q2⟩=>?_);cases b with
 |true=>
  obtain⟨N,hN,q2⟩:=q2;refine wpAny_passesOwn hp (thn (hb js s2 σ1 H2 _ I2 q2) λf s3 q3=>?_);cases f with
  |next=>obtain⟨σ3,H3,I3,n3⟩:=q3;obtain⟨m',hm,w3⟩:=hN σ3 H3 n3;exact⟨m',hm,σ3,H3,I3,w3⟩
  |cont=>obtain⟨σ3,H3,I3,n3⟩:=q3;obtain⟨m',hm,w3⟩:=hN σ3 H3 n3;exact⟨m',hm,σ3,H3,I3,w3⟩
  |brk|ret v=>exact q3
 |false=>exact wpAny_execs_nil ⟨σ1,H2,I2,q2⟩
end
structure It where
 go:Nat->MK
 yld:Nat->Hp->V->MK
 stop:Nat->MK
def l8(X:Cx)(js:My)(H:Hp)(b:Addr):Prop:=
 H b=none/\b≠X.env.locals/\b∉X.fs/\(b∈X.ex\/X.s₀.heap.objs.size<=b)/\(∀x c,X.env.cells.lookup x=some c->c≠b)/\∀p∈X.pn++js,p.1≠b
theorem Inv.fpOk{X:Cx}{js:My}{Y:St}{H H':Hp}{s:Shared}{b:Addr}(I:Inv X js Y H s)(hb:s.heap.objs.size<=b)(hn:H' b=none):l8 X js H' b:=by
 refine⟨hn,Nat.ne_of_gt (Nat.lt_of_lt_of_le I.lt hb),I.nofs hb,.inr (Nat.le_trans I.sz hb),λx c e z=>?_,λp hp z=>?_⟩
 .obtain⟨v,q⟩:=I.cell x c e;exact absurd (Nat.lt_of_lt_of_le q.lt ()) (Nat.lt_irrefl _)
 .exact absurd (Nat.lt_of_lt_of_le (lt_size (I.pin p hp).1) ()) (Nat.lt_irrefl _)
structure tZ(P:Program)(w:World)(K:PySem.W.Frag)(tg:Expr)(J:It)(fp:MD)(it:Addr)(tn:Nat->Heap->Prop):Prop where
 mem:it∈fp
 obj:∀i h,tn i h->∀b∈fp,∃o,h.get? b=some o/\∀v,o.data≠.cell v
 keep:∀i h h',tn i h->(∀b∈fp,∀o,h.get? b=some o->h'.get? b=some o)->tn i h'
 item:∀(X:Cx),X.prog=P->X.w=w->X.K=K->X.calm=true->∀(i:Nat) (js:My) (s:Shared) (Y:St) (H:Hp) (E:Mv),Inv X js Y H s->(∀b∈fp,l8 X js H b)->tn i s.heap->J.go i H ->
  wpAny (model P w) X.A (pyNext (.ref it)) (λr s1=>∃ u,r=some u /\
   wpAny (model P w) X.A (letOwnedTupleGo tg (.ref it) u) (λ_ s2=>∃x H',Inv X js Y H' s2/\bA x u/\J.yld i H x H'/\tn (i+1) s2.heap/\∀b∈fp,H' b=none) E s1) E s
 done:∀(X:Cx),X.prog=P->X.w=w->X.K=K->X.calm=true->∀(i:Nat) (js:My) (s:Shared) (Y:St) (H:Hp) (E:Mv),Inv X js Y H s->(∀b∈fp,l8 X js H b)->tn i s.heap->J.stop i H ->
  wpAny (model P w) X.A (pyNext (.ref it)) (λr s1=>r=none/\Inv X js Y H s1) E s
 self:∀(A:Around) (i:Nat) (s:Shared) (Q:Mv) (E:Mv),tn i s.heap->Q (.ref it) s->wpAny (model P w) A (pyIter (.ref it)) Q E s
abbrev TI:=St->Hp->(It->MK)->Prop
def PIE(X:Cx)(js:My)(Y:St)(tg:Expr)(R:It->MK)(itv:Value)(s2:Shared):Prop:=
 ∃(it:Addr) (fp:MD) (tn:Nat->Heap->Prop) (J:It) (H':Hp),itv=.ref it/\Inv X js Y H' s2/\tZ X.prog X.w X.K tg J fp it tn/\tn 0 s2.heap/\(∀b∈fp,l8 X js H' b)/\R J H'
def PI(X:Cx)(tg iter:Expr)(wi:TI):Prop:=
 ∀(js:My) (s:Shared) (Y:St) (H:Hp) (R:It->MK),Inv X js Y H s->wi Y H R ->
  wpAny (model X.prog X.w) X.A (eval iter X.env) (λv s1=>wpAny (model X.prog X.w) X.A (pyIter v) (PIE X js Y tg R) X.xe s1) X.xe s
def uJ{M:Model}{A:Around}{E:Mv}{s:Shared}{tg:Expr}{it:Addr}{u:Value}{o:Obj}{n:String}{vs:MH}{Q:Unit->Shared->Prop}(ho:s.heap.get? it=some o)(hc:o.cls=.type n)(hd:o.data=.fields vs)
    (hn:["enumerate","zip","dict_itemiterator","dict_reverseitemiterator","odict_iterator","itertools.zip_longest","itertools.pairwise"].contains n=false) (hQ:Q .unit s):wpAny M A (letOwnedTupleGo tg (.ref it) u) Q E s:=by
  unfold letOwnedTupleGo;cases tg<;>first
    |exact wpAny_pure hQ
    | (cases u <;> first
        |exact wpAny_pure hQ
        | (refine wpAny_bind (wpAny_load ho ?_)
           rw[hc,hd];show wpAny M A (if(["enumerate","zip","dict_itemiterator","dict_reverseitemiterator","odict_iterator","itertools.zip_longest","itertools.pairwise"].contains n&&vs[0]?==some (rawInt _))=true then _ else _) Q E s;rw[if_neg (by intro h;rw[hn,Bool.false_and]at h;cases h)];exact wpAny_pure hQ))
def Itl(K:PySem.W.Frag)(a:Addr):It:=
 ⟨λi H=>∃xs x,SqL K H a xs/\xs[i]?=some x,λi H x H'=>H'=H/\∀xs,SqL K H a xs->xs[i]?=some x,λi H=>∃xs,SqL K H a xs/\xs.length<=i⟩
def Itt(K:PySem.W.Frag)(a:Addr):It:=
 ⟨λi H=>∃xs x,SqT K H a xs/\xs[i]?=some x,λi H x H'=>H'=H/\∀xs,SqT K H a xs->xs[i]?=some x,λi H=>∃xs,SqT K H a xs/\xs.length<=i⟩
def Itr(lo:Int)(n:Nat):It:=⟨λi _=>i<n,λi H x H'=>H'=H/\x=.int (lo+i),λi _=>n<=i⟩
theorem vG{P:Program}{w:World}{K:PySem.W.Frag}{tg:Expr}(a it:Addr):tZ P w K tg (Itl K a) [it] it (λi h=>h.IsListIter it a i) where
 mem:=by simp
 obj:=λi h st b hb=>by
  have e:b=it:=by simpa using hb
  subst e;obtain⟨o,e,c,d⟩:=st;exact⟨o,e,λv z=>by lia⟩
 keep:=λi h h' st k=>st.at λo e=>k it () o e
 item:=by intro X hP hw hK hc i js s Y H E I hf st hg;subst hP hw hK;obtain⟨xs,x,hq,hx⟩:=hg;obtain⟨its,rv,p,hz⟩:=I.list hq;obtain⟨u,hu,ru⟩:=rv.get hx;obtain⟨f0,f1,f2,f3,f4,f5⟩:=hf it ();refine wpAny_pyNext_list_item st p.isList (by simpa using hu) λh' st' sb=>?_;have I1:Inv X js Y H {s with heap:=h'}:=I.turned (t':=s.toks) (λb o hb e=>(sb.2 b hb).trans e) f0 f1 f3 f4 f5;obtain⟨o,e,c,d⟩:=id st';exact⟨u,rfl,uJ e c d () ⟨x,H,I1,ru,⟨rfl,λys hy=>by rw[I.list_inj hy hq];exact hx⟩,st',λb hb=>(hf b hb).1⟩⟩
 done:=by intro X hP hw hK hc i js s Y H E I hf st hg;subst hP hw hK;obtain⟨xs,hq,hx⟩:=hg;obtain⟨its,rv,p,hz⟩:=I.list hq;obtain⟨f0,f1,f2,f3,f4,f5⟩:=hf it ();have hl:=rv.length;exact wpAny_pyNext_list_end (I.ok.hd hc) st p.isList (by simp;lia) λh' eb=>⟨rfl,I.turned (t':=s.toks) (λb o hb e=>eb b o hb e) f0 f1 f3 f4 f5⟩
 self:=λ_ _ _ _ _ st h=>wpAny_pyIter_listiter st h
def rR{P:Program}{w:World}{K:PySem.W.Frag}{tg:Expr}(a it:Addr):tZ P w K tg (Itt K a) [it] it (λi h=>h.IsTupleIter it a i) where
 mem:=by simp
 obj:=λi h st b hb=>by
  have e:b=it:=by simpa using hb
  subst e;obtain⟨o,e,c,d⟩:=st;exact⟨o,e,λv z=>by lia⟩
 keep:=λi h h' st k=>st.at λo e=>k it () o e
 item:=by intro X hP hw hK hc i js s Y H E I hf st hg;subst hP hw hK;obtain⟨xs,x,hq,hx⟩:=hg;obtain⟨its,rv,p,hz⟩:=I.tuple hq;obtain⟨u,hu,ru⟩:=rv.get hx;obtain⟨f0,f1,f2,f3,f4,f5⟩:=hf it ();refine wpAny_pyNext_tuple_item st (show s.heap.IsTuple a its.toArray from p) (by simpa using hu) λh' st' sb=>?_;have I1:Inv X js Y H {s with heap:=h'}:=I.turned (t':=s.toks) (λb o hb e=>(sb.2 b hb).trans e) f0 f1 f3 f4 f5;obtain⟨o,e,c,d⟩:=id st';exact⟨u,rfl,uJ e c d () ⟨x,H,I1,ru,⟨rfl,λys hy=>by rw[I.tuple_inj hy hq];exact hx⟩,st',λb hb=>(hf b hb).1⟩⟩
 done:=by intro X hP hw hK hc i js s Y H E I hf st hg;subst hP hw hK;obtain⟨xs,hq,hx⟩:=hg;obtain⟨its,rv,p,hz⟩:=I.tuple hq;obtain⟨f0,f1,f2,f3,f4,f5⟩:=hf it ();have hl:=rv.length;exact wpAny_pyNext_tuple_end (I.ok.hd hc) st (show s.heap.IsTuple a its.toArray from p) (by simp;lia) λh' eb=>⟨rfl,I.turned (t':=s.toks) (λb o hb e=>eb b o hb e) f0 f1 f3 f4 f5⟩
 self:=λ_ _ _ _ _ st h=>wpAny_pyIter_tupleiter st h
theorem rS{P:Program}{w:World}{K:PySem.W.Frag}{tg:Expr}(it:Addr)(lo:Int)(n:Nat):tZ P w K tg (Itr lo n) [it] it (λi h=>IsRangeIter h it (lo+(i:Nat)*1) ((n:Int)-(i:Nat)) 1) where
 mem:=by simp
 obj:=λi h st b hb=>by
  have e:b=it:=by simpa using hb
  subst e;exact ⟨_,st,λv z=>by
   have z':Data.fields _=Data.cell v:=z;cases z'⟩
 keep:=λi h h' st k=>k it () _ st
 item:=by intro X hP hw hK hc i js s Y H E I hf st hg;subst hP hw hK;obtain⟨f0,f1,f2,f3,f4,f5⟩:=hf it ();have W:=Walks.range (prog:=X.prog) (w:=X.w) (I.ok.hd hc) it lo 1 n;refine W.item i s _ _ hg st λv h' tk hv st' kk=>?_;obtain⟨t,rfl⟩:=hv;have I1:Inv X js Y H {s with heap:=h',toks:=tk}:=I.turned (λb o hb e=>kk b o (by simpa using hb) e) f0 f1 f3 f4 f5;refine⟨_,rfl,uJ (s:={s with heap:=h',toks:=tk}) (n:="range_iterator") st' rfl rfl () ⟨.int (lo+i),H,I1,⟨t,?_⟩,⟨rfl,rfl⟩,st',λb hb=>(hf b hb).1⟩⟩;rw[Int.mul_one]
 done:=by intro X hP hw hK hc i js s Y H E I hf st hg;subst hP hw hK;obtain⟨f0,f1,f2,f3,f4,f5⟩:=hf it ();exact wpAny_pyNext_range_end (I.ok.hd hc) st (by have:n<=i:=hg;lia) λh' eb=>⟨rfl,I.turned (t':=s.toks) (λb o hb e=>eb b o hb e) f0 f1 f3 f4 f5⟩
 self:=λ_ _ _ _ _ st h=>wpAny_pyIter_rangeiter st h
end
section
section
variable{X:Cx}{tg:Expr}
theorem p7{js:My}{Y:St}{H:Hp}{s:Shared}{R:It->MK}{E:Mv}{lo hi:Int}{t u v:Tok}{tk:Nat}(I:Inv X js Y H s)(h1:-(2 ^ 62)<= lo)(h2:lo<2 ^ 62)(h3:-(2 ^ 62)<= hi)(h4:hi<2 ^ 62)
  (q:R (Itr lo (hi-lo).toNat) H):wpAny (model X.prog X.w) X.A (pyIter (.ref s.heap.objs.size)) (PIE X js Y tg R) E {s with heap:=s.heap.push {cls:=.type "range",data:=.fields #[.int lo t,.int hi u,.int 1 v]},toks:=tk}:=by
 refine wpAny_pyIter_range (IsRange.new ..) (small_one h1 h2 h3 h4) ?_;have I1:Inv X js Y H {s with heap:=s.heap.push {cls:=.type "range",data:=.fields #[.int lo t,.int hi u,.int 1 v]},toks:=tk}:=I.kept λb o e=>get?_push_of_some _ e;refine ⟨(s.heap.push { cls:=.type "range", data:=.fields #[.int lo t,.int hi u,.int 1 v] }).objs.size,[(s.heap.push { cls:=.type "range", data:=.fields #[.int lo t,.int hi u,.int 1 v] }).objs.size],_,_,H,rfl,
  I1.kept (t':=tk) λb o e=>get?_push_of_some _ e,rS _ lo (hi-lo).toNat,?_,λb hb=>?_,q⟩
 .have e1:lo+((0:Nat):Int)*1=lo:=by simp
  have e2:(((hi-lo).toNat:Nat):Int)-((0:Nat):Int)=Builtin.Range.rangeSize lo hi 1:=by rw[rangeSize_one];split<;>lia
  show IsRangeIter _ _ (lo+((0:Nat):Int)*1) ((((hi-lo).toNat:Nat):Int)-((0:Nat):Int)) 1;rw[e1,e2];exact get?_push_size _ rfl
 .have e:b=(s.heap.push {cls:=.type "range",data:=.fields #[.int lo t,.int hi u,.int 1 v]}).objs.size:=by simpa using hb
  subst e;exact I1.fpOk (Nat.le_refl _) (I1.hok.fresh (Nat.le_refl _))
def JJ(ta:TA):TI:=λY H R=>ta Y H λvs H1=>∃j:Int,vs=[.int j]/\-(2 ^ 62)<= j/\j<2 ^ 62/\R (Itr 0 j.toNat) H1
def JI(ta:TA):TI:=λY H R=>ta Y H λvs H1=>∃i j:Int,vs=[.int i,.int j]/\(-(2 ^ 62)<= i/\i<2 ^ 62/\-(2 ^ 62)<= j/\j<2 ^ 62)/\R (Itr i (j-i).toNat) H1
def m7{a:Expr}{ta:TA}{p pos:Pos}(hg:Gl X "range")(hm:X.mg "range"=none)(ha:PA X [a] ta)(hs:starEach [a] X.env=[(false,eval a X.env)]:=by rfl):PI X tg (.Call (.Name "range" p) [a] [] pos) (JJ ta):=by
 intro js s Y H R I h;refine Call_ (fm I hg hm boot_range (PyProof.Rows.callWith_type1 (thn (ha pos js s Y H _ I h) λus s1 zz=>?_) hs rfl));obtain⟨vs,H1,I1,r1,q1⟩:=zz;obtain⟨j,e,q1,q2,q⟩:=q1;subst e;cases r1 with
 |cons r rr=>cases rr;obtain⟨t,rfl⟩:=r;exact call_range_1 (p7 I1 () () q1 q2 (by simpa using q))
def wg{a b:Expr}{ta:TA}{p pos:Pos}(hg:Gl X "range")(hm:X.mg "range"=none)(ha:PA X [a,b] ta)(hs:starEach [a,b] X.env=[(false,eval a X.env),(false,eval b X.env)]:=by rfl)(hs2:starEach [b] X.env=[(false,eval b X.env)]:=by rfl) :
  PI X tg (.Call (.Name "range" p) [a,b] [] pos) (JI ta):=by
 intro js s Y H R I h;refine Call_ (fm I hg hm boot_range (PyProof.Rows.callWith_type1 (thn (ha pos js s Y H _ I h) λus s1 zz=>?_) (by rw[hs,hs2]) (by rw[hs2];rfl)));obtain⟨vs,H1,I1,r1,q1⟩:=zz;obtain⟨i,j,e,⟨q1,q2,q3,q4⟩,q⟩:=q1;subst e;cases r1 with
 |cons r rr=>
  cases rr with
  |cons r' rr=>cases rr;obtain⟨t,rfl⟩:=r;obtain⟨t',rfl⟩:=r';exact call_range_2 (p7 I1 q1 q2 q3 q4 q)
def Ly(wi:TI)(g:TG)(tb:TS):TS:=λD Y H=>wi Y H λJ H1=>∃W:Nat->Nat->St->MK,(∃m,W 0 m Y H1)/\∀i m Y H,W i m Y H ->
 (J.stop i H/\D.nx Y H)\/(J.go i H/\∃N:St->MK,(∀σ' H',N σ' H'->∃m',m'<m/\W (i+1) m' σ' H')/\∀x H',J.yld i H x H'->g x Y H' λσ2 H2=>tb {D with nx:=N,ct:=N,bk:=D.nx} σ2 H2)
def k_(fp:MD)(h:Heap):My:=fp.filterMap λb=>(h.get? b).map λo=>(b,o)
def gC{fp:MD}{h:Heap}{b:Addr}{o:Obj}(hb:b∈fp)(e:h.get? b=some o):(b,o)∈ k_ fp h:=List.mem_filterMap.mpr ⟨b,hb,by rw[e];rfl⟩
def ww{fp:MD}{h:Heap}{p:Addr×Obj}(hp:p∈k_ fp h):p.1∈fp/\h.get? p.1=some p.2:=by
 obtain⟨b,hb,e⟩:=List.mem_filterMap.mp hp;cases q:h.get? b with
 |none=>rw[q]at e;cases e
 |some o=>rw[q]at e;have e':(b,o)=p:=Option.some.inj e;subst e';exact⟨hb,q⟩
def Inv.pinned{js:My}{Y:St}{H:Hp}{s:Shared}{fp:MD}(I:Inv X js Y H s)(hf:∀b∈fp,l8 X js H b)(ho:∀b∈fp,∃o,s.heap.get? b=some o/\∀v,o.data≠.cell v):Inv X (js++k_ fp s.heap) Y H s:=
 I.pins_of λp hp=>(mem_append.mp hp).elim (λz=>I.pin p (mem_append_right _ z)) λz=>by obtain⟨hb,e⟩:=ww z;obtain⟨f0,f1,f2,_⟩:=hf p.1 hb;obtain⟨o,e',d⟩:=ho p.1 hb;rw[e]at e';cases e';exact⟨e,f0,f1,f2,d⟩
def Inv.unpinned{js pl:My}{Y:St}{H:Hp}{s:Shared}(I:Inv X (js++pl) Y H s):Inv X js Y H s:=I.pins_of λp hp=>I.pin p (mem_append_right _ (mem_append_left _ hp))
def Gb{iter:Expr}{body:List Stmt}{wi:TI}{g:TG}{tb:TS}{pos:Pos}(hp:PassesOwn (model X.prog X.w) X.A X.env X.xe)(hc:X.calm=true)(hi:PI X tg iter wi)(hg:PG X tg g)(hb:PSs X body tb)
  (hs:∀x,foldedSetIterable iter X.env x=pure x:=by intro _;rfl):PS X (.For tg iter body [] pos) (Ly wi g tb):=by
 intro js s Y H D I h;refine wpAny_For (thn (hi js s Y H _ I h) λv s1 h1=>thn h1 λitv s2 h2=>?_) hs;obtain⟨it,fp,tn,J,H2,e,I2,T,st2,f2,W,⟨m0,w0⟩,turn⟩:=h2;subst e;have stat:∀{H':Hp},(∀b∈fp,H' b=none)->∀b∈fp,l8 X js H' b:=λhn b hb=>⟨hn b hb,(f2 b hb).2⟩
 refine codeAny_forLoop_any (λn s'=>∃i σ' H',Inv X js σ' H' s'/\tn i s'.heap/\(∀b∈fp,H' b=none)/\W i n σ' H') ?_ m0 ⟨0,Y,H2,I2,st2,λb hb=>(f2 b hb).1,w0⟩;rintro n s3 ⟨i,σ3,H3,I3,st3,fr3,w3⟩;rcases turn i n σ3 H3 w3 with⟨stop,qn⟩ |⟨go,N,hN,step⟩
 .refine wpAny_passesOwn hp (thn (T.done X rfl rfl rfl hc i js s3 σ3 H3 X.xe I3 (stat fr3) st3 stop) λr s4 ⟨hr,I4⟩=>?_);subst hr;exact wpAny_execs_nil ⟨σ3,H3,I4,qn⟩
 .refine wpAny_passesOwn hp (thn (T.item X rfl rfl rfl hc i js s3 σ3 H3 X.xe I3 (stat fr3) st3 go) λr s4 ⟨u,hr,h4⟩=>?_);subst hr;refine wpAny_passesOwn hp (thn h4 λ_ s5 zz=>?_);obtain⟨x,H5,I5,r5,y5,st5,fr5⟩:=zz;have I5':=I5.pinned (stat fr5) (T.obj _ _ st5);refine wpAny_passesOwn hp (thn (hg _ s5 σ3 H5 x u _ I5' r5 (step x H5 y5)) λ_ s6 ⟨σ6,H6,I6,q6⟩=>?_);refine wpAny_passesOwn hp (thn (hb _ s6 σ6 H6 _ I6 q6) λf s7 q7=>?_);have again:∀{σ7:St}{H7:Hp},Inv X (js++k_ fp s5.heap) σ7 H7 s7->N σ7 H7->∃m,m<n/\∃i σ' H',Inv X js σ' H' s7/\tn i s7.heap/\(∀b∈fp,H' b=none)/\W i m σ' H':=λ{σ7 H7} I7 n7=>by obtain⟨m',hm,w7⟩:=hN σ7 H7 n7;refine⟨m',hm,i+1,σ7,H7,I7.unpinned,T.keep _ _ _ st5 λb hb o e=>(I7.pin (b,o) (mem_append_right _ (mem_append_right _ (gC hb e)))).1,λb hb=>?_,w7⟩;obtain⟨o,e,d⟩:=T.obj _ _ st5 b hb;exact(I7.pin (b,o) (mem_append_right _ (mem_append_right _ (gC hb e)))).2.1
  cases f with
  |next|cont=>obtain⟨σ7,H7,I7,n7⟩:=q7;exact again I7 n7
  |brk=>obtain⟨σ7,H7,I7,q7⟩:=q7;exact⟨σ7,H7,I7.unpinned,q7⟩
  |ret v=>obtain⟨x7,σ7,H7,I7,r7,q7⟩:=q7;exact⟨x7,σ7,H7,I7.unpinned,r7,q7⟩
end
end
section
abbrev R2:=V->V->Hp->VK->Prop
def OpR(X:Cx)(f:Value->Value->Sem Value)(r:R2):Prop:=
 ∀(js:My) (s:Shared) (Y:St) (H:Hp) (x y:V) (v u:Value) (Q:VK),Inv X js Y H s->bA x v->bA y u->r x y H Q ->
  wpAny (model X.prog X.w) X.A (f v u) (EP X js Y Q) X.xe s
def UnR(X:Cx)(f:Value->Sem Value)(r:V->Hp->VK->Prop):Prop:=
 ∀(js:My) (s:Shared) (Y:St) (H:Hp) (x:V) (v:Value) (Q:VK),Inv X js Y H s->bA x v->r x H Q ->
  wpAny (model X.prog X.w) X.A (f v) (EP X js Y Q) X.xe s
def dr(X:Cx)(f:Value)(r:MJ->Hp->VK->Prop):Prop:=
 ∀(js:My) (s:Shared) (Y:St) (H:Hp) (xs:MJ) (us:MC) (Q:VK),Inv X js Y H s->aS xs us->r xs H Q ->
  wpAny (model X.prog X.w) X.A (call f us) (EP X js Y Q) X.xe s
def Mh(X:Cx)(r:V->Hp->(Bool->MK)->Prop):Prop:=
 ∀(js:My) (s:Shared) (Y:St) (H:Hp) (x:V) (v:Value) (Q:Bool->MK),Inv X js Y H s->bA x v->r x H Q ->
  wpAny (model X.prog X.w) X.A (truthy v) (TP X js Y Q) X.xe s
def tOp(r:R2)(ta tb:TE):TE:=λY H Q=>ta Y H λx H1=>tb Y H1 λy H2=>r x y H2 Q
def tUn(r:V->Hp->VK->Prop)(ta:TE):TE:=λY H Q=>ta Y H λx H1=>r x H1 Q
def rI(C:Int->Int->Prop)(g:Int->Int->V):R2:=λx y H Q=>∃i j,x=.int i/\y=.int j/\C i j/\Q (g i j) H
def rI0(g:Int->Int->V):R2:=λx y H Q=>∃i j,x=.int i/\y=.int j/\Q (g i j) H
def rU(g:Int->V):V->Hp->VK->Prop:=λx H Q=>∃i,x=.int i/\Q (g i) H
section
variable{X:Cx}{a b c:Expr}{ta tb tc:TE}{pos:Pos}
def Hx(ha:PE X a ta)(hb:PE X b tb){js:My}{s:Shared}{Y:St}{H:Hp}{R:V->V->MK}(I:Inv X js Y H s)
  (h:ta Y H λx H1=>tb Y H1 λy H2=>R x y H2) {Q:Mv}{f:Value->Value->Sem Value}
  (hf:∀v u s2 x y H2,Inv X js Y H2 s2->bA x v->bA y u->R x y H2->wpAny (model X.prog X.w) X.A (f v u) Q X.xe s2) :
  wpAny (model X.prog X.w) X.A (eval a X.env) (λv s₁=>wpAny (model X.prog X.w) X.A (eval b X.env) (λu s₂=>wpAny (model X.prog X.w) X.A (f v u) Q X.xe s₂) X.xe s₁) X.xe s:=by
 refine thn (ha js s Y H _ I h) λv s1 hz1=>?_;obtain⟨x,H1,I1,r1,q1⟩:=hz1;refine thn (hb js s1 Y H1 _ I1 q1) λu s2 hz1=>?_;obtain⟨y,H2,I2,r2,q2⟩:=hz1;exact hf v u s2 x y H2 I2 r1 r2 q2
def Ja{op:Operator}{r:R2}(ho:OpR X (binaryOp op) r)(ha:PE X a ta)(hb:PE X b tb):PE X (.BinOp a op b pos) (tOp r ta tb):=by intro js s Y H Q I h;exact wpAny_BinOp (Hx ha hb I h λv u s2 x y H2 I2 rx ry q=>ho js s2 Y H2 x y v u Q I2 rx ry q)
def I_{op:UnaryOp}{r:V->Hp->VK->Prop}(ho:UnR X (unaryOp op) r)(ha:PE X a ta):PE X (.UnaryOp op a pos) (tUn r ta):=by intro js s Y H Q I h;exact UnaryOp_ (thn (ha js s Y H _ I h) λv s1 ⟨x,H1,I1,r1,q1⟩=>ho js s1 Y H1 x v Q I1 r1 q1)
def opI{f:Value->Value->Sem Value}{C:Int->Int->Prop}{g:Int->Int->Int}
  (rule:∀(i j:Int) (t u:Tok) (s:Shared) (Q:Mv) (E:Mv),C i j->Q (.int (g i j) s.toks) {s with toks:=s.toks+1}->wpAny (model X.prog X.w) X.A (f (.int i t) (.int j u)) Q E s) :
  OpR X f (rI C λi j=>.int (g i j)):=by
 intro js s Y H x y v u Q I rx ry h;obtain⟨i,j,rfl,rfl,hc,q⟩:=h;obtain⟨t,rfl⟩:=rx;obtain⟨t',rfl⟩:=ry;exact rule i j t t' s _ _ hc ⟨.int (g i j),H,I.tok _,⟨_,rfl⟩,q⟩
def GJ{f:Value->Value->Sem Value}{g:Int->Int->Int}
  (rule:∀(i j:Int) (t u:Tok) (s:Shared) (Q:Mv) (E:Mv),Q (.int (g i j) s.toks) {s with toks:=s.toks+1}->wpAny (model X.prog X.w) X.A (f (.int i t) (.int j u)) Q E s) :
  OpR X f (rI0 λi j=>.int (g i j)):=by
 intro js s Y H x y v u Q I rx ry h;obtain⟨i,j,rfl,rfl,q⟩:=h;obtain⟨t,rfl⟩:=rx;obtain⟨t',rfl⟩:=ry;exact rule i j t t' s _ _ ⟨.int (g i j),H,I.tok _,⟨_,rfl⟩,q⟩
def Cq{f:Value->Value->Sem Value}{g:Int->Int->Bool}
  (rule:∀(i j:Int) (t u:Tok) (s:Shared) (Q:Mv) (E:Mv),Q (.bool (g i j)) s->wpAny (model X.prog X.w) X.A (f (.int i t) (.int j u)) Q E s) :
  OpR X f (rI0 λi j=>.bl (g i j)):=by
 intro js s Y H x y v u Q I rx ry h;obtain⟨i,j,rfl,rfl,q⟩:=h;obtain⟨t,rfl⟩:=rx;obtain⟨t',rfl⟩:=ry;exact rule i j t t' s _ _ ⟨.bl (g i j),H,I,rfl,q⟩
def Mq(i j:Int):Prop:=0<j/\j<1073741824
def Mo(i j:Int):Prop:=0<=j/\j<=1000000/\i.natAbs<2 ^ 64
def HP(i j:Int):Prop:=(-(2 ^ 64)<i/\i<2 ^ 64)\/(-(2 ^ 64)<j/\j<2 ^ 64)
def HP.ok{i j:Int}(h:HP i j):IntMulOk i j:=by
 rcases h with⟨h1,h2⟩ |⟨h1,h2⟩
 .exact .of_left (intBits_le_64 h1 h2)
 .exact .of_right (intBits_le_64 h1 h2)
def GH:OpR X (binaryOp .Add) (rI0 λi j=>.int (i+j)):=GJ λ_ _ _ _ _ _ _ q=>add_int q
def Gu:OpR X (binaryOp .Sub) (rI0 λi j=>.int (i-j)):=GJ λ_ _ _ _ _ _ _ q=>sub_int q
def Gx:OpR X (binaryOp .Mult) (rI HP λi j=>.int (i*j)):=opI λ_ _ _ _ _ _ _ hc q=>mul_int q hc.ok
theorem Cn:OpR X (binaryOp .FloorDiv) (rI Mq λi j=>.int (i / j)):=opI λi j _ _ _ _ _ hc q=>by have h1:(0:Int)<j:=hc.1;have h2:j<1073741824:=hc.2;exact floordiv_int () (by rw[Int.fdiv_eq_ediv_of_nonneg i ()];exact q) (.inl (PyProof.noPylong_small ()))
def Gy:OpR X (binaryOp .Mod) (rI (λ_ j=>0<j) λi j=>.int (i%j)):=opI λi j _ _ _ _ _ hc q=>by exact mod_int' () (by rw[Int.fmod_eq_emod_of_nonneg i ()];exact q)
def Gv:OpR X (binaryOp .Pow) (rI Mo λi j=>.int (i ^ j.toNat)):=opI λ_ _ _ _ _ _ _ hc q=>pow_int_small hc.1 hc.2.1 hc.2.2 q
def C5:OpR X (inplaceOp .Sub) (rI0 λi j=>.int (i-j)):=GJ λ_ _ _ _ _ _ _ q=>isub_int q
def unI{f:Value->Sem Value}{g:Int->Int}
  (rule:∀(i:Int) (t:Tok) (s:Shared) (Q:Mv) (E:Mv),Q (.int (g i) s.toks) {s with toks:=s.toks+1}->wpAny (model X.prog X.w) X.A (f (.int i t)) Q E s) :
  UnR X f (rU λi=>.int (g i)):=by
 intro js s Y H x v Q I rx h;obtain⟨i,rfl,q⟩:=h;obtain⟨t,rfl⟩:=rx;exact rule i t s _ _ ⟨.int (g i),H,I.tok _,⟨_,rfl⟩,q⟩
def ER:UnR X (unaryOp .USub) (rU λi=>.int (-i)):=unI λ_ _ _ _ _ q=>neg_int q
def tJ{js:My}{Y:St}{H:Hp}{s:Shared}{Q:VK}{k k':Bool}(I:Inv X js Y H s)(q:Q (.bl k) H)(e:k=k'):EP X js Y Q (.bool k') s:=by subst e;exact⟨.bl k,H,I,rfl,q⟩
def Jh:OpR X (compareOp .Lt) (rI0 λi j=>.bl (decide (i<j))):=Cq λ_ _ _ _ _ _ _ q=>lt_int q
def D_:OpR X (compareOp .LtE) (rI0 λi j=>.bl (decide (i<=j))):=Cq λ_ _ _ _ _ _ _ q=>le_int q
def Ea:OpR X (compareOp .Gt) (rI0 λi j=>.bl (decide (j<i))):=Cq λ_ _ _ _ _ _ _ q=>gt_int q
def Ji:OpR X (compareOp .GtE) (rI0 λi j=>.bl (decide (j<=i))):=Cq λ_ _ _ _ _ _ _ q=>ge_int q
def wv:OpR X (compareOp .In) (λx y H Q=>∃i j,x=.str i/\y=.str j/\Q (.bl (!(Builtin.Str.occurrences j i 0 j.length 1).isEmpty)) H):=by intro js s Y H x y v u Q I rx ry h;obtain⟨i,j,rfl,rfl,q⟩:=h;obtain⟨t,rfl⟩:=rx;obtain⟨t',rfl⟩:=ry;exact in_str (tJ I q rfl)
def GB:OpR X (compareOp .Is) (λx y H Q=>y=.non/\Q (.bl (decide (x=.non))) H):=by
 intro js s Y H x y v u Q I rx ry h;obtain⟨rfl,q⟩:=h;cases ry;refine is_none_gen (tJ I q ?_);cases x<;>first
  |(cases rx;rfl)
  |(obtain⟨t,rfl⟩:=rx;rfl)
def Ck:OpR X (compareOp .IsNot) (λx y H Q=>y=.non/\Q (.bl (!decide (x=.non))) H):=by
 intro js s Y H x y v u Q I rx ry h;obtain⟨rfl,q⟩:=h;cases ry;refine isnot_none_gen (tJ I q ?_);cases x<;>first
  |(cases rx;rfl)
  |(obtain⟨t,rfl⟩:=rx;rfl)
def OpR.or{f:Value->Value->Sem Value}{r r':R2}(h:OpR X f r)(h':OpR X f r'):OpR X f (λx y H Q=>r x y H Q\/r' x y H Q):=by
 intro js s Y H x y v u Q I rx ry q;rcases q with q|q
 .exact h js s Y H x y v u Q I rx ry q
 .exact h' js s Y H x y v u Q I rx ry q
theorem dZ(b:Expr){op:CmpOp}(h:op≠.In:=by decide)(h2:op≠.NotIn:=by decide):behindInMarks op b=false:=by
 have e1:(op==CmpOp.In)=false:=by lia
 have e2:(op==CmpOp.NotIn)=false:=by lia
 cases b<;>simp[behindInMarks,e1,e2]
def Cg{op:CmpOp}{r:R2}(ho:OpR X (compareOp op) r)(ha:PE X a ta)(hb:PE X b tb)(hm:behindInMarks op b=false):PE X (.Compare a [op] [b] pos) (tOp r ta tb):=by intro js s Y H Q I h;exact wpAny_Compare1 (Hx ha hb I h λv u s2 x y H2 I2 rx ry q=>ho js s2 Y H2 x y v u Q I2 rx ry q) hm
def Ip(t:TE):TT:=λY H Q=>t Y H λx H'=>∃k,x=.bl k/\Q k H'
def oH{op:CmpOp}{r:R2}(ho:OpR X (compareOp op) r)(ha:PE X a ta)(hb:PE X b tb)(hm:behindInMarks op b=false):PT X (.Compare a [op] [b] pos) (Ip (tOp r ta tb)):=by
 intro js s Y H Q I h;refine wpAny_isTrue_Compare1 (thn (ha js s Y H _ I h) λv s1 ⟨x,H1,I1,r1,q1⟩=>thn (hb js s1 Y H1 _ I1 q1) λu s2 ⟨y,H2,I2,r2,q2⟩=>
  thn (ho js s2 Y H2 x y v u _ I2 r1 r2 q2) λc s3 ⟨z,H3,I3,r3,k,e,q3⟩=>?_) hm
 subst e;cases r3;exact wpAny_truthy_bool ⟨H3,I3,q3⟩
def KQ(K:PySem.W.Frag)(x:V)(H:Hp)(k:Bool):Prop:=
 match x with
 |.non=>k=false
 |.bl b=>k=b
 |.int i=>k=(i != 0)
 |.str y=>y.length<=sizeLine/\k=((y.length:Int) != 0)
 |.byt y=>y.size<=sizeLine/\k=((y.size:Int) != 0)
 |.ref p=>(∃xs,SqL K H p xs/\k=!xs.isEmpty)\/(∃xs,SqT K H p xs/\k=!xs.isEmpty)\/ ∃kvs,H p=some (.dK kvs)/\k=!kvs.isEmpty
 |_=>False
def sY{κ:Type}{kvs:List (κ×V)}{vs:List (κ×Value)}(r:KV kvs vs):(!vs.isEmpty)=!kvs.isEmpty:=by cases r<;>rfl
def lK{xs:MJ}{its:MC}(r:aS xs its):(!its.toArray.isEmpty)=!xs.isEmpty:=by cases r<;>simp
def jS:(sizeLine:Nat)<2 ^ 63:=by rw[sizeLine_eq];decide
theorem ET:Mh X (λx H Q=>∃k,KQ X.K x H k/\Q k H):=by
 intro js s Y H x v Q I rx h;obtain⟨k,e,q⟩:=h;have hs:sizeLine=16777216:=sizeLine_eq;cases x with
 |non=>cases rx;have e':k=false:=e;subst e';exact truthy_none ⟨H,I,q⟩
 |bl b=>cases rx;have e':k=b:=e;subst e';exact wpAny_truthy_bool ⟨H,I,q⟩
 |int i=>obtain⟨t,rfl⟩:=rx;have e':k=(i != 0):=e;subst e';exact PySem.P.truthy_int ⟨H,I,q⟩
 |str y=>obtain⟨t,rfl⟩:=rx;obtain⟨hy,e'⟩:y.length<=sizeLine/\k=((y.length:Int) != 0):=e;subst e';exact PySem.P.truthy_str () ⟨H,I.tok _,q⟩
 |byt y=>obtain⟨t,rfl⟩:=rx;obtain⟨hy,e'⟩:y.size<=sizeLine/\k=((y.size:Int) != 0):=e;subst e';exact PySem.W.truthy_bytes () ⟨H,I.tok _,q⟩
 |ref p=>
  cases rx;have e':(∃xs,SqL X.K H p xs/\k=!xs.isEmpty)\/(∃xs,SqT X.K H p xs/\k=!xs.isEmpty)\/ ∃kvs,H p=some (.dK kvs)/\k=!kvs.isEmpty:=e;rcases e' with⟨xs,hx,e'⟩ |⟨xs,hx,e'⟩ |⟨kvs,hx,e'⟩
  .subst e';obtain⟨its,r,pl,hz⟩:=I.list hx;have hlen:=r.length;exact wpAny_truthy_list pl.isList (by simp;lia) ⟨H,I.tok _,by rw[lK r];exact q⟩
  .subst e';obtain⟨its,r,pl,hz⟩:=I.tuple hx;have hlen:=r.length;exact truthy_tuple pl (by simp;lia) ⟨H,I.tok _,by rw[lK r];exact q⟩
  .subst e';obtain⟨hz,hS,vs,r,m⟩:kvs.length<=sizeLine/\(p==sysModules)=false/\∃vs,KV kvs vs/\s.heap.DictOf (oR X.prog X.w) p vs:=I.hok p _ hx;have hlen:kvs.length=vs.length:=Paired.length r;exact wpAny_truthy_dict hS m () ⟨H,I.tok _,by rw[sY r];exact q⟩
 |_=>exact(show False from e).elim
def yG(ha:PE X a ta)(he:∀whole,isTrue a X.env whole=(do let v <- whole;standAt a.pos;holding [v] (truthy v))) :
  PT X a (λY H Q=>ta Y H λx H'=>∃k,KQ X.K x H' k/\Q k H'):=by
 intro js s Y H Q I h;exact isTrue_plain (thn (ha js s Y H _ I h) λv s1 ⟨x,H1,I1,r1,q1⟩=>ET js s1 Y H1 x v Q I1 r1 q1) (he _)
def sE:OpR X (binaryOp .Add) (λx y H Q=>∃i j,x=.str i/\y=.str j/\i.length+j.length<=sizeLine/\Q (.str (i++j)) H):=by intro js s Y H x y v u Q I rx ry h;obtain⟨i,j,rfl,rfl,hz,q⟩:=h;obtain⟨t,rfl⟩:=rx;obtain⟨t',rfl⟩:=ry;exact add_str (λt' tk=>⟨.str (i++j),H,I.tok _,⟨_,rfl⟩,q⟩) hz
def dw{x:V}{us:MC}(r:aS [x] us):∃u,us=[u]/\bA x u:=by
 cases r with
 |cons r1 r2=>cases r2;exact⟨_,rfl,r1⟩
def Im{x y:V}{us:MC}(r:aS [x,y] us):∃u w',us=[u,w']/\bA x u/\bA y w':=by
 cases r with
 |cons r1 r2=>
  cases r2 with
  |cons r3 r4=>cases r4;exact⟨_,_,rfl,r1,r3⟩
def w_(hc:X.calm=true):dr X (.builtin "min") (λxs H Q=>∃i j,xs=[.int i,.int j]/\Q (.int (if j<i then j else i)) H):=by
 intro js s Y H xs us Q I r h;obtain⟨i,j,rfl,q⟩:=h;obtain⟨u,w',rfl,⟨t,rfl⟩,⟨t',rfl⟩⟩:=Im r;refine min_two_ints (I.ok.hd hc) λh' tk k=>⟨_,H,I.kept k,?_,q⟩
 by_cases hj:j<i
 .rw[if_pos hj,if_pos hj];exact⟨_,rfl⟩
 .rw[if_neg hj,if_neg hj];exact⟨_,rfl⟩
def jy:dr X (.type "str") (λxs H Q=>∃i,xs=[.int i]/\i.natAbs.log2<1920/\Q (.str (toString i)) H):=by intro js s Y H xs us Q I r h;obtain⟨i,rfl,hz,q⟩:=h;obtain⟨u,rfl,t,rfl⟩:=dw r;exact PySem.P.str_of_int hz ⟨.str _,H,I.tok _,⟨_,rfl⟩,q⟩
end
end
section
structure t5(h:Heap)(x dx C:Addr)(mA:Mw):Prop where
 obj:h.get? x=some (instObj C dx)
 ns:h.Ns1 dx mA
 ne:dx≠x
def wH{h:Heap}{dx:Addr}{mA:Mw}(n:h.Ns1 dx mA):∃od,h.get? dx=some od/\∀name,lookIn name od=some (mA name):=by
 obtain⟨o,es,ep,ho,hd,hk,_,hm⟩:=n;refine⟨o,ho,λname=>?_⟩;have e:=hm name;unfold nsFind findBy at e;rw[<- Array.find?_toList]at e;unfold lookIn;rw[hd];dsimp only;split
 .rename_i y q
  rw[q]at e;exact congrArg some e
 .rename_i q
  rw[q]at e;have a:es.toList.any (·.refKey)=false:=by rw[List.any_eq_false];intro y hy;obtain⟨z,t,hkey⟩:=hk y (Array.mem_toList_iff.mp hy);simp[DictEntry.refKey,hkey]
  have a':¬es.toList.any (·.refKey)=true:=by rw[a];exact Bool.false_ne_true
  rw[if_neg a'];exact congrArg some e
def t5.look{h:Heap}{x dx C:Addr}{mA:Mw}(I:t5 h x dx C mA):∃od,PySem.W.InstAt h x (instObj C dx) C (some od)/\∀name,lookIn name od=some (mA name):=
 let⟨od,ho,hl⟩:=wH I.ns
 ⟨od,⟨I.obj,rfl,rfl,ho⟩,hl⟩
section
variable{prog:Program}{w:World}{A:Around}{E:Mv}{s:Shared}{K:PySem.W.Frag}{x dx C f:Addr}{mA:Mw}{name:Str}{v:Value}
def C_{expr:Bool}{Q:Mv}(X:K.In s.heap)(I:t5 s.heap x dx C mA)(hg:plainGet K C name=true)(hh:hasDictIn K C=true)
  (ha:PySem.W.findIn K (.ref C) name=some none) (hv:mA name=some v) (hv':handedIn v=true) (h:Q v {s with toks:=s.toks+1}) :
  wpAny (model prog w) A (getAttr (.ref x) name expr) Q E s:=by
 obtain⟨od,J,hl⟩:=I.look;exact PySem.W.get_value X J (plainGet_of hg).1 (PySem.W.findObj_own hh ha rfl (by rw[hl,hv])) hv' h
def Ac{pl:Sem Bool}{Q:Value×MC->Shared->Prop}(X:K.In s.heap)(I:t5 s.heap x dx C mA)(hg:plainGet K C name=true)
  (hf:PySem.W.findIn K (.ref C) name=some (some (.ref f))) (ht:PySem.W.isFn K (.ref f)=true) (hv:mA name=none) (h:Q (.ref f,[.ref x]) s) :
  wpAny (model prog w) A (getMethod (.ref x) name pl) Q E s:=by
 obtain⟨od,J,hl⟩:=I.look;exact PySem.W.method_fn X J (plainGet_of hg).1 (plainGet_of hg).2 hf (beq_iff_eq.mp ht) (by show(lookIn name od).map (·.isSome)=some false;rw[hl,hv];rfl) h
theorem BD{ns:MF}{Q:Unit->Shared->Prop}(X:K.In s.heap)(I:t5 s.heap x dx C mA)
  (hs:PySem.W.findIn K (.ref C) "__setattr__"=some (some (.builtin "object.__setattr__"))) (hp:plainOver K C=true) (ht:takerIn K C name=some none) (hh:hasDictIn K C=true)
  (hw:PySem.Within mA ns) (hsz:ns.length<=sizeLine)
  (h:∀h',t5 h' x dx C (λy=>if y=name then some v else mA y)->SameBut dx s.heap h'->Q .unit {s with heap:=h',toks:=s.toks+2}) :
  wpAny (model prog w) A (setAttr (.ref x) name v) Q E s:=by
 obtain⟨od,J,hl⟩:=I.look;refine PySem.W.set_plain X J hs (PySem.W.osa_open X J hp ht λb=>?_);obtain⟨cd,hc,hd'⟩:=PySem.W.any_some hh;have hx:s.heap.get? x=some ⟨.ref C,some dx,.plain,#[]⟩:=I.obj;refine wpAny_bind (wpAny_pure (wpAny_bind (wpAny_bind (wpAny_loadPart hx (wpAny_bind (PySem.W.Looks.here (PySem.W.looks_clsIn X hc) ?_))))));rw[hd'];refine wpAny_pure (wpAny_bind (wpAny_pure (wpAny_bind ?_)));refine wpAny_nsSet1 I.ns λh' hn2 hs2=>?_;obtain⟨oD,esD,epD,hoD,hdD,hcD⟩:=hn2.count (PySem.Within.cons name v hw);refine wpAny_bind (wpAny_lookBehind hoD (by rw[hdD];exact pastItsLine_dict (Nat.le_trans hcD (by rw[length_cons];lia))) ?_);exact wpAny_pure (h _ ⟨(hs2.2 _ (Ne.symm I.ne)).trans I.obj,hn2,I.ne⟩ hs2)
def zI{R:Result->Shared->Prop}{vs:MC}{kw:List (Str×Value)}(X:K.In s.heap)(hm:makesIn K C=true)
  (hi:PySem.W.findIn K (.ref C) "__init__"=some (some (.ref f))) (hf:PySem.W.typeIn K (.ref f)=some (.type "function"))
  (h:codeAny (model prog w) (A.under (.builtin "type.__call__" ⟨.ref C::vs,kw⟩)) (.call (.ref f) ⟨.ref (s.heap.objs.size+1)::vs,kw⟩) (PySem.W.InitBack (s.heap.objs.size+1) R)
   {s with heap:=(s.heap.push emptyDict).push (instObj C s.heap.objs.size)}) :
  codeAny (model prog w) A (.call (.ref C) ⟨vs,kw⟩) R s:=by
 obtain⟨hh,g,d,t,os⟩:=s;exact PySem.W.make_core (PySem.W.makes_of X hm) (PySem.W.looks_findIn X hi) (λself=>PySem.W.bind_fn X self hf) (.inl rfl) h
end
noncomputable def gw(f:Str)(v:V):List (Str×V)->List (Str×V)
 | []=>[(f,v)]
 |(g,x)::r=>if g=f then(g,v)::r else(g,x)::gw f v r
theorem ki(f g:Str)(v:V):∀fs:List (Str×V),(gw f v fs).lookup g=if g=f then some v else fs.lookup g
 | []=>by
  show List.lookup g [(f,v)]=_;by_cases h:g=f
  .have hb:(g==f)=true:=beq_iff_eq.mpr h;simp only[List.lookup,hb,if_pos h]
  .have hb:(g==f)=false:=beq_eq_false_iff_ne.mpr h;simp only[List.lookup,hb,if_neg h]
 |(k,x)::r=>by
  have ih:=ki f g v r;rw[show gw f v ((k,x)::r)=(if k=f then(k,v)::r else(k,x)::gw f v r)from rfl];by_cases hk:k=f
  .rw[if_pos hk];by_cases h:g=k
   .simp_all
   .have hb:(g==k)=false:=beq_eq_false_iff_ne.mpr h;simp only[List.lookup,hb,if_neg (λe:g=f=>h (e.trans hk.symm))]
  .rw[if_neg hk];by_cases h:g=k
   .simp_all
   .have hb:(g==k)=false:=beq_eq_false_iff_ne.mpr h;simp only[List.lookup,hb];exact ih
theorem jT(f:Str)(v:V):∀fs:List (Str×V),f ∈(gw f v fs).map (·.1)/\∀g,g∈fs.map (·.1)->g ∈(gw f v fs).map (·.1)
 | []=>⟨by simp[gw],λg h=>by simp at h⟩
 |(k,x)::r=>by
  obtain⟨i1,i2⟩:=jT f v r;rw[show gw f v ((k,x)::r)=(if k=f then(k,v)::r else(k,x)::gw f v r)from rfl];by_cases hk:k=f
  .rw[if_pos hk];subst hk;exact⟨by simp,λg h=>by simpa using h⟩
  .rw[if_neg hk];refine⟨?_,λg h=>?_⟩
   .rw[map_cons];exact mem_cons_of_mem _ i1
   .rw[map_cons]at h ⊢;rcases mem_cons.mp h with e|e
    .exact mem_cons.mpr (.inl e)
    .exact mem_cons_of_mem _ (i2 g e)
theorem km(f:Str)(v:V):∀fs:List (Str×V),(gw f v fs).length<=fs.length+1
 | []=>by simp[gw]
 |(k,x)::r=>by
  have ih:=km f v r;rw[show gw f v ((k,x)::r)=(if k=f then(k,v)::r else(k,x)::gw f v r)from rfl];by_cases hk:k=f
  .rw[if_pos hk,length_cons,length_cons];lia
  .rw[if_neg hk,length_cons,length_cons];lia
def mI.some_of{v:V}{o:Option Value}(r:mI (some v) o):∃u,o=some u/\bA v u:=by
 cases o with
 |none=>exact(show False from r).elim
 |some u=>exact⟨u,rfl,r⟩
def mI.none_of{o:Option Value}(r:mI none o):o=none:=by
 cases o with
 |none=>rfl
 |some u=>exact(show False from r).elim
def wP{v:V}{u:Value}(r:bA v u):handedIn u=true:=by
 cases v with
 |non=>cases(show u=Value.none from r);rfl
 |bl b=>cases(show u=Value.bool b from r);rfl
 |int i=>obtain⟨t,e⟩:=(show ∃t,u=Value.int i t from r);cases e;rfl
 |str x=>obtain⟨t,e⟩:=(show ∃t,u=Value.str x t from r);cases e;rfl
 |byt b=>obtain⟨t,e⟩:=(show ∃t,u=Value.bytes b t from r);cases e;rfl
 |flt b=>obtain⟨t,e⟩:=(show ∃t,u=Value.float b t from r);cases e;rfl
 |ref a=>cases(show u=Value.ref a from r);rfl
 |ty n=>cases(show u=Value.type n from r);rfl
section
variable{P:Program}{w:World}{H H':Hp}{h h':Heap}{a C dx:Addr}{fs fs':List (Str×V)}
def kK(hok:HOk P w H h)(e:H a=some (.ins C dx fs)):∃mA,t5 h a dx C mA/\(∀f,mI (fs.lookup f) (mA f))/\PySem.Within mA (fs.map (·.1))/\fs.length<=1000/\H dx=some (.own a):=by
 obtain⟨d,z,ne,ob,mA,n,r,q⟩:=(show cK P w H h a (.ins C dx fs)from hok a _ e)
 exact⟨mA,⟨ob,n,ne⟩,r,q,z,d⟩
end
structure Cls(K:PySem.W.Frag)(C:Addr):Prop where
 pg:plainGet K C Str.empty=true
 hd:hasDictIn K C=true
 po:plainOver K C=true
 sa:PySem.W.findIn K (.ref C) "__setattr__"=some (some (.builtin "object.__setattr__"))
def Cls.get{K:PySem.W.Frag}{C:Addr}(c:Cls K C)(f:Str):plainGet K C f=true:=c.pg
def fB(K:PySem.W.Frag)(C:Addr)(f:Str):Prop:=PySem.W.findIn K (.ref C) f=some none
def fB.taker{K:PySem.W.Frag}{C:Addr}{f:Str}(n:fB K C f):takerIn K C f=some none:=by unfold takerIn;rw[show PySem.W.findIn K (.ref C) f=some none from n];rfl
structure AV(K:PySem.W.Frag)(C:Addr)(m:Str)(f:Addr):Prop where
 at_:PySem.W.findIn K (.ref C) m=some (some (.ref f))
 fn:PySem.W.isFn K (.ref f)=true
 kp:PySem.W.keepIn K (.ref f)=true
section
variable{X:Cx}{js:My}{Y:St}{H:Hp}{s:Shared}{a C dx:Addr}{fs:List (Str×V)}{f:Str}{v:V}{A:Around}{E:Mv}
def tD{b:Bool}{Q:Mv}(I:Inv X js Y H s)(e:H a=some (.ins C dx fs))(c:Cls X.K C)(n:fB X.K C f)(l:fs.lookup f=some v)
  (h:∀u s',Inv X js Y H s'->bA v u->Q u s'):wpAny (model X.prog X.w) A (getAttr (.ref a) f b) Q E s:=by
 obtain⟨mA,O,r,_,_,_⟩:=kK I.hok e;obtain⟨u,hu,ru⟩:=mI.some_of (by rw[<- l];exact r f);exact C_ I.kIn O (c.get f) c.hd n hu (wP ru) (h u _ (I.tok _) ru)
def tB{m:Str}{g:Addr}{pl:Sem Bool}{Q:Value×MC->Shared->Prop}(I:Inv X js Y H s)(e:H a=some (.ins C dx fs))(c:Cls X.K C)(k:AV X.K C m g)(l:fs.lookup m=none)
  (h:Q (.ref g,[.ref a]) s):wpAny (model X.prog X.w) A (getMethod (.ref a) m pl) Q E s:=by
 obtain⟨mA,O,r,_,_,_⟩:=kK I.hok e;have hn:mA m=none:=mI.none_of (by rw[<- l];exact r m);exact Ac I.kIn O (c.get m) k.at_ k.fn hn h
theorem sf{y:V}{u:Value}{Q:Unit->Shared->Prop}(I:Inv X js Y H s)(e:H a=some (.ins C dx fs))(c:Cls X.K C)(n:fB X.K C f)(hl:fs.length<1000)(ry:bA y u)
  (h:∀s',Inv X js Y (upd H a (.ins C dx (gw f y fs))) s'->Q .unit s'):wpAny (model X.prog X.w) A (setAttr (.ref a) f u) Q E s:=by
 obtain⟨mA,O,r,wi,_,ho⟩:=kK I.hok e;have hz:(fs.map (·.1)).length<=sizeLine:=by rw[length_map,sizeLine_eq];lia
 refine BD I.kIn O c.sa c.po n.taker c.hd wi hz λh' O' sb=>h _ ?_;have hd:∃o,h'.get? dx=some o:=let⟨o,_,_,e',_⟩:=O'.ns;⟨o,e'⟩
 refine I.write (by rw[e];exact True.intro) (.inr ho) (λb q hb z=>(sb.2 b hb).trans z) hd ?_;refine⟨by rw[aT O.ne];exact ho,?_,O.ne,O'.obj,_,O'.ns,λg=>?_,λg hg=>?_⟩
 .have:=km f y fs;lia
 .show mI ((gw f y fs).lookup g) (if g=f then some u else mA g);rw[ki];by_cases q:g=f
  .rw[if_pos q,if_pos q];exact ry
  .simp_all
 .by_cases q:g=f
  .rw[q];exact(jT f y fs).1
  .refine(jT f y fs).2 g (wi g λz=>hg ?_);show(if g=f then some u else mA g)=none;rw[if_neg q];exact z
def Inv.made(I:Inv X js Y H s):Inv X js Y (upd (upd H s.heap.objs.size (.own (s.heap.objs.size+1))) (s.heap.objs.size+1) (.ins C s.heap.objs.size []))
  {s with heap:=(s.heap.push emptyDict).push (instObj C s.heap.objs.size)}:=by
 have e1:(s.heap.push emptyDict).get? s.heap.objs.size=some emptyDict:=get?_push_size s.heap rfl;have e2:((s.heap.push emptyDict).push (instObj C s.heap.objs.size)).get? (s.heap.objs.size+1)=some (instObj C s.heap.objs.size):=by
  have:=get?_push_size (s.heap.push emptyDict) (o:=instObj C s.heap.objs.size) rfl
  rwa [size_push]at this
 have e3:(s.heap.push emptyDict).Ns s.heap.objs.size (λ_=>none):=⟨emptyDict,#[],_,e1,rfl,(λe he=>absurd he ()),λ_=>rfl⟩
 have I1:=I.laid (a:=s.heap.objs.size) (o:=.own (s.heap.objs.size+1)) (h':=s.heap.push emptyDict) (t':=s.toks) (λb u q=>get?_push_of_some _ q) (Nat.le_refl _) ⟨_,e1⟩;refine I1.laid (a:=s.heap.objs.size+1) (o:=.ins C s.heap.objs.size []) (t':=s.toks) (λb u q=>get?_push_of_some _ q) (Nat.le_of_eq (size_push _ _)) ?_;have ne:s.heap.objs.size≠s.heap.objs.size+1:=Nat.ne_of_lt (Nat.lt_succ_self _);refine⟨by rw[aT ne,bK],zero_le _,ne,e2,λ_=>none,(Heap.Ns1.of_empty e3).at λo q=>get?_push_of_some _ q,λ_=>True.intro,λy hy=>absurd rfl hy⟩
def DO{prog:Program}{w:World}{env:Env}{e:Expr}{f:Str}{pos:Pos}{s:Shared}{Q:Mv}(hb:attributeBase e f env (eval e env)=eval e env)
  (h:wpAny (model prog w) A (eval e env) (λo s₁=>wpAny (model prog w) A (getAttr o f true) Q E s₁) E s):wpAny (model prog w) A (eval (.Attribute e f pos) env) Q E s:=
 Attribute_any_ h (by rw[arm_eval_Attribute,hb])
end
def Iv(K:PySem.W.Frag)(ta:TE)(f:Str):TE:=λY H Q=>ta Y H λx H1=>∃a C dx fs v,x=.ref a/\H1 a=some (.ins C dx fs)/\Cls K C/\fB K C f/\fs.lookup f=some v/\Q v H1
def sFld(K:PySem.W.Frag)(ta tv:TE)(f:Str):TS:=λD Y H=>tv Y H λy H1=>ta Y H1 λx H2=>∃a C dx fs,x=.ref a/\H2 a=some (.ins C dx fs)/\Cls K C/\fB K C f/\fs.length<1000 /\
 D.nx Y (upd H2 a (.ins C dx (gw f y fs)))
section
variable{X:Cx}{o e value:Expr}{f:Str}{pos pos' tpos:Pos}{ta tv:TE}
def Go(he:PE X e ta)(hb:attributeBase e f X.env (eval e X.env)=eval e X.env):PE X (.Attribute e f pos) (Iv X.K ta f):=by intro js s Y H Q I h;refine DO hb (thn (he js s Y H _ I h) λu s1 zz=>?_);obtain⟨x,H1,I1,rx,a,C,dx,fs,v,ex,ea,c,n,l,q⟩:=zz;subst ex;obtain rfl:u=Value.ref a:=rx;exact tD I1 ea c n l λu' s2 I2 ru=>⟨v,H1,I2,ru,q⟩
def Gc(ha:PE X o ta)(hv:PE X value tv)(hs:swapsWith value (some (.Attribute o f pos')) pos.line X.env=pure false):PS X (.Assign [.Attribute o f pos'] value pos) (sFld X.K ta tv f):=by intro js s Y H D I h;refine plainObj_wpAny_Assign_Attribute (thn (hv js s Y H _ I h) λu s1 ⟨y,H1,I1,ry,q⟩=>thn (ha js s1 Y H1 _ I1 q) λov s2 zz=>?_) hs;obtain⟨x,H2,I2,rx,a,C,dx,fs,ex,ea,c,n,l,q2⟩:=zz;subst ex;obtain rfl:ov=Value.ref a:=rx;exact sf I2 ea c n l ry λs3 I3=>⟨Y,_,I3,q2⟩
end
section
variable{X:Cx}{js:My}{Y:St}{H:Hp}{s:Shared}{A:Around}{E:Mv}{Q:Mv}{c:Value}{b:Bool}
inductive kB(K:PySem.W.Frag)(H:Hp):V->Value->Prop where
 |non:kB K H .non (.type "NoneType")
 |bl (x:Bool):kB K H (.bl x) (.type "bool")
 |int (i:Int):kB K H (.int i) (.type "int")
 |str (x:Str):kB K H (.str x) (.type "str")
 |flt (x:UInt64):kB K H (.flt x) (.type "float")
 |lst {a:Addr}{xs:MJ} (e:H a=some (.lst xs)):kB K H (.ref a) (.type "list")
 |frz {a:Addr}{o:Obj}{xs:MJ} (e:H a=some (.frz o (.lst xs))):kB K H (.ref a) (.type "list")
 |tup {a:Addr}{xs:MJ} (e:H a=some (.tup xs)):kB K H (.ref a) (.type "tuple")
 |dK {a:Addr}{kvs:List (Key×V)} (e:H a=some (.dK kvs)):kB K H (.ref a) (.type "dict")
 |dT {a:Addr}{kvs:List (List Key×V)} (e:H a=some (.dT kvs)):kB K H (.ref a) (.type "dict")
 |ins {a C dx:Addr}{fs:List (Str×V)} (e:H a=some (.ins C dx fs)) (cl:Cls K C) (ha:PySem.W.findIn K (.ref C) "__class__"=some (some (.builtin "object.__class__")))
   (hn:specialIn K (.builtin "object.__class__") "__get__"=some (some (.builtin "getset_descriptor.__get__"))) (htk:takesIn K (.builtin "object.__class__")=some true)
   (hm:mroIn K C (.type "object")=some true):kB K H (.ref a) (.ref C)
def wJ{x:V}{u t:Value}(I:Inv X js Y H s)(rx:bA x u)(ty:kB X.K H x t)(e:kitOne X.K t c=some b)(h:∀tk,Q (.bool b) {s with toks:=tk}) :
  wpAny (model X.prog X.w) A (call (.builtin "isinstance") [u,c]) Q E s:=by
 cases ty with
 |non=>cases(show u=Value.none from rx);exact kia_one kitx_none I.kIn True.intro e (λz=>nomatch z) h
 |bl y=>cases(show u=Value.bool y from rx);exact kia_one kitx_bool I.kIn True.intro e (λz=>nomatch z) h
 |int i=>obtain⟨t,q⟩:=(show ∃t,u=Value.int i t from rx);cases q;exact kia_one kitx_int I.kIn True.intro e (λz=>nomatch z) h
 |str y=>obtain⟨t,q⟩:=(show ∃t,u=Value.str y t from rx);cases q;exact kia_one kitx_str I.kIn True.intro e (λz=>nomatch z) h
 |flt y=>obtain⟨t,q⟩:=(show ∃t,u=Value.float y t from rx);cases q;exact kia_one PySem.W.kitx_float I.kIn True.intro e (λz=>nomatch z) h
 | @lst a xs ea=>
  cases(show u=Value.ref a from rx);obtain⟨_,_,n,_,h1⟩:=(show cK X.prog X.w H s.heap a (.lst xs)from I.hok a _ ea)
  exact kia_one kitx_list I.kIn ⟨_,h1,rfl⟩ e (λz=>nomatch z) h
 | @frz a ob xs ea=>
  cases(show u=Value.ref a from rx);obtain⟨_,_,_,n,_,h1⟩:=(show cK X.prog X.w H s.heap a (.frz ob (.lst xs))from I.hok a _ ea)
  exact kia_one kitx_list I.kIn ⟨_,h1,rfl⟩ e (λz=>nomatch z) h
 | @tup a xs ea=>
  cases(show u=Value.ref a from rx);obtain⟨_,_,_,p⟩:=(show cK X.prog X.w H s.heap a (.tup xs)from I.hok a _ ea)
  obtain⟨o,h1,h2,_⟩:=p;exact kia_one PySem.W.kitx_tuple I.kIn ⟨o,h1,h2⟩ e (λz=>nomatch z) h
 | @dK a kvs ea=>
  cases(show u=Value.ref a from rx);obtain⟨_,_,vs,_,p⟩:=(show cK X.prog X.w H s.heap a (.dK kvs)from I.hok a _ ea)
  obtain⟨o,es,ep,h1,h2,_⟩:=p;exact kia_one kitx_dict I.kIn ⟨o,h1,h2.1⟩ e (λz=>nomatch z) h
 | @dT a kvs ea=>
  cases(show u=Value.ref a from rx);obtain⟨_,_,xs,_,o,es,ep,h1,h2,_⟩:=(show cK X.prog X.w H s.heap a (.dT kvs)from I.hok a _ ea)
  exact kia_one kitx_dict I.kIn ⟨o,h1,h2.1⟩ e (λz=>nomatch z) h
 | @ins a C dx fs ea cl ha hn htk hm=>cases(show u=Value.ref a from rx);obtain⟨mA,O,_⟩:=kK I.hok ea;obtain⟨od,J,_⟩:=O.look;exact kia_one (PySem.W.kitx_own (cl.get _) cl.hd ha hn htk hm) I.kIn J e (λz=>nomatch z) h
end
end
section
structure dQ(k:Nat)(A:Around):Prop where
 hd:A.handled=none
 dp:A.depth+3*k+5<recursionLimit
 un:A.units+16*k+200<cLine
theorem dQ.mono{j k:Nat}{A:Around}(r:dQ k A)(h:j<=k):dQ j A:=⟨r.hd,by have:=r.dp;lia,by have:=r.un;lia⟩
theorem dQ.deeper{k:Nat}{A:Around}(r:dQ (k+1) A)(env:Env):dQ k (A.deeper env):=
 ⟨r.hd,by have:=r.dp;show A.depth+1+3*k+5<_;lia,by have:=r.un;show A.units+3+16*k+200<_;lia⟩
def sQ{A:Around}{C:Addr}{us:MC}{kw:List (Str×Value)}:(A.under (.builtin "type.__call__" ⟨.ref C::us,kw⟩)).depth=A.depth+1:=by
 first|rfl|simp[Code.weight]
def sP{A:Around}{C:Addr}{us:MC}{kw:List (Str×Value)}:(A.under (.builtin "type.__call__" ⟨.ref C::us,kw⟩)).units=A.units+1:=by
 first|rfl|simp[Code.cUnits]
theorem dQ.make{k:Nat}{A:Around}(r:dQ (k+1) A)(C:Addr)(us:MC)(kw:List (Str×Value)):dQ k (A.under (.builtin "type.__call__" ⟨.ref C::us,kw⟩)):=
 ⟨r.hd,by have:=r.dp;rw[sQ];lia,by have:=r.un;rw[sP];lia⟩
theorem dQ.depth{k:Nat}{A:Around}(r:dQ k A):A.depth<recursionLimit:=by have:=r.dp;lia
theorem dQ.units{k:Nat}{A:Around}(r:dQ k A):A.units+64<cLine:=by have:=r.un;lia
def Ba:TA:=λ_ H Q=>Q [] H
def mR(ta:TE)(tr:TA):TA:=λY H Q=>ta Y H λx H1=>tr Y H1 λxs H2=>Q (x::xs) H2
section
variable{X:Cx}{e:Expr}{es:List Expr}{te:TE}{t:TA}{pos:Pos}
def e_:PA X [] Ba:=λ_ _ _ _ H Q I h=>Calls.spliced_nil ⟨[],H,I,.nil,h⟩
def cy(ha:PE X e te)(hr:PA X es t)(hs:starEach (e::es) X.env=(false,eval e X.env)::starEach es X.env:=by rfl):PA X (e::es) (mR te t):=by intro pos js s Y H Q I h;rw[hs];refine Calls.spliced_cons (thn (ha js s Y H _ I h) λu s1 zz=>?_);obtain⟨x,H1,I1,r1,q1⟩:=zz;exact thn (hr pos js s1 Y H1 _ I1 q1) λus s2 ⟨xs,H2,I2,r2,q2⟩=>⟨x::xs,H2,I2,.cons r1 r2,q2⟩
def Lr(t:TA):TE:=λY H Q=>t Y H λxs H1=>xs.length<=sizeLine/\∀p,H1 p=none->Q (.ref p) (upd H1 p (.tup xs))
def Lw(t:TA):TE:=λY H Q=>t Y H λxs H1=>xs.length<=sizeLine/\∀p,H1 p=none->Q (.ref p) (upd H1 p (.lst xs))
def sA{x1}(h:PA X es t):PE X (.Tuple es x1 pos) (Lr t):=by intro js s Y H Q I hq;refine wpAny_Tuple_spliced (thn (h pos js s Y H _ I hq) λus s1 ⟨xs,H1,I1,r,z,q⟩=>⟨by rw[<- r.length];exact z,?_⟩);have hf:H1 s1.heap.objs.size=none:=I1.hok.fresh (Nat.le_refl _);refine⟨.ref s1.heap.objs.size,upd H1 s1.heap.objs.size (.tup xs),I1.laid (t':=s1.toks) (λb u e=>get?_push_of_some _ e) (Nat.le_refl _) ?_,rfl,q _ hf⟩;exact⟨z,us,r,⟨_,get?_push_size _ rfl,rfl,_,rfl⟩⟩
def Gn(h:PA X es t):PE X (.List es pos) (Lw t):=by intro js s Y H Q I hq;refine wpAny_List_spliced (thn (h pos js s Y H _ I hq) λus s1 ⟨xs,H1,I1,r,z,q⟩=>⟨by rw[<- r.length];exact z,?_⟩);have hf:H1 s1.heap.objs.size=none:=I1.hok.fresh (Nat.le_refl _);refine⟨.ref s1.heap.objs.size,upd H1 s1.heap.objs.size (.lst xs),I1.laid (t':=s1.toks) (λb u e=>get?_push_of_some _ e) (Nat.le_refl _) ?_,rfl,q _ hf⟩;exact⟨z,us,0,r,get?_push_size _ rfl⟩
end
abbrev Sp:=MJ->Hp->VK->XK->Prop
abbrev CXT:=List Env->Hp->Shared->XK->Mv
structure t6(P:Program)(w:World)(K:PySem.W.Frag)(mg:Mw)(base:Heap)(A:Around)(outer:List Env)(s:Shared)(H:Hp):Prop where
 frames:A.frames=some outer
 mod:Mod K mg base
 bs:∀b o,base.get? b=some o->s.heap.get? b=some o/\H b=none
 bsz:base.objs.size<=s.heap.objs.size
 funs:s.heap.FunFrames base outer
 frf:∀b∈frs outer,H b=none
 hok:HOk P w H s.heap
 bare:AllBare s.gens
def CE(outer:List Env)(P:Program)(w:World)(H:Hp)(s:Shared)(Q:VK)(u:Value)(s':Shared):Prop:=
 ∃v H',s'.os=s.os/\AllBare s'.gens/\Un (frs outer) [] H H' s.heap s'.heap/\HOk P w H' s'.heap/\bA v u/\Q v H'
def CR(CX:CXT)(outer:List Env)(P:Program)(w:World)(H:Hp)(s:Shared)(Q:VK)(E:XK)(r:Result)(s':Shared):Prop:=
 match r with
 |.ok (.ret u)=>CE outer P w H s Q u s'
 |.ok _=>False
 |.error e=>CX outer H s E e s'
structure cF(P:Program)(w:World)(K:PySem.W.Frag)(mg:Mw)(base:Heap)(CX:CXT)(k:Nat)(f:Addr)(fd:FuncData)(ps:MF)(sp:Sp):Prop where
 len:∀vs H Q E,sp vs H Q E->vs.length=ps.length
 run:∀(A:Around) (outer:List Env) (s:Shared) (H:Hp) (args:Args) (us:MC) (vs:MJ) (Q:VK) (E:XK),dQ k A->t6 P w K mg base A outer s H->BindsTo s fd args (ps.zip us)->aS vs us->sp vs H Q E ->
  codeAny (model P w) A (.call (.ref f) args) (CR CX outer P w H s Q E) s
def cF.mono{P:Program}{w:World}{K:PySem.W.Frag}{mg:Mw}{base:Heap}{CX:CXT}{j k:Nat}{f:Addr}{fd:FuncData}{ps:MF}{sp:Sp}(F:cF P w K mg base CX j f fd ps sp)(h:j<=k) :
  cF P w K mg base CX k f fd ps sp:=⟨F.len,λA outer s H args us vs Q E hr=>F.run A outer s H args us vs Q E (hr.mono h)⟩
def cF.imp{P:Program}{w:World}{K:PySem.W.Frag}{mg:Mw}{base:Heap}{CX:CXT}{k:Nat}{f:Addr}{fd:FuncData}{ps:MF}{sp sp':Sp}(F:cF P w K mg base CX k f fd ps sp)
  (h:∀vs H Q E,sp' vs H Q E->sp vs H Q E):cF P w K mg base CX k f fd ps sp':=
 ⟨λvs H Q E q=>F.len vs H Q E (h _ _ _ _ q),λA outer s H args us vs Q E hr he hb hv hs=>F.run A outer s H args us vs Q E hr he hb hv (h _ _ _ _ hs)⟩
def t6.make{P:Program}{w:World}{K:PySem.W.Frag}{mg:Mw}{base:Heap}{A:Around}{outer:List Env}{s:Shared}{H:Hp}(e:t6 P w K mg base A outer s H)(C:Addr)(us:MC)(kw:List (Str×Value)) :
  t6 P w K mg base (A.under (.builtin "type.__call__" ⟨.ref C::us,kw⟩)) outer s H:=⟨by first|exact e.frames |(simpa[Code.envs]using e.frames),e.mod,e.bs,e.bsz,e.funs,e.frf,e.hok,e.bare⟩
section
variable{X:Cx}{js:My}{Y:St}{H:Hp}{s s':Shared}
def Inv.env0(I:Inv X js Y H s):t6 X.prog X.w X.K X.mg X.base X.A X.stack s H:=
 ⟨I.ok.frames,I.ok.mod,I.bs,Nat.le_trans I.ok.bsz I.sz,I.stack,I.stkFree,I.hok,I.bare⟩
def Inv.after{Q:VK}{u:Value}(I:Inv X js Y H s)(h:CE X.stack X.prog X.w H s Q u s'):EP X js Y Q u s':=by obtain⟨v,H',os,bare,un,hok,r,q⟩:=h;obtain⟨hh,g,d,t,os'⟩:=s';obtain rfl:os'=s.os:=os;exact⟨v,H',I.call (h':=hh) (g':=g) (d':=d) (t':=t) un hok bare (λb z=>absurd z ()),r,q⟩
end
def eK(K:PySem.W.Frag)(fd:FuncData)(ps:MF)(ds:MC):Prop:=
 ∀(s:Shared) (us:MC),K.In s.heap->(us++ds).length=ps.length->BindsTo s fd ⟨us,[]⟩ (ps.zip (us++ds))
def eK.all{K:PySem.W.Frag}{fd:FuncData}{ps:MF}(h:∀us:MC,us.length=ps.length->bindArgs fd ⟨us,[]⟩=pure (ps.zip us)):eK K fd ps []:=λs us _ hl=>by rw[append_nil]at hl ⊢;exact .of_eq (h us hl)
section
variable{X:Cx}{CX:CXT}{k:Nat}{f C:Addr}{fd:FuncData}{ps:MF}{sp:Sp}{dvs:MJ}{ds:MC}{E:XK}{x m:Str}{p pos apos:Pos}{e o:Expr}{es:List Expr}{ta:TE}{t:TA}
structure Mk(K:PySem.W.Frag)(C f:Addr):Prop where
 makes:makesIn K C=true
 init:PySem.W.findIn K (.ref C) "__init__"=some (some (.ref f))
 fn:PySem.W.isFn K (.ref f)=true
 kp:PySem.W.keepIn K (.ref C)=true
end
def PK(X:Cx)(kws:List Keyword)(t:TA):Prop:=
 ∀(pos:Pos) (js:My) (s:Shared) (Y:St) (H:Hp) (Q:MJ->MK),Inv X js Y H s->t Y H Q->wpAny (model X.prog X.w) X.A (evalAll ((backToKw pos (keywordEach kws X.env)).map (·.2))) (AP X js Y Q) X.xe s
section
variable{X:Cx}{CX:CXT}{k:Nat}{f C:Addr}{fd:FuncData}{ps ks:MF}{sp:Sp}{E:XK}{x m:Str}{p pos apos kpos:Pos}{e o:Expr}{es:List Expr}{kws:List Keyword}{te ta:TE}{t tk:TA}{nm:Option Str}
def yM:PK X [] Ba:=λ_ _ _ _ H Q I h=>wpAny_evalAll_nil ⟨[],H,I,.nil,h⟩
def ur(ha:PE X e te)(hr:PK X kws t):PK X (⟨nm,e,kpos⟩::kws) (mR te t):=by intro pos js s Y H Q I h;show wpAny _ _ (evalAll ((do let v <- eval e X.env;standAt pos;pure v)::(backToKw pos (keywordEach kws X.env)).map (·.2))) _ _ s;refine wpAny_evalAll_cons (wpAny_bind (thn (ha js s Y H _ I h) λu s1 ⟨x,H1,I1,r1,q1⟩=>wpAny_bind (wpAny_standAt (wpAny_pure ?_))));exact thn (hr pos js s1 Y H1 _ I1 q1) λus s2 ⟨xs,H2,I2,r2,q2⟩=>⟨x::xs,H2,I2,.cons r1 r2,q2⟩
variable{g:MC->MC->MC}{gV:MJ->MJ->MJ}
end
structure dE(N P:MF)(sc:Scope):Prop where
 kind:sc.kind=.function
 co:sc.isCoroutine=false
 gen:sc.isGenerator=false
 nd:N.Nodup
 pre:N.take P.length=P
 par:∀x∈P,sc.names.lookup x=some .local\/sc.names.lookup x=some .cell
 nofree:∀y∈sc.names,y.2≠.free
theorem n9{kindOf:Str->Option NameKind}{x:Str}:∀{binds:List (Str×Value)}{m:Mw},(∀v,(x,v)∉ binds)->bindL kindOf binds m x=m x
 | [],_,_=>rfl
 |(n,v)::r,m,h=>by
  unfold bindL;rw[n9 λw hw=>h w (mem_cons_of_mem _ hw)];split
  .have:x≠n:=by rintro rfl;exact h v mem_cons_self
   simp[this]
  .rfl
theorem oe{kindOf:Str->Option NameKind}{x:Str}:∀{binds:List (Str×Value)}{m:Mw},(∀v,(x,v)∉ binds)->bindC kindOf binds m x=m x
 | [],_,_=>rfl
 |(n,v)::r,m,h=>by
  unfold bindC;rw[oe λw hw=>h w (mem_cons_of_mem _ hw)];split
  .rfl
  .have:x≠n:=by rintro rfl;exact h v mem_cons_self
   simp[this]
theorem n_{kindOf:Str->Option NameKind}{x:Str}{v:Value}:∀{P:MF}{vs:MC}{i:Nat}{m:Mw},P.Nodup->P[i]?=some x->vs[i]?=some v->kindOf x=some .local ->
  bindL kindOf (P.zip vs) m x=some v
 | [],_,_,_,_,h,_,_|_::_,[],_,_,_,_,h,_=>by simp at h
 |p::P,w::vs,0,m,nd,h1,h2,hk=>by simp at h1 h2;subst h1;subst h2;show bindL kindOf ((p,w)::P.zip vs) m p=_;unfold bindL;rw[n9 λv hv=>(nodup_cons.mp nd).1 (List.of_mem_zip hv).1,if_pos hk];simp
 |p::P,w::vs,i+1,m,nd,h1,h2,hk=>by unfold bindL;exact n_ (nodup_cons.mp nd).2 (by simpa using h1) (by simp_all) hk
theorem oh{kindOf:Str->Option NameKind}{x:Str}{v:Value}:∀{P:MF}{vs:MC}{i:Nat}{m:Mw},P.Nodup->P[i]?=some x->vs[i]?=some v->kindOf x≠some .local ->
  bindC kindOf (P.zip vs) m x=some v
 | [],_,_,_,_,h,_,_|_::_,[],_,_,_,_,h,_=>by simp at h
 |p::P,w::vs,0,m,nd,h1,h2,hk=>by simp at h1 h2;subst h1;subst h2;show bindC kindOf ((p,w)::P.zip vs) m p=_;unfold bindC;rw[oe λv hv=>(nodup_cons.mp nd).1 (List.of_mem_zip hv).1,if_neg hk];simp
 |p::P,w::vs,i+1,m,nd,h1,h2,hk=>by show bindC kindOf ((p,w)::P.zip vs) m x=_;unfold bindC;exact oh (i:=i) (nodup_cons.mp nd).2 (by simpa using h1) (by simpa using h2) hk
noncomputable def gN(N:MF)(vs:MJ):St:=vs.map some++replicate (N.length-vs.length) none
noncomputable def fE(CX:CXT)(P:Program)(w:World)(K:PySem.W.Frag)(mg:Mw)(base:Heap)(N:MF)(qual:Str)(scope:Scope)(f:Addr)(cd:Value)(A:Around)(outer:List Env)(s:Shared)(H:Hp)(E:XK):Cx where
 prog:=P
 w:=w
 K:=K
 mg:=mg
 base:=base
 A:=A.deeper (envOfC qual scope s.heap.objs.size f cd)
 N:=N
 s₀:=s
 H₀:=H
 env:=envOfC qual scope s.heap.objs.size f cd
 outer:=outer
 stack:=envOfC qual scope s.heap.objs.size f cd::outer
 ex:=[]
 calm:=true
 fn:=λ_=>true
 pn:=[]
 xe:=λe s'=>wpAny (model P w) (A.deeper (envOfC qual scope s.heap.objs.size f cd)) (leaving (envOfC qual scope s.heap.objs.size f cd) e) (λ_ s''=>CX outer H s E e s'') (λe' s''=>CX outer H s E e' s'') s'
def rA{sc:Scope}{n:Nat}{x:Str}(h:sc.names.lookup x=some .cell):∃c,(cellsFrom n sc.names []).lookup x=some c:=by have q:=PySem.W.cellsFrom_some sc.names n [] (.inl h);exact isSome_iff_exists.mp q
theorem wL{CX:CXT}{P:Program}{w:World}{K:PySem.W.Frag}{mg:Mw}{base:Heap}{N ps:MF}{qual:Str}{scope:Scope}{f:Addr}{cd:Value}{A:Around}{outer:List Env}{s s1:Shared}{H:Hp}{E:XK}{us:MC}{vs:MJ}
  (S:dE N ps scope) (hd:A.handled=none) (e0:t6 P w K mg base A outer s H) (hl:vs.length=ps.length) (r:aS vs us)
  (x:InCallC s s.heap.objs.size (bindL (envOfC qual scope s.heap.objs.size f cd).kindOf (ps.zip us) λ_=>none) (cellsFrom (s.heap.objs.size+1) scope.names []) (bindC (envOfC qual scope s.heap.objs.size f cd).kindOf (ps.zip us) λ_=>none) s1) :
  Inv (fE CX P w K mg base N qual scope f cd A outer s H E) [] (gN N vs) H s1:=by
 have hpl:ps.length<=N.length:=by have:=congrArg List.length S.pre;rw[List.length_take]at this;lia
 obtain⟨h1,tk,rfl,hk⟩:=x.done;have noA:∀b:Addr,b ∉(fE CX P w K mg base N qual scope f cd A outer s H E).ex:=λb z=>absurd (show b ∈([]:MD)from z) ();refine ⟨⟨e0.mod,S.kind,rfl,rfl,Nat.le_refl _,λy z c h1 h2=>?_,λy hy=>?_,λy c _ h=>?_,λ_=>hd,Around.frames_deeper e0.frames,.inr ⟨rfl,rfl⟩,λb z=>absurd z (noA b),e0.bs,e0.bsz,λb _ _=>noA b,λb z=>absurd z (noA b),e0.funs,e0.frf⟩,
  rfl,e0.bare,Un.kept hk,⟨_,x.toInCall.ns,λi y v h1 h2 h3=>?_⟩,λy c h=>⟨_,x.cell y c h⟩,e0.hok.fresh (Nat.le_refl _),λy c h=>?_,λp hp=>absurd (show p ∈([]:My)from hp) (),e0.hok.kept hk,?_⟩
 .exact name_of_addr x.apart (PySem.mem_of_lookup h1) (PySem.mem_of_lookup h2)
 .have hy:scope.names.lookup y=some .cell\/scope.names.lookup y=some .free:=hy;rcases hy with hy|hy
  .exact rA hy
  .exact absurd rfl (S.nofree _ (PySem.mem_of_lookup hy))
 .exact Nat.le_of_lt (x.above y c (PySem.mem_of_lookup h))
 .have hi:i<vs.length:=by
   unfold gN at h2;by_cases hi:i<vs.length
   .exact hi
   .rw[getElem?_append_right (by simpa using hi)]at h2;rw[getElem?_replicate]at h2;split at h2<;>cases h2
  have ha:vs[i]?=some v:=by
   unfold gN at h2;rw[getElem?_append_left (by simpa using hi),getElem?_map]at h2;cases e:vs[i]? with
   |none=>rw[e]at h2;cases h2
   |some a=>rw[e]at h2;cases h2;rfl
  obtain⟨u,hu,rv⟩:=r.get ha;have hp:ps[i]?=some y:=by rw[<- S.pre,List.getElem?_take_of_lt ()];exact h1
  have ndP:ps.Nodup:=by rw[<- S.pre];exact S.nd.sublist (List.take_sublist _ _)
  refine⟨u,rv,?_⟩;rcases S.par y (List.mem_of_getElem? hp)with k|k
  .exact .inl ⟨k,n_ ndP hp hu k⟩
  .obtain⟨c,e⟩:=rA k;refine .inr ⟨.inl k,c,e,?_⟩;have q:=x.cell y c e;rw[oh ndP hp hu (by show scope.names.lookup y≠_;rw[k];decide)]at q;exact q
 .exact .inl (e0.hok.fresh (Nat.le_of_lt (x.above y c (PySem.mem_of_lookup h))))
 .unfold gN;show _=N.length;rw[length_append,length_map,List.length_replicate]
  lia
noncomputable def Cx.low(X:Cx)(g:Str->Bool):Cx:={X with fn:=g}
def Mi(g:Str->Bool)(X:Cx)(st:List Stmt)(t:TS):Prop:=
 ∀(js:My) (s:Shared) (Y:St) (H:Hp) (D:Ends),Inv X js Y H s->t D Y H->wpAny (model X.prog X.w) X.A (execs st X.env) (SP (X.low g) js D) X.xe s
def Hf(g:Str->Bool){CX:CXT}{P:Program}{w:World}{K:PySem.W.Frag}{mg:Mw}{base:Heap}{k:Nat}{f:Addr}{name qual:Str}{params:Arguments}{body:List Stmt}{scope:Scope}{dV kV doc pm cdv ct oc:Value}{an od:Option Addr}
  {osl:Array (Option Value)}{N ps:MF}{sp:Sp} (lk:K.lookup f=some ⟨oc,od,.func (PySem.W.fnOf name qual params body scope dV kV doc pm an cdv ct),osl⟩) (hcd:PySem.W.codeIn K cdv qual=true) (S:dE N ps scope)
  (len:∀vs H Q E,sp vs H Q E->vs.length=ps.length)
  (hbody:∀ (A:Around) (outer:List Env) (s:Shared) (H:Hp) (vs:MJ) (Q:VK) (E:XK),dQ k (A.deeper (envOfC qual scope s.heap.objs.size f cdv))->sp vs H Q E ->
   ∃t,Mi g (fE CX P w K mg base N qual scope f cdv A outer s H E) body t/\t {nx:=λ_ H'=>Q .non H',rt:=Q} (gN N vs) H) :
  cF P w K mg base CX (k+1) f (PySem.W.fnOf name qual params body scope dV kV doc pm an cdv ct) ps sp:=by
 refine⟨len,λA outer s H args us vs Q E hr e0 hb r hsp=>?_⟩;have hl:=len _ _ _ _ hsp;have KX:K.In s.heap:=e0.mod.kin.keeps λb o e=>(e0.bs b o e).1;have lim:s.heap.NoLimit:=e0.mod.nolimit.keeps λb o e=>(e0.bs b o e).1;have hkind:∀y∈ps.zip us,scope.names.lookup y.1=some .local \/(scope.names.lookup y.1=some .cell/\((cellsFrom (s.heap.objs.size+1) scope.names []).lookup y.1).isSome=true):=λhz1 hy=>by
  obtain⟨n,v⟩:=hz1;rcases S.par n (List.of_mem_zip hy).1 with q|q
  .exact .inl q
  .exact .inr ⟨q,PySem.W.cellsFrom_some _ _ _ (.inl q)⟩
 refine codeAny_call_function hr.depth (KX _ _ lk) rfl S.co S.gen rfl (PySem.W.codeRec_of KX hcd) (hb _ _ _ _ ?_);refine wpAny_newFunctionEnv_cells S.kind hkind λenv he s1 x=>?_;subst he;refine⟨lim.keeps x.toInCall.keep,codeAny_func ?_⟩;obtain⟨t,ht,hq⟩:=hbody A outer s H vs Q E (hr.deeper _) hsp;have I:Inv (fE CX P w K mg base N qual scope f cdv A outer s H E) [] (gN N vs) H s1:=wL S hr.hd e0 hl r x;refine wpAny_mono (ht [] s1 (gN N vs) H _ I hq) (λfl s' hs=>?_) λe s' hs=>hs;have fin:∀{σ':St}{H':Hp}{v:V}{u:Value},Inv ((fE CX P w K mg base N qual scope f cdv A outer s H E).low g) [] σ' H' s'->bA v u->Q v H'->CE outer P w H s Q u s':=
  λ{σ' H' v u} J rv q=>⟨v,H',J.os,J.bare,J.base,J.hok,rv,q⟩
 cases fl with
 |ret u=>obtain⟨v,σ',H',J,rv,q⟩:=hs;exact fin J rv q
 |next=>obtain⟨σ',H',J,q⟩:=hs;exact fin (v:=V.non) J rfl q
 |brk=>obtain⟨_,_,_,q⟩:=hs;exact False.elim q
 |cont=>obtain⟨_,_,_,q⟩:=hs;exact False.elim q
def Ae{CX:CXT}{P:Program}{w:World}{K:PySem.W.Frag}{mg:Mw}{base:Heap}{k:Nat}{f:Addr}{name qual:Str}{params:Arguments}{body:List Stmt}{scope:Scope}{dV kV doc pm cdv ct oc:Value}{an od:Option Addr}
  {osl:Array (Option Value)}{N ps:MF}{sp:Sp} (lk:K.lookup f=some ⟨oc,od,.func (PySem.W.fnOf name qual params body scope dV kV doc pm an cdv ct),osl⟩) (hcd:PySem.W.codeIn K cdv qual=true) (S:dE N ps scope)
  (len:∀vs H Q E,sp vs H Q E->vs.length=ps.length)
  (hbody:∀ (A:Around) (outer:List Env) (s:Shared) (H:Hp) (vs:MJ) (Q:VK) (E:XK),dQ k (A.deeper (envOfC qual scope s.heap.objs.size f cdv))->sp vs H Q E ->
   ∃t,PSs (fE CX P w K mg base N qual scope f cdv A outer s H E) body t/\t {nx:=λ_ H'=>Q .non H',rt:=Q} (gN N vs) H) :
  cF P w K mg base CX (k+1) f (PySem.W.fnOf name qual params body scope dV kV doc pm an cdv ct) ps sp:=Hf (λ_=>true) lk hcd S len hbody
end
section
section
variable{X:Cx}{x:Str}{p pos:Pos}{e:Expr}{es:List Expr}{t:TA}{id T:String}{r:MJ->Hp->VK->Prop}
def tCB(r:MJ->Hp->VK->Prop)(t:TA):TE:=λY H Q=>t Y H λvs H1=>r vs H1 Q
def jb(hc:dr X (.builtin id) r)(hg:Gl X x)(hm:X.mg x=none)(hv:bootBuiltins x=some (.builtin id))(ha:PA X (e::es) t)(hn:x≠"__name__":=by decide)(hdb:Nd x:=by decide)
  (he:starEach (e::es) X.env=(false,eval e X.env)::starEach es X.env:=by rfl) (hpl:(backTo pos (starEach es X.env)).any (·.1)=false:=by rfl):PE X (.Call (.Name x p) (e::es) [] pos) (tCB r t):=by
 intro js s Y H Q I h;refine wpAny_Call_Name_kw (fm I hg hm hv ?_ hn hdb);exact PyProof.Rows.callWith_builtin1 (thn (ha pos js s Y H _ I h) λus s1 ⟨vs,H1,I1,r1,q1⟩=>hc js s1 Y H1 vs us Q I1 r1 q1) he hpl
def m8(hc:dr X (.type T) r)(hg:Gl X x)(hm:X.mg x=none)(hv:bootBuiltins x=some (.type T))(ha:PA X (e::es) t)(hn:x≠"__name__":=by decide)(hdb:Nd x:=by decide)
  (he:starEach (e::es) X.env=(false,eval e X.env)::starEach es X.env:=by rfl) (hpl:(backTo pos (starEach es X.env)).any (·.1)=false:=by rfl):PE X (.Call (.Name x p) (e::es) [] pos) (tCB r t):=by
 intro js s Y H Q I h;refine wpAny_Call_Name_kw (fm I hg hm hv ?_ hn hdb);exact PyProof.Rows.callWith_type1 (thn (ha pos js s Y H _ I h) λus s1 ⟨vs,H1,I1,r1,q1⟩=>hc js s1 Y H1 vs us Q I1 r1 q1) he hpl
end
end
end L2
namespace HT
open PySem PyProof.Rows
noncomputable def lexLt:MB->MB->Bool
 | [],[]=>false
 | [],_::_=>true
 |_::_,[]=>false
 |x::xs,y::ys=>if x=y then lexLt xs ys else decide (x<y)
def sU(x y:Int)(xs ys:MB):lexLt (x::xs) (y::ys)=if x=y then lexLt xs ys else decide (x<y):=rfl
def mj:lexLt [] []=false:=rfl
def lG(y:Int)(ys:MB):lexLt [] (y::ys)=true:=rfl
def lH(x:Int)(xs:MB):lexLt (x::xs) []=false:=rfl
def Am(A:Around)(s:Shared)(a:Int)(t:Tok)(c:Int)(u:Tok):∃e,SeqAt.EqAt A s (.int a t) (.int c u) e/\(e=true↔a=c):=
 ⟨(a==c),SeqAt.EqAt.int_int a t c u,by simp⟩
def yz(A:Around)(s:Shared)(a:Int)(t:Tok)(c:Int)(u:Tok)(prog:Program)(w:World)(E:Mv)(Q:Mv)(h:Q (.bool (decide (a<c))) s) :
  wpAny (model prog w) A (richCompare .Lt (.int a t) (.int c u)) Q E s:=
 (PyProof.Rows.lt_int h:wpAny (model prog w) A (compareOp .Lt (.int a t) (.int c u)) Q E s)
section
open PySem.SeqAt
open PySem.AutoSeq1 (wpAny_loadPart')
open PySem.MeetsSeq PySem.MeetsSeq2 PySem.MeetsSeq3
theorem l9(l b:Addr)(items items2:MH)(n n2:Nat)(dd dd2:Option Addr)(sl sl2:Array (Option Value))(ns ms:MB)(hi:IntsAre items.toList ns)(hj:IntsAre items2.toList ms) :
  Meets (Builtin.«tuple.__lt__» ⟨[.ref l,.ref b],[]⟩)
   (λ_ R s=>s.heap.get? l=some { cls:=.type "tuple", dict:=dd,data:=.seq items n,slots:=sl }/\s.heap.get? b=some { cls:=.type "tuple", dict:=dd2,data:=.seq items2 n2,slots:=sl2 } /\
    R (.ok (.ret (.bool (lexLt ns ms)))) s):=
 .of_wp λprog w A R s h=>by
  obtain⟨hp,g,d,tk,os⟩:=s;obtain⟨hl,hb,h⟩:=h;have f2:=AutoSeq1.sub_tuple_tuple;have z1:items.size=ns.length:=by rw[<- hi.length];simp
  have z2:items2.size=ms.length:=by rw[<- hj.length];simp
  wp_walk using wpAny_loadPart' hl,wpAny_loadPart' hb,wpAny_forIn_list _ (λbw b s'=>b.1=none/\s'=⟨hp,g,d,tk,os⟩/\∃ (vs ws:MC) (ns' ms':MB),bw=vs.zip ws /\
   IntsAre vs ns'/\IntsAre ws ms'/\ns'.length+items2.size=ms'.length+items.size/\R (.ok (.ret (.bool (lexLt ns' ms')))) ⟨hp,g,d,tk,os⟩) _
  case turn=>
   rintro⟨y,x⟩ bw b s' ⟨hb',rfl,vs,ws,ns',ms',hz,hvi,hwi,hlen,hR⟩;cases hvi with
   |nil=>rw[List.zip_nil_left]at hz;cases hz
   |cons a t hvi'=>
    cases hwi with
    |nil=>rw[List.zip_nil_right]at hz;cases hz
    |cons c u hwi'=>
     rw[zip_cons_cons]at hz;injection hz with hyx hrest;injection hyx with hy hx;subst hy hx;rw[sU]at hR;simp only[length_cons]at hlen;obtain⟨e,he,hiff⟩:=Am A.in1 ⟨hp,g,d,tk,os⟩ a t c u;refine wpAny_bind (he prog w _ _ ?_);cases e with
     |true=>
      rw[if_pos (hiff.mp rfl)]at hR
      wp_walk
      exact⟨rfl,rfl,_,_,_,_,hrest,hvi',hwi',by lia,hR⟩
     |false=>
      rw[if_neg (λq=>absurd (hiff.mpr q) Bool.false_ne_true)]at hR;have hri:=yz A.in1 ⟨hp,g,d,tk,os⟩ a t c u prog w
      wp_walk using hri
      exact⟨_,rfl,by simpa using hR⟩
  case fin=>
   rintro⟨b1,b2⟩ s' ⟨hb',rfl,vs,ws,ns',ms',hz,hvi,hwi,hlen,hR⟩;simp only at hb';subst hb';have hv:lexLt ns' ms'=decide (items.size<items2.size):=by
    cases hvi with
    |nil=>
     cases hwi with
     |nil=>simp only[List.length_nil]at hlen;rw[mj];exact(decide_eq_false ()).symm
     |cons c u hw=>simp only[List.length_nil,length_cons]at hlen;rw[lG];exact(decide_eq_true ()).symm
    |cons a t hv=>
     cases hwi with
     |nil=>simp only[List.length_nil,length_cons]at hlen;rw[lH];exact(decide_eq_false ()).symm
     |cons c u hw=>rw[zip_cons_cons]at hz;cases hz
   rw[hv]at hR
   wp_walk
   exact⟨_,rfl,by simpa[Builtin.Tuple.tupleCompareSizes]using hR⟩
  case h=>
   exact⟨rfl,rfl,items.toList,items2.toList,ns,ms,rfl,hi,hj,by lia,h⟩
end
section
variable{prog:Program}{w:World}{A:Around}{E:Mv}{s:Shared}
def lt_tupInts{l b:Addr}{items items2:MH}{ns ms:MB}{Q:Mv}(hl:IsTup s.heap l items)(hb:IsTup s.heap b items2)(hi:IntsAre items.toList ns)(hj:IntsAre items2.toList ms)
  (hu:A.units<cLine) (h:Q (.bool (lexLt ns ms)) s):wpAny (model prog w) A (compareOp .Lt (.ref l) (.ref b)) Q E s:=by
 obtain⟨⟨cls,dd,data,sl⟩,ho,hc,n,hd⟩:=id hl;obtain⟨⟨cls2,dd2,data2,sl2⟩,ho2,hc2,n2,hd2⟩:=id hb;simp only at hc hd hc2 hd2;subst hc hd hc2 hd2;exact richCompare_meets_room (op:=.Lt) ⟨_,ho,rfl⟩ ⟨_,ho2,rfl⟩ PySem.F.slot_tuple_lt PySem.F.entry_tuple_lt (PySem.F.args_tuple_lt_2 _ _) (l9 l b items items2 n n2 dd dd2 sl sl2 ns ms hi hj)
  ⟨ho,ho2,show Value.bool (lexLt ns ms)≠ Value.notImplemented/\Q (.bool (lexLt ns ms)) s from⟨(λx=>nomatch x),h⟩⟩ hu
noncomputable def sIx(n d:Nat):MG->Nat
 |none=>d
 |some v=>if v<0 then(v+(n:Int)).toNat else min v.toNat n
def sIx_none(n d:Nat):sIx n d none=d:=rfl
theorem sIx_nat(n d k:Nat):sIx n d (some (k:Int))=min k n:=by show(if(k:Int)<0 then((k:Int)+(n:Int)).toNat else min (k:Int).toNat n)=min k n;rw[if_neg (),Int.toNat_natCast]
end
end HT
namespace L2
open PySem PySem.Spec PyProof.Rows
section
abbrev TO:=St->Hp->(MG->MK)->Prop
def PO(X:Cx)(e:Option Expr)(t:TO):Prop:=
 ∀(js:My) (s:Shared) (Y:St) (H:Hp) (Q:MG->MK),Inv X js Y H s->t Y H Q ->
  wpAny (model X.prog X.w) X.A (evalPart e X.env) (λu s'=>∃o H',Inv X js Y H' s'/\IsPart u o/\Q o H') X.xe s
def A_:TO:=λ_ H Q=>Q none H
def Iq(t:TE):TO:=λY H Q=>t Y H λx H1=>∃i,x=.int i/\Q (some i) H1
def lL{ns:MB}:∀{us:MC},aS (ns.map V.int) us->IntsAre us ns:=by
 induction ns with
 |nil=>intro us r;rw[map_nil]at r;cases r;exact .nil
 |cons n ns ih=>
  intro us r;cases r with
  |cons r1 r2=>obtain⟨t,e⟩:=r1;subst e;exact .cons n t (ih r2)
section
variable{X:Cx}{e:Expr}{te:TE}{lo hi:Option Expr}{tl th:TO}{pos p2:Pos}
def B_:PO X none A_:=by intro js s Y H Q I h;exact wpAny_pure ⟨none,H,I,.none,h⟩
def B9(h:PE X e te):PO X (some e) (Iq te):=by intro js s Y H Q I hw;rw[evalPart_some];refine thn (h js s Y H _ I hw) λu s1 hz1=>?_;obtain⟨x,H1,I1,r1,q1⟩:=hz1;obtain⟨i,rfl,q⟩:=q1;obtain⟨t,rfl⟩:=r1;exact⟨some i,H1,I1,.int i t,q⟩
def SlR(X:Cx)(r:V->MG->MG->Hp->VK->Prop):Prop:=
 ∀(js:My) (s:Shared) (Y:St) (H:Hp) (x:V) (v vl vu:Value) (lo hi:MG) (sl:Addr) (Q:VK),Inv X js Y H s->bA x v->s.heap.IsSliceOf sl vl vu .none->IsPart vl lo->IsPart vu hi->r x lo hi H Q ->
  ∃T id,typeLookup (.type T) "__getitem__"=pure (some (.builtin id))/\s.TypeIs v T/\wpAny (model X.prog X.w) X.A (getItem v (.ref sl)) (EP X js Y Q) X.xe s
def tSl(r:V->MG->MG->Hp->VK->Prop)(te:TE)(tl th:TO):TE:=λY H Q=>te Y H λx H1=>tl Y H1 λl H2=>th Y H2 λu H3=>r x l u H3 Q
def qa{r:V->MG->MG->Hp->VK->Prop}(hr:SlR X r)(he:PE X e te)(hl:PO X lo tl)(hu:PO X hi th):PE X (.Subscript e (.Slice lo hi none p2) pos) (tSl r te tl th):=by intro js s Y H Q I h;refine Subscript_ (thn (he js s Y H _ I h) λv s1 zz=>?_);obtain⟨x,H1,I1,r1,q1⟩:=zz;refine wpAny_Slice (thn (hl js s1 Y H1 _ I1 q1) λvl s2 ⟨l,H2,I2,pl,q2⟩=>thn (hu js s2 Y H2 _ I2 q2) λvu s3 zz=>?_);obtain⟨u,H3,I3,pu,q3⟩:=zz;refine wpAny_pure ?_;have I4:Inv X js Y H3 {s3 with heap:=s3.heap.push {cls:=.type "slice",data:=.fields #[vl,vu,.none]}}:=I3.kept (t':=s3.toks) λb ob q=>get?_push_of_some _ q;obtain⟨T,id,hT,ht,hg⟩:=hr js {s3 with heap:=s3.heap.push {cls:=.type "slice",data:=.fields #[vl,vu,.none]}} Y H3 x v vl vu l u s3.heap.objs.size Q I4 r1 (Heap.IsSliceOf.new ..) pl pu q3;exact tail_any ht hT hg (by with_unfolding_all rfl)
def DH(xs:MJ)(lo hi:MG):MJ:=(xs.drop (HT.sIx xs.length 0 lo)).take (HT.sIx xs.length xs.length hi-HT.sIx xs.length 0 lo)
theorem rp(xs:MJ)(lo hi:MG):(DH xs lo hi).length<=xs.length:=by
 unfold DH;rw[List.length_take,length_drop]
 lia
def IX(K:PySem.W.Frag):R2:=λx y H Q=>∃a b ns ms,x=.ref a/\y=.ref b/\SqT K H a (ns.map V.int)/\SqT K H b (ms.map V.int)/\Q (.bl (HT.lexLt ns ms)) H
def Gz(hu:X.A.units<cLine):OpR X (compareOp .Lt) (IX X.K):=by intro js s Y H x y v u Q I rx ry h;obtain⟨a,b,ns,ms,rfl,rfl,ha,hb,q⟩:=h;cases rx;cases ry;obtain⟨its,r1,p1,_⟩:=I.tuple ha;obtain⟨its2,r2,p2,_⟩:=I.tuple hb;have i1:IntsAre its.toArray.toList ns:=lL r1;have i2:IntsAre its2.toArray.toList ms:=lL r2;exact HT.lt_tupInts p1 p2 i1 i2 hu ⟨.bl (HT.lexLt ns ms),H,I,rfl,q⟩
end
end
section
noncomputable def ixN(n:Nat)(i:Int):Option Nat:=if 0<=i then(if i<n then some i.toNat else none)else if -(n:Int)<= i then some (i+n).toNat else none
def atI{α:Type}(xs:List α)(i:Int):Option α:=(ixN xs.length i).bind λj=>xs[j]?
theorem uG{n:Nat}{i:Int}{j:Nat}(h:ixN n i=some j):seqIndex? i n=some j/\j<n/\-(n:Int)<= i/\i<n:=by
 unfold ixN at h;by_cases h0:0<=i
 .rw[if_pos h0]at h;by_cases h1:i<n
  .rw[if_pos h1]at h;have e:i.toNat=j:=Option.some.inj h;exact⟨by rw[seqIndex_of h0 h1,e],by lia,by lia,h1⟩
  .rw[if_neg h1]at h;cases h
 .rw[if_neg h0]at h;by_cases h1:-(n:Int)<= i
  .rw[if_pos h1]at h;have e:(i+n).toNat=j:=Option.some.inj h;exact⟨by rw[seqIndex_neg () h1,e],by lia,h1,by lia⟩
  .rw[if_neg h1]at h;cases h
def pI{α:Type}{xs:List α}{i:Int}{v:α}(h:atI xs i=some v):∃j,seqIndex? i xs.length=some j/\xs[j]?=some v/\j<xs.length/\-(xs.length:Int)<= i/\i<xs.length:=by
 unfold atI at h;cases e:ixN xs.length i with
 |none=>rw[e]at h;cases h
 |some j=>rw[e]at h;obtain⟨h1,h2,h3,h4⟩:=uG e;exact⟨j,h1,h,h2,h3,h4⟩
def jD(b:Expr):Prop:=∀o i,subscripted b false o i=operate [o,i] (getItem o i)
def IxR(X:Cx)(r:R2):Prop:=
 ∀(value slice:Expr) (js:My) (s:Shared) (Y:St) (H:Hp) (x y:V) (v u:Value) (Q:VK),Inv X js Y H s->bA x v->bA y u->r x y H Q ->
  subscripted slice false v u=operate [v,u] (getItem v u)->wpAny (model X.prog X.w) X.A (subscriptTail value slice v u) (EP X js Y Q) X.xe s
def MtR(X:Cx)(id:String)(r:V->MJ->Hp->VK->Prop):Prop:=
 ∀(js:My) (s:Shared) (Y:St) (H:Hp) (x:V) (xs:MJ) (v:Value) (us:MC) (Q:VK),Inv X js Y H s->bA x v->aS xs us->r x xs H Q ->
  wpAny (model X.prog X.w) X.A (call (.builtin id) (v::us)) (EP X js Y Q) X.xe s
section
variable{X:Cx}{a b:Expr}{ta tb:TE}{pos:Pos}
def IxR.or{r r':R2}(h:IxR X r)(h':IxR X r'):IxR X (λx y H Q=>r x y H Q\/r' x y H Q):=by
 intro value slice js s Y H x y v u Q I rx ry q hs;rcases q with q|q
 .exact h value slice js s Y H x y v u Q I rx ry q hs
 .exact h' value slice js s Y H x y v u Q I rx ry q hs
def D8{r:R2}(hr:IxR X r)(ha:PE X a ta)(hb:PE X b tb)(hs:jD b):PE X (.Subscript a b pos) (tOp r ta tb):=by intro js s Y H Q I h;exact Subscript_ (Hx ha hb I h λv u s2 x y H2 I2 rx ry q=>hr a b js s2 Y H2 x y v u Q I2 rx ry q (hs _ _))
def F5(K:PySem.W.Frag):R2:=λx y H Q=>∃p xs i v,x=.ref p/\y=.int i/\SqL K H p xs/\atI xs i=some v/\Q v H
def FZ(K:PySem.W.Frag):R2:=λx y H Q=>∃p xs i v,x=.ref p/\y=.int i/\SqT K H p xs/\atI xs i=some v/\Q v H
def F4:R2:=λx y H Q=>∃z i c,x=.str z/\y=.int i/\z.length<=sizeLine/\atI z.cps.toList i=some c/\Q (.str ⟨#[c]⟩) H
theorem C1:IxR X (F5 X.K):=by
 intro value slice js s Y H x y v u Q I rx ry h hs;obtain⟨p,xs,i,z,rfl,rfl,hq,he,q⟩:=h;cases rx;obtain⟨t,rfl⟩:=ry;obtain⟨its,r,pl,hz⟩:=I.list hq;obtain⟨j,h1,h2,h3,h4,h5⟩:=pI he;obtain⟨w,ew,rw'⟩:=r.get h2;have hl:=r.length;have hn:=jS;have fin:EP X js Y Q w s:=⟨z,H,I,rw',q⟩
 by_cases h0:0<=i
 .have hj:i.toNat=j:=by rw[seqIndex_of h0 h5]at h1;exact Option.some.inj h1
  exact item_listR pl.isList h0 () (by rw[hj];simpa using ew) fin hs
 .have hj:(i+(its.toArray.size:Int)).toNat=j:=by rw[seqIndex_neg () h4]at h1;rw[size_toArray,<- hl];exact Option.some.inj h1
  exact subscriptTail_builtinR pl.isList.typeIs slot_list_getitem.lookup
   (wpAny_getItem_list_neg pl.isList () (by rw[size_toArray]<;>lia) () (by rw[hj];simpa using ew) ⟨rfl,fin⟩) hs
def G4:IxR X (FZ X.K):=by
 intro value slice js s Y H x y v u Q I rx ry h hs;obtain⟨p,xs,i,z,rfl,rfl,hq,he,q⟩:=h;cases rx;obtain⟨t,rfl⟩:=ry;obtain⟨its,r,pl,hz⟩:=I.tuple hq;obtain⟨j,h1,h2,h3,h4,h5⟩:=pI he;obtain⟨w,ew,rw'⟩:=r.get h2;have hl:=r.length;have hn:=jS;have fin:EP X js Y Q w s:=⟨z,H,I,rw',q⟩
 exact subscriptTail_builtinR pl.typeIs slot_tuple_getitem.lookup
  (getItem_tuple pl () () (by rw[size_toArray,<- hl];exact h1) (by simpa using ew) ⟨rfl,fin⟩) hs
theorem G5:IxR X F4:=by
 intro value slice js s Y H x y v u Q I rx ry h hs;obtain⟨z,i,c,rfl,rfl,hz,he,q⟩:=h;obtain⟨t,rfl⟩:=rx;obtain⟨t',rfl⟩:=ry;obtain⟨j,h1,h2,h3,h4,h5⟩:=pI he;have hl:z.cps.toList.length=z.length:=by simp[Str.length]
 rw[hl]at h1 h4 h5;have hn:=jS;exact tail_any (typeIs_str s z t) slot_str_getitem.lookup (getItem_str (c:=c) (by
  have e1:decide (i < -(2 ^ 63:Int))=false:=decide_eq_false ();have e2:decide (i >= 2 ^ 63)=false:=decide_eq_false ();rw[e1,e2,Bool.or_false]) (by rw[h1];simpa using h2) ⟨.str ⟨#[c]⟩,H,I.tok _,⟨_,rfl⟩,q⟩) hs
def rIx(K:PySem.W.Frag):R2:=λx y H Q=>F5 K x y H Q\/FZ K x y H Q\/F4 x y H Q
def G6:IxR X (rIx X.K):=C1.or (G4.or G5)
def sO(its:MC)(n j:Nat)(u:Value):Obj.mapSeq (·.setIfInBounds j u) {cls:=.type "list",data:=.seq its.toArray n}={cls:=.type "list",data:=.seq (its.set j u).toArray n}:=by simp[Obj.mapSeq]
def Inv.lst{js:My}{Y:St}{H:Hp}{s:Shared}{p:Addr}{xs:MJ}(I:Inv X js Y H s)(h:H p=some (.lst xs)) :
  ∃(its:MC) (n:Nat),aS xs its/\s.heap.get? p=some {cls:=.type "list",data:=.seq its.toArray n}/\xs.length<=sizeLine:=by
 obtain⟨z,its,n,r,e⟩:=I.hok p _ h;exact⟨its,n,r,e,z⟩
def Inv.lstUpd{js:My}{Y:St}{H:Hp}{s:Shared}{p:Addr}{xs ys:MJ}{its its':MC}{n n':Nat}{f:Obj->Obj}(I:Inv X js Y H s)(h:H p=some (.lst xs))
  (ho:s.heap.get? p=some {cls:=.type "list",data:=.seq its.toArray n}) (hf:f {cls:=.type "list",data:=.seq its.toArray n}={cls:=.type "list",data:=.seq its'.toArray n'}) (r:aS ys its') (hz:ys.length<=sizeLine) (t:Nat) :
  Inv X js Y (upd H p (.lst ys)) {s with heap:=s.heap.update p f,toks:=t}:=by
 have e:(s.heap.update p f).get? p=some {cls:=.type "list",data:=.seq its'.toArray n'}:=by rw[get?_update_self f ho (by rw[hf]<;>rfl),hf]
 refine I.write (by rw[h];trivial) (.inl rfl) (λb u hb q=>(get?_update_other _ _ (Ne.symm hb)).trans q) ⟨_,e⟩ ?_;exact⟨hz,its',n',r,e⟩
def IW:V->V->V->Hp->(MK)->Prop:=λo i v H Q=>∃p xs k j,o=.ref p/\i=.int k/\H p=some (.lst xs)/\ixN xs.length k=some j/\Q (upd H p (.lst (xs.set j v)))
def yd:KR X IW:=by
 intro js s Y H o i v ov iv u Q I ro ri rv h;obtain⟨p,xs,k,j,rfl,rfl,hp,hj,q⟩:=h;cases ro;obtain⟨t,rfl⟩:=ri;obtain⟨its,n,r,ho,hz⟩:=I.lst hp;obtain⟨h1,h2,h3,h4⟩:=uG hj;have hl:=r.length;have hn:=jS;have I':Inv X js Y (upd H p (.lst (xs.set j v))) {s with heap:=s.heap.update p (Obj.mapSeq (·.setIfInBounds j u))}:=
  I.lstUpd hp ho (sO its n j u) (r.set rv j) (by rw[length_set];exact hz) s.toks
 by_cases h0:0<=k
 .have hk:k.toNat=j:=by rw[seqIndex_of h0 h4]at h1;exact Option.some.inj h1
  exact PySem.W.ki_setAt ho h0 () (by rw[size_toArray,<- hl];exact h4) (by rw[hk];exact⟨_,I',q⟩)
 .have hk:(k+(its.toArray.size:Int)).toNat=j:=by rw[seqIndex_neg () h3]at h1;rw[size_toArray,<- hl];exact Option.some.inj h1
  exact PySem.W.ki_setBack ho () (by rw[size_toArray,<- hl];exact h3) () (by rw[hk];exact⟨_,I',q⟩)
theorem oA(lo hi:MG)(n:Nat):(sliceBounds lo hi none n).1=((HT.sIx n 0 lo:Nat):Int)/\(sliceBounds lo hi none n).2.1=((HT.sIx n n hi:Nat):Int)/\(sliceBounds lo hi none n).2.2=1:=by
 refine⟨?_,?_,rfl⟩
 .cases lo with
  |none=>simp[sliceBounds,HT.sIx]
  |some i=>
   simp only[sliceBounds,HT.sIx,Option.getD_none,show(1:Int)>0 by decide,if_true];by_cases h:i<0
   .simp only[h,if_true]<;>lia
   .simp only[h,if_false]<;>lia
 .cases hi with
  |none=>simp[sliceBounds,HT.sIx]
  |some i=>
   simp only[sliceBounds,HT.sIx,Option.getD_none,show(1:Int)>0 by decide,if_true];by_cases h:i<0
   .simp only[h,if_true]<;>lia
   .simp only[h,if_false]<;>lia
def l_(its:MC)(lo hi:MG):slicePick its.toArray lo hi none=((its.drop (HT.sIx its.length 0 lo)).take (HT.sIx its.length its.length hi-HT.sIx its.length 0 lo)).toArray:=by obtain⟨h1,h2,h3⟩:=oA lo hi its.toArray.size;unfold slicePick;rw[h1,h2,h3];simp only[sliceRange_one,pick_run]<;>rfl
def LL(K:PySem.W.Frag):V->MG->MG->Hp->VK->Prop:=λx lo hi H Q=>∃a xs,x=.ref a/\SqL K H a xs/\∀p,H p=none->Q (.ref p) (upd H p (.lst (DH xs lo hi)))
theorem Bv:SlR X (LL X.K):=by intro js s Y H x v vl vu lo hi sl Q I rx hs pl pu h;obtain⟨a,xs,rfl,hx,q⟩:=h;cases rx;obtain⟨its,r,ht,hz⟩:=I.list hx;have hlen:=r.length;refine⟨"list",_,slot_list_getitem.lookup,ht.isList.typeIs,?_⟩;refine wpAny_getItem_list_slice ht.isList hs pl pu .none () ?_ (by rw[size_toArray]<;>lia);rw[l_,<- hlen];refine⟨.ref s.heap.objs.size,_,I.laid (t':=s.toks) (λb ob q=>get?_push_of_some _ q) (Nat.le_refl _) ?_,rfl,q _ (I.hok.fresh (Nat.le_refl _))⟩;exact⟨Nat.le_trans (rp xs lo hi) hz,_,0,(r.drop (HT.sIx xs.length 0 lo)).take (HT.sIx xs.length xs.length hi-HT.sIx xs.length 0 lo),get?_push_size _ rfl⟩
theorem pF:dr X (.builtin "len") (λxs H Q=>∃p ys,xs=[.ref p]/\(SqL X.K H p ys\/SqT X.K H p ys)/\Q (.int ys.length) H):=by
 intro js s Y H xs us Q I r h;obtain⟨p,ys,rfl,hq,q⟩:=h;obtain⟨u,rfl,rx⟩:=dw r;cases rx;have hn:=jS;rcases hq with hq|hq
 .obtain⟨its,r',pl,hz⟩:=I.list hq;have hlen:=r'.length;exact Calls.call_len_list pl.isList (by simp<;>lia) ⟨.int ys.length,H,I.tok _,⟨s.toks+1,by rw[size_toArray,hlen]⟩,q⟩
 .obtain⟨its,r',pl,hz⟩:=I.tuple hq;have hlen:=r'.length;exact len_tuple pl (by simp<;>lia) ⟨.int ys.length,H,I.tok _,⟨s.toks+1,by rw[size_toArray,hlen]⟩,q⟩
def pE:dr X (.builtin "len") (λxs H Q=>∃z,xs=[.str z]/\z.length<=sizeLine/\Q (.int z.length) H):=by intro js s Y H xs us Q I r h;obtain⟨z,rfl,hz,q⟩:=h;obtain⟨u,rfl,t,rfl⟩:=dw r;have hn:=jS;exact len_str () ⟨.int z.length,H,I.tok _,⟨_,rfl⟩,q⟩
def pD:dr X (.type "list") (λxs H Q=>∃p ys,xs=[.ref p]/\(SqL X.K H p ys\/SqT X.K H p ys)/\∀l,H l=none->Q (.ref l) (upd H l (.lst ys))):=by
 intro js s Y H xs us Q I r h;obtain⟨p,ys,rfl,hq,q⟩:=h;obtain⟨u,rfl,rx⟩:=dw r;cases rx;have fin:∀(its:MC),aS ys its->ys.length<=sizeLine->∀(h':Heap) (c':Nat),(∀b o',s.heap.get? b=some o'->h'.get? b=some o')->
   h'.get? s.heap.objs.size=some {cls:=.type "list",dict:=none,data:=.seq its.toArray c',slots:=#[]}->EP X js Y Q (.ref s.heap.objs.size) {s with heap:=h'}:=λits r' hz h' c' kp e=>
  ⟨.ref s.heap.objs.size,_,I.laid (t':=s.toks) kp (Nat.le_refl _) (show cK X.prog X.w _ h' _ (.lst ys)from⟨hz,its,c',r',e⟩),rfl,q _ (I.hok.fresh (Nat.le_refl _))⟩
 rcases hq with hq|hq
 .obtain⟨its,r',pl,hz⟩:=I.list hq;have hlen:=r'.length;obtain⟨o,ho,hc,n,hd⟩:=pl.isList;exact call_list_seq p (.inl rfl) ho hc hd (λh' c' kp e=>fin its r' hz h' c' kp e) (by simp<;>lia)
 .obtain⟨its,r',pl,hz⟩:=I.tuple hq;have hlen:=r'.length;obtain⟨o,ho,hc,n,hd⟩:=pl;exact call_list_seq p (.inr rfl) ho hc hd (λh' c' kp e=>fin its r' hz h' c' kp e) (by simp<;>lia)
def mD:dr X (.type "tuple") (λxs H Q=>∃p ys,xs=[.ref p]/\((SqL X.K H p ys/\∀l,H l=none->Q (.ref l) (upd H l (.tup ys)))\/(SqT X.K H p ys/\Q (.ref p) H))):=by
 intro js s Y H xs us Q I r h;obtain⟨p,ys,rfl,h⟩:=h;obtain⟨u,rfl,rx⟩:=dw r;cases rx;rcases h with⟨hq,q⟩ |⟨hq,q⟩
 .obtain⟨its,r',pl,hz⟩:=I.list hq;have hlen:=r'.length;refine call_tuple_list pl.isList (λh' kp=>?_) (by simp<;>lia);have I1:Inv X js Y H {s with heap:=h'}:=I.kept (t':=s.toks) kp;have I2:Inv X js Y (upd H h'.objs.size (.tup ys)) {s with heap:=h'.push {cls:=.type "tuple",data:=.seq its.toArray}}:=
   I1.laid (t':=s.toks) (λb o e=>get?_push_of_some _ e) (Nat.le_refl _) (show cK X.prog X.w _ _ _ (.tup ys)from⟨hz,its,r',IsTup.new _ _⟩)
  exact⟨.ref h'.objs.size,_,I2,rfl,q _ (I1.hok.fresh (Nat.le_refl _))⟩
 .obtain⟨its,r',pl,hz⟩:=I.tuple hq;exact call_tuple_same pl ⟨.ref p,H,I,rfl,q⟩
def tyV(K:PySem.W.Frag)(T:String)(x:V)(H:Hp):Prop:=match x with
 |.str _=>T="str"
 |.int _=>T="int"
 |.ref p=>(T="list" /\ ∃xs,SqL K H p xs)\/(T="tuple" /\ ∃o,K.lookup p=some o/\o.cls=.type "tuple" /\ o.dict=none)\/
   (T="dict" /\((∃kvs,H p=some (.dK kvs))\/ ∃kvs,H p=some (.dT kvs)))\/(T="set" /\ ∃S n,H p=some (.set S n))
 |_=>False
def ES{js:My}{Y:St}{H:Hp}{s:Shared}{T:String}{x:V}{v:Value}(I:Inv X js Y H s)(r:bA x v)(ty:tyV X.K T x H) :
  s.TypeIs v T/\∀a,v=.ref a->∃ob,s.heap.get? a=some ob/\ob.dict=none:=by
 cases x with
 |str z=>obtain⟨t,rfl⟩:=r;cases(show T="str" from ty);exact⟨typeIs_str s z t,λ_ e=>nomatch e⟩
 |int i=>obtain⟨t,rfl⟩:=r;cases(show T="int" from ty);exact⟨typeIs_int s i t,λ_ e=>nomatch e⟩
 |ref p=>
  cases r;rcases ty with⟨rfl,xs,hq⟩ |⟨rfl,o,hk,hc,hd⟩ |⟨rfl,hk⟩ |⟨rfl,S,n,hk⟩
  .obtain⟨its,_,pl,_⟩:=I.list hq;refine⟨pl.isList.typeIs,λa e=>?_⟩;cases e;obtain⟨o,n,e,c,hd,_⟩:=pl;exact⟨o,e,hd⟩
  .refine⟨⟨o,I.kIn p o hk,hc⟩,λa e=>?_⟩;cases e;exact⟨o,I.kIn _ o hk,hd⟩
  .have z:∃o,s.heap.get? p=some o/\o.ExactDict:=by
    rcases hk with⟨kvs,hk⟩ |⟨kvs,hk⟩
    .obtain⟨_,_,_,_,o,_,_,e,ex,_⟩:=I.hok p _ hk;exact⟨o,e,ex⟩
    .obtain⟨_,_,_,_,o,_,_,e,ex,_⟩:=I.hok p _ hk;exact⟨o,e,ex⟩
   obtain⟨o,e,ex⟩:=z;refine⟨⟨o,e,ex.1⟩,λa e2=>?_⟩;cases e2;exact⟨o,e,ex.2.1⟩
  .obtain⟨o,_,_,_,e,ex,_⟩:=I.hok p _ hk;refine⟨⟨o,e,ex.1⟩,λa e2=>?_⟩;cases e2;exact⟨o,e,ex.2.1⟩
 |_=>exact False.elim ty
def tBM(K:PySem.W.Frag)(T:String)(r:V->MJ->Hp->VK->Prop)(to:TE)(t:TA):TE:=λY H Q=>to Y H λx H1=>tyV K T x H1/\t Y H1 λxs H2=>r x xs H2 Q
variable{o e:Expr}{es:List Expr}{to:TE}{t:TA}{name:Str}{apos cpos:Pos}{T id:String}{r:V->MJ->Hp->VK->Prop}
def uv(pa:PlainAttrs T)(slot:Slot T name id)(hty:typeOf (.builtin id)=pure (.type "method_descriptor"))(hm:MtR X id r)(ho:PE X o to)(ha:PA X (e::es) t)
  (hbase:attributeBase o name X.env (eval o X.env)=eval o X.env:=by rfl)
  (hfew:((backTo cpos (starEach (e::es) X.env)).all (λx=>!x.1) && (backToKw cpos (keywordEach [] X.env)).all (λx=>x.1.isSome)
   && decide ((e::es).length+([]:List Keyword).length+(if([]:List Keyword).isEmpty then 0 else 1)<30))=true:=by rfl)
  (hline:(apos.endLine==cpos.line)=true:=by rfl) (hs:starEach (e::es) X.env=(false,eval e X.env)::starEach es X.env:=by rfl) (hplain:(backTo cpos (starEach es X.env)).any (·.1)=false:=by rfl) :
  PE X (.Call (.Attribute o name apos) (e::es) [] cpos) (tBM X.K T r to t):=by
 intro js s Y H Q I h;refine wpAny_Call_method_late hbase hfew hline rfl (thn (ho js s Y H _ I h) λv s1 zz=>?_);obtain⟨x,H1,I1,r1,ty,q1⟩:=zz;obtain⟨h1,h2⟩:=ES I1 r1 ty;refine⟨T,id,pa,slot,hty,h1,h2,?_⟩;have hA:=ha cpos js s1 Y H1 _ I1 q1;rw[hs]at hA ⊢;refine Calls.callWith_builtin (by show(false ||(backTo cpos (starEach es X.env)).any (·.1))=false;rw[hplain]<;>rfl) (Calls.evalArgs_plain ?_);exact thn hA λus s2 ⟨vs,H2,I2,r2,q2⟩=>hm js s2 Y H2 x vs v us Q I2 r1 r2 q2
end
end
section
def MtM(X:Cx)(id:String)(r:V->MJ->Hp->VK->Prop):Prop:=
 ∀(js:My) (s:Shared) (Y:St) (H:Hp) (x:V) (xs:MJ) (v:Value) (us:MC) (Q:VK),Inv X js Y H s->bA x v->aS xs us->r x xs H Q ->
  wpAny (model X.prog X.w) X.A (call (.builtin id) (v::us)) (EP X js Y Q) X.xe s
def aS.one{x:V}{us:MC}(h:aS [x] us):∃u,us=[u]/\bA x u:=by
 cases h with
 |cons r t=>cases t;exact⟨_,rfl,r⟩
section
variable{X:Cx}{js:My}{Y:St}{H:Hp}{s:Shared}{l b:Addr}{xs ys zs:MJ}
def Inv.lset{its its':MC}{n:Nat}{f:MH->MH}{t':Nat}(I:Inv X js Y H s)(hH:H l=some (.lst xs))
  (e:s.heap.get? l=some {cls:=.type "list",data:=.seq its.toArray n}) (hf:f its.toArray=its'.toArray) (hv:aS ys its') (hz:ys.length<=sizeLine) :
  Inv X js Y (upd H l (.lst ys)) {s with heap:=s.heap.update l (Obj.mapSeq f),toks:=t'}:=by
 have q:=PySem.IsL.update e f;rw[hf]at q;refine I.write (by rw[hH];exact trivial) (.inl rfl) (λb' u hb hu=>(get?_update_other s.heap (Obj.mapSeq f) (Ne.symm hb)).trans hu) ⟨_,q⟩ ?_;exact⟨hz,its',_,hv,q⟩
def Inv.lnew{its:MC}{t':Nat}(I:Inv X js Y H s)(hv:aS ys its)(hz:ys.length<=sizeLine) :
  Inv X js Y (upd H s.heap.objs.size (.lst ys)) {s with heap:=s.heap.push {cls:=.type "list",data:=.seq its.toArray},toks:=t'}:=
 I.laid (λ_ _ q=>get?_push_of_some _ q) (Nat.le_refl _) ⟨hz,its,0,hv,get?_push_size _ rfl⟩
def Inv.fresh(I:Inv X js Y H s):H s.heap.objs.size=none:=I.hok.fresh (Nat.le_refl _)
def Inv.lstM(I:Inv X js Y H s)(hH:H l=some (.lst xs)):xs.length<=sizeLine/\∃(its:MC) (n:Nat),aS xs its/\xs.length=its.length/\s.heap.get? l=some {cls:=.type "list",data:=.seq its.toArray n}:=by obtain⟨z,its,n,r,e⟩:=I.hok l _ hH;exact⟨z,its,n,r,r.length,e⟩
end
section
variable{X:Cx}
def B5:V->MJ->Hp->VK->Prop:=λx vs H Q=>∃l xs y,x=.ref l/\vs=[y]/\H l=some (.lst xs)/\xs.length<sizeLine/\Q .non (upd H l (.lst (xs++[y])))
theorem nq:MtM X "list.append" B5:=by
 intro js s Y H x vs v us Q I rx rv h;obtain⟨l,xs,y,rfl,rfl,hH,hz,q⟩:=h;cases rx;obtain⟨u,rfl,ru⟩:=rv.one;obtain⟨z,its,n,r,hl,e⟩:=I.lstM hH;refine call_meets F.slot_list_append ⟨_,e,rfl⟩ F.entry_list_append (F.args_list_append_2 _ _) (PySem.list_append l its.toArray n u (by rw[size_toArray];lia)) ⟨e,?_⟩;refine⟨.non,_,I.lset (its':=its++[u]) hH e () (r.append (.cons ru .nil)) ?_,rfl,q⟩;rw[length_append,List.length_singleton]
 lia
end
end
end L2
namespace Att
open PySem PySem.W PySem.Calls PyProof.Rows
def kA{P:Params}{h:Heap}:∀(ns:MB) (vs:MC),WellAll P h vs (ns.map WData.int)->IntsAre vs ns:=by
 intro ns
 induction ns with
 |nil=>intro vs w;cases w;exact .nil
 |cons n ns ih=>
  intro vs w;cases w with
  |cons a b=>cases a;exact .cons _ _ (ih _ b)
theorem vY{l:OpenLaw}{n:Nat}(hn:l.most=some n){P:Params}{h:Heap}{args:List WData}{vals:MC}
  (hpre:l.row.toRowW.claim.pre args=true) (hwl:WellAll P h vals args) :
  ∃a vs ns,vals=[Value.ref a]/\args=[WData.list (ns.map WData.int)]/\h.get? a=some {cls:=.type "list",data:=.seq vs.toArray}/\IntsAre vs ns/\ns.length<=n:=by
 have hsh:WShape.hasAll [] args [.list .int]=true:=(pre_splitW hpre).1;have hc:l.pre.holds [] {args:=args}=true:=(pre_splitW hpre).2;obtain⟨d,r,rfl,h1,h2⟩:=hasAllW_cons hsh;obtain rfl:=hasAllW_nil h2;obtain⟨xs,rfl,h3⟩:=hasW_list h1;obtain⟨ns,rfl⟩:=items_int h3;have hlen:ns.length<=n:=by
  unfold OpenLaw.pre at hc;have h4:(WTm.not (.lt (.lit (.int (n:Int))) (.len (.arg 0)))).holds [] {args:=[.list (ns.map .int)]}=true:=by have h4:=(holds_andW hc).1;rw[hn]at h4;exact h4
  have h5:=condW_of h4 (w_not (w_lt w_lit (w_len_list (w_arg rfl))));rw[length_map]at h5;refine Nat.le_of_not_lt λq=>?_;have q':(n:Int) <((ns.length:Nat):Int):=by lia
  first
   |(rw[decide_eq_true q']at h5;exact absurd h5 ())
   |(simp at h5;lia)
 cases hwl with
 |cons w1 w2=>
  cases w2;cases w1 with
  |list ho hall=>exact⟨_,_,ns,rfl,rfl,ho,kA ns _ hall,hlen⟩
def wc(l:OpenLaw)(args:List WData):l.row.toRowW.claim.post args (.bool true) args=true:=
 postW_of
  (show WShape.has [] (.bool true) .bool=true by first|rfl|decide|simp[WShape.has])
  (show(WTm.eq .res (.lit (.bool true))).value [] {args:=args,res:=some (.bool true),after:=args}=some (.bool (true==true))from w_eq_bool (w_res rfl) w_lit) rfl
def attach_call{l:OpenLaw}{n:Nat}{q:Program}{loose:MF}{XP:(Mw)->Heap->Prop}{YP:World->Heap->Prop}{d:DefRec}
  (hn:l.most=some n) (hdf:d.params.defaults=[])
  (call:∀ (w:World) (s₀ s₁:Shared) (mg mb:Mw) (fa:Addr) (o:Obj) (pm cd doc:Value) (a:Addr) (vs:MC) (ns:MB),
   Ground q loose [] XP w s₀ mg mb s₁.heap->YP w s₁.heap ->
   s₁.heap.get? fa=some o->o.data=.func (docDef d.name d.params d.body d.scope pm cd doc)->s₁.heap.CodeRec cd d.name->mg d.name=some (.ref fa)->
   s₁.heap.get? a=some {cls:=.type "list",data:=.seq vs.toArray}->IntsAre vs ns->ns.length<=n->s₁.gens=#[]->
   codeAny (model l.prog w) callerA (.call (.ref fa) ⟨[.ref a],[]⟩) (λr s'=>r=.ok (.ret (.bool true))/\OldK s₁.heap s'.heap/\s'.os=s₁.os/\AllBare s'.gens) s₁) :
  WalkO q loose XP YP l.row.toRowW d [] (λf vs=>PySem.call f vs):=by
 intro w s₀ s₁ mg mb G td fa o pm cd doc dV kV ho hd hcd hD hmg hg args vals as hpre hlay hrd hwl hlo;obtain rfl:dV=.none:=Dflts.none hD hdf;obtain rfl:kV=.none:=Dflts.noKw hD;obtain⟨a,vs,ns,rfl,rfl,hobj,hints,hlen⟩:=vY hn hpre hwl;refine enter_call (codeAny_mono (call w s₀ s₁ mg mb fa o pm cd doc a vs ns G td ho (fd_plain hd) hcd hmg hobj hints hlen hg) λr s' hq=>?_);obtain⟨rfl,h2,h3,h4⟩:=hq;exact⟨.inl ⟨.bool true,.bool true,[],rfl,λ_=>rfl,.bool true,wc l _,λ_=>⟨Pairwise.nil,λ_ hm=>(nomatch hm)⟩⟩,h2,h3,h4⟩
end Att
namespace L2
open PySem PySem.Spec PyProof.Rows
section
theorem mK:∀{vs:MC}{ns:MB},IntsAre vs ns->aS (ns.map V.int) vs
 |_,_,.nil=>.nil
 |_,_,.cons n t h=>.cons ⟨t,rfl⟩ (mK h)
def HJ(H:Hp):Prop:=∀b,H b=none\/∃o xs,H b=some (.frz o (.lst xs))
theorem zQ{P:Program}{w:World}{K:PySem.W.Frag}{mg mb:Mw}{CX:CXT}{k:Nat}{fa a:Addr}{fd:FuncData}{x:Str}{sp:Sp}{s₁:Shared}{vs:MC}{ns:MB}
  (KX:K.In s₁.heap) (hns:s₁.heap.Ns mainGlobals mg) (hb:s₁.heap.Ns builtinsNs mb) (hbb:∀x:Str,x≠"__name__" -> mb x=bootBuiltins x) (hlim:s₁.heap.NoLimit) (hg:s₁.gens=#[])
  (ha:s₁.heap.get? a=some {cls:=.type "list",data:=.seq vs.toArray}) (hi:IntsAre vs ns) (hl:ns.length<=sizeLine) (hr:dQ k callerA)
  (F:∀base:Heap,K.In base->base.Ns mainGlobals mg->cF P w K mg base CX k fa fd [x] sp) (hbind:∀(s:Shared) (u:Value),BindsTo s fd ⟨[u],[]⟩ [(x,u)])
  (hsp:∀H:Hp,HJ H->SqL K H a (ns.map V.int)->sp [.ref a] H (λv _=>v=.bl true) λ_ _ _=>False)
  (hCX:∀H e s',CX [] H s₁ (λ_ _ _=>False) e s'->False) :
  codeAny (model P w) callerA (.call (.ref fa) ⟨[.ref a],[]⟩) (λr s'=>r=.ok (.ret (.bool true))/\OldK s₁.heap s'.heap/\s'.os=s₁.os/\AllBare s'.gens) s₁:=by
 have rv:=mK hi;have lenV:=hi.length;have core:∀H:Hp,HJ H->SqL K H a (ns.map V.int)->HOk P w H s₁.heap->(∀b,H b≠none->b=a)->(H a≠none->K.lookup a=none)->
   codeAny (model P w) callerA (.call (.ref fa) ⟨[.ref a],[]⟩) (λr s'=>r=.ok (.ret (.bool true))/\OldK s₁.heap s'.heap/\s'.os=s₁.os/\AllBare s'.gens) s₁:=by
  intro H hO hS hok hA hK;have base_of:∀{b:Addr}{o:Obj},s₁.heap.get? b=some o->H b=none->(o4 s₁.heap H).get? b=some o:=λe n=>z8 e n;have noA:∀{b:Addr}{o:Obj}{es:Array DictEntry}{ep:Nat},s₁.heap.get? b=some o->o.data=.dict es ep->H b=none:=λ{b o es ep} e d=>by
   cases q:H b with
   |none=>rfl
   |some u=>have e':b=a:=hA b (by rw[q];simp);subst e';rw[ha]at e;cases e;have d':Data.seq vs.toArray _=Data.dict es ep:=d;cases d'
  have nsK:∀{b:Addr}{m:Mw},s₁.heap.Ns b m->(o4 s₁.heap H).Ns b m:=λ{b m} ⟨o,es,ep,e,d,r⟩=>⟨o,es,ep,base_of e (noA e d),d,r⟩
  have hKb:K.In (o4 s₁.heap H):=λb o e=>base_of (KX b o e) (by
   cases q:H b with
   |none=>rfl
   |some u=>
    have e':b=a:=hA b (by rw[q];simp);subst e';rw[hK (by rw[q];simp)]at e;cases e)
  have hM:Mod K mg (o4 s₁.heap H):=⟨hKb,nsK hns,⟨mb,nsK hb,hbb⟩,let⟨mc,h1,h2⟩:=hlim;⟨mc,nsK h1,h2⟩⟩
  have e0:t6 P w K mg (o4 s₁.heap H) callerA [] s₁ H:=⟨rfl,hM,λb o e=>Cr e,Nat.le_of_eq (wN _ _),trivial,λb hb=>absurd (show b ∈([]:MD)from hb) (),hok,.of_eq hg⟩
  refine codeAny_mono ((F _ hKb (nsK hns)).run callerA [] s₁ H ⟨[.ref a],[]⟩ [.ref a] [.ref a] _ _ hr e0 (hbind s₁ (.ref a)) (.cons rfl .nil) (hsp H hO hS)) λr s' h=>?_;cases r with
  |error e=>exact(hCX H e s' h).elim
  |ok fl=>
   cases fl with
   |next|brk|cont=>exact False.elim h
   |ret u=>
    obtain⟨v,H',os,bare,un,hok',r',q⟩:=h;have q':v=.bl true:=q;subst q';obtain rfl:u=Value.bool true:=r';refine⟨rfl,OldK.of_keep λb o e=>?_,os,bare⟩;cases q:H b with
    |none=>exact un.keep b o e q (by intro z;exact absurd (show b ∈([]:MD)from z) ()) ()
    |some u=>
     rcases hO b with z |⟨ob,xs,z⟩
     .rw[q]at z;cases z
     .have z2:=un.frzs b ob _ z;obtain⟨e1,_⟩:=hok b _ z;obtain⟨e2,_⟩:=hok' b _ z2;rw[e]at e1;cases e1;exact e2
 cases hk:K.lookup a with
 |some o=>have e:=KX a o hk;rw[ha]at e;cases e;refine core (λ_=>none) (λ_=>.inl rfl) (.inr ⟨_,vs.toArray,_,hk,rfl,rfl,rfl,by rw[size_toArray,lenV];exact hl,by lia⟩) (λb u z=>by lia) (λb z=>absurd rfl z) λz=>absurd rfl z
 |none=>
  refine core (λb=>if b=a then some (.frz {cls:=.type "list",data:=.seq vs.toArray} (.lst (ns.map V.int)))else none) (λb=>?_) (.inl (.inr ⟨{cls:=.type "list",data:=.seq vs.toArray},if_pos rfl⟩)) (λb u z=>?_) (λb z=>?_) λ_=>hk
  .by_cases hb:b=a
   .exact .inr ⟨_,_,if_pos hb⟩
   .exact .inl (if_neg hb)
  .by_cases hb:b=a
   .have z':=(if_pos hb).symm.trans z;cases z';subst hb;exact⟨ha,by rw[length_map];exact hl,vs,_,rv,ha⟩
   .lia
  .lia
end
section
def A7{l:PySem.W.OpenLaw}{n k:Nat}{q:Program}{loose:MF}{XP:(Mw)->Heap->Prop}{YP:World->Heap->Prop}{d:DefRec}{K:Params->PySem.W.Frag}{CX:World->CXT}{sp:World->Sp}{x:Str}
  (hn:l.most=some n) (hn2:n<=sizeLine) (hdf:d.params.defaults=[]) (hr:dQ k callerA)
  (hY:∀(w:World) (h:Heap),YP w h->(K w.params).In h)
  (F:∀ (w:World) (mg:Mw) (fa:Addr) (h:Heap),(K w.params).In h->h.Ns mainGlobals mg->mg d.name=some (.ref fa) ->
   ∃fd:FuncData,(∀(s:Shared) (u:Value),BindsTo s fd ⟨[u],[]⟩ [(x,u)])/\
    ∀base:Heap,(K w.params).In base->base.Ns mainGlobals mg->cF l.prog w (K w.params) mg base (CX w) k fa fd [x] (sp w))
  (hsp:∀(w:World) (H:Hp) (a:Addr) (ns:MB),ns.length<=n->HJ H->SqL (K w.params) H a (ns.map V.int)->sp w [.ref a] H (λv _=>v=.bl true) λ_ _ _=>False)
  (hCX:∀(w:World) (H:Hp) (s:Shared) (e:Value) (s':Shared),CX w [] H s (λ_ _ _=>False) e s'->False) :
  PySem.W.WalkO q loose XP YP l.row.toRowW d [] (λf vs=>PySem.call f vs):=by
 refine Att.attach_call hn hdf λw s₀ s₁ mg mb fa o pm cd doc a vs ns G td ho hd hcd hmg hobj hints hlen hg=>?_;have KX:=hY w _ td;obtain⟨fd,hb,hF⟩:=F w mg fa _ KX G.T.g hmg;exact zQ KX G.T.g G.T.b G.T.builtins G.T.nolimit hg hobj hints (Nat.le_trans hlen hn2) hr hF hb (λH hO hS=>hsp w H a ns hlen hO hS) λH e s'=>hCX w H s₁ e s'
end
section
noncomputable def C6(s:Stmt)(j:Nat):Stmt:=match s with
 |.ClassDef _ _ _ body _ _ _ _ _ _ _=>body.getD j (.Pass ⟨0,0,0,0⟩)
 |_=>.Pass ⟨0,0,0,0⟩
def b8(s:Stmt):Arguments:=match s with
 |.FunctionDef _ a _ _ _ _ _ _ _ _=>a
 |_=>{posonlyargs:=[],args:=[],vararg:=none,kwonlyargs:=[],kw_defaults:=[],kwarg:=none,defaults:=[]}
noncomputable def ba(s:Stmt):List Stmt:=match s with
 |.FunctionDef _ _ b _ _ _ _ _ _ _=>b
 |_=>[]
noncomputable def aB(s:Stmt):Scope:=match s with
 |.FunctionDef _ _ _ _ _ _ sc _ _ _=>sc
 |_=>{kind:=.function,names:=[],isGenerator:=false,isCoroutine:=false}
structure Fun(K:PySem.W.Frag)(x qual:Str)(st:Stmt)(f:Addr)(fd:FuncData):Prop where
 ex:∃(oc:Value) (od:Option Addr) (kV doc pm:Value) (an:Option Addr) (cdv ct:Value) (osl:Array (Option Value)),
  fd=PySem.W.fnOf x qual (b8 st) (ba st) (aB st) .none kV doc pm an cdv ct/\K.lookup f=some ⟨oc,od,.func fd,osl⟩/\PySem.W.codeIn K cdv qual=true
 kp:PySem.W.keepIn K (.ref f)=true
section
variable{P:Program}{w:World}{K:PySem.W.Frag}{mg:Mw}{base:Heap}
def Fun.binds{x qual:Str}{st:Stmt}{f:Addr}{fd:FuncData}{ps:MF}(F:Fun K x qual st f fd)
  (h:∀(kV doc pm:Value) (an:Option Addr) (cdv ct:Value) (us:MC),us.length=ps.length->bindArgs (PySem.W.fnOf x qual (b8 st) (ba st) (aB st) .none kV doc pm an cdv ct) ⟨us,[]⟩=pure (ps.zip us)):eK K fd ps []:=by
 obtain⟨oc,od,kV,doc,pm,an,cdv,ct,osl,rfl,lk,hcd⟩:=F.ex;exact .all (h kV doc pm an cdv ct)
end
end
end L2
set_option maxHeartbeats 4000000
namespace PR
open PySem
inductive Fl where
 |own|frz|bor|lnt|mod
 deriving DecidableEq
inductive PV where
 |non
 |bl (b:Bool)
 |int (i:Int)
 |str (x:Str)
 |lst (f:Fl) (xs:List PV)
 |tup (xs:List PV)
 |obj (f:Fl) (c:Nat) (ks:List Nat) (vs:List PV)
 |exc (c:Nat)
 |box (k:Nat) (xs:List PV)
abbrev ML:=List PV
mutual
noncomputable def PV.MY(g:Fl->Fl):PV->PV
 |.non=>.non
 |.bl b=>.bl b
 |.int i=>.int i
 |.str x=>.str x
 |.lst f xs=>.lst (g f) (mapL g xs)
 |.tup xs=>.tup (mapL g xs)
 |.obj f c ks vs=>.obj (g f) c ks (mapL g vs)
 |.exc c=>.exc c
 |.box k xs=>.box k (mapL g xs)
noncomputable def mapL(g:Fl->Fl):ML->ML
 | []=>[]
 |x::xs=>x.MY g::mapL g xs
end
mutual
noncomputable def PV.has(p:Fl->Bool):PV->Bool
 |.non|.bl _|.int _|.str _=>false
 |.lst f xs=>p f||hasL p xs
 |.tup xs=>hasL p xs
 |.obj f _ _ vs=>p f||hasL p vs
 |.exc _=>false
 |.box _ xs=>hasL p xs
noncomputable def hasL(p:Fl->Bool):ML->Bool
 | []=>false
 |x::xs=>x.has p||hasL p xs
end
noncomputable def Fl.MV:Fl->Bool
 |.lnt=>true
 |_=>false
def Fl.MW:Fl->Bool
 |.bor=>true
 |_=>false
def Fl.MN:Fl->Fl
 |.own=>.lnt
 |f=>f
def Fl.MQ:Fl->Fl
 |.own=>.frz
 |f=>f
def Fl.MP:Fl->Fl
 |.lnt=>.bor
 |f=>f
inductive Res(α:Type) where
 |ok (a:α)
 |exc (c:Nat)
 |stuck
abbrev MM:=Res PV
noncomputable def Res.bind{α β:Type}:Res α->(α->Res β)->Res β
 |.ok a,k=>k a
 |.exc c,_=>.exc c
 |.stuck,_=>.stuck
@[simp] def Res.M0{α β:Type}(a:α)(k:α->Res β):(Res.ok a).bind k=k a:=by simp only[Res.bind]
@[simp] def Res.exc_bind{α β:Type}(c:Nat)(k:α->Res β):(Res.exc c:Res α).bind k=.exc c:=rfl
@[simp] def Res.stuck_bind{α β:Type}(k:α->Res β):(Res.stuck:Res α).bind k=.stuck:=rfl
abbrev En:=List (Option PV)
abbrev ME:=En->MM
abbrev MT:=En->Res Bool
abbrev MA:=En->Res (ML)
inductive Out where
 |next (e:En)
 |ret (v:PV)
 |brk (e:En)
 |cont (e:En)
 |exc (c:Nat) (e:En)
 |stuck
abbrev MS:=En->Out
noncomputable def mC(v:PV):ME:=λ_=>.ok v
abbrev M1(i:Int):ME:=mC (.int i)
def aa(i:Nat):ME:=λenv=>match env[i]? with
 |some (some v)=>.ok (v.MY Fl.MN)
 |_=>.stuck
def ae:MA:=λ_=>.ok []
def ab(a:ME)(r:MA):MA:=λenv=>(a env).bind λx=>(r env).bind λxs=>.ok (x::xs)
def mUn(f:PV->MM)(a:ME):ME:=λenv=>(a env).bind f
def mOp(f:PV->PV->MM)(a b:ME):ME:=λenv=>(a env).bind λx=>(b env).bind λy=>f x y
noncomputable def lh(g:Int->Int->PV):PV->PV->MM
 |.int i,.int j=>.ok (g i j)
 |_,_=>.stuck
noncomputable def fO(C:Int->Int->Bool)(g:Int->Int->PV):PV->PV->MM
 |.int i,.int j=>if C i j then .ok (g i j)else .stuck
 |_,_=>.stuck
noncomputable def oM:PV->Res Bool
 |.non=>.ok false
 |.bl b=>.ok b
 |.int i=>.ok (i != 0)
 |.lst _ xs|.tup xs=>.ok (!xs.isEmpty)
 |_=>.stuck
def ai(a:ME):MT:=λenv=>(a env).bind fun
 |.bl b=>.ok b
 |_=>.stuck
def bz(a:ME):MT:=λenv=>(a env).bind oM
def iw(a:MT):MT:=λenv=>(a env).bind λb=>.ok (!b)
def di(a b:MT):MT:=λenv=>(a env).bind λx=>if x then b env else .ok false
def gP(a b:MT):MT:=λenv=>(a env).bind λx=>if x then .ok true else b env
def fY(c:MT)(a b:ME):ME:=λenv=>(c env).bind λx=>if x then a env else b env
def aA:MS:=.next
def ag(a b:MS):MS:=λenv=>match a env with
 |.next e=>b e
 |o=>o
noncomputable def mBr(c:MT)(a b:MS):MS:=λenv=>match c env with
 |.ok true=>a env
 |.ok false=>b env
 |.exc k=>.exc k env
 |.stuck=>.stuck
def PV.MX(v:PV):Bool:=!v.has Fl.MV
noncomputable def d5(env:List (Option PV)):Bool:=match env[0]? with
 |some (some (PV.obj _ _ _ _))=>true
 |_=>false
def aQ(i:Nat)(env:En):Bool:=if i=0 then !d5 env else true
def aw(i:Nat)(e:ME):MS:=λenv=>match e env with
 |.ok v=>if v.MX&&aQ i env then .next (env.set i (some v))else .stuck
 |.exc k=>.exc k env
 |.stuck=>.stuck
def aL(e:ME):MS:=λenv=>match e env with
 |.ok v=>if v.MX then .ret v else .stuck
 |.exc k=>.exc k env
 |.stuck=>.stuck
noncomputable def cY(i:Nat):MS:=λenv=>match env[i]? with
 |some (some v)=>.ret v
 |_=>.stuck
noncomputable def dA(e:ME):MS:=λenv=>match e env with
 |.ok _=>.next env
 |.exc k=>.exc k env
 |.stuck=>.stuck
def dz(i:Nat):MS:=λenv=>match env[i]? with
 |some (some v)=>.next (env.set i (some (v.MY Fl.MQ)))
 |_=>.stuck
noncomputable def my(body:PV->MS):ML->En->Out
 | [],env=>.next env
 |x::xs,env=>match body x env with
  |.next e|.cont e=>my body xs e
  |.brk e=>.next e
  |o=>o
end PR
namespace PR
open PySem PySem.Spec L2
structure Tb where
 K:PySem.W.Frag
 nc:Nat
 cls:Nat->Addr
 att:Nat->Str
 inj:∀i j,att i=att j->i=j
 xcl:Nat->Addr
 dk:Nat->MF:=λ_=>[]
 bx:Nat->Hp->Addr->MJ->Prop:=λk H a vs=>∃o,H a=some (.frz o (.dK (((dk k).map Sum.inr).zip vs)))/\(dk k).length=vs.length
 bxs:∀k (H H':Hp) a vs,(∀b o u,H b=some (.frz o u)->H' b=some (.frz o u))->bx k H a vs->bx k H' a vs:=by exact λ_ _ _ _ _ h ⟨o,q,l⟩=>⟨o,h _ _ _ q,l⟩
 tb:Addr->Option (MH):=λ_=>none
def Mm(C a:Addr):HO:=.ext λh=>∃o,h.get? a=some o/\o.cls=.ref C
def KL(K:PySem.W.Frag)(a:Addr)(xs:MJ):Prop:=∃(o:Obj) (its:MH) (n:Nat),K.lookup a=some o/\o.cls=.type "list" /\ o.dict=none/\o.data=.seq its n/\its.size<=sizeLine/\aS xs its.toList
def rN:Fl->Addr->MD->MD->Prop
 |.own,a,fp',fp=>fp=a::fp'
 |_,_,fp',fp=>fp'=[]/\fp=[]
def HM(F B L:Mz):Fl->Mz
 |.own,_=>True
 |.frz,a=>F a
 |.bor,a=>B a
 |.lnt,a=>L a
 |.mod,_=>False
def l7(T:Tb)(F B L:Mz)(H:Hp):Fl->Addr->MJ->Prop
 |.own,a,vs=>H a=some (.lst vs)
 |.lnt,a,vs=>L a/\H a=some (.lst vs)
 |.frz,a,vs=>F a/\Rd H a (.lst vs)
 |.bor,a,vs=>B a/\Rd H a (.lst vs)
 |.mod,a,vs=>KL T.K a vs
def l7.sq(h:l7 T F B L H f a vs):SqL T.K H a vs:=by
 cases f with
 |own=>exact SqL.of h
 |lnt=>exact SqL.of h.2
 |frz|bor=>exact .inl h.2
 |mod=>exact .inr h
mutual
def Rel(T:Tb)(F B L:Mz)(H:Hp):PV->V->MD->Prop
 |.non,v,fp=>v=.non/\fp=[]
 |.bl b,v,fp=>v=.bl b/\fp=[]
 |.int i,v,fp=>v=.int i/\fp=[]
 |.str x,v,fp=>v=.str x/\fp=[]
 |.lst f xs,v,fp=>∃a vs fp',v=.ref a/\l7 T F B L H f a vs/\RelL T F B L H xs vs fp'/\rN f a fp' fp
 |.tup xs,v,fp=>∃a vs,v=.ref a/\SqT T.K H a vs/\RelL T F B L H xs vs fp
 |.obj f c ks xs,v,fp=>∃a dx vs fp',v=.ref a/\H a=some (.ins (T.cls c) dx ((ks.map T.att).zip vs))/\(ks.length=xs.length/\c<T.nc)/\RelL T F B L H xs vs fp'/\rN f a fp' fp/\HM F B L f a
 |.exc c,v,fp=>∃a,v=.ref a/\H a=some (Mm (T.xcl c) a)/\fp=[]
 |.box k xs,v,fp=>∃a vs,v=.ref a/\T.bx k H a vs/\RelL T F B L H xs vs fp
def RelL(T:Tb)(F B L:Mz)(H:Hp):ML->MJ->MD->Prop
 | [],vs,fp=>vs=[]/\fp=[]
 |x::xs,vs,fp=>∃v ws f1 f2,vs=v::ws/\Rel T F B L H x v f1/\RelL T F B L H xs ws f2/\fp=f1++f2
end
def iB:HO->Prop
 |.tup _|.frz _ _|.ext _=>True
 |_=>False
section
variable{T:Tb}{F F' B B' L L':Mz}{H H':Hp}
def Rd.tr(h:∀o,H a=some o->H' a=some o)(q:Rd H a u):Rd H' a u:=by
 rcases q with q |⟨o,q⟩
 .exact .inl (h _ q)
 .exact .inr ⟨o,h _ q⟩
def SqT.tr(h:∀o,H a=some o->iB o->H' a=some o)(q:SqT K H a vs):SqT K H' a vs:=by
 rcases q with(q |⟨o,q⟩)|q
 .exact .inl (.inl (h _ q True.intro))
 .exact .inl (.inr ⟨o,h _ q True.intro⟩)
 .exact .inr q
theorem RelL.length:∀{xs:ML}{vs:MJ}{fp:MD},RelL T F B L H xs vs fp->xs.length=vs.length
 | [],_,_,h=>by rw[h.1];rfl
 |x::xs,_,_,h=>by obtain⟨v,ws,f1,f2,rfl,_,h2,_⟩:=h;simp[RelL.length h2]
theorem rN.all{P:Mz}(h:rN f a fp' fp)(hp:∀b∈fp,P b):(f=.own->P a)/\∀b∈fp',P b:=by
 cases f with
 |own=>
  obtain rfl:fp=a::fp':=h
  grind
 |_=>exact⟨λz=>(nomatch z),by rw[h.1];exact λ_ z=>nomatch z⟩
structure Mp(T:Tb)(g:Fl->Fl)(p:Fl->Bool)(E:MD->MD)(C F B L:Mz)(H:Hp)(F' B' L':Mz)(H':Hp):Prop where
 hl:∀f a vs,p f=false->(f=.own->C a)->l7 T F B L H f a vs->l7 T F' B' L' H' (g f) a vs
 hb:∀f a,p f=false->(f=.own->C a)->HM F B L f a->HM F' B' L' (g f) a/\∀o,H a=some o->H' a=some o
 hf:∀f a x y,rN f a x y->rN (g f) a (E x) (E y)
 he:E []=[]
 ha:∀x y,E (x++y)=E x++E y
 hx:∀a o,H a=some o->iB o->H' a=some o
mutual
theorem Mp.rel(M:Mp T g p E C F B L H F' B' L' H') :
  ∀{x:PV}{v:V}{fp:MD},x.has p=false->(∀a∈fp,C a)->Rel T F B L H x v fp->Rel T F' B' L' H' (x.MY g) v (E fp)
 |.non,_,_,_,_,h|.bl _,_,_,_,_,h|.int _,_,_,_,_,h|.str _,_,_,_,_,h=>by unfold Rel at h;simp only[PV.MY];unfold Rel;exact⟨h.1,by rw[h.2,M.he]⟩
 |.lst f xs,_,fp,hp,hc,h=>by unfold Rel at h;obtain⟨a,vs,fp',e,h1,h2,h3⟩:=h;simp only[PV.has,or_eq_false_iff]at hp;obtain⟨c1,c2⟩:=h3.all hc;simp only[PV.MY];unfold Rel;exact⟨a,vs,E fp',e,M.hl f a vs hp.1 c1 h1,Mp.rels M hp.2 c2 h2,M.hf f a fp' fp h3⟩
 |.tup xs,_,fp,hp,hc,h=>by unfold Rel at h;obtain⟨a,vs,e,h1,h2⟩:=h;simp only[PV.MY];unfold Rel;exact⟨a,vs,e,SqT.tr (λo q z=>M.hx a o q z) h1,Mp.rels M hp hc h2⟩
 |.obj f c ks xs,_,fp,hp,hc,h=>by unfold Rel at h;obtain⟨a,dx,vs,fp',e,h1,hk,h2,h3,h4⟩:=h;simp only[PV.has,or_eq_false_iff]at hp;obtain⟨c1,c2⟩:=h3.all hc;obtain⟨q1,q2⟩:=M.hb f a hp.1 c1 h4;simp only[PV.MY];unfold Rel;have r:=Mp.rels M hp.2 c2 h2;exact⟨a,dx,vs,E fp',e,q2 _ h1,⟨by rw[r.length,hk.1,h2.length],hk.2⟩,r,M.hf f a fp' fp h3,q1⟩
 |.exc c,_,fp,_,_,h=>by unfold Rel at h;obtain⟨a,e,h1,rfl⟩:=h;simp only[PV.MY];unfold Rel;exact⟨a,e,M.hx a _ h1 True.intro,M.he⟩
 |.box k xs,_,fp,hp,hc,h=>by unfold Rel at h;obtain⟨a,vs,e,h1,h2⟩:=h;simp only[PV.MY];unfold Rel;exact⟨a,vs,e,T.bxs k H H' a vs (λb o u q=>M.hx b _ q True.intro) h1,Mp.rels M hp hc h2⟩
theorem Mp.rels(M:Mp T g p E C F B L H F' B' L' H') :
  ∀{xs:ML}{vs:MJ}{fp:MD},hasL p xs=false->(∀a∈fp,C a)->RelL T F B L H xs vs fp->RelL T F' B' L' H' (mapL g xs) vs (E fp)
 | [],_,_,_,_,h=>by unfold RelL at h;simp only[mapL];unfold RelL;exact⟨h.1,by rw[h.2,M.he]⟩
 |x::xs,_,fp,hp,hc,h=>by unfold RelL at h;obtain⟨v,ws,f1,f2,e,h1,h2,rfl⟩:=h;simp only[hasL,or_eq_false_iff]at hp;simp only[mapL];unfold RelL;exact⟨v,ws,E f1,E f2,e,Mp.rel M hp.1 (λb hb=>hc b (mem_append_left _ hb)) h1,Mp.rels M hp.2 (λb hb=>hc b (mem_append_right _ hb)) h2,M.ha f1 f2⟩
end
mutual
theorem kI:∀x:PV,x.MY (λf=>f)=x
 |.non|.bl _|.int _|.str _|.exc _=>rfl
 |.lst f xs|.tup xs|.obj f c ks xs|.box k xs=>by simp only[PV.MY,mapL_id xs]
theorem mapL_id:∀xs:ML,mapL (λf=>f) xs=xs
 | []=>rfl
 |x::xs=>by simp only[mapL,kI x,mapL_id xs]
end
mutual
theorem lM:∀x:PV,x.has (λ_=>false)=false
 |.non|.bl _|.int _|.str _|.exc _=>rfl
 |.lst f xs=>by simp only[PV.has,has_noL xs,Bool.or_false]
 |.tup xs=>by simp only[PV.has,has_noL xs]
 |.obj f c ks xs=>by simp only[PV.has,has_noL xs,Bool.or_false]
 |.box k xs=>by simp only[PV.has,has_noL xs]
theorem has_noL:∀xs:ML,hasL (λ_=>false) xs=false
 | []=>rfl
 |x::xs=>by simp only[hasL,lM x,has_noL xs,Bool.or_false]
end
def Eb(hF:∀a,F a->F' a)(hB:∀a,B a->B' a)(hL:∀a,L a->L' a)(hx:∀a o,H a=some o->(F a\/B a\/L a\/iB o)->H' a=some o):Mp T (λf=>f) (λ_=>false) (λx=>x) (λa=>∀o,H a=some o->H' a=some o) F B L H F' B' L' H':=
 ⟨λf a vs _ c h=>by
  cases f with
  |own=>exact c rfl _ h
  |frz=>exact⟨hF a h.1,Rd.tr (λo q=>hx a o q (.inl h.1)) h.2⟩
  |bor=>exact⟨hB a h.1,Rd.tr (λo q=>hx a o q (.inr (.inl h.1))) h.2⟩
  |lnt=>exact⟨hL a h.1,hx a _ h.2 (.inr (.inr (.inl h.1)))⟩
  |mod=>exact h,λf a _ c h=>by
  cases f with
  |own=>exact⟨True.intro,c rfl⟩
  |frz=>exact⟨hF a h,λo q=>hx a o q (.inl h)⟩
  |bor=>exact⟨hB a h,λo q=>hx a o q (.inr (.inl h))⟩
  |lnt=>exact⟨hL a h,λo q=>hx a o q (.inr (.inr (.inl h)))⟩
  |mod=>exact h.elim,λ_ _ _ _ h=>h,rfl,λ_ _=>rfl,λa o q z=>hx a o q (.inr (.inr (.inr z)))⟩
def Rel.tr(hF:∀a,F a->F' a)(hB:∀a,B a->B' a)(hL:∀a,L a->L' a)(hx:∀a o,H a=some o->(F a\/B a\/L a\/iB o)->H' a=some o)(hp:∀a∈fp,∀o,H a=some o->H' a=some o)(h:Rel T F B L H x v fp):Rel T F' B' L' H' x v fp:=by
 have:=(Eb hF hB hL hx).rel (lM x) hp h
 rwa [kI]at this
def RelL.tr(hF:∀a,F a->F' a)(hB:∀a,B a->B' a)(hL:∀a,L a->L' a)(hx:∀a o,H a=some o->(F a\/B a\/L a\/iB o)->H' a=some o)(hp:∀a∈fp,∀o,H a=some o->H' a=some o)(h:RelL T F B L H x v fp):RelL T F' B' L' H' x v fp:=by
 have:=(Eb hF hB hL hx).rels (has_noL x) hp h
 rwa [mapL_id]at this
def Ext(H H':Hp):Prop:=∀a o,H a=some o->H' a=some o
def Ext.refl:Ext H H:=λ_ _ h=>h
def Ext.trans(a:Ext H H1)(b:Ext H1 H2):Ext H H2:=λc o h=>b c o (a c o h)
def Ext.upd(h:H a=none):Ext H (L2.upd H a o):=λb u e=>by rw[aT (bR e h)];exact e
def Ext.free(x:Ext H H')(h:H' a=none):H a=none:=by
 cases e:H a with
 |none=>rfl
 |some o=>rw[x a o e]at h;cases h
def Rel.ext(e:Ext H H')(hF:∀a,F a->F' a)(h:Rel T F B L H x v fp):Rel T F' B L H' x v fp:=
 Rel.tr hF (λ_ h=>h) (λ_ h=>h) (λa o q _=>e a o q) (λa _ o q=>e a o q) h
def RelL.ext(e:Ext H H')(hF:∀a,F a->F' a)(h:RelL T F B L H xs vs fp):RelL T F' B L H' xs vs fp:=
 RelL.tr hF (λ_ h=>h) (λ_ h=>h) (λa o q _=>e a o q) (λa _ o q=>e a o q) h
def Chg:HO->Prop
 |.lst _|.ins _ _ _=>True
 |_=>False
mutual
theorem Rel.chg:∀{x:PV}{v:V}{fp:MD},Rel T F B L H x v fp->∀a∈fp,∃o,H a=some o/\Chg o
 |.non,_,_,h|.bl _,_,_,h|.int _,_,_,h|.str _,_,_,h=>by unfold Rel at h;rw[h.2];exact λ_ z=>nomatch z
 |.lst f xs,_,fp,h=>by
  unfold Rel at h;obtain⟨a,vs,fp',e,hl,hr,hf⟩:=h;cases f with
  |own=>
   obtain rfl:fp=a::fp':=hf;intro b hb;rcases mem_cons.mp hb with rfl|hb
   .exact⟨_,hl,True.intro⟩
   .exact RelL.chg hr b hb
  |frz|bor|lnt|mod=>obtain⟨rfl,rfl⟩:=hf;exact λ_ z=>nomatch z
 |.tup xs,_,fp,h=>by unfold Rel at h;obtain⟨a,vs,e,hl,hr⟩:=h;exact RelL.chg hr
 |.obj f c ks xs,_,fp,h=>by
  unfold Rel at h;obtain⟨a,dx,vs,fp',e,hl,hk,hr,hf,ha⟩:=h;cases f with
  |own=>
   obtain rfl:fp=a::fp':=hf;intro b hb;rcases mem_cons.mp hb with rfl|hb
   .exact⟨_,hl,True.intro⟩
   .exact RelL.chg hr b hb
  |frz|bor|lnt|mod=>obtain⟨rfl,rfl⟩:=hf;exact λ_ z=>nomatch z
 |.exc c,_,fp,h=>by unfold Rel at h;obtain⟨a,e,hl,rfl⟩:=h;exact λ_ z=>nomatch z
 |.box k xs,_,fp,h=>by unfold Rel at h;obtain⟨a,vs,e,hl,hr⟩:=h;exact RelL.chg hr
theorem RelL.chg:∀{xs:ML}{vs:MJ}{fp:MD},RelL T F B L H xs vs fp->∀a∈fp,∃o,H a=some o/\Chg o
 | [],_,_,h=>by unfold RelL at h;rw[h.2];exact λ_ z=>nomatch z
 |x::xs,_,_,h=>by
  unfold RelL at h;obtain⟨v,ws,f1,f2,_,h1,h2,rfl⟩:=h;intro b hb;rcases mem_append.mp hb with hb|hb
  .exact Rel.chg h1 b hb
  .exact RelL.chg h2 b hb
end
def Rel.there(h:Rel T F B L H x v fp)(a:Addr)(ha:a∈fp):∃o,H a=some o:=let⟨o,q,_⟩:=h.chg a ha;⟨o,q⟩
def RelL.there(h:RelL T F B L H xs vs fp)(a:Addr)(ha:a∈fp):∃o,H a=some o:=let⟨o,q,_⟩:=h.chg a ha;⟨o,q⟩
def CA:Mp T Fl.MN (λ_=>false) (λ_=>[]) L F B L H F B L H:=
 ⟨λf a vs _ c h=>by
  cases f with
  |own=>exact⟨c rfl,h⟩
  | _=>exact h,λf a _ c h=>⟨by
  cases f with
  |own=>exact c rfl
  |_=>exact h,λ_ q=>q⟩,λf a x y h=>by cases f<;>exact⟨rfl,rfl⟩,rfl,λ_ _=>rfl,λ_ _ q _=>q⟩
def Rel.MN(hp:∀a∈fp,L a)(h:Rel T F B L H x v fp):Rel T F B L H (x.MY Fl.MN) v []:=CA.rel (lM x) hp h
end
end PR
namespace L2
open PySem PySem.Spec
def PE.wk(h:PE X e t)(w:∀Y H Q,t' Y H Q->t Y H Q):PE X e t':=λjs s Y H Q I q=>h js s Y H Q I (w Y H Q q)
def PA.wk(h:PA X e t)(w:∀Y H Q,t' Y H Q->t Y H Q):PA X e t':=λpos js s Y H Q I q=>h pos js s Y H Q I (w Y H Q q)
def PT.wk(h:PT X e t)(w:∀Y H Q,t' Y H Q->t Y H Q):PT X e t':=λjs s Y H Q I q=>h js s Y H Q I (w Y H Q q)
def PW.wk(h:PW X e t)(w:∀Y H Q,t' Y H Q->t Y H Q):PW X e t':=λwh js s Y H Q I q=>h wh js s Y H Q I (w Y H Q q)
def PS.wk(h:PS X e t)(w:∀D Y H,t' D Y H->t D Y H):PS X e t':=λjs s Y H D I q=>h js s Y H D I (w D Y H q)
def PSs.wk(h:PSs X e t)(w:∀D Y H,t' D Y H->t D Y H):PSs X e t':=λjs s Y H D I q=>h js s Y H D I (w D Y H q)
end L2
namespace PR
open PySem PySem.Spec L2
structure Zn where
 H0:Hp
 F0:Mz
 fp0:Mz
 B:Mz
 pin:Option V:=none
abbrev NoL:Mz:=λ_=>False
def DS(T:Tb)(H:Hp)(f:Mz):Prop:=∀a ps,T.tb a=some ps->H a=some (.tbl ps)/\¬f a
structure b9(T:Tb)(Z:Zn)(F:Mz)(H:Hp):Prop where
 bo:(∀a,Z.B a->(∃o,Z.H0 a=some o)/\¬Z.fp0 a)/\DS T Z.H0 Z.fp0
 keep:∀a o,Z.H0 a=some o->¬Z.fp0 a->H a=some o
 f0:∀a,Z.F0 a->F a
 fn:∀a,F a->Z.F0 a\/Z.H0 a=none\/Z.fp0 a
 ft:∀a,F a->∃o,H a=some o
structure ax(T:Tb)(Z:Zn)(F:Mz)(H:Hp)(Y:St)(env:En)(fp:Nat->MD):Prop where
 hp:b9 T Z F H
 len:Y.length=env.length
 rel:∀(i:Nat) (pv:PV),env[i]?=some (some pv)->∃v,Y[i]?=some (some v)/\Rel T F Z.B NoL H pv v (fp i)
 nd:∀i,(fp i).Nodup
 dj:∀i j,i≠j->∀a∈fp i,a∉fp j
 dis:∀i,∀a∈fp i,¬F a/\∃o,H a=some o
 new:∀i,∀a∈fp i,Z.H0 a=none\/Z.fp0 a
 ch:∀i,∀a∈fp i,∃o,H a=some o/\Chg o
 pn:∀v,Z.pin=some v->Y[0]?=some (some v)/\d5 env=true
def Own(fp:Nat->MD):Mz:=λa=>∃i,a∈fp i
structure Gr(F:Mz)(H:Hp)(F':Mz)(H':Hp):Prop where
 ext:Ext H H'
 mono:∀a,F a->F' a
 only:∀a,F' a->F a\/H a=none
 dom:∀a,F' a->∃o,H' a=some o
def Gr.refl(h:∀a,F a->∃o,H a=some o):Gr F H F H:=⟨Ext.refl,λ_ h=>h,λ_ h=>.inl h,h⟩
def Gr.trans(a:Gr F H F1 H1)(b:Gr F1 H1 F2 H2):Gr F H F2 H2:=
 ⟨a.ext.trans b.ext,λc h=>b.mono c (a.mono c h),λc h=>(b.only c h).elim (a.only c) λz=>.inr (a.ext.free z),b.dom⟩
def Gr.same(h:∀a,F a->∃o,H a=some o)(e:Ext H H'):Gr F H F H':=⟨e,λ_ h=>h,λ_ h=>.inl h,λa q=>let⟨o,z⟩:=h a q;⟨o,e a o z⟩⟩
section
variable{T:Tb}{Z:Zn}{F F':Mz}{H H':Hp}{Y:St}{env:En}{fp:Nat->MD}
def b9.tb(S:b9 T Z F H)(h:T.tb a=some ps):H a=some (.tbl ps):=let⟨h1,h2⟩:=S.bo.2 a ps h;S.keep a _ h1 h2
def ax.tbo(S:ax T Z F H Y env fp)(e:Ext H H')(hn:∀ a,f a->H a=none \/ Own fp a):DS T H' f:=λa ps h=>⟨e a _ (S.hp.tb h),λz=>by
 have q:=S.hp.tb h;rcases hn a z with n |⟨i,hi⟩
 .rw[q]at n;cases n
 .obtain⟨o,h1,h2⟩:=S.ch i a hi;rw[q]at h1;cases h1;exact h2⟩
def b9.grow(S:b9 T Z F H)(g:Gr F H F' H'):b9 T Z F' H':=
 ⟨S.bo,λa o h n=>g.ext a o (S.keep a o h n),λa h=>g.mono a (S.f0 a h),λa h=>by
  rcases g.only a h with z|z
  .exact S.fn a z
  .refine .inr ?_;by_cases q:Z.fp0 a
   .exact .inr q
   .refine .inl ?_;cases w:Z.H0 a with
    |none=>rfl
    |some o=>rw[S.keep a o w q]at z;exact(nomatch z),g.dom⟩
def ax.grow(S:ax T Z F H Y env fp)(g:Gr F H F' H'):ax T Z F' H' Y env fp:=
 ⟨S.hp.grow g,S.len,λi pv h=>let ⟨v,q1,q2⟩:=S.rel i pv h;⟨v,q1,q2.ext g.ext g.mono⟩,S.nd,S.dj,λi a h=>by
  obtain⟨n,o,q⟩:=S.dis i a h;refine⟨λz=>?_,o,g.ext a o q⟩;rcases g.only a z with z|z
  .exact n z
  .rw[q]at z;exact(nomatch z),S.new,λi a h=>let⟨o,q,c⟩:=S.ch i a h;⟨o,g.ext a o q,c⟩,S.pn⟩
end
def GE(T:Tb)(W:Nat->St->MK)(B F L:Mz)(Y:St)(H:Hp)(Q:VK):MM->Prop
 |.ok pv=>∀v H' F' f,Gr F H F' H'->Rel T F' B L H' pv v f->(∀a∈f,¬F' a)->f.Nodup->(∀a∈f,H a=none)->Q v H'
 |.exc c=>∀H',Ext H H'->W c Y H'
 |.stuck=>False
def GA(T:Tb)(W:Nat->St->MK)(B F L:Mz)(Y:St)(H:Hp)(Q:MJ->MK):Res (ML)->Prop
 |.ok pvs=>∀vs H' F' f,Gr F H F' H'->RelL T F' B L H' pvs vs f->(∀a∈f,¬F' a)->f.Nodup->(∀a∈f,H a=none)->Q vs H'
 |.exc c=>∀H',Ext H H'->W c Y H'
 |.stuck=>False
def GT(W:Nat->St->MK)(F:Mz)(Y:St)(H:Hp)(Q:Bool->MK):Res Bool->Prop
 |.ok b=>∀H' F',Gr F H F' H'->Q b H'
 |.exc c=>∀H',Ext H H'->W c Y H'
 |.stuck=>False
def tE(T:Tb)(W:Nat->St->MK)(m:ME):TE:=λY H Q=>∃Z F env fp,ax T Z F H Y env fp/\GE T W Z.B F (Own fp) Y H Q (m env)
def tA(T:Tb)(W:Nat->St->MK)(m:MA):TA:=λY H Q=>∃Z F env fp,ax T Z F H Y env fp/\GA T W Z.B F (Own fp) Y H Q (m env)
def tT(T:Tb)(W:Nat->St->MK)(m:MT):TT:=λY H Q=>∃Z F env fp,ax T Z F H Y env fp/\GT W F Y H Q (m env)
abbrev SE(X:Cx)(T:Tb)(W:Nat->St->MK)(e:Expr)(m:ME):Prop:=PE X e (tE T W m)
abbrev SA(X:Cx)(T:Tb)(W:Nat->St->MK)(es:List Expr)(m:MA):Prop:=PA X es (tA T W m)
abbrev ST(X:Cx)(T:Tb)(W:Nat->St->MK)(e:Expr)(m:MT):Prop:=PT X e (tT T W m)
section
variable{X:Cx}{T:Tb}{W:Nat->St->MK}{Z:Zn}{F F' B L:Mz}{H H':Hp}{Y:St}{env:En}{fp:Nat->MD}
def GE.scal{Q:VK}{pv:PV}{v:V}(q:GE T W B F L Y H Q (.ok pv))(g:Gr F H F' H')(r:Rel T F' B L H' pv v []):Q v H':=
 q v H' F' [] g r (λ_ z=>(nomatch z)) nodup_nil (λ_ z=>(nomatch z))
def iG{v:V}{pv:PV}(h:PE X e (tC v))(r:∀F B L H,Rel T F B L H pv v []):SE X T W e (mC pv):=PE.wk h λY H Q ⟨Z,F,env,fp,S,q⟩=>q.scal (Gr.refl S.hp.ft) (r _ _ _ _)
def FF{i j pos}:SE X T W (.Constant (.int i) j pos) (mC (.int i)):=iG yU λ_ _ _ _=>by exact⟨rfl,rfl⟩
def IR{b j pos}:SE X T W (.Constant (.bool b) j pos) (mC (.bl b)):=iG Jb λ_ _ _ _=>by exact⟨rfl,rfl⟩
def Fs{j pos}:SE X T W (.Constant .none j pos) (mC .non):=iG yT λ_ _ _ _=>by exact⟨rfl,rfl⟩
def Fo{x j pos}:SE X T W (.Constant (.str x) j pos) (mC (.str x)):=iG yS λ_ _ _ _=>by unfold Rel;exact⟨rfl,rfl⟩
def Fj(hN:X.N[i]?=some x)(hv:Vis X.env.scope x)(hd:Nd x:=by decide)(hcd:Nc x:=by decide):SE X T W (.Name x pos) (aa i):=
 PE.wk (gx hN hv hd hcd) λY H Q hz1=>by
  walk_at "b";unfold aa at q;split at q
  .rename_i pv e
   obtain⟨v,e1,r⟩:=S.rel i pv e;refine⟨v,e1,q.scal (Gr.refl S.hp.ft) ?_⟩;exact Rel.MN (λa h=>⟨i,h⟩) (Rel.tr (λ_ h=>h) (λ_ h=>h) (λ_ h=>h.elim) (λa o q _=>q) (λa _ o q=>q) r)
  .exact q.elim
def tE.bind(S:ax T Z F H Y env fp)(hx:∀c,m env=.exc c->∀H',Ext H H'->W c Y H')(hs:m env≠.stuck)
  (k:∀pv v H' F' f,m env=.ok pv->Gr F H F' H'->Rel T F' Z.B (Own fp) H' pv v f->(∀a∈f,¬F' a)->f.Nodup->(∀a∈f,H a=none)->Q v H'):tE T W m Y H Q:=by
 refine⟨Z,F,env,fp,S,?_⟩;cases e:m env with
 |ok pv=>exact λv H' F' f g r h1 h2 h3=>k pv v H' F' f e g r h1 h2 h3
 |exc c=>exact hx c e
 |stuck=>exact hs e
def tE.bq(S:ax T Z F H Y env fp)(k:∀pv v H' F' f,m env=.ok pv->Gr F H F' H'->Rel T F' Z.B (Own fp) H' pv v f->(∀a∈f,¬F' a)->f.Nodup->(∀a∈f,H a=none)->Q v H')(hx:∀c,m env=.exc c->∀H',Ext H H'->W c Y H':=by exact λc e=>by rw[e]at q;exact q)(hs:m env≠.stuck:=by exact λe=>by rw[e]at q;exact q):tE T W m Y H Q:=tE.bind S hx hs k
def tA.bind(S:ax T Z F H Y env fp)(hx:∀c,m env=.exc c->∀H',Ext H H'->W c Y H')(hs:m env≠.stuck)
  (k:∀pvs vs H' F' f,m env=.ok pvs->Gr F H F' H'->RelL T F' Z.B (Own fp) H' pvs vs f->(∀a∈f,¬F' a)->f.Nodup->(∀a∈f,H a=none)->Q vs H'):tA T W m Y H Q:=by
 refine⟨Z,F,env,fp,S,?_⟩;cases e:m env with
 |ok pv=>exact λv H' F' f g r h1 h2 h3=>k pv v H' F' f e g r h1 h2 h3
 |exc c=>exact hx c e
 |stuck=>exact hs e
def tA.bq(S:ax T Z F H Y env fp)(k:∀pvs vs H' F' f,m env=.ok pvs->Gr F H F' H'->RelL T F' Z.B (Own fp) H' pvs vs f->(∀a∈f,¬F' a)->f.Nodup->(∀a∈f,H a=none)->Q vs H')(hx:∀c,m env=.exc c->∀H',Ext H H'->W c Y H':=by exact λc e=>by rw[e]at q;exact q)(hs:m env≠.stuck:=by exact λe=>by rw[e]at q;exact q):tA T W m Y H Q:=tA.bind S hx hs k
def tT.bind(S:ax T Z F H Y env fp)(hx:∀c,m env=.exc c->∀H',Ext H H'->W c Y H')(hs:m env≠.stuck)
  (k:∀b H' F',m env=.ok b->Gr F H F' H'->Q b H'):tT T W m Y H Q:=by
 refine⟨Z,F,env,fp,S,?_⟩;cases e:m env with
 |ok pv=>exact λH' F' g=>k pv H' F' e g
 |exc c=>exact hx c e
 |stuck=>exact hs e
def cN:SA X T W [] ae:=PA.wk e_ λY H Q ⟨Z,F,env,fp,S,q⟩=>q [] H F [] (Gr.refl S.hp.ft) (by exact⟨rfl,rfl⟩) (λ_ z=>(nomatch z)) nodup_nil (λ_ z=>(nomatch z))
def bU(ha:SE X T W e m)(hr:SA X T W es ms)(hs:starEach (e::es) X.env=(false,eval e X.env)::starEach es X.env:=by rfl):SA X T W (e::es) (ab m ms):=
 PA.wk (cy ha hr hs) λY H Q hz1=>by
  walk_at "b";unfold ab at q;walk_at "a";refine tA.bind (S.grow g1) (λc e=>by rw[e]at q;exact λH' x=>q H' (g1.ext.trans x)) (λe=>by rw[e]at q;exact q) λxs vs H2 F2 f2 e2 g2 r2 n2 d2 w2=>?_;rw[e2]at q;have new1:∀a∈f1,¬F2 a:=λa ha z=>by
   rcases g2.only a z with z|z
   .exact n1 a ha z
   .obtain⟨o,ho⟩:=r1.there a ha;rw[ho]at z;cases z
  refine q (v::vs) H2 F2 (f1++f2) (g1.trans g2) (by exact⟨v,vs,f1,f2,rfl,r1.ext g2.ext g2.mono,r2,rfl⟩) (λa ha=>?_) ?_ (λa ha=>?_)
  .rcases mem_append.mp ha with ha|ha
   .exact new1 a ha
   .exact n2 a ha
  .refine nodup_append.mpr ⟨d1,d2,λa ha b hb z=>?_⟩;subst z;obtain⟨o,ho⟩:=r1.there a ha;rw[w2 a hb]at ho;cases ho
  .rcases mem_append.mp ha with ha|ha
   .exact w1 a ha
   .exact g1.ext.free (w2 a ha)
def af(f:ML->MM)(ms:MA):ME:=λenv=>(ms env).bind f
def Mir(T:Tb)(W:Nat->St->MK)(f:ML->MM)(r:MJ->Hp->VK->Prop):Prop:=
 ∀(B F L:Mz) (Y:St) (H:Hp) (Q:VK) (F':Mz) (H':Hp) (xs:ML) (vs:MJ) (fx:MD),Gr F H F' H'->RelL T F' B L H' xs vs fx->(∀a∈fx,¬F' a)->fx.Nodup->(∀a∈fx,H a=none)->
  GE T W B F L Y H Q (f xs)->r vs H' Q
def tA.mir(hm:Mir T W f r)(h:tE T W (af f ms) Y H Q):tA T W ms Y H λvs H1=>r vs H1 Q:=by obtain⟨Z,F,env,fp,S,q⟩:=h;unfold af at q;refine tA.bq S λxs vs H1 F1 f1 e1 g1 r1 n1 d1 w1=>?_;rw[e1]at q;exact hm Z.B F (Own fp) Y H Q F1 H1 xs vs f1 g1 r1 n1 d1 w1 q
def d_{id:String}{x:Str}{es:List Expr}{f:ML->MM}{r:MJ->Hp->VK->Prop}(hc:dr X (.builtin id) r)(hmir:Mir T W f r)(hg:Gl X x)(hm:X.mg x=none)(hv:bootBuiltins x=some (.builtin id))(ha:SA X T W (e::es) ms)
  (hn:x≠"__name__":=by decide) (hdb:Nd x:=by decide)
  (he:starEach (e::es) X.env=(false,eval e X.env)::starEach es X.env:=by rfl) (hpl:(backTo pos (starEach es X.env)).any (·.1)=false:=by rfl):SE X T W (.Call (.Name x p) (e::es) [] pos) (af f ms):=
 PE.wk (jb hc hg hm hv ha hn hdb he hpl) λY H Q h=>tA.mir hmir h
def eV{id:String}{x:Str}{es:List Expr}{f:ML->MM}{r:MJ->Hp->VK->Prop}(hc:dr X (.type id) r)(hmir:Mir T W f r)(hg:Gl X x)(hm:X.mg x=none)(hv:bootBuiltins x=some (.type id))(ha:SA X T W (e::es) ms)
  (hn:x≠"__name__":=by decide) (hdb:Nd x:=by decide)
  (he:starEach (e::es) X.env=(false,eval e X.env)::starEach es X.env:=by rfl) (hpl:(backTo pos (starEach es X.env)).any (·.1)=false:=by rfl):SE X T W (.Call (.Name x p) (e::es) [] pos) (af f ms):=
 PE.wk (m8 hc hg hm hv ha hn hdb he hpl) λY H Q h=>tA.mir hmir h
def ip(T:Tb)(W:Nat->St->MK)(f:PV->PV->MM)(r:R2):Prop:=
 ∀(B F L:Mz) (Y:St) (H:Hp) (Q:VK) (F':Mz) (H':Hp) (x y:PV) (v u:V) (fx fy:MD),Gr F H F' H'->Rel T F' B L H' x v fx->Rel T F' B L H' y u fy->(∀a∈fx++fy,¬F' a)->(fx++fy).Nodup->(∀a∈fx++fy,H a=none)->
  GE T W B F L Y H Q (f x y)->r v u H' Q
def tE.mir2(hm:ip T W f r)(h:tE T W (mOp f ma mb) Y H Q):tOp r (tE T W ma) (tE T W mb) Y H Q:=by
 obtain⟨Z,F,env,fp,S,q⟩:=h;unfold mOp at q;walk_at "a";refine tE.bind (S.grow g1) (λc e=>by rw[e]at q;exact λH' x=>q H' (g1.ext.trans x)) (λe=>by rw[e]at q;exact q) λy u H2 F2 f2 e2 g2 r2 n2 d2 w2=>?_;rw[e2]at q;have new1:∀a∈f1,¬F2 a:=λa ha z=>by
  rcases g2.only a z with z|z
  .exact n1 a ha z
  .obtain⟨o,ho⟩:=r1.there a ha;rw[ho]at z;cases z
 refine hm Z.B F (Own fp) Y H Q F2 H2 x y v u f1 f2 (g1.trans g2) (r1.ext g2.ext g2.mono) r2 (λa ha=>?_) ?_ (λa ha=>?_) q
 .rcases mem_append.mp ha with ha|ha
  .exact new1 a ha
  .exact n2 a ha
 .refine nodup_append.mpr ⟨d1,d2,λa ha b hb z=>?_⟩;subst z;obtain⟨o,ho⟩:=r1.there a ha;rw[w2 a hb]at ho;cases ho
 .rcases mem_append.mp ha with ha|ha
  .exact w1 a ha
  .exact g1.ext.free (w2 a ha)
def ka(ho:OpR X (binaryOp op) r)(hm:ip T W f r)(ha:SE X T W a ma)(hb:SE X T W b mb):SE X T W (.BinOp a op b pos) (mOp f ma mb):=
 PE.wk (Ja ho ha hb) λY H Q h=>tE.mir2 hm h
def kU(ho:OpR X (compareOp op) r)(hm:ip T W f r)(ha:SE X T W a ma)(hb:SE X T W b mb)(hk:behindInMarks op b=false):SE X T W (.Compare a [op] [b] pos) (mOp f ma mb):=
 PE.wk (Cg ho ha hb hk) λY H Q h=>tE.mir2 hm h
def IN(hr:IxR X r)(hm:ip T W f r)(ha:SE X T W a ma)(hb:SE X T W b mb)(hs:jD b):SE X T W (.Subscript a b pos) (mOp f ma mb):=
 PE.wk (D8 hr ha hb hs) λY H Q h=>tE.mir2 hm h
def iP(hg:∀i j F B L H,Rel T F B L H (g' i j) (g i j) []):ip T W (lh g') (rI0 g):=by
  intro B F L Y H Q F' H' x y v u fx fy gr rx ry _ _ _ q;cases x<;>cases y<;>first
    |exact q.elim
    | (unfold Rel at rx ry
       exact⟨_,_,rx.1,ry.1,q.scal gr (hg _ _ _ _ _ _)⟩)
def uB(hc:∀i j,C' i j=true->C i j)(hg:∀i j F B L H,Rel T F B L H (g' i j) (g i j) []):ip T W (fO C' g') (rI C g):=by
  intro B F L Y H Q F' H' x y v u fx fy gr rx ry _ _ _ q;cases x<;>cases y<;>first
    |exact q.elim
    | (unfold Rel at rx ry
       simp only[fO]at q;split at q
       . rename_i hh
         exact⟨_,_,rx.1,ry.1,hc _ _ hh,q.scal gr (hg _ _ _ _ _ _)⟩
       . exact q.elim)
def dP:Rel T F B L H (.int i) (.int i) []:=by exact⟨rfl,rfl⟩
def fT:Rel T F B L H (.bl i) (.bl i) []:=by exact⟨rfl,rfl⟩
def IV:Rel T F B L H .non .non []:=by unfold Rel;exact⟨rfl,rfl⟩
def iK:PV->PV->MM:=lh λi j=>.int (i-j)
def bN:PV->PV->MM:=fO (λi j=>decide ((-(2 ^ 64)<i/\i<2 ^ 64)\/(-(2 ^ 64)<j/\j<2 ^ 64))) λi j=>.int (i*j)
def bQ:PV->PV->MM:=fO (λ_ j=>decide (0<j)) λi j=>.int (i%j)
def fg:PV->PV->MM:=fO (λ_ j=>decide (0<j/\j<1073741824)) λi j=>.int (i / j)
def kx:PV->PV->MM:=fO (λi j=>decide (0<=j/\j<=1000000/\i.natAbs<2 ^ 64)) λi j=>.int (i ^ j.toNat)
def pLt:PV->PV->MM:=lh λi j=>.bl (decide (i<j))
def pLe:PV->PV->MM:=lh λi j=>.bl (decide (i<=j))
def pGt:PV->PV->MM:=lh λi j=>.bl (decide (j<i))
def pGe:PV->PV->MM:=lh λi j=>.bl (decide (j<=i))
variable{a b:Expr}{ma mb:ME}{pos:Pos}
def Fn(ha:SE X T W a ma)(hb:SE X T W b mb):SE X T W (.BinOp a .Sub b pos) (mOp iK ma mb):=ka Gu (iP λ_ _ _ _ _ _=>dP) ha hb
def Fv(ha:SE X T W a ma)(hb:SE X T W b mb):SE X T W (.BinOp a .Mult b pos) (mOp bN ma mb):=ka Gx (uB (λi j h=>(by simpa using h:(-(2 ^ 64)<i/\i<2 ^ 64)\/(-(2 ^ 64)<j/\j<2 ^ 64))) λ_ _ _ _ _ _=>dP) ha hb
def Fx(ha:SE X T W a ma)(hb:SE X T W b mb):SE X T W (.BinOp a .Mod b pos) (mOp bQ ma mb):=ka Gy (uB (λ_ _ h=>of_decide_eq_true h) λ_ _ _ _ _ _=>dP) ha hb
def FK(ha:SE X T W a ma)(hb:SE X T W b mb):SE X T W (.BinOp a .FloorDiv b pos) (mOp fg ma mb):=ka Cn (uB (λi j h=>(by simpa using h:0<j/\j<1073741824)) λ_ _ _ _ _ _=>dP) ha hb
def Fp(ha:SE X T W a ma)(hb:SE X T W b mb):SE X T W (.BinOp a .Pow b pos) (mOp kx ma mb):=ka Gv (uB (λi j h=>(by simpa using h:0<=j/\j<=1000000/\i.natAbs<2 ^ 64)) λ_ _ _ _ _ _=>dP) ha hb
def IM(ha:SE X T W a ma)(hb:SE X T W b mb):SE X T W (.Compare a [.LtE] [b] pos) (mOp pLe ma mb):=kU D_ (iP λ_ _ _ _ _ _=>fT) ha hb (dZ _)
def IO(ha:SE X T W a ma)(hb:SE X T W b mb):SE X T W (.Compare a [.Gt] [b] pos) (mOp pGt ma mb):=kU Ea (iP λ_ _ _ _ _ _=>fT) ha hb (dZ _)
end
def GS(T:Tb)(W:Nat->St->MK)(Z:Zn)(D:Ends):Out->Prop
 |.next e=>∀F H Y fp,ax T Z F H Y e fp->D.nx Y H
 |.ret pv=>∀F H v f,b9 T Z F H->Rel T F Z.B NoL H pv v f->f.Nodup->(∀a∈f,¬F a)->(∀a∈f,Z.H0 a=none\/Z.fp0 a)->D.rt v H
 |.brk e=>∀F H Y fp,ax T Z F H Y e fp->D.bk Y H
 |.cont e=>∀F H Y fp,ax T Z F H Y e fp->D.ct Y H
 |.exc c e=>∀F H Y fp,ax T Z F H Y e fp->W c Y H
 |.stuck=>False
def tS(T:Tb)(W:Nat->St->MK)(m:MS):TS:=λD Y H=>∃Z F env fp,ax T Z F H Y env fp/\GS T W Z D (m env)
abbrev SS(X:Cx)(T:Tb)(W:Nat->St->MK)(st:Stmt)(m:MS):Prop:=PS X st (tS T W m)
abbrev SSs(X:Cx)(T:Tb)(W:Nat->St->MK)(sts:List Stmt)(m:MS):Prop:=PSs X sts (tS T W m)
def zk{p:Fl->Bool}(hL:p .lnt=false->∀a,L a->L' a)(hB:p .bor=false->∀a,B a->B' a):Mp T (λf=>f) p (λx=>x) (λ_=>True) F B L H F B' L' H:=
 ⟨λf a vs q _ h=>by
  cases f with
  |lnt=>exact⟨hL q a h.1,h.2⟩
  |bor=>exact⟨hB q a h.1,h.2⟩
  | _=>exact h,λf a q _ h=>⟨by
  cases f with
  |lnt=>exact hL q a h
  |bor=>exact hB q a h
  |_=>exact h,λ_ q=>q⟩,λ_ _ _ _ h=>h,rfl,λ_ _=>rfl,λ_ _ q _=>q⟩
def Rel.noL(hp:x.has Fl.MV=false)(h:Rel T F B L H x v fo):Rel T F B L' H x v fo:=by
 have:=(zk (p:=Fl.MV) (L':=L') (λz=>(nomatch z)) (λ_ _ q=>q)).rel hp (λ_ _=>True.intro) h
 rwa [kI]at this
def RelL.noL(hp:hasL Fl.MV x=false)(h:RelL T F B L H x v fo):RelL T F B L' H x v fo:=by
 have:=(zk (p:=Fl.MV) (L':=L') (λz=>(nomatch z)) (λ_ _ q=>q)).rels hp (λ_ _=>True.intro) h
 rwa [mapL_id]at this
section
variable{X:Cx}{T:Tb}{W:Nat->St->MK}{Z:Zn}{F F' B L:Mz}{H H':Hp}{Y:St}{env:En}{fp:Nat->MD}{D:Ends}
noncomputable def cv(fp:Nat->MD)(i:Nat)(f:MD):Nat->MD:=λj=>if j=i then f else fp j
theorem ax.put(S:ax T Z F H Y env fp){i:Nat}{pv:PV}{v:V}{f:MD}(r:Rel T F Z.B NoL H pv v f)(nd:f.Nodup)(nf:∀a∈f,¬F a)(new:∀a∈f,Z.H0 a=none\/Z.fp0 a)(dj:∀a∈f,∀j,j≠i->a∉fp j)(ho:aQ i env=true) :
  ax T Z F H (Y.set i (some v)) (env.set i (some pv)) (cv fp i f):=by
 refine⟨S.hp,by rw[length_set,length_set,S.len],λj pv' e=>?_,λj=>?_,λj k hjk a ha=>?_,λj a ha=>?_,λj a ha=>?_,λj a ha=>?_,λw hw=>?_⟩
 .grind[cv,ax,b9,Gr]
 .unfold cv;split
  .exact nd
  .exact S.nd j
 .grind[cv,ax,b9,Gr]
 .unfold cv at ha;by_cases h1:j=i
  .rw[if_pos h1]at ha;exact⟨nf a ha,r.there a ha⟩
  .rw[if_neg h1]at ha;exact S.dis j a ha
 .unfold cv at ha;by_cases h1:j=i
  .rw[if_pos h1]at ha;exact new a ha
  .rw[if_neg h1]at ha;exact S.new j a ha
 .unfold cv at ha;by_cases h1:j=i
  .rw[if_pos h1]at ha;exact r.chg a ha
  .rw[if_neg h1]at ha;exact S.ch j a ha
 .obtain⟨h1,h2⟩:=S.pn w hw;have hi:i≠0:=λz=>by rw[z]at ho;simp[aQ,h2]at ho
  refine⟨by simp_all,?_⟩;unfold d5 at h2 ⊢;rw[getElem?_set_ne hi];exact h2
def ax.putN(S:ax T Z F H Y env fp)(g:Gr F H F' H'){i:Nat}{pv:PV}{v:V}{f:MD}(ho:aQ i env=true)(r:Rel T F' Z.B L H' pv v f)(hl:pv.MX=true)(nf:∀a∈f,¬F' a)(nd:f.Nodup)(w:∀a∈f,H a=none) :
  ax T Z F' H' (Y.set i (some v)) (env.set i (some pv)) (cv fp i f):=by
 refine(S.grow g).put (Rel.noL (by simpa[PV.MX]using hl) r) nd nf (λa ha=>?_) (λa ha j _ hj=>?_) ho
 .by_cases q:Z.fp0 a
  .exact .inr q
  .refine .inl ?_;cases e:Z.H0 a with
   |none=>rfl
   |some o=>have:=S.hp.keep a o e q;rw[w a ha]at this;cases this
 .obtain⟨_,o,ho⟩:=S.dis j a hj;rw[w a ha]at ho;cases ho
def E5:SSs X T W [] aA:=PSs.wk B8 λD Y H ⟨Z,F,env,fp,S,q⟩=>q F H Y fp S
def Bm{bw:List Stmt}(h1:SS X T W st a)(h2:SSs X T W bw b):SSs X T W (st::bw) (ag a b):=
 PSs.wk (yH h1 h2) λD Y H hz1=>by
  walk_at "b";refine⟨Z,F,env,fp,S,?_⟩;unfold ag at q;cases e:a env with
  |next e'=>rw[e]at q;exact λF' H' σ' fp' S'=>⟨Z,F',e',fp',S',q⟩
  |ret v|brk e'|cont e'|exc c e'|stuck=>rw[e]at q;exact q
def E4(h1:SS X T W st a):SSs X T W [st] a:=B7 h1
def II(hc:ST X T W c mc)(ha:SSs X T W a ma)(hb:SSs X T W b mb):SS X T W (.If c a b pos) (mBr mc ma mb):=
 PS.wk (I0 hc ha hb) λD Y H hz1=>by
  walk_at "b";unfold mBr at q;refine tT.bind S (λc e H' x=>?_) (λe=>by rw[e]at q;exact q) λb H' F' e g=>?_
  .rw[e]at q;exact q F H' Y fp (S.grow (Gr.same S.hp.ft x))
  .cases b with
   |true=>rw[e]at q;exact(if_pos rfl).mpr ⟨Z,F',env,fp,S.grow g,q⟩
   |false=>rw[e]at q;exact(if_neg ()).mpr ⟨Z,F',env,fp,S.grow g,q⟩
def E2(hN:X.N.Nodup)(hi:X.N[i]?=some x)(hx:Loc X.env.scope x)(he:SE X T W e m)(hs:swapsWith e (some (.Name x pos')) pos.line X.env=pure false:=by rfl)
  (hf:Lce X.fn X.env x:=by first|exact .inl rfl|exact .inr rfl|assumption):SS X T W (.Assign [.Name x pos'] e pos) (aw i m):=
 PS.wk (Ga hN hi hx he hs hf) λD Y H hz1=>by
  walk_at "b";unfold aw at q;refine tE.bind S (λc e H' x=>?_) (λe=>by rw[e]at q;exact q) λpv v H1 F1 f e g r h1 h2 h3=>?_
  .rw[e]at q;exact q F H' Y fp (S.grow (Gr.same S.hp.ft x))
  .rw[e]at q;simp only at q;split at q
   .rename_i hl
    rw[and_eq_true]at hl;exact q F1 H1 _ _ (S.putN g hl.2 r hl.1 h1 h2 h3)
   .exact q.elim
def b9.newE(S:b9 T Z F H){f:MD}(w:∀a∈f,H a=none):∀a∈f,Z.H0 a=none\/Z.fp0 a:=λa ha=>by
 by_cases q:Z.fp0 a
 .exact .inr q
 .refine .inl ?_;cases e:Z.H0 a with
  |none=>rfl
  |some o=>have:=S.keep a o e q;rw[w a ha]at this;cases this
def E3(he:SE X T W e m):SS X T W (.Return (some e) pos) (aL m):=
 PS.wk (oI he) λD Y H hz1=>by
  walk_at "b";unfold aL at q;refine tE.bind S (λc e H' x=>?_) (λe=>by rw[e]at q;exact q) λpv v H1 F1 f e g r h1 h2 h3=>?_
  .rw[e]at q;exact q F H' Y fp (S.grow (Gr.same S.hp.ft x))
  .rw[e]at q;simp only at q;split at q
   .rename_i hl
    exact q F1 H1 v f (S.hp.grow g) (Rel.noL (by simpa[PV.MX]using hl) r) h2 h1 (S.hp.newE h3)
   .exact q.elim
def Bk(hN:X.N[i]?=some x)(hv:Vis X.env.scope x)(hd:Nd x:=by decide)(hcd:Nc x:=by decide):SS X T W (.Return (some (.Name x pos')) pos) (cY i):=
 PS.wk (oI (gx hN hv hd hcd)) λD Y H hz1=>by
  walk_at "b";unfold cY at q;split at q
  .rename_i pv e
   obtain⟨v,e1,r⟩:=S.rel i pv e;exact⟨v,e1,q F H v (fp i) S.hp r (S.nd i) (λa ha=>(S.dis i a ha).1) (S.new i)⟩
  .exact q.elim
def Bl(he:SE X T W e m)(hs:swapsWith e none pos.line X.env=pure false:=by rfl):SS X T W (.Expr e pos) (dA m):=
 PS.wk (oJ he hs) λD Y H hz1=>by
  walk_at "b";unfold dA at q;refine tE.bind S (λc e H' x=>?_) (λe=>by rw[e]at q;exact q) λpv v H1 F1 f e g r h1 h2 h3=>?_
  .rw[e]at q;exact q F H' Y fp (S.grow (Gr.same S.hp.ft x))
  .rw[e]at q;exact q F1 H1 Y fp (S.grow g)
def wA(hF:∀a,F a->F' a):Mp T Fl.MQ (λ_=>false) (λ_=>[]) F' F B L H F' B L H:=
 ⟨λf a vs _ c h=>by
  cases f with
  |own=>exact⟨c rfl,.inl h⟩
  |frz=>exact⟨hF a h.1,h.2⟩
  | _=>exact h,λf a _ c h=>⟨by
  cases f with
  |own=>exact c rfl
  |frz=>exact hF a h
  |_=>exact h,λ_ q=>q⟩,λf a x y h=>by cases f<;>exact⟨rfl,rfl⟩,rfl,λ_ _=>rfl,λ_ _ q _=>q⟩
def Rel.MQ(hF:∀a,F a->F' a)(hp:∀a∈fo,F' a)(h:Rel T F B L H x v fo):Rel T F' B L H (x.MY Fl.MQ) v []:=(wA hF).rel (lM x) hp h
theorem ax.frz(S:ax T Z F H Y env fp){i:Nat}{pv:PV}(e:env[i]?=some (some pv)):ax T Z (λa=>F a\/a∈fp i) H Y (env.set i (some (pv.MY Fl.MQ))) (cv fp i []):=by
 have hi:i<env.length:=(List.getElem?_eq_some_iff.mp e).1;refine⟨⟨S.hp.bo,S.hp.keep,λa h=>.inl (S.hp.f0 a h),λa h=>h.elim (S.hp.fn a) λz=>.inr (S.new i a z),λa h=>h.elim (S.hp.ft a) λz=>(S.dis i a z).2⟩,by rw[length_set,S.len],λj pv' e'=>?_,λj=>?_,λj k hjk a ha=>?_,λj a ha=>?_,λj a ha=>?_,λj a ha=>?_,λw hw=>?_⟩
 .by_cases hj:j=i
  .subst hj;rw[getElem?_set_self hi]at e';cases e';obtain⟨v,h1,h2⟩:=S.rel j pv e;refine⟨v,h1,?_⟩;unfold cv;rw[if_pos rfl];exact Rel.MQ (λ_ h=>.inl h) (λa h=>.inr h) h2
  .rw[getElem?_set_ne (Ne.symm hj)]at e';obtain⟨w,h1,h2⟩:=S.rel j pv' e';refine⟨w,h1,?_⟩;unfold cv;rw[if_neg hj];exact h2.ext Ext.refl λ_ h=>.inl h
 .unfold cv;split
  .exact nodup_nil
  .exact S.nd j
 .grind[cv,ax,b9,Gr]
 .unfold cv at ha;by_cases h1:j=i
  .rw[if_pos h1]at ha;cases ha
  .rw[if_neg h1]at ha;exact⟨λz=>z.elim (S.dis j a ha).1 λz=>S.dj j i h1 a ha z,(S.dis j a ha).2⟩
 .unfold cv at ha;by_cases h1:j=i
  .simp_all
  .rw[if_neg h1]at ha;exact S.new j a ha
 .unfold cv at ha;by_cases h1:j=i
  .simp_all
  .rw[if_neg h1]at ha;exact S.ch j a ha
 .obtain⟨h1,h2⟩:=S.pn w hw;refine⟨h1,?_⟩;unfold d5 at h2 ⊢;by_cases hi0:i=0
  .subst hi0;rw[e]at h2;rw[getElem?_set_self hi];cases pv<;>first|exact h2 |(cases h2;done)|rfl
  .simp_all
def E6{i:Nat}{sts:List Stmt}(h:SSs X T W sts m):SSs X T W sts (ag (dz i) m):=PSs.wk h λD Y H hz1=>by
 walk_at "b";cases e:env[i]? with
 |none=>simp[ag,dz,e]at q;exact q.elim
 |some w=>
  cases w with
  |none=>simp[ag,dz,e]at q;exact q.elim
  |some pv=>simp only[ag,dz,e]at q;exact⟨Z,_,_,_,S.frz e,q⟩
noncomputable def Zn.re(Z:Zn)(F:Mz)(H:Hp)(fp:Nat->MD):Zn:=⟨H,F,Own fp,Z.B,Z.pin⟩
def ax.enter(S:ax T Z F H Y env fp):ax T (Z.re F H fp) F H Y env fp:=
 ⟨⟨⟨λa h=>by
   obtain⟨⟨o,h1⟩,h2⟩:=S.hp.bo.1 a h;refine⟨⟨o,S.hp.keep a o h1 h2⟩,λ⟨i,hi⟩=>?_⟩;rcases S.new i a hi with z|z
   .rw[h1]at z;cases z
   .exact h2 z,S.tbo Ext.refl λ_ z=>.inr z⟩,λ_ _ h _=>h,λ_ h=>h,λ_ h=>.inl h,S.hp.ft⟩,S.len,S.rel,S.nd,S.dj,S.dis,λi a ha=>.inr ⟨i,ha⟩,S.ch,S.pn⟩
def b9.leave(S:ax T Z F H Y env fp)(S':b9 T (Z.re F H fp) F' H'):b9 T Z F' H':=
 ⟨S.hp.bo,λa o h n=>S'.keep a o (S.hp.keep a o h n) λhz1=>by
   obtain⟨i,hi⟩:=hz1;rcases S.new i a hi with z|z
   .rw[h]at z;cases z
   .exact n z,λa h=>S'.f0 a (S.hp.f0 a h),λa h=>by
  rcases S'.fn a h with z|z |⟨i,hi⟩
  .exact S.hp.fn a z
  .refine .inr ?_;by_cases q:Z.fp0 a
   .exact .inr q
   .refine .inl ?_;cases w:Z.H0 a with
    |none=>rfl
    |some o=>have z':H a=none:=z;rw[S.hp.keep a o w q]at z';cases z'
  .exact .inr (S.new i a hi),S'.ft⟩
def ax.newL(S:ax T Z F H Y env fp)(h:(Z.re F H fp).H0 a=none \/(Z.re F H fp).fp0 a):Z.H0 a=none\/Z.fp0 a:=by
 rcases h with z |⟨i,hi⟩
 .by_cases q:Z.fp0 a
  .exact .inr q
  .refine .inl ?_;cases w:Z.H0 a with
   |none=>rfl
   |some o=>have z':H a=none:=z;rw[S.hp.keep a o w q]at z';cases z'
 .exact S.new i a hi
def ax.leave(S:ax T Z F H Y env fp)(S':ax T (Z.re F H fp) F' H' σ' env' fp'):ax T Z F' H' σ' env' fp':=
 ⟨b9.leave S S'.hp,S'.len,S'.rel,S'.nd,S'.dj,S'.dis,λi a ha=>S.newL (S'.new i a ha),S'.ch,S'.pn⟩
abbrev SW(X:Cx)(T:Tb)(W:Nat->St->MK)(e:Expr)(m:MT):Prop:=PW X e (tT T W m)
def tT.test(h:tT T W (ai m) Y H Q):tE T W m Y H λx H'=>∃k,x=.bl k/\Q k H':=by
 obtain⟨Z,F,env,fp,S,q⟩:=h;unfold ai at q;walk_at "a";cases x with
 |bl b=>exact⟨b,r1.1,q H1 F1 g1⟩
 |_=>exact q.elim
def eY(ho:OpR X (compareOp op) r)(hm:ip T W f r)(ha:SE X T W a ma)(hb:SE X T W b mb)(hk:behindInMarks op b=false):ST X T W (.Compare a [op] [b] pos) (ai (mOp f ma mb)):=
 PT.wk (oH ho ha hb hk) λY H Q h=>by obtain⟨Z,F,env,fp,S,q⟩:=tT.test h;exact tE.mir2 hm ⟨Z,F,env,fp,S,q⟩
def EY(h:ST X T W a m):ST X T W (.UnaryOp .Not a pos) (iw m):=PT.wk (F_ h) λY H Q hz1=>by obtain⟨Z,F,env,fp,S,q⟩:=hz1;unfold iw at q;refine tT.bind S (λc e=>by rw[e]at q;exact q) (λe=>by rw[e]at q;exact q) λb H1 F1 e1 g1=>?_;rw[e1]at q;exact q H1 F1 g1
def Bc(h:ST X T W a m):SW X T W (.BoolOp .And [a] pos) m:=B6 h
def EV(h:ST X T W a m):SW X T W (.BoolOp .Or [a] pos) m:=F7 h
def EW{bw:List Expr}(h:ST X T W a m)(h2:SW X T W (.BoolOp .And (b::bw) pos) n):SW X T W (.BoolOp .And (a::b::bw) pos) (di m n):=PW.wk (F8 h h2) λY H Q hz1=>by
 walk_at "b";unfold di at q;refine tT.bind S (λc e=>by rw[e]at q;exact q) (λe=>by rw[e]at q;exact q) λb H1 F1 e1 g1=>?_;rw[e1]at q;cases b with
 |true=>
  refine(if_pos rfl).mpr ⟨Z,F1,env,fp,S.grow g1,?_⟩;cases e2:n env with
  |ok b=>rw[e2]at q;exact λH2 F2 g2=>q H2 F2 (g1.trans g2)
  |exc c=>rw[e2]at q;exact λH' x=>q H' (g1.ext.trans x)
  |stuck=>rw[e2]at q;exact q
 |false=>exact(if_neg ()).mpr (q H1 F1 g1)
def Iz{bw:List Expr}(h:ST X T W a m)(h2:SW X T W (.BoolOp .Or (b::bw) pos) n):SW X T W (.BoolOp .Or (a::b::bw) pos) (gP m n):=PW.wk (IZ h h2) λY H Q hz1=>by
 walk_at "b";unfold gP at q;refine tT.bind S (λc e=>by rw[e]at q;exact q) (λe=>by rw[e]at q;exact q) λb H1 F1 e1 g1=>?_;rw[e1]at q;cases b with
 |false=>
  refine(if_neg ()).mpr ⟨Z,F1,env,fp,S.grow g1,?_⟩;cases e2:n env with
  |ok b=>rw[e2]at q;exact λH2 F2 g2=>q H2 F2 (g1.trans g2)
  |exc c=>rw[e2]at q;exact λH' x=>q H' (g1.ext.trans x)
  |stuck=>rw[e2]at q;exact q
 |true=>exact(if_pos rfl).mpr (q H1 F1 g1)
def SW.st(h:SW X T W e m):ST X T W e m:=PW.pt h
def xK(hK:X.K=T.K)(h:SE X T W a m)(he:∀whole,isTrue a X.env whole=(do let v <- whole;standAt a.pos;holding [v] (truthy v)):=by intro _;rfl):ST X T W a (bz m):=PT.wk (yG h he) λY H Q hz1=>by
 walk_at "b";unfold bz at q;walk_at "a";rw[hK];cases x with
 |non=>unfold Rel at r1;rw[r1.1];exact⟨false,rfl,q H1 F1 g1⟩
 |bl b=>unfold Rel at r1;rw[r1.1];exact⟨b,rfl,q H1 F1 g1⟩
 |int i=>unfold Rel at r1;rw[r1.1];exact⟨_,rfl,q H1 F1 g1⟩
 |str i=>exact q.elim
 |lst f xs=>
  obtain⟨a,vs,fp',rfl,hl,hr,_⟩:=r1;have hl':SqL T.K H1 a vs:=hl.sq;have e:(!xs.isEmpty)=!vs.isEmpty:=by have:=hr.length;cases xs<;>cases vs<;>simp_all
  exact⟨_,.inl ⟨vs,hl',rfl⟩,by rw[<- e];exact q H1 F1 g1⟩
 |tup xs=>
  obtain⟨a,vs,rfl,hl,hr⟩:=r1;have e:(!xs.isEmpty)=!vs.isEmpty:=by have:=hr.length;cases xs<;>cases vs<;>simp_all
  exact⟨_,.inr (.inl ⟨vs,hl,rfl⟩),by rw[<- e];exact q H1 F1 g1⟩
 |obj f c ks xs|exc c|box k xs=>exact q.elim
def yk(hc:ST X T W c mc)(ha:SE X T W a ma)(hb:SE X T W b mb):SE X T W (.IfExp c a b pos) (fY mc ma mb):=PE.wk (yV hc ha hb) λY H Q hz1=>by
 walk_at "b";unfold fY at q;refine tT.bind S (λc e=>by rw[e]at q;exact q) (λe=>by rw[e]at q;exact q) λb H1 F1 e1 g1=>?_;rw[e1]at q;have lift:∀m:ME,GE T W Z.B F (Own fp) Y H Q (m env)->tE T W m Y H1 Q:=λm q=>by
  refine⟨Z,F1,env,fp,S.grow g1,?_⟩;cases e2:m env with
  |ok b=>rw[e2]at q;exact λv H2 F2 f g2 r n d w=>q v H2 F2 f (g1.trans g2) r n d λa ha=>g1.ext.free (w a ha)
  |exc c=>rw[e2]at q;exact λH' x=>q H' (g1.ext.trans x)
  |stuck=>rw[e2]at q;exact q
 cases b with
 |true=>exact(if_pos rfl).mpr (lift ma q)
 |false=>exact(if_neg ()).mpr (lift mb q)
def qw(a:ME):ME:=λenv=>(a env).bind fun
 |.bl b=>.ok (.bl (!b))
 |_=>.stuck
def iz(a b:ME):ME:=λenv=>(a env).bind fun
 |.bl true=>b env
 |.bl false=>.ok (.bl false)
 |_=>.stuck
def Fr(ha:SE X T W a ma):SE X T W (.UnaryOp .Not a pos) (qw ma):=PE.wk (Gm ha) λY H Q hz1=>by
 walk_at "b";unfold qw at q;walk_at "a";cases x with
 |bl b=>unfold Rel at r1;exact⟨b,r1.1,q.scal g1 fT⟩
 |_=>exact q.elim
def Fq(ha:SE X T W a ma):SE X T W (.BoolOp op [a] pos) ma:=Gk ha
def tE.later(S:ax T Z F H Y env fp)(g1:Gr F H F' H')(q:GE T W Z.B F (Own fp) Y H Q (m env)):tE T W m Y H' Q:=by
 refine⟨Z,F',env,fp,S.grow g1,?_⟩;cases e2:m env with
 |ok b=>rw[e2]at q;exact λv H2 F2 f g2 r n d w=>q v H2 F2 f (g1.trans g2) r n d λa ha=>g1.ext.free (w a ha)
 |exc c=>rw[e2]at q;exact λH' x=>q H' (g1.ext.trans x)
 |stuck=>rw[e2]at q;exact q
def FL{bw:List Expr}(ha:SE X T W a ma)(hb:SE X T W (.BoolOp .And (b::bw) pos) mb):SE X T W (.BoolOp .And (a::b::bw) pos) (iz ma mb):=PE.wk (Gp ha hb) λY H Q hz1=>by
 walk_at "b";unfold iz at q;walk_at "a";cases x with
 |bl b=>
  refine⟨b,r1.1,?_⟩;cases b with
  |true=>exact(if_pos rfl).mpr (tE.later S g1 q)
  |false=>exact(if_neg ()).mpr (q.scal g1 fT)
 |_=>exact q.elim
def xm(T:Tb)(W:Nat->St->MK)(f:PV->MM)(r:V->Hp->VK->Prop):Prop:=
 ∀(B F L:Mz) (Y:St) (H:Hp) (Q:VK) (F':Mz) (H':Hp) (x:PV) (v:V) (fx:MD),Gr F H F' H'->Rel T F' B L H' x v fx->(∀a∈fx,¬F' a)->fx.Nodup->(∀a∈fx,H a=none)->GE T W B F L Y H Q (f x)->r v H' Q
def tE.mir1(hm:xm T W f r)(h:tE T W (mUn f m) Y H Q):tUn r (tE T W m) Y H Q:=by obtain⟨Z,F,env,fp,S,q⟩:=h;unfold mUn at q;walk_at "a";exact hm Z.B F (Own fp) Y H Q F1 H1 x v f1 g1 r1 n1 d1 w1 q
def mf:PV->MM
 |.int i=>.ok (.int (-i))
 |_=>.stuck
def Fu(ha:SE X T W a m):SE X T W (.UnaryOp .USub a pos) (mUn mf m):=PE.wk (I_ ER ha) λY H Q h=>tE.mir1 (λB F L Y H Q F' H' x v fx g r _ _ _ q=>by
 cases x with
 |int i=>unfold Rel at r;exact⟨i,r.1,q.scal g dP⟩
 |_=>exact q.elim) h
noncomputable def bF(k:Nat):List Nat->ML->Option PV
 |j::ks,v::vs=>if j=k then some v else bF k ks vs
 |_,_=>none
def Fl.MU:Fl->Bool
 |.own=>true
 |_=>false
def ap(k:Nat):PV->MM
 |.obj f _ ks vs=>match bF k ks vs with
  |some v=>if f.MU&&v.has Fl.MU then .stuck else .ok v
  |none=>.stuck
 |_=>.stuck
mutual
theorem Rel.MZ:∀{x:PV}{v:V}{fp:MD},x.has Fl.MU=false->Rel T F B L H x v fp->fp=[]
 |.non,_,_,_,h|.bl _,_,_,_,h|.int _,_,_,_,h|.str _,_,_,_,h=>by unfold Rel at h;exact h.2
 |.lst f xs,_,fp,hp,h=>by
  unfold Rel at h;simp only[PV.has,or_eq_false_iff]at hp;obtain⟨a,vs,fp',e,hl,hr,hf⟩:=h;cases f with
  |own=>exact absurd hp.1 ()
  |frz|bor|lnt|mod=>exact hf.2
 |.tup xs,_,fp,hp,h=>by unfold Rel at h;simp only[PV.has]at hp;obtain⟨a,vs,e,hl,hr⟩:=h;exact RelL.MZ hp hr
 |.obj f c ks xs,_,fp,hp,h=>by
  unfold Rel at h;simp only[PV.has,or_eq_false_iff]at hp;obtain⟨a,dx,vs,fp',e,hl,hk,hr,hf,ha⟩:=h;cases f with
  |own=>exact absurd hp.1 ()
  |frz|bor|lnt|mod=>exact hf.2
 |.exc c,_,fp,hp,h=>by unfold Rel at h;obtain⟨a,_,_,e⟩:=h;exact e
 |.box k xs,_,fp,hp,h=>by unfold Rel at h;obtain⟨a,vs,e,hl,hr⟩:=h;exact RelL.MZ hp hr
theorem RelL.MZ:∀{xs:ML}{vs:MJ}{fp:MD},hasL Fl.MU xs=false->RelL T F B L H xs vs fp->fp=[]
 | [],_,_,_,h=>by unfold RelL at h;exact h.2
 |x::xs,_,fp,hp,h=>by unfold RelL at h;simp only[hasL,or_eq_false_iff]at hp;obtain⟨v,ws,f1,f2,e,h1,h2,rfl⟩:=h;rw[Rel.MZ hp.1 h1,RelL.MZ hp.2 h2];rfl
end
theorem RelL.get:∀{xs:ML}{vs:MJ}{fp:MD}{i:Nat}{x:PV},RelL T F B L H xs vs fp->xs[i]?=some x->∃v f,vs[i]?=some v/\Rel T F B L H x v f/\f.Sublist fp
 | [],_,_,_,_,_,e=>by simp at e
 |y::xs,_,fp,0,x,h,e=>by
  unfold RelL at h
  grind
 |y::xs,_,fp,i+1,x,h,e=>by obtain⟨v,ws,f1,f2,rfl,h1,h2,rfl⟩:=h;obtain⟨w,f,e1,r,s⟩:=RelL.get h2 (by simpa using e);exact⟨w,f,by simpa using e1,r,s.trans (List.sublist_append_right _ _)⟩
theorem qJ:∀{ks:List Nat}{xs:ML}{vs:MJ}{fp:MD}{x:PV},RelL T F B L H xs vs fp->bF k ks xs=some x->∃v f,((ks.map T.att).zip vs).lookup (T.att k)=some v/\Rel T F B L H x v f/\f.Sublist fp
 | [],_,_,_,_,_,e|j::ks,[],_,_,_,_,e=>by simp[bF]at e
 |j::ks,y::xs,_,fp,x,h,e=>by
  obtain⟨v,ws,f1,f2,rfl,h1,h2,rfl⟩:=h;unfold bF at e;by_cases hj:j=k
  .rw[if_pos hj]at e;cases e;subst hj;exact⟨v,f1,by simp,h1,List.sublist_append_left _ _⟩
  .rw[if_neg hj]at e;obtain⟨w,f,e1,r,s⟩:=qJ h2 e;refine⟨w,f,?_,r,s.trans (List.sublist_append_right _ _)⟩;have:(T.att k==T.att j)=false:=by rw[beq_eq_false_iff_ne];exact λz=>hj (T.inj _ _ z).symm
   rw[map_cons,zip_cons_cons,List.lookup_cons,this];exact e1
theorem Bb(hK:X.K=T.K)(hf:T.att k=f)(hc:∀c<T.nc,Cls T.K (T.cls c))(hn:∀c<T.nc,fB T.K (T.cls c) f)(h:tE T W (mUn (ap k) m) Y H Q):Iv X.K (tE T W m) f Y H Q:=by
 obtain⟨Z,F,env,fp,S,q⟩:=h;unfold mUn at q;walk_at "a";cases x with
 |obj fl c ks xs=>
  simp only[Res.M0,ap]at q;cases e2:bF k ks xs with
  |none=>rw[e2]at q;exact q.elim
  |some y=>
   rw[e2]at q;dsimp only at q;obtain⟨a,dx,vs,fp',rfl,hl,hk,hr,hfl,_⟩:=r1;obtain⟨w,f',l1,l2,l3⟩:=qJ hr e2;have e0:f'=[]:=by
    cases fl with
    |own=>
     simp only[Fl.MU,Bool.true_and]at q;by_cases ho:y.has Fl.MU=true
     .rw[if_pos ho]at q;exact q.elim
     .exact Rel.MZ () l2
    |frz|bor|lnt|mod=>obtain⟨rfl,_⟩:=hfl;exact List.sublist_nil.mp l3
   subst e0;by_cases hb:(fl.MU&&y.has Fl.MU)=true
   .rw[if_pos hb]at q;exact q.elim
   .rw[if_neg hb]at q;rw[hK];exact⟨a,_,dx,_,w,rfl,hl,hc c hk.2,hn c hk.2,by lia,q.scal g1 l2⟩
 |_=>exact q.elim
def BV(hK:X.K=T.K)(hf:T.att k=f)(hc:∀c<T.nc,Cls T.K (T.cls c))(hn:∀c<T.nc,fB T.K (T.cls c) f)(he:SE X T W e m)(hb:attributeBase e f X.env (eval e X.env)=eval e X.env:=by rfl) :
  SE X T W (.Attribute e f pos) (mUn (ap k) m):=PE.wk (Go he hb) λY H Q h=>Bb hK hf hc hn h
end
end PR
namespace L2
open PySem PySem.Spec
def cK.there(x:cK P w H h a o):∃u,h.get? a=some u:=by
 cases o with
 |lst xs=>obtain⟨_,_,_,_,e⟩:=x;exact⟨_,e⟩
 |tup xs=>obtain⟨_,_,_,o,e,_⟩:=x;exact⟨_,e⟩
 |dK kvs|dT kvs=>obtain⟨_,_,_,_,o,_,_,e,_⟩:=x;exact⟨_,e⟩
 |set S n=>obtain⟨o,_,_,_,e,_⟩:=x;exact⟨_,e⟩
 |ins C dx fs=>obtain⟨_,_,_,e,_⟩:=x;exact⟨_,e⟩
 |own y=>exact x
 |xd fs=>obtain⟨_,⟨_,_,_,e,_⟩,_⟩:=x;exact⟨_,e⟩
 |rng lo hi=>obtain⟨_,_,_,e⟩:=x;exact⟨_,e⟩
 |frz ob u=>obtain⟨e,_⟩:=x;exact⟨_,e⟩
 |tbl ps=>obtain⟨_,e,_⟩:=x;exact⟨_,e⟩
 |met f y=>exact⟨_,(show h.get? a=some _ from x)⟩
 |ext φ=>obtain⟨_,q,_⟩:=x;exact q
end L2
namespace PR
open PySem PySem.Spec L2
structure Fly(P:Program)(w:World)(outer:List Env)(H:Hp)(s:Shared)(cls:Value)(H':Hp)(e:Value)(s':Shared):Prop where
 os:s'.os=s.os
 bare:PyProof.Rows.AllBare s'.gens
 un:Un (frs outer) [] H H' s.heap s'.heap
 hok:HOk P w H' s'.heap
 fly:∃x a0 Bh,e=.ref x/\Heap.FlyingW Bh outer x cls a0 s'.heap/\(∀b o u,H' b=some u->s'.heap.get? b=some o->Bh.get? b=some o)/\
  (∀b o o',s'.heap.get? b=some o->s.heap.get? b=some o'->b∉frs outer->Bh.get? b=some o)
def CXP(P:Program)(w:World):CXT:=λouter H s E e s'=>∃cls H',Fly P w outer H s cls H' e s'/\E cls none H'
def XF(X:Cx)(T:Tb)(W:Nat->St->MK):Prop:=∀(js:My) (Y:St) (H:Hp) (s:Shared) (c:Nat) (H':Hp) (e:Value) (s':Shared),L2.Inv X js Y H s->Fly X.prog X.w X.stack H s (.ref (T.xcl c)) H' e s'->W c Y H'->X.xe e s'
section
variable{P:Program}{w:World}{K:PySem.W.Frag}{mg:Mw}{base:Heap}{N:MF}{qual:Str}{scope:Scope}{f:Addr}{cd:Value}{A:Around}{outer:List Env}{s:Shared}{H:Hp}{E:XK}
def Dc{H:Hp}{h h' Bh:Heap}(ok:HOk P w H h)(k:∀b o u,H b=some u->h.get? b=some o->Bh.get? b=some o)(st:Bh.StaysIn h'):HOk P w H h':=λa o e=>
 (ok a o e).stay (λb u hb q=>by
  rcases hb with rfl|hb
  .exact st _ _ (k b u _ e q)
  .exact st _ _ (k b u _ hb q)) (λ_ q=>q) λ_ _ _ q=>q
def wR(I:L2.Inv X js Y H1 s1)(hst:X.stack=X.env::X.outer)(hex:X.ex=[])(hfrm:X.env.frame=some X.env.locals)
  (hos:os2=s1.os) (hb:PyProof.Rows.AllBare g2) (u2:Un (frs X.stack) [] H1 H2 s1.heap h2) (ok:HOk X.prog X.w H2 h2) (tr:∀b o u,H2 b=some u->h2.get? b=some o->Bh.get? b=some o)
  (ol:∀b o o',h2.get? b=some o->s1.heap.get? b=some o'->b∉frs X.stack->Bh.get? b=some o) (fl:Heap.FlyingW Bh X.outer x cls a0 h') (up:h2.UpToSlots h') :
  Fly X.prog X.w X.outer X.H₀ X.s₀ cls H2 (.ref x) ⟨h',g2,d2,t2,os2⟩:=by
 have u1:=I.base;rw[hex]at u1;have hfs:frs X.stack=X.env.locals::frs X.outer:=by rw[hst];show List.filterMap _ _=_;rw[List.filterMap_cons,hfrm];rfl
 have u:Un (frs X.stack) [] X.H₀ H2 X.s₀.heap h2:=(u1.mono (λb hb=>by rw[hfs];exact mem_cons_of_mem _ hb) λ_ z=>z).trans u2;have neL:∀b o,X.s₀.heap.get? b=some o->b≠X.env.locals:=λb o e=>Nat.ne_of_lt (Nat.lt_of_lt_of_le (lt_size e) I.ok.above);have nst:∀b o,X.s₀.heap.get? b=some o->b∉frs X.outer->b∉frs X.stack:=λb o e hn hb=>by simp_all
 have data:∀b o,X.s₀.heap.get? b=some o->b∈frs X.outer->∀vs,o.data≠.fields vs:=λb o e hb vs z=>by obtain⟨_,o',ho',hd'⟩:=I.ok.funs.mem hb;rw[e]at ho';cases ho';exact hd' vs z
 refine⟨hos.trans I.os,hb,⟨λb o e n hf _=>?_,λb o e n hf _=>?_,u.free,λb o e _=>?_,u.tups,u.frzs,u.tbls⟩,Dc ok tr fl.1,⟨x,a0,Bh,rfl,fl,λb o v e q=>?_,λb o o' e q hf=>?_⟩⟩
 .have q:=u.keep b o e n (nst b o e hf) ();obtain⟨o1,e1⟩:=u1.there b o e ();exact fl.1 b o (ol b o o1 q e1 (nst b o e hf))
 .obtain⟨sl,q⟩:=u.slot b o e n (by rw[hfs];exact mem_cons_of_mem _ hf) ();obtain⟨sl',q'⟩:=up b _ q (data b o e hf);exact⟨sl',q'⟩
 .by_cases hf:b∈frs X.outer
  .obtain⟨_,o2,ho2,_⟩:=fl.2.2.1.mem hf;exact⟨o2,ho2⟩
  .obtain⟨o1,e1⟩:=u1.there b o e ();obtain⟨o2,e2⟩:=u2.there b o1 e1 ();exact⟨o2,fl.1 b o2 (ol b o2 o1 e2 e1 (nst b o e hf))⟩
 .have hlt:=ok.lt e;obtain⟨o2,e2⟩:∃o2,h2.get? b=some o2:=by have x:=ok b v e;exact cK.there x
  have:=fl.1 b o2 (tr b o2 v e e2);rw[q]at this;cases this;exact tr b o v e e2
 .obtain⟨o1,e1⟩:=u1.there b o' q ();obtain⟨o2,e2⟩:=u2.there b o1 e1 ();have hB:=ol b o2 o1 e2 e1 (nst b o' q hf);have:=fl.1 b o2 hB;rw[e]at this;cases this;exact hB
end
section
variable{P:Program}{w:World}{K:PySem.W.Frag}{mg:Mw}{base:Heap}{N:MF}{qual:Str}{scope:Scope}{f:Addr}{cd:Value}{A:Around}{outer:List Env}{s:Shared}{H:Hp}{E:XK}{T:Tb}
abbrev WD(T:Tb)(E:XK):Nat->St->MK:=λc _ H=>E (.ref (T.xcl c)) none H
def EO:XF (fE (CXP P w) P w K mg base N qual scope f cd A outer s H E) T (WD T E):=by intro js Y H1 s1 c H2 e s2 I fl hW;obtain⟨x,a0,Bh,rfl,fly,tr,ol⟩:=fl.fly;refine wpAny_leaves_onW I.ok.frames rfl fly λh' fly' up=>?_;obtain⟨h2,g2,d2,t2,os2⟩:=s2;exact⟨_,H2,wR I rfl rfl rfl fl.os fl.bare fl.un fl.hok tr ol fly' up,hW⟩
end
def aq(m:ML->MM)(xs:ML):MM:=match m (mapL Fl.MP xs)with
 |.ok v=>if v.has Fl.MW then .stuck else .ok v
 |.exc c=>.exc c
 |.stuck=>.stuck
noncomputable def aN(n:Nat)(m:MS)(args:ML):MM:=match m (args.map some++replicate (n-args.length) none)with
 |.next _=>.ok .non
 |.ret v=>.ok v
 |.exc c _=>.exc c
 |_=>.stuck
def GF(T:Tb)(Z:Zn)(Q:VK)(E:XK):MM->Prop
 |.ok pv=>∀F H v f,b9 T Z F H->Rel T F Z.B NoL H pv v f->f.Nodup->(∀a∈f,¬F a)->(∀a∈f,Z.H0 a=none\/Z.fp0 a)->Q v H
 |.exc c=>∀H,(∀a o,Z.H0 a=some o->¬Z.fp0 a->H a=some o)->E (.ref (T.xcl c)) none H
 |.stuck=>False
structure xp(T:Tb)(F B:Mz)(H:Hp)(pvs:ML)(vs:MJ)(f:MD):Prop where
 rel:RelL T F B NoL H pvs vs f
 nd:f.Nodup
 nf:∀a∈f,¬F a
 bo:(∀a,B a->(∃o,H a=some o)/\a∉f)/\DS T H (·∈f)
 ft:∀a,F a->∃o,H a=some o
def spM(T:Tb)(n:Nat)(m:ML->MM):Sp:=λvs H Q E=>vs.length=n/\∃pvs F B f,xp T F B H pvs vs f/\GF T ⟨H,F,(·∈f),B,none⟩ Q E (m pvs)
theorem RelL.split:∀{xs:ML}{vs:MJ}{f:MD},RelL T F B L H xs vs f->f.Nodup ->
  ∃g:Nat->MD,(∀(i:Nat) x v,xs[i]?=some x->vs[i]?=some v->Rel T F B L H x v (g i))/\(∀i,(g i).Nodup)/\(∀i j,i≠j->∀a∈g i,a∉g j)/\∀i a,a∈g i->a∈f
 | [],_,_,_,_=>⟨λ_=>[],λi x v e=>by simp at e,λ_=>nodup_nil,λ_ _ _ _ z=>(nomatch z),λ_ _ z=>(nomatch z)⟩
 |x::xs,_,_,h,nd=>by
  obtain⟨v,ws,f1,f2,rfl,h1,h2,rfl⟩:=h;obtain⟨n1,n2,n3⟩:=nodup_append.mp nd;obtain⟨g,g1,g2,g3,g4⟩:=RelL.split h2 n2;refine⟨λi=>match i with|0=>f1|j+1=>g j,λi y u e1 e2=>?_,λi=>?_,λi j hij a ha=>?_,λi a ha=>?_⟩
  .cases i with
   |zero=>simp at e1 e2;subst e1 e2;exact h1
   |succ i=>exact g1 i y u (by simp_all) (by simp_all)
  .cases i with
   |zero=>exact n1
   |succ i=>exact g2 i
  .grind
  grind
section
variable{P:Program}{w:World}{K:PySem.W.Frag}{mg:Mw}{base:Heap}{T:Tb}
def j8(N:MF)(R:xp T F B H pvs vs f)(pin:Option V)(hpin:∀v,pin=some v->vs[0]?=some v/\∃fl c ks xs,pvs[0]?=some (.obj fl c ks xs)) :
  ∃fp,ax T ⟨H,F,(·∈f),B,pin⟩ F H (L2.gN N vs) (pvs.map some++replicate (N.length-pvs.length) none) fp:=by
 obtain⟨g,g1,g2,g3,g4⟩:=R.rel.split R.nd;have hl:=R.rel.length;refine⟨g,⟨R.bo,λ_ _ h _=>h,λ_ h=>h,λ_ h=>.inl h,R.ft⟩,?_,λi pv e=>?_,g2,g3,λi a ha=>⟨R.nf a (g4 i a ha),R.rel.there a (g4 i a ha)⟩,λi a ha=>.inr (g4 i a ha),λi a ha=>R.rel.chg a (g4 i a ha),λv hv=>?_⟩
 .unfold L2.gN;simp[hl]
 .by_cases hi:i<pvs.length
  .rw[getElem?_append_left (by simpa using hi),getElem?_map]at e;obtain⟨x,e1,e2⟩:=map_eq_some_iff.mp e;cases e2;obtain⟨v,_,ev,_⟩:=R.rel.get e1;refine⟨v,?_,g1 i pv v e1 ev⟩;unfold L2.gN;rw[getElem?_append_left (by simpa[<- hl]using hi),getElem?_map,ev];rfl
  .rw[getElem?_append_right (by simpa using hi),getElem?_replicate]at e;split at e<;>cases e
 .obtain⟨h1,fl,c,ks,xs,h2⟩:=hpin v hv;have hl0:0<vs.length:=(List.getElem?_eq_some_iff.mp h1).1;have hp0:0<pvs.length:=(List.getElem?_eq_some_iff.mp h2).1;unfold L2.gN d5;rw[getElem?_append_left (by simpa using hl0),getElem?_append_left (by simpa using hp0),getElem?_map,getElem?_map,h1,h2];exact⟨rfl,rfl⟩
def JO(F:Fun K x qual st f fd)(S:dE N ps (aB st))
  (body:∀ (cdv:Value) (A:Around) (outer:List Env) (s:Shared) (H:Hp) (E:XK),dQ k (A.deeper (PyProof.Rows.envOfC qual (aB st) s.heap.objs.size f cdv)) ->
   SSs (fE (CXP P w) P w K mg base N qual (aB st) f cdv A outer s H E) T (WD T E) (ba st) m):cF P w K mg base (CXP P w) (k+1) f fd ps (spM T ps.length (aN N.length m)):=by
 obtain⟨oc,od,kV,doc,pm,an,cdv,ct,osl,rfl,lk,hcd⟩:=F.ex;refine Ae lk hcd S (λvs H Q E h=>h.1) λA outer s H vs Q E hr hsp=>⟨_,body cdv A outer s H E hr,?_⟩
 obtain⟨_,pvs,F,B,fl,R,q⟩:=hsp;obtain⟨fp,S0⟩:=j8 N R none (λ_ h=>nomatch h);refine⟨_,F,_,fp,S0,?_⟩;unfold aN at q;cases e:m (pvs.map some++replicate (N.length-pvs.length) none)with
 |next e'=>rw[e]at q;exact λF' H' σ' fp' S'=>q F' H' .non [] S'.hp IV nodup_nil (λ_ z=>(nomatch z)) (λ_ z=>(nomatch z))
 |ret v=>rw[e]at q;exact q
 |brk e'|cont e'=>rw[e]at q;exact q.elim
 |exc c e'=>rw[e]at q;exact λF' H' σ' fp' S'=>q H' S'.hp.keep
 |stuck=>rw[e]at q;exact q.elim
end
def zj(hB:∀a,B a->B' a)(hL:∀a,L a->B' a):Mp T Fl.MP (λ_=>false) (λx=>x) (λ_=>True) F B L H F B' L' H:=
 ⟨λf a vs _ c h=>by
  cases f with
  |bor=>exact⟨hB a h.1,h.2⟩
  |lnt=>exact⟨hL a h.1,.inl h.2⟩
  | _=>exact h,λf a _ c h=>⟨by
  cases f with
  |bor=>exact hB a h
  |lnt=>exact hL a h
  |_=>exact h,λ_ q=>q⟩,λf a x y h=>by cases f<;>exact h,rfl,λ_ _=>rfl,λ_ _ q _=>q⟩
def RelL.MP(hB:∀a,B a->B' a)(hL:∀a,L a->B' a)(h:RelL T F B L H x v fo):RelL T F B' L' H (mapL Fl.MP x) v fo:=(zj hB hL).rels (has_noL x) (λ_ _=>True.intro) h
def Rel.noB(hp:x.has Fl.MW=false)(h:Rel T F B L H x v fo):Rel T F B' L H x v fo:=by
 have:=(zk (p:=Fl.MW) (B':=B') (λ_ _ q=>q) (λz=>(nomatch z))).rel hp (λ_ _=>True.intro) h
 rwa [kI]at this
theorem RelL.append:∀{xs ys:ML}{vs us:MJ}{f g:MD},RelL T F B L H xs vs f->RelL T F B L H ys us g->RelL T F B L H (xs++ys) (vs++us) (f++g)
 | [],_,_,_,_,_,h,r=>by obtain⟨rfl,rfl⟩:=h;exact r
 |x::xs,_,_,_,_,_,h,r=>by obtain⟨v,ws,f1,f2,rfl,h1,h2,rfl⟩:=h;exact⟨v,_,f1,_,rfl,h1,RelL.append h2 r,by simp⟩
section
variable{X:Cx}{T:Tb}{W:Nat->St->MK}{Z:Zn}{F F1:Mz}{H H1:Hp}{Y:St}{env:En}{fp:Nat->MD}
theorem D4
  (G:cF X.prog X.w X.K X.mg X.base (CXP X.prog X.w) k f fd ps (spM T ps.length m)) (hr:dQ k X.A) (hb:eK X.K fd ps ds) (hd:aS dvs ds) (hdp:∀F B L H,RelL T F B L H dps dvs []) (hx:XF X T W)
  (S:ax T Z F H Y env fp) (g:Gr F H F1 H1) (r:RelL T F1 Z.B (Own fp) H1 xs vs fx) (nf:∀a∈fx,¬F1 a) (nd:fx.Nodup) (new:∀a∈fx,H a=none) (q:GE T W Z.B F (Own fp) Y H Q (aq m (xs++dps)))
  (I1:L2.Inv X js Y H1 s1) (rv:aS vs us) (hlen:vs.length+dvs.length=ps.length):wpAny (model X.prog X.w) X.A (call (.ref f) us) (EP X js Y Q) X.xe s1:=by
 have r2:aS (vs++dvs) (us++ds):=rv.append hd;have hl:(us++ds).length=ps.length:=by rw[<- r2.length,length_append];exact hlen
 have rr:RelL T F1 Z.B (Own fp) H1 (xs++dps) (vs++dvs) fx:=by
  have:=RelL.append r (hdp F1 Z.B (Own fp) H1)
  rwa [append_nil]at this
 have hBo:∀a,Z.B a->(∃o,H1 a=some o)/\a∉fx:=λa h=>by obtain⟨⟨o,h1⟩,h2⟩:=S.hp.bo.1 a h;have h3:=S.hp.keep a o h1 h2;exact⟨⟨o,g.ext a o h3⟩,λz=>by simp_all⟩
 have hOw:∀a,Own fp a->(∃o,H1 a=some o)/\a∉fx:=λa hz1=>by obtain⟨i,hi⟩:=hz1;obtain⟨_,o,ho⟩:=S.dis i a hi;exact⟨⟨o,g.ext a o ho⟩,λz=>by simp_all⟩
 have R:xp T F1 (λa=>(∃o,H1 a=some o)/\a∉fx) H1 (mapL Fl.MP (xs++dps)) (vs++dvs) fx:=⟨RelL.MP hBo hOw rr,nd,nf,⟨λa h=>h,S.tbo g.ext λa z=>.inl (new a z)⟩,g.dom⟩
 refine wpAny_call (codeAny_mono (G.run X.A X.stack s1 H1 ⟨us,[]⟩ (us ++ ds) (vs ++ dvs) Q (λcls _ H'=>∃ c,cls=.ref (T.xcl c)/\W c Y H') hr I1.env0 (hb s1 us I1.kIn hl) r2
  ⟨by rw[r2.length,hl],_,F1,_,fx,R,?_⟩) λrs s' hq=>?_)
 .unfold aq at q;cases e:m (mapL Fl.MP (xs++dps))with
  |ok v=>
   rw[e]at q;dsimp only at q;intro F2 H2 u f2 hp2 r3 nd2 nf2 new2;by_cases hbr:v.has Fl.MW=true
   .rw[if_pos hbr]at q;exact q.elim
   .rw[if_neg hbr]at q;have hbr':v.has Fl.MW=false:=by lia
    refine q u H2 F2 f2 ⟨λa o h=>hp2.keep a o (g.ext a o h) λz=>(by simp_all),λa h=>hp2.f0 a (g.mono a h),λa h=>?_,hp2.ft⟩ ?_ nf2 nd2 λa ha=>?_
    .rcases hp2.fn a h with z|z|z
     .exact g.only a z
     .exact .inr (g.ext.free z)
     .exact .inr (new a z)
    .exact Rel.tr (λ_ h=>h) (λ_ h=>h) (λ_ h=>h.elim) (λ_ _ h _=>h) (λ_ _ _ h=>h) (Rel.noB (B':=Z.B) hbr' r3)
    .rcases new2 a ha with z|z
     .exact g.ext.free z
     .exact new a z
  |exc c=>rw[e]at q;exact λH' h=>⟨c,rfl,q H' λa o z=>h a o (g.ext a o z) λz'=>by simp_all⟩
  |stuck=>rw[e]at q;exact q.elim
 .cases rs with
  |error e=>obtain⟨cls,H',fl,c,rfl,hw⟩:=hq;exact hx js Y H1 s1 c H' e s' I1 fl hw
  |ok fl=>
   cases fl with
   |ret u=>exact I1.after hq
   |next|brk|cont=>exact False.elim hq
def BU
  (G:cF X.prog X.w X.K X.mg X.base (CXP X.prog X.w) k f fd ps (spM T ps.length m)) (hr:dQ k X.A) (hg:Gl X x) (hm:X.mg x=some (.ref f)) (hk:PySem.W.keepIn X.K (.ref f)=true) (hb:eK X.K fd ps ds) (hd:aS dvs ds) (hdp:∀F B L H,RelL T F B L H dps dvs []) (hx:XF X T W)
  (hn:∀env xs,ms env=.ok xs->xs.length+dvs.length=ps.length) (ha:SA X T W (e::es) ms)
  (hdb:Nd x:=by decide) (he:starEach (e::es) X.env=(false,eval e X.env)::starEach es X.env:=by rfl) (hpl:(backTo pos (starEach es X.env)).any (·.1)=false:=by rfl) :
  SE X T W (.Call (.Name x p) (e::es) [] pos) (af (λxs=>aq m (xs++dps)) ms):=by
 intro js s Y H Q I h;obtain⟨Z,F,env,fp,S,q⟩:=h;unfold af at q;refine wpAny_Call_Name_kw (kJ I hg hm ?_ hdb);refine callWith_K I.ok.mod.kin hk (thn (ha pos js s Y H (λvs H1=>∀ us s1,L2.Inv X js Y H1 s1->aS vs us->wpAny (model X.prog X.w) X.A (call (.ref f) us) (EP X js Y Q) X.xe s1) I
  (tA.bq S λxs vs H1 F1 f1 e1 g1 r1 n1 d1 w1 us s1 I1 rv=>?_)) λus s1 ⟨vs,H1,I1,r,q1⟩=>⟨I1.kIn,q1 us s1 I1 r⟩) he hpl
 rw[e1]at q;exact D4 G hr hb hd hdp hx S g1 r1 n1 d1 w1 q I1 rv (by rw[<- r1.length];exact hn env xs e1)
def fC(X:Cx)(T:Tb)(k:Nat)(mn:Str)(ps:MF)(ds:MC)(disp:Nat->Option (ML->MM)):Prop:=
 ∀c m,c<T.nc->disp c=some m->∃f fd,AV X.K (T.cls c) mn f/\eK X.K fd ps ds/\cF X.prog X.w X.K X.mg X.base (CXP X.prog X.w) k f fd ps (spM T ps.length m)
def uC(disp:Nat->Option (ML->MM))(dps:ML)(o:ME)(ms:MA):ME:=λenv=>(o env).bind λov=>match ov with
 |.obj _ c _ _=>match disp c with
  |some m=>(ms env).bind λxs=>aq m ((ov::xs)++ dps)
  |none=>.stuck
 |_=>.stuck
theorem kj(hm:∀k,T.att k≠mn):∀(ks:List Nat) (vs:MJ),((ks.map T.att).zip vs).lookup mn=none
 | [],_|j::ks,[]=>rfl
 |j::ks,v::vs=>by rw[map_cons,zip_cons_cons,List.lookup_cons,show(mn==T.att j)=false by rw[beq_eq_false_iff_ne];exact(hm j).symm];exact kj hm ks vs
def CK
  (hK:X.K=T.K) (hc:∀c<T.nc,Cls T.K (T.cls c)) (hm:∀k,T.att k≠mn) (D:fC X T k mn ps ds disp) (e:disp c=some m) (r:Rel T F1 B L H1 (.obj fl c ks xs) v f1) (I1:L2.Inv X js Y H1 s1) (ru:bA v u)
  (h:∀a f fd,u=.ref a->PySem.W.keepIn X.K (.ref f)=true->eK X.K fd ps ds->cF X.prog X.w X.K X.mg X.base (CXP X.prog X.w) k f fd ps (spM T ps.length m)->Q (.ref f,[.ref a]) s1) :
  wpAny (model X.prog X.w) X.A (getMethod u mn pl) Q X.xe s1:=by
 obtain⟨a,dx,vs,fp',rfl,hl,hk,hr,_,_⟩:=r;obtain⟨f,fd,M,hb,G⟩:=D c m hk.2 e;obtain rfl:u=Value.ref a:=ru;refine tB I1 hl (by simp_all) M (kj hm _ _) (h a f fd rfl M.kp hb G)
def BL
  (hK:X.K=T.K) (hc:∀c<T.nc,Cls T.K (T.cls c)) (hm:∀k,T.att k≠mn) (D:fC X T k mn ps ds disp) (hr:dQ k X.A) (hd:aS dvs ds) (hdp:∀F B L H,RelL T F B L H dps dvs []) (hx:XF X T W)
  (hn:∀env xs,ms env=.ok xs->xs.length+1+dvs.length=ps.length) (ho:SE X T W o mo) (ha:SA X T W (e::es) ms)
  (hst:starEach (e::es) X.env=(false,eval e X.env)::starEach es X.env:=by rfl) (hpl:(backTo pos (starEach es X.env)).any (·.1)=false:=by rfl)
  (ht:eval (.Call (.Attribute o mn apos) (e::es) [] pos) X.env=(do
   let ov <- eval o X.env
   standAt apos.atName
   let(f,first) <- holding [ov] (getMethod ov mn pl)
   callWith pos f first (backTo pos (starEach (e::es) X.env)) (backToKw pos (keywordEach [] X.env))):=by rfl) :
  SE X T W (.Call (.Attribute o mn apos) (e::es) [] pos) (uC disp dps mo ms):=by
 intro js s Y H Q I h;obtain⟨Z,F,env,fp,S,q⟩:=h;unfold uC at q;refine PySem.W.methodCall_KW (thn (ho js s Y H (λv H1=>∃ ov F1 f1,mo env=.ok ov/\Gr F H F1 H1/\Rel T F1 Z.B (Own fp) H1 ov v f1/\(∀ a ∈ f1,¬ F1 a)/\f1.Nodup/\∀ a ∈ f1,H a=none) I
  (tE.bq S λov v H1 F1 f1 e1 g1 r1 n1 d1 w1=>⟨ov,F1,f1,e1,g1,r1,n1,d1,w1⟩)) λu s1 zz=>?_) ht
 obtain⟨v,H1,I1,ru,ov,F1,f1,e1,g1,r1,n1,d1,w1⟩:=zz;rw[e1]at q;simp only[Res.M0]at q;by_cases hobj:∃fl c ks xs m,ov=.obj fl c ks xs/\disp c=some m
 .obtain⟨fl,c,ks,ys,m,rfl,em⟩:=hobj;dsimp only at q;rw[em]at q;refine CK hK hc hm D em r1 I1 ru λa f fd eu hkp hb G=>?_;subst eu;refine callWith_K I.ok.mod.kin hkp (thn (ha pos js s1 Y H1 (λvs H2=>∀ us s2,L2.Inv X js Y H2 s2->aS vs us->wpAny (model X.prog X.w) X.A (call (.ref f) (.ref a::us)) (EP X js Y Q) X.xe s2) I1
   (tA.bind (S.grow g1) (λc e=>by rw[e]at q;exact λH' x=>q H' (g1.ext.trans x)) (λe=>by rw[e]at q;exact q) λxs vs H2 F2 f2 e2 g2 r2 n2 d2 w2 us s2 I2 rv=>?_)) λus s2 ⟨vs,H2,I2,r,q2⟩=>⟨I2.kIn,q2 us s2 I2 r⟩) hst hpl
  rw[e2]at q;have nn:∀b∈f1,¬F2 b:=λb hb z=>by
   rcases g2.only b z with z|z
   .exact n1 b hb z
   .obtain⟨oo,hoo⟩:=r1.there b hb;rw[hoo]at z;cases z
  refine D4 G hr hb hd hdp hx S (g1.trans g2) (by exact⟨v,vs,f1,f2,rfl,r1.ext g2.ext g2.mono,r2,rfl⟩) (λb hb=>?_) ?_ (λb hb=>?_) q I2 (.cons ru rv) ?_
  .rcases mem_append.mp hb with hb|hb
   .exact nn b hb
   .exact n2 b hb
  .refine nodup_append.mpr ⟨d1,d2,λb hb c hc z=>?_⟩;subst z;obtain⟨oo,hoo⟩:=r1.there b hb;rw[w2 b hc]at hoo;cases hoo
  .rcases mem_append.mp hb with hb|hb
   .exact w1 b hb
   .exact g1.ext.free (w2 b hb)
  .have:=hn env xs e2;rw[length_cons,<- r2.length];exact this
 .exfalso;cases ov with
  |obj fl c ks ys=>
   cases em:disp c with
   |none=>simp only[em]at q;exact q
   |some m=>exact hobj ⟨fl,c,ks,ys,m,rfl,em⟩
  |_=>exact q
end
def hV(ms:MA)(n:Nat):Prop:=∀env xs,ms env=.ok xs->xs.length=n
def fk:hV ae 0:=λ_ _ h=>by cases h;rfl
def d4(h:hV ms n):hV (ab m ms) (n+1):=λenv xs e=>by
 unfold ab at e;cases e1:m env with
 |ok x=>
  rw[e1]at e;cases e2:ms env with
  |ok ys=>rw[e2]at e;cases e;rw[length_cons,h env ys e2]
  |exc c|stuck=>rw[e2]at e;cases e
 |exc c|stuck=>rw[e1]at e;cases e
noncomputable def aV:PV->Option (ML)
 |.lst _ xs|.tup xs=>some xs
 |_=>none
section
variable{X:Cx}{T:Tb}{W:Nat->St->MK}{Z:Zn}{F F1 B L:Mz}{H H1:Hp}{Y:St}{env:En}{fp:Nat->MD}{D:Ends}
def Rel.seq(r:Rel T F B L H x v fx)(e:aV x=some xs):∃a vs fx',v=.ref a/\(SqL T.K H a vs\/SqT T.K H a vs)/\RelL T F B L H xs vs fx'/\fx'.Sublist fx:=by
 cases x with
 |lst f ys=>
  cases e;obtain⟨a,vs,fp',rfl,hl,hr,hf⟩:=r;refine⟨a,vs,fp',rfl,.inl hl.sq,hr,?_⟩;cases f with
  |own=>obtain rfl:fx=a::fp':=hf;exact List.sublist_cons_self _ _
  |frz|bor|lnt|mod=>obtain⟨rfl,rfl⟩:=hf;exact Sublist.refl _
 |tup ys=>cases e;obtain⟨a,vs,rfl,hl,hr⟩:=r;exact⟨a,vs,fx,rfl,.inr hl,hr,Sublist.refl _⟩
 |_=>cases e
theorem GE.newL(q:GE T W B F L Y H Q (.ok (.lst .own ys)))(g:Gr F H F1 H1)(r:RelL T F1 B L H1 ys vs fx)(nf:∀a∈fx,¬F1 a)(nd:fx.Nodup)(new:∀a∈fx,H a=none) :
  ∀p,H1 p=none->Q (.ref p) (upd H1 p (.lst vs)):=λp hp=>by
 refine q (.ref p) (upd H1 p (.lst vs)) F1 (p::fx) (g.trans (Gr.same g.dom (Ext.upd hp))) ?_ (λa ha=>?_) ?_ (λa ha=>?_)
 .unfold Rel;exact⟨p,vs,fx,rfl,bK,r.ext (Ext.upd hp) λ_ h=>h,rfl⟩
 .grind[cv,ax,b9,Gr]
 .refine nodup_cons.mpr ⟨λz=>?_,nd⟩;obtain⟨o,ho⟩:=r.there p z;rw[hp]at ho;cases ho
 .rcases mem_cons.mp ha with rfl|ha
  .exact g.ext.free hp
  .exact new a ha
def GE.newT(q:GE T W B F L Y H Q (.ok (.tup ys)))(g:Gr F H F1 H1)(r:RelL T F1 B L H1 ys vs fx)(nf:∀a∈fx,¬F1 a)(nd:fx.Nodup)(new:∀a∈fx,H a=none) :
  ∀p,H1 p=none->Q (.ref p) (upd H1 p (.tup vs)):=λp hp=>by
 refine q (.ref p) (upd H1 p (.tup vs)) F1 fx (g.trans (Gr.same g.dom (Ext.upd hp))) ?_ nf nd new;exact⟨p,vs,rfl,SqT.of bK,r.ext (Ext.upd hp) λ_ h=>h⟩
theorem ub(h:n<=1000):n<=sizeLine:=by rw[sizeLine_eq];lia
def b_(ms:MA):ME:=λenv=>(ms env).bind λxs=>.ok (.lst .own xs)
def cT(ms:MA):ME:=λenv=>(ms env).bind λxs=>.ok (.tup xs)
def FB(ha:SA X T W es ms)(hn:hV ms n)(hs:n<=1000:=by decide):SE X T W (.List es pos) (b_ ms):=PE.wk (Gn ha) λY H Q hz1=>by obtain⟨Z,F,env,fp,S,q⟩:=hz1;unfold b_ at q;refine tA.bq S λxs vs H1 F1 f1 e1 g1 r1 n1 d1 w1=>?_;rw[e1]at q;exact⟨ub (by rw[<- r1.length,hn env xs e1];exact hs),GE.newL q g1 r1 n1 d1 w1⟩
def Fk{x1}(ha:SA X T W es ms)(hn:hV ms n)(hs:n<=1000:=by decide):SE X T W (.Tuple es x1 pos) (cT ms):=PE.wk (sA ha) λY H Q hz1=>by obtain⟨Z,F,env,fp,S,q⟩:=hz1;unfold cT at q;refine tA.bq S λxs vs H1 F1 f1 e1 g1 r1 n1 d1 w1=>?_;rw[e1]at q;exact⟨ub (by rw[<- r1.length,hn env xs e1];exact hs),GE.newT q g1 r1 n1 d1 w1⟩
def p1(f:PV->MM):ML->MM
 | [x]=>f x
 |_=>.stuck
def RelL.one(r:RelL T F B L H [x] vs f):∃v,vs=[v]/\Rel T F B L H x v f:=by obtain⟨v,ws,f1,f2,rfl,h1,h2,rfl⟩:=r;obtain⟨rfl,rfl⟩:=h2;exact⟨v,rfl,by rwa [append_nil]⟩
def da:PV->MM:=λx=>match aV x with
 |some xs=>.ok (.int xs.length)
 |none=>.stuck
theorem CD(hK:X.K=T.K):Mir T W (p1 da) (λxs H Q=>∃p ys,xs=[.ref p]/\(SqL X.K H p ys\/SqT X.K H p ys)/\Q (.int ys.length) H):=by
 intro B F L Y H Q F' H' xs vs fx g r _ _ _ q
 match xs,r,q with
 | [x],r,q=>
  obtain⟨v,rfl,r1⟩:=r.one;simp only[p1,da]at q;cases e:aV x with
  |none=>rw[e]at q;exact q.elim
  |some ys=>rw[e]at q;obtain⟨a,ws,fx',rfl,hs,hr,_⟩:=r1.seq e;exact⟨a,ws,rfl,by lia,q.scal g (by rw[<- hr.length];exact dP)⟩
 | [],_,q|_::_::_,_,q=>exact q.elim
def FC(hK:X.K=T.K)(hg:Gl X "len")(hm:X.mg "len"=none)(ha:SE X T W e m)(he:starEach [e] X.env=[(false,eval e X.env)]:=by rfl):SE X T W (.Call (.Name "len" p) [e] [] pos) (af (p1 da) (ab m ae)):=
 d_ pF (CD hK) hg hm PySem.boot_len (bU ha cN he) (he:=he)
def dR:PV->MM:=λx=>match aV x with
 |some xs=>.ok (.lst .own xs)
 |none=>.stuck
def zt(hK:X.K=T.K):Mir T W (p1 dR) (λxs H Q=>∃p ys,xs=[.ref p]/\(SqL X.K H p ys\/SqT X.K H p ys)/\∀l,H l=none->Q (.ref l) (upd H l (.lst ys))):=by
 intro B F L Y H Q F' H' xs vs fx g r nf nd new q
 match xs,r,q with
 | [x],r,q=>
  obtain⟨v,rfl,r1⟩:=r.one;simp only[p1,dR]at q;cases e:aV x with
  |none=>rw[e]at q;exact q.elim
  |some ys=>rw[e]at q;obtain⟨a,ws,fx',rfl,hs,hr,sl⟩:=r1.seq e;exact⟨a,ws,rfl,by lia,GE.newL q g hr (λb hb=>nf b (sl.subset hb)) (nd.sublist sl) (λb hb=>new b (sl.subset hb))⟩
 | [],_,q|_::_::_,_,q=>exact q.elim
def BO(hK:X.K=T.K)(hg:Gl X "list")(hm:X.mg "list"=none)(hv:bootBuiltins "list"=some (.type "list"))(ha:SE X T W e m)(he:starEach [e] X.env=[(false,eval e X.env)]:=by rfl):SE X T W (.Call (.Name "list" p) [e] [] pos) (af (p1 dR) (ab m ae)):=
 eV pD (zt hK) hg hm hv (bU ha cN he) (he:=he)
def cX:PV->MM:=λx=>match aV x with
 |some xs=>.ok (.tup xs)
 |none=>.stuck
theorem wC(hK:X.K=T.K):Mir T W (p1 cX) (λxs H Q=>∃p ys,xs=[.ref p]/\((SqL X.K H p ys/\∀l,H l=none->Q (.ref l) (upd H l (.tup ys)))\/(SqT X.K H p ys/\Q (.ref p) H))):=by
 intro B F L Y H Q F' H' xs vs fx g r nf nd new q
 match xs,r,q with
 | [x],r,q=>
  obtain⟨v,rfl,r1⟩:=r.one;simp only[p1,cX]at q;cases x with
  |lst f ys=>
   simp only[aV]at q;obtain⟨a,ws,fp',rfl,hl,hr,hf⟩:=r1;have sl:fp'.Sublist fx:=by
    cases f with
    |own=>obtain rfl:fx=a::fp':=hf;exact List.sublist_cons_self _ _
    |frz|bor|lnt|mod=>obtain⟨rfl,rfl⟩:=hf;exact Sublist.refl _
   exact⟨a,ws,rfl,.inl ⟨by rw[hK];exact hl.sq,GE.newT q g hr (λb hb=>nf b (sl.subset hb)) (nd.sublist sl) (λb hb=>new b (sl.subset hb))⟩⟩
  |tup ys=>have r2:=r1;obtain⟨a,ws,rfl,hs,hr⟩:=r2;exact⟨a,ws,rfl,.inr ⟨by lia,q _ _ _ fx g r1 nf nd new⟩⟩
  |_=>exact q.elim
 | [],_,q|_::_::_,_,q=>exact q.elim
def ye(hK:X.K=T.K)(hg:Gl X "tuple")(hm:X.mg "tuple"=none)(hv:bootBuiltins "tuple"=some (.type "tuple"))(ha:SE X T W e m)(he:starEach [e] X.env=[(false,eval e X.env)]:=by rfl):SE X T W (.Call (.Name "tuple" p) [e] [] pos) (af (p1 cX) (ab m ae)):=
 eV mD (wC hK) hg hm hv (bU ha cN he) (he:=he)
def ah:PV->PV->MM
 |x,.int i=>match aV x with
  |some xs=>match atI xs i with
   |some y=>if x.has Fl.MU&&y.has Fl.MU then .stuck else .ok y
   |none=>.stuck
  |none=>.stuck
 |_,_=>.stuck
def DP(r:RelL T F B L H xs vs f)(e:atI xs i=some y):∃v f',atI vs i=some v/\Rel T F B L H y v f'/\f'.Sublist f:=by
 unfold atI at e ⊢;rw[<- r.length];cases e1:ixN xs.length i with
 |none=>rw[e1]at e;cases e
 |some j=>rw[e1]at e;exact r.get e
theorem CG(hK:X.K=T.K):ip T W ah (λx y H Q=>F5 X.K x y H Q \/(FZ X.K x y H Q\/F4 x y H Q)):=by
 intro B F L Y H Q F' H' x y v u fx fy g rx ry nf nd new q;cases y with
 |int i=>
  obtain⟨rfl,rfl⟩:=ry;simp only[ah]at q;cases e:aV x with
  |none=>rw[e]at q;exact q.elim
  |some xs=>
   rw[e]at q;dsimp only at q;obtain⟨a,ws,fx',rfl,hs,hr,sl⟩:=rx.seq e;cases e2:atI xs i with
   |none=>rw[e2]at q;exact q.elim
   |some z=>
    rw[e2]at q;dsimp only at q;obtain⟨w,f',h1,h2,h3⟩:=DP hr e2;have e0:f'=[]:=by
     by_cases ho:x.has Fl.MU=true
     .by_cases hz:z.has Fl.MU=true
      .rw[ho,hz]at q;exact q.elim
      .exact Rel.MZ () h2
     .have:=Rel.MZ () rx;subst this;exact List.sublist_nil.mp (h3.trans sl)
    subst e0;by_cases hb:(x.has Fl.MU&&z.has Fl.MU)=true
    .rw[if_pos hb]at q;exact q.elim
    .rw[if_neg hb]at q;rcases hs with hs|hs
     .exact .inl ⟨a,ws,i,w,rfl,rfl,by lia,h1,q.scal g h2⟩
     .exact .inr (.inl ⟨a,ws,i,w,rfl,rfl,by lia,h1,q.scal g h2⟩)
 |_=>exact q.elim
def FH(hK:X.K=T.K)(ha:SE X T W a ma)(hb:SE X T W b mb)(hs:jD b):SE X T W (.Subscript a b pos) (mOp ah ma mb):=
 IN G6 (CG hK) ha hb hs
abbrev MO:=En->Res (MG)
def bV:MO:=λ_=>.ok none
def dy(m:ME):MO:=λenv=>(m env).bind fun
 |.int i=>.ok (some i)
 |_=>.stuck
def gL(xs:ML)(lo hi:MG):ML:=(xs.drop (HT.sIx xs.length 0 lo)).take (HT.sIx xs.length xs.length hi-HT.sIx xs.length 0 lo)
def cP(o:ME)(lo hi:MO):ME:=λenv=>(o env).bind λx=>(lo env).bind λl=>(hi env).bind λh=>match x with
 |.lst _ xs=>.ok (.lst .own (gL xs l h))
 |_=>.stuck
theorem RelL.drop:∀{xs:ML}{vs:MJ}{f:MD} (n:Nat),RelL T F B L H xs vs f->∃f',RelL T F B L H (xs.drop n) (vs.drop n) f'/\f'.Sublist f
 |xs,vs,f,0,h=>⟨f,h,Sublist.refl _⟩
 | [],vs,f,n+1,h=>by obtain⟨rfl,rfl⟩:=h;exact⟨[],by simp[RelL],Sublist.refl _⟩
 |x::xs,_,_,n+1,h=>by obtain⟨v,ws,f1,f2,rfl,h1,h2,rfl⟩:=h;obtain⟨f',r,s⟩:=RelL.drop n h2;exact⟨f',by simpa using r,s.trans (List.sublist_append_right _ _)⟩
theorem RelL.take:∀{xs:ML}{vs:MJ}{f:MD} (n:Nat),RelL T F B L H xs vs f->∃f',RelL T F B L H (xs.take n) (vs.take n) f'/\f'.Sublist f
 |xs,vs,f,0,h=>⟨[],by simp[RelL],List.nil_sublist _⟩
 | [],vs,f,n+1,h=>by obtain⟨rfl,rfl⟩:=h;exact⟨[],by simp[RelL],Sublist.refl _⟩
 |x::xs,_,_,n+1,h=>by obtain⟨v,ws,f1,f2,rfl,h1,h2,rfl⟩:=h;obtain⟨f',r,s⟩:=RelL.take n h2;refine⟨f1++f',?_,Sublist.append (Sublist.refl _) s⟩;exact⟨v,_,f1,f',rfl,h1,r,rfl⟩
def tO(T:Tb)(W:Nat->St->MK)(m:MO):TO:=λY H Q=>∃Z F env fp,ax T Z F H Y env fp/\match m env with
 |.ok o=>∀H' F',Gr F H F' H'->Q o H'
 |.exc c=>∀H',Ext H H'->W c Y H'
 |.stuck=>False
abbrev SO(X:Cx)(T:Tb)(W:Nat->St->MK)(e:Option Expr)(m:MO):Prop:=PO X e (tO T W m)
def Bt:SO X T W none bV:=λjs s Y H Q I z=>by obtain⟨Z,F,env,fp,S,q⟩:=z;exact B_ js s Y H Q I (q H F (Gr.refl S.hp.ft))
def Br(h:SE X T W e m):SO X T W (some e) (dy m):=λjs s Y H Q I ⟨Z,F,env,fp,S,q⟩=>B9 h js s Y H Q I (by
 unfold dy at q;refine tE.bind S (λc e=>by rw[e]at q;exact q) (λe=>by simp_all) λx v H1 F1 f1 e1 g1 r1 n1 d1 w1=>?_;rw[e1]at q;cases x with
 |int i=>unfold Rel at r1;exact⟨i,r1.1,q H1 F1 g1⟩
 |_=>exact q.elim)
def yg(hK:X.K=T.K)(he:SE X T W e m)(hl:SO X T W lo ml)(hu:SO X T W hi mh):SE X T W (.Subscript e (.Slice lo hi none p2) pos) (cP m ml mh):=
 PE.wk (qa Bv he hl hu) λY H Q hz1=>by
  walk_at "b";unfold cP at q;walk_at "a";refine⟨Z,F1,env,fp,S.grow g1,?_⟩;cases e2:ml env with
  |exc c=>rw[e2]at q;exact λH' x=>q H' (g1.ext.trans x)
  |stuck=>rw[e2]at q;exact q
  |ok l=>
   rw[e2]at q;intro H2 F2 g2;refine⟨Z,F2,env,fp,(S.grow g1).grow g2,?_⟩;cases e3:mh env with
   |exc c=>rw[e3]at q;exact λH' x=>q H' ((g1.ext.trans g2.ext).trans x)
   |stuck=>rw[e3]at q;exact q
   |ok h=>
    rw[e3]at q;intro H3 F3 g3;cases x with
    |lst f xs=>
     have g:=(g1.trans g2).trans g3;have r3:=(r1.ext (g2.trans g3).ext (g2.trans g3).mono)
     have nf3:∀a∈f1,¬F3 a:=λa ha z=>by
      rcases(g2.trans g3).only a z with z|z
      .exact n1 a ha z
      .obtain⟨o,ho⟩:=r1.there a ha;rw[ho]at z;cases z
     obtain⟨a,ws,fp',rfl,hll,hr,hf⟩:=r3;have sl:fp'.Sublist f1:=by
      cases f with
      |own=>obtain rfl:f1=a::fp':=hf;exact List.sublist_cons_self _ _
      |frz|bor|lnt|mod=>obtain⟨rfl,rfl⟩:=hf;exact Sublist.refl _
     obtain⟨f4,h4,s4⟩:=RelL.drop (HT.sIx xs.length 0 l) hr;obtain⟨f5,h5,s5⟩:=RelL.take (HT.sIx xs.length xs.length h-HT.sIx xs.length 0 l) h4;have sl2:=(s5.trans s4).trans sl;refine⟨a,ws,rfl,by rw[hK];exact hll.sq,?_⟩;unfold DH;rw[<- hr.length];exact GE.newL q g h5 (λb hb=>nf3 b (sl2.subset hb)) (d1.sublist sl2) (λb hb=>w1 b (sl2.subset hb))
    |_=>exact q.elim
def D7(K:PySem.W.Frag):R2:=λx y H Q=>∃l b xs zs,x=.ref l/\y=.ref b/\Rd H l (.lst xs)/\Rd H b (.lst zs)/\xs.length+zs.length<=sizeLine/\∀p,H p=none->Q (.ref p) (upd H p (.lst (xs++zs)))
theorem Co:OpR X (binaryOp .Add) (D7 K):=by
 intro js s Y H x y v u Q I rx ry h;obtain⟨l,b,xs,zs,rfl,rfl,hH,hB,hz,q⟩:=h;cases rx;cases ry;obtain⟨z,its,n,r,e⟩:=hH.ok I.hok;obtain⟨z2,its2,n2,r2,e2⟩:=hB.ok I.hok;have hl:=r.length;have hl2:=r2.length;refine PySem.P.add_list e e2 ?_ (by rw[size_toArray,size_toArray];lia);have ea:its.toArray++its2.toArray=(its++its2).toArray:=by simp
 rw[ea];exact⟨.ref _,_,I.lnew (t':=s.toks) (r.append r2) (by rw[length_append];lia),rfl,q _ I.fresh⟩
noncomputable def aJ:PV->PV->MM
 |.int i,.int j=>.ok (.int (i+j))
 |.lst f xs,.lst g ys=>if f=.mod\/g=.mod\/¬xs.length+ys.length<=10000000 then .stuck else .ok (.lst .own (xs++ys))
 |_,_=>.stuck
def l7.rd(h:l7 T F B L H f a vs)(n:f≠.mod):Rd H a (.lst vs):=by
 cases f with
 |own=>exact .inl h
 |lnt=>exact .inl h.2
 |frz|bor=>exact h.2
 |mod=>exact absurd rfl n
def rN.sub(hf:rN f a fp' fx):fp'.Sublist fx:=by
 cases f with
 |own=>obtain rfl:fx=a::fp':=hf;exact List.sublist_cons_self _ _
 |frz|bor|lnt|mod=>obtain⟨rfl,rfl⟩:=hf;exact Sublist.refl _
theorem zo:ip T W aJ (λx y H Q=>(rI0 λi j=>.int (i+j)) x y H Q\/D7 T.K x y H Q):=by
 intro B F L Y H Q F' H' x y v u fx fy g rx ry nf nd new q;cases x with
 |int i=>
  cases y with
  |int j=>unfold Rel at rx ry;exact .inl ⟨i,j,rx.1,ry.1,q.scal g dP⟩
  |_=>exact q.elim
 |lst f xs=>
  cases y with
  |lst f' ys=>
   simp only[aJ]at q;by_cases hc:f=.mod\/f'=.mod\/¬xs.length+ys.length<=10000000
   .rw[if_pos hc]at q;exact q.elim
   .rw[if_neg hc]at q;obtain⟨a,vs,fp1,rfl,hl1,hr1,hf1⟩:=rx;obtain⟨b,us,fp2,rfl,hl2,hr2,hf2⟩:=ry;have sl:=Sublist.append hf1.sub hf2.sub;refine .inr ⟨a,b,vs,us,rfl,rfl,hl1.rd λz=>hc (.inl z),hl2.rd λz=>hc (.inr (.inl z)),by rw[<- hr1.length,<- hr2.length,sizeLine_eq];lia,?_⟩;exact GE.newL q g (RelL.append hr1 hr2) (λb hb=>nf b (sl.subset hb)) (nd.sublist sl) (λb hb=>new b (sl.subset hb))
  |_=>exact q.elim
 |_=>exact q.elim
def OpR.or(h:OpR X f r)(h':OpR X f r'):OpR X f (λx y H Q=>r x y H Q\/r' x y H Q):=by
 intro js s Y H x y v u Q I rx ry q;rcases q with q|q
 .exact h js s Y H x y v u Q I rx ry q
 .exact h' js s Y H x y v u Q I rx ry q
def FN(ha:SE X T W a ma)(hb:SE X T W b mb):SE X T W (.BinOp a .Add b pos) (mOp aJ ma mb):=ka (OpR.or GH Co) zo ha hb
end
mutual
noncomputable def PV.data:PV->PyData
 |.non=>.none
 |.bl b=>.bool b
 |.int i=>.int i
 |.str x=>.str x
 |.lst _ xs=>.list (dataL xs)
 |.tup xs=>.tuple (dataL xs)
 |.obj _ _ _ _|.exc _|.box _ _=>.dict []
noncomputable def dataL:ML->List PyData
 | []=>[]
 |x::xs=>x.data::dataL xs
end
def shp(x:PV):Bool:=SeqAt.shaped x.data
section
variable{X:Cx}{T:Tb}{W:Nat->St->MK}{Z:Zn}{F F1 B L:Mz}{H H1:Hp}{Y:St}{env:En}{fp:Nat->MD}{D:Ends}{js:My}{s:Shared}
mutual
theorem Rel.reads(hK:X.K=T.K)(I:L2.Inv X js Y H s):∀{x:PV}{v:V}{f:MD}{u:Value},Rel T F B L H x v f->bA v u->x.data.canLay0=true->∃as,Reads s.heap u x.data as
 |.non,_,_,_,r,ru,_=>by unfold Rel at r;obtain⟨rfl,_⟩:=r;cases ru;exact⟨[],.none⟩
 |.bl b,_,_,_,r,ru,_=>by unfold Rel at r;obtain⟨rfl,_⟩:=r;cases ru;exact⟨[],.bool b⟩
 |.int i,_,_,_,r,ru,_=>by unfold Rel at r;obtain⟨rfl,_⟩:=r;obtain⟨t,rfl⟩:=ru;exact⟨[],.int i t⟩
 |.str x,_,_,_,r,ru,_=>by unfold Rel at r;obtain⟨rfl,_⟩:=r;obtain⟨t,rfl⟩:=ru;exact⟨[],.str x t⟩
 |.lst f xs,_,_,_,r,ru,hc=>by unfold Rel at r;obtain⟨a,vs,fp',rfl,hl,hr,_⟩:=r;cases ru;obtain⟨its,rv,⟨o,n,ho,hcl,_,hd⟩,_⟩:=I.list (by rw[hK];exact hl.sq);obtain⟨as,ra⟩:=RelL.reads hK I hr rv (by simpa[PV.data,PyData.canLay0]using hc);exact⟨_,.list ho hcl hd (by simpa using ra)⟩
 |.tup xs,_,_,_,r,ru,hc=>by unfold Rel at r;obtain⟨a,vs,rfl,hl,hr⟩:=r;cases ru;obtain⟨its,rv,⟨o,ho,hcl,n,hd⟩,_⟩:=I.tuple (by rw[hK];exact hl);obtain⟨as,ra⟩:=RelL.reads hK I hr rv (by simpa[PV.data,PyData.canLay0]using hc);exact⟨_,.tuple ho hcl hd (by simpa using ra)⟩
 |.obj _ _ _ _,_,_,_,_,_,hc|.exc _,_,_,_,_,_,hc|.box _ _,_,_,_,_,_,hc=>by simp[PV.data,PyData.canLay0]at hc
theorem RelL.reads(hK:X.K=T.K)(I:L2.Inv X js Y H s):∀{xs:ML}{vs:MJ}{f:MD}{us:MC},RelL T F B L H xs vs f->aS vs us->PyData.canLayAll0 (dataL xs)=true->∃as,ReadsAll s.heap us (dataL xs) as
 | [],_,_,_,r,ru,_=>by unfold RelL at r;obtain⟨rfl,_⟩:=r;cases ru;exact⟨[],.nil⟩
 |x::xs,_,_,_,r,ru,hc=>by
  unfold RelL at r;obtain⟨v,ws,f1,f2,rfl,h1,h2,_⟩:=r;cases ru with
  |cons r1 r2=>simp only[dataL,PyData.canLayAll0,and_eq_true]at hc;obtain⟨as,ra⟩:=Rel.reads hK I h1 r1 hc.1;obtain⟨bs,rb⟩:=RelL.reads hK I h2 r2 hc.2;exact⟨_,.cons ra rb⟩
end
def pEq:PV->PV->MM:=λx y=>if shp x&&shp y then .ok (.bl (PyData.eqv x.data y.data))else .stuck
def pNe:PV->PV->MM:=λx y=>if shp x&&shp y then .ok (.bl (!PyData.eqv x.data y.data))else .stuck
def yD(X:Cx)(T:Tb)(g:PyData->PyData->Bool):R2:=λv u H Q=>∃x y F B L fx fy,Rel T F B L H x v fx/\Rel T F B L H y u fy/\shp x=true/\shp y=true/\Q (.bl (g x.data y.data)) H
def y3(hK:X.K=T.K)(hu:X.A.units+64<cLine):OpR X (compareOp .Eq) (yD X T λa b=>PyData.eqv a b):=by intro js s Y H v u v' u' Q I rv ru h;obtain⟨x,y,F,B,L,fx,fy,rx,ry,hx,hy,q⟩:=h;obtain⟨as,ra⟩:=rx.reads hK I rv (SeqAt.canLay_of_shaped hx);obtain⟨bs,rb⟩:=ry.reads hK I ru (SeqAt.canLay_of_shaped hy);exact PyProof.Rows.eq_dataH ra rb hx hy hu ⟨.bl _,H,I,rfl,q⟩
def yZ(hK:X.K=T.K)(hu:X.A.units+64<cLine):OpR X (compareOp .NotEq) (yD X T λa b=>!PyData.eqv a b):=by intro js s Y H v u v' u' Q I rv ru h;obtain⟨x,y,F,B,L,fx,fy,rx,ry,hx,hy,q⟩:=h;obtain⟨as,ra⟩:=rx.reads hK I rv (SeqAt.canLay_of_shaped hx);obtain⟨bs,rb⟩:=ry.reads hK I ru (SeqAt.canLay_of_shaped hy);exact PyProof.Rows.ne_dataH ra rb hx hy hu ⟨.bl _,H,I,rfl,q⟩
def jg:ip T W (λx y=>if shp x&&shp y then .ok (.bl (g x.data y.data))else .stuck) (yD X T g):=by
 intro B F L Y H Q F' H' x y v u fx fy gr rx ry nf nd new q;dsimp only at q;by_cases hc:(shp x&&shp y)=true
 .rw[if_pos hc]at q;rw[and_eq_true]at hc;exact⟨x,y,F',B,L,fx,fy,rx,ry,hc.1,hc.2,q.scal gr fT⟩
 .rw[if_neg hc]at q;exact q.elim
variable{a b:Expr}{ma mb:ME}{pos:Pos}
def IQ(hK:X.K=T.K)(hu:X.A.units+64<cLine)(ha:SE X T W a ma)(hb:SE X T W b mb):SE X T W (.Compare a [.Eq] [b] pos) (mOp pEq ma mb):=kU (y3 hK hu) jg ha hb (dZ _)
def IL(hK:X.K=T.K)(hu:X.A.units+64<cLine)(ha:SE X T W a ma)(hb:SE X T W b mb):SE X T W (.Compare a [.NotEq] [b] pos) (mOp pNe ma mb):=kU (yZ hK hu) (jg (g:=λa b=>!PyData.eqv a b)) ha hb (dZ _)
def IG(hK:X.K=T.K)(hu:X.A.units+64<cLine)(ha:SE X T W a ma)(hb:SE X T W b mb):ST X T W (.Compare a [.Eq] [b] pos) (ai (mOp pEq ma mb)):=eY (y3 hK hu) jg ha hb (dZ _)
def IA(hK:X.K=T.K)(hu:X.A.units+64<cLine)(ha:SE X T W a ma)(hb:SE X T W b mb):ST X T W (.Compare a [.NotEq] [b] pos) (ai (mOp pNe ma mb)):=eY (yZ hK hu) (jg (g:=λa b=>!PyData.eqv a b)) ha hb (dZ _)
def IB(ha:SE X T W a ma)(hb:SE X T W b mb):ST X T W (.Compare a [.Lt] [b] pos) (ai (mOp pLt ma mb)):=eY Jh (iP λ_ _ _ _ _ _=>fT) ha hb (dZ _)
def IC(ha:SE X T W a ma)(hb:SE X T W b mb):ST X T W (.Compare a [.LtE] [b] pos) (ai (mOp pLe ma mb)):=eY D_ (iP λ_ _ _ _ _ _=>fT) ha hb (dZ _)
def IE(ha:SE X T W a ma)(hb:SE X T W b mb):ST X T W (.Compare a [.Gt] [b] pos) (ai (mOp pGt ma mb)):=eY Ea (iP λ_ _ _ _ _ _=>fT) ha hb (dZ _)
def IF(ha:SE X T W a ma)(hb:SE X T W b mb):ST X T W (.Compare a [.GtE] [b] pos) (ai (mOp pGe ma mb)):=eY Ji (iP λ_ _ _ _ _ _=>fT) ha hb (dZ _)
def inL(x:PV)(ys:ML):Bool:=ys.any λy=>PyData.eqv y.data x.data
def pIn:PV->PV->MM:=λx y=>match aV y with
 |some ys=>if shp x&&ys.all shp then .ok (.bl (inL x ys))else .stuck
 |none=>.stuck
def bW:PV->PV->MM:=λx y=>match aV y with
 |some ys=>if shp x&&ys.all shp then .ok (.bl (!inL x ys))else .stuck
 |none=>.stuck
def lS(hK:X.K=T.K)(I:L2.Inv X js Y H s)(hu:A.units+64<cLine)(rx:Rel T F B L H x v fx)(ry:Rel T F B L H y u fy)(rv:bA v v')(ru:bA u u')(hx:shp x=true)(hy:shp y=true) :
  SeqAt.EqAt A s v' u' (PyData.eqv x.data y.data):=by
 obtain⟨as,ra⟩:=rx.reads hK I rv (SeqAt.canLay_of_shaped hx);obtain⟨bs,rb⟩:=ry.reads hK I ru (SeqAt.canLay_of_shaped hy);exact SeqAt.eqAt_reads _ _ A s v' u' as bs ra rb (SeqAt.canLay_of_shaped hx) (SeqAt.canLay_of_shaped hy) (SeqAt.room_of_shaped hx hu)
theorem jk(hK:X.K=T.K)(I:L2.Inv X js Y H s)(hu:A.units+64<cLine)(rx:Rel T F B L H x v fx)(rv:bA v v')(hx:shp x=true) :
  ∀{ys:ML}{us:MJ}{fy:MD}{us':MC},RelL T F B L H ys us fy->aS us us'->ys.all shp=true->∃e:Value->Bool,(∀w∈us',SeqAt.EqAt A s w v' (e w))/\us'.any e=inL x ys:=by
 intro ys us fy us' r rv' hs;have one:∀(ys:ML) (us:MJ) (fy:MD) (us':MC),RelL T F B L H ys us fy->aS us us'->ys.all shp=true->∀w∈us',∃b,SeqAt.EqAt A s w v' b/\(b=true->inL x ys=true):=by
  intro ys
  induction ys with
  |nil=>intro us fy us' r rv' _ w hw;obtain⟨rfl,_⟩:=r;cases rv';cases hw
  |cons y ys ih=>
   intro us fy us' r rv' hs w hw;obtain⟨u,ws,f1,f2,rfl,h1,h2,_⟩:=r;cases rv' with
   |cons r1 r2=>
    rw[all_cons,and_eq_true]at hs;rcases mem_cons.mp hw with rfl|hw
    .exact⟨_,lS hK I hu h1 rx r1 rv hs.1 hx,λz=>by simp[inL,z]⟩
    .obtain⟨b,h3,h4⟩:=ih ws f2 _ h2 r2 hs.2 w hw;exact⟨b,h3,λz=>by have:=h4 z;unfold inL at this ⊢;simp[this]⟩
 have some_:∀(ys:ML) (us:MJ) (fy:MD) (us':MC),RelL T F B L H ys us fy->aS us us'->ys.all shp=true->inL x ys=true->∃w∈us',SeqAt.EqAt A s w v' true:=by
  intro ys
  induction ys with
  |nil=>intro us fy us' r rv' _ h;simp[inL]at h
  |cons y ys ih=>
   intro us fy us' r rv' hs h;obtain⟨u,ws,f1,f2,rfl,h1,h2,_⟩:=r;cases rv' with
   |cons r1 r2=>
    rw[all_cons,and_eq_true]at hs;by_cases hy:PyData.eqv y.data x.data=true
    .refine⟨_,mem_cons_self,?_⟩;have:=lS hK I hu h1 rx r1 rv hs.1 hx
     rwa [hy]at this
    .have h':inL x ys=true:=by unfold inL at h ⊢;simpa[hy]using h
     grind
 by_cases hin:inL x ys=true
 .obtain⟨w0,hw0,q0⟩:=some_ ys us fy us' r rv' hs hin;refine⟨λw=>@decide (SeqAt.EqAt A s w v' true) (Classical.propDecidable _),λw hw=>?_,?_⟩
  .obtain⟨b,h1,_⟩:=one ys us fy us' r rv' hs w hw;by_cases ht:SeqAt.EqAt A s w v' true
   .lia
   .simp only[ht];cases b with
    |true=>exact absurd h1 ht
    |false=>exact h1
  .rw[hin,any_eq_true];exact⟨w0,hw0,by simp[q0]⟩
 .have hin':inL x ys=false:=by simpa using hin
  refine⟨λ_=>false,λw hw=>?_,by simp_all⟩
  grind
def F6(X:Cx)(T:Tb)(neg:Bool):R2:=λv u H Q=>∃x ys a vs F B L fx fy,u=.ref a/\(SqL T.K H a vs\/SqT T.K H a vs)/\Rel T F B L H x v fx/\RelL T F B L H ys vs fy/\shp x=true/\ys.all shp=true/\Q (.bl (if neg then !inL x ys else inL x ys)) H
theorem GD(hK:X.K=T.K)(hu:X.A.units+66<cLine):OpR X (compareOp .In) (F6 X T false):=by
 intro js s Y H v u v' u' Q I rv ru h;obtain⟨x,ys,a,vs,F,B,L,fx,fy,rfl,hs,rx,ry,hx,hy,q⟩:=h;cases ru;have hu1:X.A.in1.units+64<cLine:=by lia
 rcases hs with hs|hs
 .obtain⟨its,r,pl,_⟩:=I.list (by rw[hK];exact hs);obtain⟨e,h1,h2⟩:=jk hK I hu1 rx rv hx ry r hy;refine SeqAt.in_listAt e pl.isList (λw hw=>h1 w (by simp_all)) ⟨.bl _,H,I,rfl,?_⟩;rw[show its.toArray.any e=its.any e by simp,h2];exact q
 .obtain⟨its,r,pl,_⟩:=I.tuple (by rw[hK];exact hs);obtain⟨e,h1,h2⟩:=jk hK I hu1 rx rv hx ry r hy;refine SeqAt.in_tupleAt e pl (λw hw=>h1 w (by simp_all)) ⟨.bl _,H,I,rfl,?_⟩;rw[show its.toArray.any e=its.any e by simp,h2];exact q
def wu(hK:X.K=T.K)(hu:X.A.units+66<cLine):OpR X (compareOp .NotIn) (F6 X T true):=by
 intro js s Y H v u v' u' Q I rv ru h;obtain⟨x,ys,a,vs,F,B,L,fx,fy,rfl,hs,rx,ry,hx,hy,q⟩:=h;cases ru;have hu1:X.A.in1.units+64<cLine:=by lia
 rcases hs with hs|hs
 .obtain⟨its,r,pl,_⟩:=I.list (by rw[hK];exact hs);obtain⟨e,h1,h2⟩:=jk hK I hu1 rx rv hx ry r hy;refine SeqAt.notIn_listAt e pl.isList (λw hw=>h1 w (by simp_all)) ⟨.bl _,H,I,rfl,?_⟩;rw[show its.toArray.any e=its.any e by simp,h2];exact q
 .obtain⟨its,r,pl,_⟩:=I.tuple (by rw[hK];exact hs);obtain⟨e,h1,h2⟩:=jk hK I hu1 rx rv hx ry r hy;refine SeqAt.notIn_tupleAt e pl (λw hw=>h1 w (by simp_all)) ⟨.bl _,H,I,rfl,?_⟩;rw[show its.toArray.any e=its.any e by simp,h2];exact q
def zw:ip T W (λx y=>match aV y with
 |some ys=>if shp x&&ys.all shp then .ok (.bl (if neg then !inL x ys else inL x ys))else .stuck
 |none=>.stuck) (F6 X T neg):=by
 intro B F L Y H Q F' H' x y v u fx fy gr rx ry nf nd new q;dsimp only at q;cases e:aV y with
 |none=>rw[e]at q;exact q.elim
 |some ys=>
  rw[e]at q;dsimp only at q;by_cases hc:(shp x&&ys.all shp)=true
  .rw[if_pos hc]at q;rw[and_eq_true]at hc;obtain⟨a,ws,f',rfl,hs,hr,_⟩:=ry.seq e;exact⟨x,ys,a,ws,F',B,L,fx,f',rfl,hs,rx,hr,hc.1,hc.2,q.scal gr fT⟩
  .rw[if_neg hc]at q;exact q.elim
def ID(hK:X.K=T.K)(hu:X.A.units+66<cLine)(ha:SE X T W a ma)(hb:SE X T W b mb)(hk:behindInMarks .In b=false:=by with_unfolding_all rfl):ST X T W (.Compare a [.In] [b] pos) (ai (mOp pIn ma mb)):=eY (GD hK hu) (zw (neg:=false)) ha hb hk
def xL(hK:X.K=T.K)(hu:X.A.units+66<cLine)(ha:SE X T W a ma)(hb:SE X T W b mb)(hk:behindInMarks .NotIn b=false:=by with_unfolding_all rfl):ST X T W (.Compare a [.NotIn] [b] pos) (ai (mOp bW ma mb)):=eY (wu hK hu) (zw (neg:=true)) ha hb hk
noncomputable def PV.isNon:PV->Bool
 |.non=>true
 |_=>false
def gO:PV->PV->MM
 |x,.non=>.ok (.bl x.isNon)
 |_,_=>.stuck
def gX:PV->PV->MM
 |x,.non=>.ok (.bl (!x.isNon))
 |_,_=>.stuck
def Rel.isNon(r:Rel T F B L H x v f):decide (v=.non)=x.isNon:=by
 cases x with
 |non|bl b|int i|str i=>unfold Rel at r;rw[r.1];rfl
 |lst f xs=>unfold Rel at r;obtain⟨a,_,_,rfl,_⟩:=r;rfl
 |tup xs=>unfold Rel at r;obtain⟨a,_,rfl,_⟩:=r;rfl
 |obj f c ks xs=>unfold Rel at r;obtain⟨a,_,_,_,rfl,_⟩:=r;rfl
 |exc c=>unfold Rel at r;obtain⟨a,rfl,_⟩:=r;rfl
 |box k xs=>unfold Rel at r;obtain⟨a,vs,rfl,_⟩:=r;rfl
def CF:ip T W gO (λx y H Q=>y=.non/\Q (.bl (decide (x=.non))) H):=by
 intro B F L Y H Q F' H' x y v u fx fy gr rx ry nf nd new q;cases y with
 |non=>unfold Rel at ry;refine⟨ry.1,?_⟩;rw[rx.isNon];exact GE.scal (by simpa[gO]using q) gr fT
 |_=>simp only[gO]at q;exact q.elim
def zq:ip T W gX (λx y H Q=>y=.non/\Q (.bl (!decide (x=.non))) H):=by
 intro B F L Y H Q F' H' x y v u fx fy gr rx ry nf nd new q;cases y with
 |non=>unfold Rel at ry;refine⟨ry.1,?_⟩;rw[rx.isNon];exact GE.scal (by simpa[gX]using q) gr fT
 |_=>simp only[gX]at q;exact q.elim
def E0(ha:SE X T W a ma)(hb:SE X T W b mb):ST X T W (.Compare a [.Is] [b] pos) (ai (mOp gO ma mb)):=eY GB CF ha hb (dZ _)
def Bf(ha:SE X T W a ma)(hb:SE X T W b mb):ST X T W (.Compare a [.IsNot] [b] pos) (ai (mOp gX ma mb)):=eY Ck zq ha hb (dZ _)
end
abbrev TgM:=PV->En->Option En
abbrev t3:=ML->En->Option En
def tgN(i:Nat):TgM:=λv env=>if aQ i env then some (env.set i (some v))else none
def eX:t3:=λvs env=>match vs with
 | []=>some env
 |_=>none
noncomputable def bj(t:TgM)(u:t3):t3:=λvs env=>match vs with
 |v::r=>match t v env with
  |some e=>u r e
  |none=>none
 | []=>none
noncomputable def tgT(n:Nat)(u:t3):TgM:=λv env=>match v with
 |.tup xs=>if xs.length=n then u xs env else none
 |_=>none
structure xo(Z:Zn)(F:Mz)(fp:Nat->MD)(f:MD):Prop where
 nd:f.Nodup
 nf:∀a∈f,¬F a
 new:∀a∈f,Z.H0 a=none\/Z.fp0 a
 dj:∀a∈f,∀j,a∉fp j
def xo.nil:xo Z F fp []:=⟨nodup_nil,λ_ z=>(nomatch z),λ_ z=>(nomatch z),λ_ z=>(nomatch z)⟩
def GG(T:Tb)(Z:Zn)(F:Mz)(H:Hp)(Q:St->MK):Option En->Prop
 |some e=>∀Y fp,ax T Z F H Y e fp->Q Y H
 |none=>False
def tG(T:Tb)(m:TgM):TG:=λv Y H Q=>∃Z F env fp pv f,ax T Z F H Y env fp/\Rel T F Z.B NoL H pv v f/\xo Z F fp f/\GG T Z F H Q (m pv env)
def tGs(T:Tb)(m:t3):TGs:=λvs Y H Q=>∃Z F env fp pvs f,ax T Z F H Y env fp/\RelL T F Z.B NoL H pvs vs f/\xo Z F fp f/\GG T Z F H Q (m pvs env)
abbrev SG(X:Cx)(T:Tb)(tg:Expr)(m:TgM):Prop:=PG X tg (tG T m)
abbrev SGs(X:Cx)(T:Tb)(ts:List Expr)(m:t3):Prop:=PGs X ts (tGs T m)
section
variable{X:Cx}{T:Tb}{W:Nat->St->MK}{Z:Zn}{F F1 B L:Mz}{H H1:Hp}{Y:St}{env:En}{fp:Nat->MD}{D:Ends}
def PG.wk(h:PG X tg t)(w:∀v Y H Q,t' v Y H Q->t v Y H Q):PG X tg t':=λjs s Y H v u Q I r q=>h js s Y H v u Q I r (w v Y H Q q)
def PGs.wk(h:PGs X ts t)(w:∀v Y H Q,t' v Y H Q->t v Y H Q):PGs X ts t':=λjs s Y H v u Q I r q=>h js s Y H v u Q I r (w v Y H Q q)
def BC(hN:X.N.Nodup)(hi:X.N[i]?=some x)(hx:Loc X.env.scope x)(hf:Lce X.fn X.env x:=by first|exact .inl rfl|exact .inr rfl|assumption):SG X T (.Name x pos) (tgN i):=
 PG.wk (uu hN hi hx hf) λv Y H Q hz1=>by
  obtain⟨Z,F,env,fp,pv,f,S,r,fr,q⟩:=hz1;unfold tgN at q;by_cases ho:aQ i env=true
  .rw[if_pos ho]at q;exact q _ _ (S.put r fr.nd fr.nf fr.new (λa ha j _=>fr.dj a ha j) ho)
  .rw[if_neg ho]at q;exact q.elim
def BB:SGs X T [] eX:=PGs.wk Cd λvs Y H Q hz1=>by
 obtain⟨Z,F,env,fp,pvs,f,S,r,fr,q⟩:=hz1;cases pvs with
 |nil=>unfold RelL at r;exact⟨r.1,q Y fp S⟩
 |cons x xs=>exact q.elim
def ya(hN:X.N.Nodup)(hi:X.N[i]?=some x)(hx:Loc X.env.scope x)(h2:SGs X T es u)
  (hs:(assignEach (.Name x pos::es) X.env).map (·.2)=assign (.Name x pos) X.env::(assignEach es X.env).map (·.2):=by rfl)
  (hf:Lce X.fn X.env x:=by first|exact .inl rfl|exact .inr rfl|assumption):SGs X T (.Name x pos::es) (bj (tgN i) u):=
 PGs.wk (yR (uu hN hi hx hf) h2 hs) λvs Y H Q hz1=>by
  obtain⟨Z,F,env,fp,pvs,f,S,r,fr,q⟩:=hz1;cases pvs with
  |nil=>exact q.elim
  |cons y ys=>
   obtain⟨v,ws,f1,f2,rfl,r1,r2,rfl⟩:=r;obtain⟨n1,n2,n3⟩:=nodup_append.mp fr.nd;by_cases ho:aQ i env=true
   case neg=>simp only[bj,tgN,if_neg ho]at q;exact q.elim
   simp only[bj,tgN,if_pos ho]at q;refine⟨v,ws,rfl,Z,F,env.set i (some y),cv fp i f1,ys,f2,S.put r1 n1 (λa ha=>fr.nf a (mem_append_left _ ha)) (λa ha=>fr.new a (mem_append_left _ ha)) (λa ha j _=>fr.dj a (mem_append_left _ ha) j) ho,r2,⟨n2,λa ha=>fr.nf a (mem_append_right _ ha),λa ha=>fr.new a (mem_append_right _ ha),λa ha j=>?_⟩,q⟩;unfold cv;split
   .exact λz=>n3 a z a ha rfl
   .exact fr.dj a (mem_append_right _ ha) j
def Fd(hK:X.K=T.K)(hc:X.calm=true)(h:SGs X T es u)(hn:(assignEach es X.env).length=n:=by rfl)(hst:(assignEach es X.env).findIdx? (·.1)=none:=by rfl):SG X T (.Tuple es k pos) (tgT n u):=
 PG.wk (Gi hc h hn hst) λv Y H Q hz1=>by
  obtain⟨Z,F,env,fp,pv,f,S,r,fr,q⟩:=hz1;cases pv with
  |tup xs=>
   obtain⟨a,vs,rfl,hl,hr⟩:=r;simp only[tgT]at q;by_cases hx:xs.length=n
   .rw[if_pos hx]at q;exact⟨a,vs,rfl,by lia,by rw[<- hr.length];exact hx,Z,F,env,fp,xs,f,S,hr,fr,q⟩
   .rw[if_neg hx]at q;exact q.elim
  |_=>exact q.elim
abbrev MI:=En->Res (ML)
def ItR(T:Tb)(F B:Mz)(Ow:Mz)(H1:Hp)(J:It)(xs:ML):Prop:=
 ∀H2,(∀a o,H1 a=some o->¬Ow a->H2 a=some o)->(∀(i:Nat) x,xs[i]?=some x->J.go i H2/\∀v H3,J.yld i H2 v H3->Ext H2 H3/\Rel T F B NoL H3 x v [])/\J.stop xs.length H2
def ItR.of0(h:∀H2,(∀a o,H1 a=some o->¬Ow a->H2 a=some o)->(∀(i:Nat) x,xs[i]?=some x->J.go i H2/\∀v H3,J.yld i H2 v H3->H3=H2/\Rel T F B NoL H2 x v [])/\J.stop xs.length H2):ItR T F B Ow H1 J xs:=λH2 hk=>by obtain⟨a,b⟩:=h H2 hk;refine⟨λi x e=>⟨(a i x e).1,λv H3 hy=>?_⟩,b⟩;obtain⟨rfl,r⟩:=(a i x e).2 v H3 hy;exact⟨Ext.refl,r⟩
def GI(T:Tb)(W:Nat->St->MK)(B F Ow:Mz)(Y:St)(H:Hp)(R:It->MK):Res (ML)->Prop
 |.ok xs=>∀J H1 F1,Gr F H F1 H1->ItR T F1 B Ow H1 J xs->R J H1
 |.exc c=>∀H',Ext H H'->W c Y H'
 |.stuck=>False
def tI(T:Tb)(W:Nat->St->MK)(m:MI):TI:=λY H R=>∃Z F env fp,ax T Z F H Y env fp/\GI T W Z.B F (Own fp) Y H R (m env)
abbrev SI(X:Cx)(T:Tb)(W:Nat->St->MK)(tg iter:Expr)(m:MI):Prop:=PI X tg iter (tI T W m)
def yP(hl:PE X l tl):PI X tg l (λY H R=>tl Y H λx H1=>∃a,x=.ref a/\((∃xs,SqL X.K H1 a xs/\R (Itl X.K a) H1)\/ ∃xs,SqT X.K H1 a xs/\R (Itt X.K a) H1)):=by
 intro js s Y H R I h;refine thn (hl js s Y H _ I h) λv s1 hz1=>?_;obtain⟨x,H1,I1,r1,q1⟩:=hz1;obtain⟨a,e,q⟩:=q1;subst e;cases r1;rcases q with⟨xs,hq,q⟩ |⟨xs,hq,q⟩
 .obtain⟨its,rv,p,hz⟩:=I1.list hq;refine wpAny_pyIter_list p.isList ?_;refine⟨s1.heap.objs.size,[s1.heap.objs.size],_,_,H1,rfl,I1.kept (t':=s1.toks) λb o e=>get?_push_of_some _ e,vG a _,⟨_,get?_push_size _ rfl,rfl,rfl⟩,λb hb=>?_,q⟩;have e:b=s1.heap.objs.size:=by simpa using hb
  subst e;exact I1.fpOk (Nat.le_refl _) (I1.hok.fresh (Nat.le_refl _))
 .obtain⟨its,rv,p,hz⟩:=I1.tuple hq;refine wpAny_pyIter_tuple (show s1.heap.IsTuple a its.toArray from p) ?_;refine⟨s1.heap.objs.size,[s1.heap.objs.size],_,_,H1,rfl,I1.kept (t':=s1.toks) λb o e=>get?_push_of_some _ e,rR a _,⟨_,get?_push_size _ rfl,rfl,rfl⟩,λb hb=>?_,q⟩;have e:b=s1.heap.objs.size:=by simpa using hb
  subst e;exact I1.fpOk (Nat.le_refl _) (I1.hok.fresh (Nat.le_refl _))
def eQ(xs:ML):Bool:=!hasL Fl.MU xs&&!hasL Fl.MV xs
def dF(m:ME):MI:=λenv=>(m env).bind λx=>match x with
 |.lst f xs=>if !f.MV&&eQ xs then .ok xs else .stuck
 |.tup xs=>if eQ xs then .ok xs else .stuck
 |_=>.stuck
def gG{H2:Hp}{Ow:Mz}(hF:∀a,F1 a->¬Ow a)(hB:∀a,B a->¬Ow a)(hO:∀a o,Ow a->H1 a=some o->Chg o)(hk:∀a o,H1 a=some o->¬Ow a->H2 a=some o){xs:ML}{vs:MJ}(r:RelL T F1 B NoL H1 xs vs []){i:Nat}{x:PV}{v:V}(e:xs[i]?=some x)(ev:vs[i]?=some v):Rel T F1 B NoL H2 x v []:=by
 obtain⟨w,f,e1,r1,sl⟩:=r.get e;rw[ev]at e1;cases e1;obtain rfl:=List.sublist_nil.mp sl;refine Rel.tr (λ_ h=>h) (λ_ h=>h) (λ_ h=>h) (λa o q h=>hk a o q ?_) (λ_ z=>(nomatch z)) r1;rcases h with h|h|h|h
 .exact hF a h
 .exact hB a h
 .exact h.elim
 .intro z;have:=hO a o z q;cases o with
  |lst _|ins _ _ _=>exact h
  |_=>exact this
def ax.bow(S:ax T Z F H Y env fp):∀a,Z.B a->¬Own fp a:=λa h hz1=>by
 obtain⟨i,hi⟩:=hz1;obtain⟨⟨o,h1⟩,h2⟩:=S.hp.bo.1 a h;rcases S.new i a hi with z|z
 .rw[h1]at z;cases z
 .exact h2 z
def ax.fow(S:ax T Z F H Y env fp):∀a,F a->¬Own fp a:=λa h ⟨i,hi⟩=>(S.dis i a hi).1 h
def ax.oow(S:ax T Z F H Y env fp):∀a o,Own fp a->H a=some o->Chg o:=λa o hz1 e=>by obtain⟨i,hi⟩:=hz1;obtain⟨o',h1,h2⟩:=S.ch i a hi;rw[e]at h1;cases h1;exact h2
def er(h:eQ xs=true)(r:RelL T F B L H xs vs f):f=[]/\RelL T F B NoL H xs vs f:=by simp only[eQ,and_eq_true,not_eq_true']at h;exact⟨RelL.MZ h.1 r,RelL.noL h.2 r⟩
def Fa(hK:X.K=T.K)(he:SE X T W e m):SI X T W tg e (dF m):=λjs s Y H R I h=>yP he js s Y H R I (by
 obtain⟨Z,F,env,fp,S,q⟩:=h;unfold dF at q;walk_at "a";simp only[Res.M0]at q;have S1:=S.grow g1;rw[hK];cases x with
 |lst f xs=>
  dsimp only at q;by_cases hc:(!f.MV&&eQ xs)=true
  .rw[if_pos hc]at q;rw[and_eq_true]at hc;obtain⟨a,vs,fp',rfl,hl,hr,hf⟩:=r1;obtain⟨rfl,hr'⟩:=er hc.2 hr;refine⟨a,rfl,.inl ⟨vs,hl.sq,q _ H1 F1 g1 (ItR.of0 λH2 hk=>?_)⟩⟩;have na:f≠.mod->∀o,H1 a=some o->H2 a=some o:=λhn o ho=>by
    refine hk a o ho ?_;cases f with
    |own=>rintro⟨i,hi⟩;obtain⟨_,o',ho'⟩:=S.dis i a hi;obtain rfl:f1=[a]:=hf;rw[w1 a mem_cons_self]at ho';cases ho'
    |frz=>exact S1.fow a hl.1
    |bor=>exact S1.bow a hl.1
    |lnt=>exact absurd hc.1 ()
    |mod=>exact absurd rfl hn
   have hl2:SqL T.K H2 a vs:=by
    by_cases hn:f=.mod
    .subst hn;exact .inr hl
    .exact .inl (Rd.tr (na hn) (hl.rd hn))
   refine⟨λi x ex=>?_,⟨vs,hl2,by rw[hr.length];exact Nat.le_refl _⟩⟩;obtain⟨v,_,ev,_,_⟩:=hr.get ex;refine⟨⟨vs,v,hl2,ev⟩,λw H3 hy=>⟨hy.1,?_⟩⟩;have e3:=hy.2 vs hl2;exact gG S1.fow S1.bow S1.oow hk hr' ex e3
  .rw[if_neg hc]at q;exact q.elim
 |tup xs=>
  dsimp only at q;by_cases hc:eQ xs=true
  .rw[if_pos hc]at q;obtain⟨a,vs,rfl,hl,hr⟩:=r1;obtain⟨rfl,hr'⟩:=er hc hr;refine⟨a,rfl,.inr ⟨vs,hl,q _ H1 F1 g1 (ItR.of0 λH2 hk=>?_)⟩⟩;have hl2:SqT T.K H2 a vs:=SqT.tr (λo ho hfx=>hk a o ho λz=>by
    have:=S1.oow a o z ho;cases o with
    |lst _|ins _ _ _=>exact hfx
    |_=>exact this) hl
   refine⟨λi x ex=>?_,⟨vs,hl2,by rw[hr.length];exact Nat.le_refl _⟩⟩;obtain⟨v,_,ev,_,_⟩:=hr.get ex;refine⟨⟨vs,v,hl2,ev⟩,λw H3 hy=>⟨hy.1,?_⟩⟩;exact gG S1.fow S1.bow S1.oow hk hr' ex (hy.2 vs hl2)
  .rw[if_neg hc]at q;exact q.elim
 |_=>exact q.elim)
noncomputable def dY(lo:Int)(n:Nat):ML:=(range n).map λk=>.int (lo+(k:Nat))
noncomputable def inR(i:Int):Bool:=decide (-(2 ^ 62)<= i/\i<2 ^ 62)
def bJ(ms:MA):MI:=λenv=>(ms env).bind λxs=>match xs with
 | [.int n]=>if inR n then .ok (dY 0 n.toNat)else .stuck
 |_=>.stuck
def lC(ms:MA):MI:=λenv=>(ms env).bind λxs=>match xs with
 | [.int i,.int j]=>if inR i&&inR j then .ok (dY i (j-i).toNat)else .stuck
 |_=>.stuck
def uH:ItR T F1 B Ow H1 (Itr lo n) (dY lo n):=by
 apply ItR.of0;intro H2 _;refine⟨λi x ex=>?_,by simp[dY,Itr]⟩;have hi:i<n:=by have:=(List.getElem?_eq_some_iff.mp ex).1;simpa[dY]using this
 refine⟨hi,λv H3 hy=>⟨hy.1,?_⟩⟩;obtain⟨_,rfl⟩:=hy;have:x=.int (lo+(i:Nat)):=by simp[dY,hi]at ex;exact ex.symm
 subst this;exact dP
def vR(hg:Gl X "range")(hm:X.mg "range" = none)(ha:SA X T W [a] ms)(hs:starEach [a] X.env=[(false,eval a X.env)]:=by rfl):SI X T W tg (.Call (.Name "range" p) [a] [] pos) (bJ ms):=λjs s Y H R I h=>m7 hg hm ha hs js s Y H R I (by
 obtain⟨Z,F,env,fp,S,q⟩:=h;unfold bJ at q;refine tA.bq S λxs vs H1 F1 f1 e1 g1 r1 n1 d1 w1=>?_;rw[e1]at q;simp at q;split at q
 .rename_i n
  split at q
  .rename_i hc
   obtain⟨v,rfl,r2⟩:=r1.one;obtain⟨rfl,_⟩:=r2;have hc':-(2 ^ 62)<= n/\n<2 ^ 62:=by simpa[inR]using hc
   exact⟨n,rfl,hc'.1,hc'.2,q _ H1 F1 g1 uH⟩
  .exact q.elim
 .exact q.elim)
def vQ(hg:Gl X "range")(hm:X.mg "range"=none)(ha:SA X T W [a,b] ms)(hs:starEach [a,b] X.env=[(false,eval a X.env),(false,eval b X.env)]:=by rfl)(hs2:starEach [b] X.env=[(false,eval b X.env)]:=by rfl) :
  SI X T W tg (.Call (.Name "range" p) [a,b] [] pos) (lC ms):=λjs s Y H R I h=>wg hg hm ha hs hs2 js s Y H R I (by
 obtain⟨Z,F,env,fp,S,q⟩:=h;unfold lC at q;refine tA.bq S λxs vs H1 F1 f1 e1 g1 r1 n1 d1 w1=>?_;rw[e1]at q;simp only[Res.M0]at q;split at q
 .rename_i i j
  split at q
  .rename_i hc
   obtain⟨v,ws,f1,f2,rfl,h1,h2,_⟩:=r1;obtain⟨v2,rfl,h3⟩:=h2.one;obtain⟨rfl,_⟩:=h1;obtain⟨rfl,_⟩:=h3;have hc':(-(2 ^ 62)<= i/\i<2 ^ 62)/\(-(2 ^ 62)<= j/\j<2 ^ 62):=by simpa[inR]using hc
   exact⟨i,j,rfl,⟨hc'.1.1,hc'.1.2,hc'.2.1,hc'.2.2⟩,q _ H1 F1 g1 uH⟩
  .exact q.elim
 .exact q.elim)
def bX(it:MI)(tg:TgM)(body:MS):MS:=λenv=>match it env with
 | .ok xs=>my (λx e=>match tg x e with
  |some e'=>body e'
  |none=>.stuck) xs env
 |.exc c=>.exc c env
 |.stuck=>.stuck
theorem E7(hp:PassesOwn (model X.prog X.w) X.A X.env X.xe)(hc:X.calm=true)(hi:SI X T W tg iter mi)(hg:SG X T tg g)(hb:SSs X T W body mb)
  (hs:∀x,foldedSetIterable iter X.env x=pure x:=by intro _;rfl):SS X T W (.For tg iter body [] pos) (bX mi g mb):=PS.wk (Gb hp hc hi hg hb hs) λD Y H hz1=>by
 walk_at "b";unfold bX at q;refine⟨Z,F,env,fp,S,?_⟩;cases em:mi env with
 |exc c=>rw[em]at q;exact λH' x=>q F H' Y fp (S.grow (Gr.same S.hp.ft x))
 |stuck=>rw[em]at q;exact q
 |ok xs=>
  rw[em]at q;intro J H1 F1 g1 it;have S1:=S.grow g1;generalize hbd:(λ(x:PV) (e:En)=>match g x e with
   |some e'=>mb e'
   |none=>Out.stuck)=bd at q
  refine⟨λi m σ2 H2=>m=xs.length-i/\i<=xs.length/\∃F2 env2 fp2,ax T (Z.re F1 H1 fp) F2 H2 σ2 env2 fp2/\GS T W Z D (my bd (xs.drop i) env2),⟨xs.length,by simp,zero_le _,F1,env,fp,S1.enter,q⟩,?_⟩;rintro i m σ2 H2 ⟨rfl,hi,F2,env2,fp2,S2,q2⟩;obtain⟨go,stop⟩:=it H2 S2.hp.keep;by_cases hlt:i<xs.length
  .have hx:xs[i]?=some xs[i]:=by simp
   obtain⟨g1',yl⟩:=go i _ hx;refine .inr ⟨g1',λσ3 H3=>∃F3 env3 fp3,ax T (Z.re F1 H1 fp) F3 H3 σ3 env3 fp3/\GS T W Z D (my bd (xs.drop (i+1)) env3),λσ3 H3 h3=>⟨xs.length-(i+1),by lia,rfl,hlt,h3⟩,λv H3 hy=>?_⟩;obtain⟨ex3,r⟩:=yl v H3 hy;rw[List.drop_eq_getElem_cons hlt]at q2;unfold my at q2;rw[<- hbd]at q2;dsimp only at q2;refine⟨Z.re F1 H1 fp,F2,env2,fp2,xs[i],[],S2.grow (Gr.same S2.hp.ft ex3),r.ext Ext.refl S2.hp.f0,xo.nil,?_⟩;cases eg:g xs[i] env2 with
   |none=>rw[eg]at q2;exact q2
   |some e'=>
    rw[eg]at q2;dsimp only at q2;intro σ' fp' S';refine⟨Z.re F1 H1 fp,F2,e',fp',S',?_⟩;cases eb:mb e' with
    |next e2|cont e2=>rw[eb]at q2;exact λF3 H3 σ3 fp3 S3=>⟨F3,e2,fp3,S3,by lia⟩
    |brk e2=>rw[eb]at q2;exact λF3 H3 σ3 fp3 S3=>q2 F3 H3 σ3 fp3 (S1.leave S3)
    |ret v=>rw[eb]at q2;exact λF3 H3 v f hp r nd nf new=>q2 F3 H3 v f (b9.leave S1 hp) r nd nf λa ha=>S1.newL (new a ha)
    |exc c e2=>rw[eb]at q2;exact λF3 H3 σ3 fp3 S3=>q2 F3 H3 σ3 fp3 (S1.leave S3)
    |stuck=>rw[eb]at q2;exact q2
  .have e:i=xs.length:=by lia
   subst e;rw[List.drop_length]at q2;exact .inl ⟨stop,q2 F2 H2 σ2 fp2 (S1.leave S2)⟩
end
end PR
namespace L2
open PySem PySem.Spec
noncomputable def eE(cells:List (Str×Addr)):List (Str×NameKind)->List (Str×Addr)->List (Str×Addr)
 | [],acc=>acc
 | (n,k)::r,acc=>if (k == .free)=true then (match cells.lookup n with
  |some c=>eE cells r ((n,c)::acc)
  |none=>eE cells r acc)else eE cells r acc
theorem iS:∀(names:List (Str×NameKind)) (acc:List (Str×Addr)),(∀y∈names,y.2=.free->∃c,env.cells.lookup y.1=some c)->
  (forIn names acc λ(x:Str × NameKind) (cs:List (Str × Addr))=>match x with
   |(name,kind)=>if(kind==.free)=true then do let c <- cellOf env name;pure (ForInStep.yield ((name,c)::cs))else pure (ForInStep.yield cs):Sem (List (Str×Addr)))=pure (eE env.cells names acc)
 | [],acc,_=>by simp[eE]
 |(n,k)::r,acc,h=>by
  rw[List.forIn_cons];by_cases hk:(k==NameKind.free)=true
  .obtain⟨c,hc⟩:=h (n,k) mem_cons_self ();simp only[hk,cellOf];rw[eE,if_pos hk,hc];exact iS r _ λy hy=>h y (mem_cons_of_mem _ hy)
  .simp only[hk];rw[eE,if_neg hk];exact iS r _ λy hy=>h y (mem_cons_of_mem _ hy)
def mB(h:∀y∈scope.names,y.2=.free->∃c,env.cells.lookup y.1=some c):closureFor scope env=pure (eE env.cells scope.names []):=by unfold closureFor;rw[<- iS scope.names [] h];simp
theorem ge{cells:List (Str×Addr)}:∀{names:List (Str×NameKind)}{acc:List (Str×Addr)},(∀p∈acc,cells.lookup p.1=some p.2)->∀p∈eE cells names acc,cells.lookup p.1=some p.2
 | [],_,h=>h
 |(n,k)::r,acc,h=>by
  unfold eE;split
  .split
   .rename_i c hc
    exact ge (by grind)
   .exact ge h
  .exact ge h
theorem jx:∀{names:List (Str×NameKind)}{acc:List (Str×Addr)}{p:Str×Addr},p∈acc->p∈eE cells names acc
 | [],_,_,h=>h
 |(n,k)::r,acc,p,h=>by
  unfold eE;split
  .split
   .exact jx (mem_cons_of_mem _ h)
   .exact jx h
  .exact jx h
theorem hG{cells:List (Str×Addr)}{x:Str}{c:Addr}(hc:cells.lookup x=some c):∀{names:List (Str×NameKind)}{acc:List (Str×Addr)},(x,NameKind.free)∈ names->(x,c)∈ eE cells names acc
 | [],_,h=>nomatch h
 |(n,k)::r,acc,h=>by
  unfold eE;rcases mem_cons.mp h with e|h
  .cases e;rw[if_pos (by rfl),hc];exact jx mem_cons_self
  .split
   .split
    .exact hG hc h
    .exact hG hc h
   .exact hG hc h
theorem iA{cells l:List (Str×Addr)}(h:∀p∈l,cells.lookup p.1=some p.2){x:Str}{c:Addr}(m:(x,c)∈ l):l.lookup x=some c:=by
 induction l with
 |nil=>cases m
 |cons p r ih=>
  grind
def gc{cells:List (Str×Addr)}{names:List (Str×NameKind)}{x:Str}{c:Addr}(h:(eE cells names []).lookup x=some c):cells.lookup x=some c:=
 ge (acc:=[]) (λ_ z=>nomatch z) (x,c) (PySem.mem_of_lookup h)
theorem lW:∀(names:List (Str×NameKind)) (a:Nat) (l acc:List (Str×Addr)),cellsFrom a names (l++acc)=cellsFrom a names l++acc
 | [],_,_,_=>rfl
 |(n,k)::r,a,l,acc=>by
  unfold cellsFrom;split
  .exact lW r (a+1) ((n,a)::l) acc
  .exact lW r a l acc
theorem lV:∀{names:List (Str×NameKind)}{a:Nat}{l:List (Str×Addr)}{p:Str×Addr},p∈cellsFrom a names l->p∈l \/(a<=p.2/\(p.1,NameKind.cell)∈ names)
 | [],_,_,_,h=>.inl h
 |(n,k)::r,a,l,p,h=>by
  unfold cellsFrom at h;split at h
  .rename_i hk
   have hk:k=.cell:=by lia
   rcases lV h with h|h
   .grind
   .exact .inr ⟨by lia,mem_cons_of_mem _ h.2⟩
  .rcases lV h with h|h
   .exact .inl h
   .exact .inr ⟨h.1,mem_cons_of_mem _ h.2⟩
theorem ph:∀{names:List (Str×NameKind)}{a:Nat}{l:List (Str×Addr)}{x:Str},((x,NameKind.cell)∈ names \/(l.lookup x).isSome=true)->((cellsFrom a names l).lookup x).isSome=true
 | [],_,_,_,h=>h.resolve_left (λz=>nomatch z)
 |(n,k)::r,a,l,x,h=>by
  unfold cellsFrom;split
  .rename_i hk
   have hk:k=.cell:=by lia
   refine ph ?_
   grind
  .rename_i hk
   refine ph ?_
   grind
theorem lX:∀{names:List (Str×NameKind)}{a:Nat}{l:List (Str×Addr)},(∀p∈l,p.2<a)->(l.Pairwise λx y=>x.2≠y.2)->(cellsFrom a names l).Pairwise λx y=>x.2≠y.2
 | [],_,_,_,h=>h
 |(n,k)::r,a,l,hl,h=>by
  unfold cellsFrom;split
  .refine lX (λp hp=>?_) (pairwise_cons.mpr ⟨λy hy e=>?_,h⟩)
   .grind
   .have e':a=y.2:=e;exact Nat.lt_irrefl _ (Nat.lt_of_lt_of_eq (hl y hy) e')
  .exact lX hl h
theorem lF{α:Type}{x:Str}:∀{l m:List (Str×α)},(l++m).lookup x=(l.lookup x).or (m.lookup x)
 | [],m=>by simp
 |(n,c)::l,m=>by
  grind
abbrev rB(X:Cx)(scope:Scope)(C:Addr):List (Str×Addr):=cellsFrom (C+1) scope.names (eE X.env.cells scope.names [])
theorem lY{X:Cx}{scope:Scope}{C:Addr}{x:Str}{c:Addr}(h:(rB X scope C).lookup x=some c):(C+1<=c/\(x,NameKind.cell)∈ scope.names/\(x,c)∈ cellsFrom (C+1) scope.names [])\/(eE X.env.cells scope.names []).lookup x=some c:=by
 unfold rB at h;rw[show eE X.env.cells scope.names []=[]++ eE X.env.cells scope.names []from rfl,lW,lF]at h;cases e:(cellsFrom (C+1) scope.names []).lookup x with
 |some d=>
  rw[e]at h;cases h;have m:=PySem.mem_of_lookup e;rcases lV m with z|z
  .cases z
  .lia
 |none=>rw[e]at h;exact .inr (by simpa using h)
def Hs(hx:(x,NameKind.cell)∉ scope.names)(h:(eE X.env.cells scope.names []).lookup x=some c):(rB X scope C).lookup x=some c:=by
 unfold rB;rw[show eE X.env.cells scope.names []=[]++ eE X.env.cells scope.names []from rfl,lW,lF];cases e:(cellsFrom (C+1) scope.names []).lookup x with
 |some d=>
  rcases lV (PySem.mem_of_lookup e)with z|z
  .cases z
  .exact absurd z.2 hx
 |none=>simpa using h
theorem qk{M:Model}{A:Around}{E:Mv}{s:Shared}{scope:Scope}{globals:Addr}{closure:List (Str×Addr)}{qual:Str}{func:Option Addr}{code:Value}{outer:Env}{builtins:Addr}{Q:Env->Shared->Prop}
  (hQ:∀ h',h'.Ns s.heap.objs.size (λ_=>none)->(∀ b o,s.heap.get? b=some o->h'.get? b=some o)->(∀ n c,(n,c) ∈ cellsFrom (s.heap.objs.size+1) scope.names []->h'.IsCell c none) ->
   Q (newEnv scope s.heap.objs.size globals (cellsFrom (s.heap.objs.size+1) scope.names closure) qual func code (some outer) builtins) {s with heap:=h'}) :
  wpAny M A (newFunctionEnv scope globals closure [] qual func code (some outer) builtins) Q E s:=by
 simp only[newFunctionEnv,Option.isSome_some,if_true];refine wpAny_bind (wpAny_alloc ?_);refine wpAny_bind (wpAny_layCells _ (λname kind cells=>by lia) _ _ _ _ ?_);have ok:=cellsFrom_ok scope.names (s.heap.push {cls:=.type "dict",data:=.dict #[]}) (s.heap.objs.size+1) [] ⟨λ_ _ hm=>(nomatch hm),Pairwise.nil⟩ ();rw[size_push]at ok;rw[show({s with heap:=s.heap.push {cls:=.type "dict",data:=.dict #[]}}:Shared).heap.objs.size=s.heap.objs.size+1 from size_push ..];refine wpAny_bind ?_;exact wpAny_pure (wpAny_pure (hQ _ ((Heap.Ns.new s.heap (.type "dict")).keeps (pushCells_keeps _ _)) (λb o e=>pushCells_keeps _ _ b o (get?_push_of_some _ e)) λn c hm=>(ok.empty n c hm).1))
def cxC(X:Cx)(scope:Scope)(C:Addr)(N:MF)(s:Shared)(H:Hp)(ex:MD):Cx:=
 {X with env:=compEnvC scope (rB X scope C) C X.env,N:=N,s₀:=s,H₀:=H,outer:=X.stack,stack:=X.stack,ex:=ex,fn:=λx=>scope.names.lookup x==some .cell,pn:=[],xe:=λ_ _=>False}
structure d6(X:Cx)(scope:Scope)(caps:List Nat)(N tn:MF):Prop where
 kind:scope.kind=.function
 cel:∀y∈scope.names,y.2=.cell->scope.names.lookup y.1=some .cell
 names:∀y∈scope.names,y.2=.local->scope.names.lookup y.1=some .local
 free:∀y∈scope.names,y.2=.free->X.env.kindOf y.1=some .cell\/X.env.kindOf y.1=some .free
 eN:N=caps.map (λi=>X.N.getD i "")++ tn
 capN:∀i∈caps,i<X.N.length
 capF:∀i∈caps,∀x,X.N[i]?=some x->(x,NameKind.free)∈ scope.names/\scope.names.lookup x=some .free
 nd:N.Nodup
theorem i5{scope:Scope}{env:Env}{x:Str}{k:NameKind}(h:(relabel scope env).names.lookup x=some k)(hc:k=.cell\/k=.free):(x,NameKind.free)∈ scope.names \/(x,NameKind.cell)∈ scope.names:=by
 have m:=PySem.mem_of_lookup h;obtain⟨⟨n,k0⟩,hm,e⟩:=mem_map.mp m
 grind
theorem i6{scope:Scope}{env:Env}{x:Str}:∀{names:List (Str×NameKind)},names.lookup x=some .free ->
  (names.map λ(n,k)=>if(k==NameKind.free&&env.scope.kind==.function&&env.kindOf n==some .cell)then(n,NameKind.cell)else(n,k)).lookup x=some .cell \/
  (names.map λ(n,k)=>if(k==NameKind.free&&env.scope.kind==.function&&env.kindOf n==some .cell)then(n,NameKind.cell)else(n,k)).lookup x=some .free
 | [],h=>by simp at h
 |(n,k)::r,h=>by
  have ih:=@i6 scope env x r
  grind
section
variable{X:Cx}{scope:Scope}{caps:List Nat}{N tn:MF}{js:My}{Y:St}{H:Hp}{s:Shared}{fp:MD}{C:Addr}
theorem o_(cs:d6 X scope caps N tn)(I:Inv X js Y H s)(hf:∀b∈fp,l8 X js H b)(hlt:∀b∈fp,b<s.heap.objs.size)(hC:s.heap.objs.size<=C):(cxC X scope C N s H fp).Ok where
 mod:=I.ok.mod
 kind:=by exact cs.kind
 glob:=I.ok.glob
 blt:=I.ok.blt
 above:=hC
 inj:=λx y c h1 h2=>by
  have old:∀z,(eE X.env.cells scope.names []).lookup z=some c->c<s.heap.objs.size:=λz hz=>let⟨_,hv⟩:=I.cell z c (gc hz);hv.lt
  rcases lY h1 with⟨l1,_,m1⟩|h1<;>rcases lY h2 with⟨l2,_,m2⟩|h2
  .exact name_of_addr (lX (l:=[]) (λ_ z=>nomatch z) Pairwise.nil) m1 m2
  .grind
  .grind
  .exact I.ok.inj x y c (gc h1) (gc h2)
 has:=λx hx=>by
  have m:(x,NameKind.free)∈ scope.names \/(x,NameKind.cell)∈ scope.names:=by
   rcases hx with h|h
   .exact i5 h (.inl rfl)
   .exact i5 h (.inr rfl)
  refine isSome_iff_exists.mp (ph ?_);rcases m with m|m
  .obtain⟨c,hc⟩:=I.ok.has x (cs.free _ m rfl);exact .inr (by rw[iA (ge (acc:=[]) λ_ z=>nomatch z) (hG hc m)];rfl)
  .exact .inl m
 cab:=λx c h hc=>by
  have h':(scope.names.lookup x==some NameKind.cell)=true:=h;have hx:scope.names.lookup x=some .cell:=by lia
  have hs:s.heap.objs.size<=C:=hC;have hc:(rB X scope C).lookup x=some c:=hc;obtain⟨d,hd⟩:=isSome_iff_exists.mp (ph (.inl (PySem.mem_of_lookup hx)));unfold rB at hc;rw[show eE X.env.cells scope.names []=[]++ eE X.env.cells scope.names []from rfl,lW,lF,hd]at hc;cases hc;rcases lV (PySem.mem_of_lookup hd)with z|z
  .cases z
  .exact Nat.le_trans hs (Nat.le_trans (le_succ _) z.1)
 hd:=I.ok.hd
 frames:=I.ok.frames
 stk:=.inl rfl
 exf:=λb hb=>⟨Nat.ne_of_lt (Nat.lt_of_lt_of_le (hlt b hb) hC),λx c h=>by
  rcases lY h with⟨l1,_,_⟩|h
  .exact λz=>absurd (Nat.lt_of_lt_of_le (hlt b hb) (Nat.le_trans hC (Nat.le_trans (le_succ _) l1))) ()
  .exact(hf b hb).2.2.2.2.1 x c (gc h)⟩
 bs:=I.bs
 bsz:=Nat.le_trans I.ok.bsz I.sz
 noex:=λb o e hb=>by
  rcases(hf b hb).2.2.2.1 with z|z
  .exact I.ok.noex b o e z
  .exact absurd (Nat.lt_of_lt_of_le (lt_size e) (Nat.le_trans I.ok.bsz z)) (Nat.lt_irrefl _)
 exfs:=λb hb hs=>by
  rcases mem_cons.mp (I.stkSub b hs)with z|z
  .exact(hf b hb).2.1 z
  .exact(hf b hb).2.2.1 z
 funs:=I.stack
 frf:=I.stkFree
noncomputable def pz(caps:List Nat)(k:Nat)(Y:St):St:=caps.map (λi=>(Y[i]?).join)++ replicate k none
theorem zY(cs:d6 X scope caps N tn)(I:Inv X js Y H s)(hf:∀b∈fp,l8 X js H b)(hlt:∀b∈fp,b<s.heap.objs.size)
  (hns:h₁.Ns (s.heap.objs.size+1) λ_=>none) (hD:h₁.get? s.heap.objs.size=some {cls:=.type "list",data:=.seq ([]:MC).toArray}) (old:∀b o,s.heap.get? b=some o->h₁.get? b=some o)
  (hcl:∀n c,(n,c)∈ cellsFrom (s.heap.objs.size+1+1) scope.names []->h₁.IsCell c none) :
  Inv (cxC X scope (s.heap.objs.size+1) N s H fp) [] (pz caps tn.length Y) (upd H s.heap.objs.size (.lst [])) {s with heap:=h₁,toks:=t}:=by
 have fresh:∀b,s.heap.objs.size<=b->H b=none:=λb hb=>I.hok.fresh hb;have neD:s.heap.objs.size+1≠s.heap.objs.size:=Nat.succ_ne_self _;have ltc:∀x c,(eE X.env.cells scope.names []).lookup x=some c->∃v,s.heap.IsCell c v:=λx c h=>I.cell x c (gc h);refine⟨o_ cs I hf hlt (le_succ _),rfl,I.bare,Un.laid old (Nat.le_refl _) (fresh _ (Nat.le_refl _)),⟨_,hns,λi y v h1 h2 h3=>?_⟩,λx c h=>?_,?_,λx c h=>?_,λp hp=>absurd (show p ∈([]:My)from hp) (),?_,?_⟩
 .have hi:i<caps.length:=by
   unfold pz at h2;by_cases hi:i<caps.length
   .exact hi
   .rw[getElem?_append_right (by simpa using hi),getElem?_replicate]at h2;split at h2<;>cases h2
  unfold pz at h2;rw[getElem?_append_left (by simpa using hi),getElem?_map]at h2;obtain⟨j,hj,e2⟩:=map_eq_some_iff.mp h2;have hjc:j∈caps:=List.mem_of_getElem? hj;have hjN:=cs.capN j hjc;have hy:X.N[j]?=some y:=by
   have h1':N[i]?=some y:=h1;rw[cs.eN,getElem?_append_left (by simpa using hi),getElem?_map,hj]at h1';have:X.N.getD j ""=y:=by simpa using h1'
   rw[<- this];simp[hjN]
  have hσ:Y[j]?=some (some v):=by
   cases e:Y[j]? with
   |none=>rw[e]at e2;cases e2
   |some w=>rw[e]at e2;simp at e2;rw[e2]
  obtain⟨m0,hn0,hl⟩:=I.loc;obtain⟨hm,hlk⟩:=cs.capF j hjc y hy;have hk:=cs.free _ hm rfl;have hvis:Vis X.env.scope y:=by
   rcases hk with z|z
   .exact .inr (.inl z)
   .exact .inr (.inr z)
  obtain⟨u,ru,lk⟩:=hl j y v hy hσ hvis;refine⟨u,ru,.inr ?_⟩;rcases lk with⟨z,_⟩ |⟨_,c,hc,hcell⟩
  .lia
  .refine⟨i6 (scope:=scope) hlk,c,Hs (λz=>?_) (iA (ge (acc:=[]) λ_ z=>nomatch z) (hG hc hm)),hcell.keeps old⟩;have:=cs.cel _ z rfl;rw[hlk]at this;cases this
 .rcases lY h with⟨_,_,m⟩|h
  .exact⟨none,hcl x c m⟩
  .obtain⟨v,hv⟩:=ltc x c h;exact⟨v,hv.keeps old⟩
 .show upd H _ _ (s.heap.objs.size+1)=none;rw[aT neD];exact fresh _ (le_succ _)
 .rcases lY h with⟨l1,_,_⟩|h2
  .rw[aT (Nat.ne_of_gt (Nat.lt_of_lt_of_le (Nat.lt_succ_of_lt (Nat.lt_succ_self _)) l1))];exact .inl (fresh _ (Nat.le_trans (Nat.le_succ_of_le (le_succ _)) l1))
  .obtain⟨v,hv⟩:=ltc x c h2;rw[aT (Nat.ne_of_lt hv.lt)];exact(I.freeC x c (gc h2)).imp (λz=>z) λq=>⟨eq_false_iff.mpr λe=>Nat.lt_irrefl _ (Nat.lt_of_lt_of_le hv.lt ((o_ cs I hf hlt (le_succ _)).cab x c e h)),q.2⟩
 .exact I.hok.laid old (Nat.le_refl _) ⟨zero_le _,[],_,.nil,hD⟩
 .show(pz caps tn.length Y).length=N.length;rw[cs.eN];simp[pz]
end
end L2
namespace PR
open PySem PySem.Spec L2
section
def Fl.MR:Fl->Fl
 |.own|.lnt=>.bor
 |f=>f
def PV.MR(x:PV):PV:=x.MY Fl.MR
def wB(hB:∀a,B a->B' a)(hL:∀a,L a->B' a):Mp T Fl.MR (λ_=>false) (λ_=>[]) B' F B L H F B' L' H:=
 ⟨λf a vs _ c h=>by
  cases f with
  |own=>exact⟨c rfl,.inl h⟩
  |bor=>exact⟨hB a h.1,h.2⟩
  |lnt=>exact⟨hL a h.1,.inl h.2⟩
  | _=>exact h,λf a _ c h=>⟨by
  cases f with
  |own=>exact c rfl
  |bor=>exact hB a h
  |lnt=>exact hL a h
  |_=>exact h,λ_ q=>q⟩,λf a x y h=>by cases f<;>exact⟨rfl,rfl⟩,rfl,λ_ _=>rfl,λ_ _ q _=>q⟩
def Rel.MR(hB:∀a,B a->B' a)(hL:∀a,L a->B' a)(hp:∀a∈fo,B' a)(h:Rel T F B L H x v fo):Rel T F B' L' H (x.MY Fl.MR) v []:=(wB hB hL).rel (lM x) hp h
mutual
theorem iT:∀x:PV,(x.MY Fl.MR).has Fl.MU=false
 |.non|.bl _|.int _|.str _=>rfl
 |.lst f xs=>by simp only[PV.MY,PV.has,borrow_ownL xs,Bool.or_false];cases f<;>rfl
 |.tup xs=>by simp only[PV.MY,PV.has,borrow_ownL xs]
 |.obj f c ks xs=>by simp only[PV.MY,PV.has,borrow_ownL xs,Bool.or_false];cases f<;>rfl
 |.exc _=>rfl
 |.box k xs=>by simp only[PV.MY,PV.has,borrow_ownL xs]
theorem borrow_ownL:∀xs:ML,hasL Fl.MU (mapL Fl.MR xs)=false
 | []=>rfl
 |x::xs=>by simp only[mapL,hasL,iT x,borrow_ownL xs,Bool.or_false]
end
def ItC(T:Tb)(F B L:Mz)(H1:Hp)(J:It)(xs:ML):Prop:=
 ∀H2,Ext H1 H2->(∀(i:Nat) x,xs[i]?=some x->J.go i H2/\∀v H3,J.yld i H2 v H3->Ext H2 H3/\∃f,(∀a∈f,∃o,H1 a=some o)/\Rel T F B L H3 x v f)/\J.stop xs.length H2
def ItC.of0(h:∀H2,Ext H1 H2->(∀(i:Nat) x,xs[i]?=some x->J.go i H2/\∀v H3,J.yld i H2 v H3->H3=H2/\∃f,Rel T F B L H1 x v f)/\J.stop xs.length H2):ItC T F B L H1 J xs:=λH2 hk=>by obtain⟨a,b⟩:=h H2 hk;refine⟨λi x e=>⟨(a i x e).1,λv H3 hy=>?_⟩,b⟩;obtain⟨rfl,f,r⟩:=(a i x e).2 v H3 hy;exact⟨Ext.refl,f,λa ha=>r.there a ha,r.ext hk λ_ h=>h⟩
def GIc(T:Tb)(W:Nat->St->MK)(B F L:Mz)(Y:St)(H:Hp)(R:It->MK):Res (ML)->Prop
 |.ok xs=>∀J H1 F1,Gr F H F1 H1->ItC T F1 B L H1 J xs->R J H1
 |.exc c=>∀H',Ext H H'->W c Y H'
 |.stuck=>False
def tIc(T:Tb)(W:Nat->St->MK)(m:MI):TI:=λY H R=>∃Z F env fp,ax T Z F H Y env fp/\GIc T W Z.B F (Own fp) Y H R (m env)
abbrev SIc(X:Cx)(T:Tb)(W:Nat->St->MK)(tg iter:Expr)(m:MI):Prop:=PI X tg iter (tIc T W m)
def aK(m:ME):MI:=λenv=>(m env).bind λx=>match aV x with
 |some xs=>.ok xs
 |none=>.stuck
section
variable{X:Cx}{T:Tb}{W:Nat->St->MK}{Z:Zn}{F F1 B L:Mz}{H H1:Hp}{Y:St}{env:En}{fp:Nat->MD}{D:Ends}
def Bz(hK:X.K=T.K)(he:SE X T W e m):SIc X T W tg e (aK m):=λjs s Y H R I h=>yP he js s Y H R I (by
 obtain⟨Z,F,env,fp,S,q⟩:=h;unfold aK at q;walk_at "a";simp at q;cases es:aV x with
 |none=>rw[es]at q;exact q.elim
 |some xs=>
  rw[es]at q;obtain⟨a,vs,f',rfl,hs,hr,_⟩:=r1.seq es;refine⟨a,rfl,?_⟩;rw[hK];rcases hs with hs|hs
  .refine .inl ⟨vs,hs,q _ H1 F1 g1 (ItC.of0 λH2 hx=>?_)⟩;have h2:SqL T.K H2 a vs:=by
    rcases hs with z|z
    .exact .inl (Rd.tr (λo q=>hx a o q) z)
    .exact .inr z
   refine⟨λi x ex=>?_,⟨vs,h2,by rw[hr.length];exact Nat.le_refl _⟩⟩;obtain⟨v,f,ev,rv,_⟩:=hr.get ex;refine⟨⟨vs,v,h2,ev⟩,λw H3 hy=>⟨hy.1,f,?_⟩⟩;have:=hy.2 vs h2;rw[ev]at this;cases this;exact rv
  .refine .inr ⟨vs,hs,q _ H1 F1 g1 (ItC.of0 λH2 hx=>?_)⟩;have h2:SqT T.K H2 a vs:=SqT.tr (λo q _=>hx a o q) hs;refine⟨λi x ex=>?_,⟨vs,h2,by rw[hr.length];exact Nat.le_refl _⟩⟩;obtain⟨v,f,ev,rv,_⟩:=hr.get ex;refine⟨⟨vs,v,h2,ev⟩,λw H3 hy=>⟨hy.1,f,?_⟩⟩;have:=hy.2 vs h2;rw[ev]at this;cases this;exact rv)
def C3:ItC T F1 B L H1 (Itr lo n) (dY lo n):=by
 apply ItC.of0;intro H2 _;refine⟨λi x ex=>?_,by simp[dY,Itr]⟩;have hi:i<n:=by have:=(List.getElem?_eq_some_iff.mp ex).1;simpa[dY]using this
 refine⟨hi,λv H3 hy=>⟨hy.1,[],?_⟩⟩;obtain⟨_,rfl⟩:=hy;have:x=.int (lo+(i:Nat)):=by simp[dY,hi]at ex;exact ex.symm
 subst this;exact dP
def r9(hg:Gl X "range")(hm:X.mg "range" = none)(ha:SA X T W [a] ms)(hs:starEach [a] X.env=[(false,eval a X.env)]:=by rfl):SIc X T W tg (.Call (.Name "range" p) [a] [] pos) (bJ ms):=λjs s Y H R I h=>m7 hg hm ha hs js s Y H R I (by
 obtain⟨Z,F,env,fp,S,q⟩:=h;unfold bJ at q;refine tA.bq S λxs vs H1 F1 f1 e1 g1 r1 n1 d1 w1=>?_;rw[e1]at q;simp at q;split at q
 .rename_i n
  split at q
  .rename_i hc
   obtain⟨v,rfl,r2⟩:=r1.one;obtain⟨rfl,_⟩:=r2;have hc':-(2 ^ 62)<= n/\n<2 ^ 62:=by simpa[inR]using hc
   exact⟨n,rfl,hc'.1,hc'.2,q _ H1 F1 g1 C3⟩
  .exact q.elim
 .exact q.elim)
abbrev WF:Nat->St->MK:=λ_ _ _=>False
def STs(X:Cx)(T:Tb)(W:Nat->St->MK)(ifs:List Expr)(m:MT):Prop:=
 ∀(js:My) (s:Shared) (Y:St) (H:Hp) (Q:Bool->MK),L2.Inv X js Y H s->tT T W m Y H Q ->
  wpAny (model X.prog X.w) X.A (forIn ifs true λc r=>if r=true then do let ok <- isTrue c X.env (eval c X.env);pure (ForInStep.yield ok)else pure (ForInStep.yield r)) (TP X js Y Q) X.xe s
def aH:MT:=λ_=>.ok true
def Be:STs X T W [] aH:=λjs s Y H Q I z=>by obtain⟨Z,F,env,fp,S,q⟩:=z;exact wpAny_tests_nil ⟨H,I,q H F (Gr.refl S.hp.ft)⟩
def Bd(h:ST X T W c m):STs X T W [c] m:=λjs s Y H Q I q=>wpAny_tests_one (h js s Y H Q I q)
structure fA(g:TgM)(k:Nat):Prop where
 keep:∀x env e',g x env=some e'->e'.length=env.length/\∀j<k,e'[j]?=env[j]?
 own:∀x env e',g x env=some e'->x.has Fl.MU=false->∀(j:Nat) pv,e'[j]?=some (some pv)->env[j]?=some (some pv)\/ pv.has Fl.MU=false
structure jB(g:t3)(k:Nat):Prop where
 keep:∀x env e',g x env=some e'->e'.length=env.length/\∀j<k,e'[j]?=env[j]?
 own:∀x env e',g x env=some e'->hasL Fl.MU x=false->∀(j:Nat) pv,e'[j]?=some (some pv)->env[j]?=some (some pv)\/ pv.has Fl.MU=false
theorem xE(h:k<=i):fA (tgN i) k:=by
 refine⟨λx env e' e=>?_,λx env e' e hx j pv hj=>?_⟩
 .unfold tgN at e;split at e
  .cases e;exact⟨by simp,λj hj=>getElem?_set_ne ()⟩
  .cases e
 .unfold tgN at e;split at e
  .cases e;by_cases hij:i=j
   .subst hij;have hl:i<env.length:=by have:=(List.getElem?_eq_some_iff.mp hj).1;simpa using this
    rw[getElem?_set_self hl]at hj;cases hj;exact .inr hx
   .simp_all
  .cases e
def xD:jB eX k:=by
 refine⟨λx env e' e=>?_,λx env e' e _ j pv hj=>?_⟩
 .cases x with
  |nil=>cases e;exact⟨rfl,λ_ _=>rfl⟩
  |cons _ _=>cases e
 .cases x with
  |nil=>cases e;exact .inl hj
  |cons _ _=>cases e
def vH(h1:fA g k)(h2:jB u k):jB (bj g u) k:=by
 refine⟨λx env e' e=>?_,λx env e' e hx j pv hj=>?_⟩
 .cases x with
  |nil=>cases e
  |cons y ys=>
   simp only[bj]at e;cases e1:g y env with
   |none=>rw[e1]at e;cases e
   |some e2=>rw[e1]at e;obtain⟨l1,k1⟩:=h1.keep y env e2 e1;obtain⟨l2,k2⟩:=h2.keep ys e2 e' e;exact⟨l2.trans l1,λj hj=>(k2 j hj).trans (k1 j hj)⟩
 .cases x with
  |nil=>cases e
  |cons y ys=>
   simp only[hasL,or_eq_false_iff]at hx;simp only[bj]at e;cases e1:g y env with
   |none=>rw[e1]at e;cases e
   |some e2=>
    rw[e1]at e;rcases h2.own ys e2 e' e hx.2 j pv hj with z|z
    .exact h1.own y env e2 e1 hx.1 j pv z
    .exact .inr z
def A8(h:jB u k):fA (tgT n u) k:=by
 refine⟨λx env e' e=>?_,λx env e' e hx j pv hj=>?_⟩
 .cases x with
  |tup xs=>
   simp only[tgT]at e;split at e
   .exact h.keep xs env e' e
   .cases e
  |_=>cases e
 .cases x with
  |tup xs=>
   simp only[tgT]at e;split at e
   .exact h.own xs env e' e hx j pv hj
   .cases e
  |_=>cases e
def bI(caps:List Nat)(k:Nat)(env:En):En:=caps.map (λi=>((env[i]?).join).map PV.MR)++ replicate k none
def dU(g:TgM)(mc:MT)(me:ME)(env:En):ML->Res (ML)
 | []=>.ok []
 |x::xs=>match g x.MR env with
  |none=>.stuck
  |some e=>(mc e).bind λb=>if b then(me e).bind λy=>if y.has Fl.MW||y.has Fl.MV then .stuck else(dU g mc me env xs).bind λys=>.ok (y::ys)else dU g mc me env xs
def ay(caps:List Nat)(k:Nat)(mi:MI)(g:TgM)(mc:MT)(me:ME):ME:=λenv=>(mi env).bind λxs=>if xs.length <= 10000000 then (match dU g mc me (bI caps k env) xs with
 |.ok ys=>.ok (.lst .own ys)
 |_=>.stuck)else .stuck
end
section
variable{prog:Program}{w:World}{A:Around}{R:Result->Shared->Prop}{s:Shared}
def pf(I:Nat->Shared->Prop)
  (turn:∀ n s,I n s->wpAny (model prog w) A (pyNext it) (λr s₁=>match r with
   |none=>R (.ok .next) s₁
   | some v=>wpAny (model prog w) A (letOwnedTupleGo target it v) (λ_ s₁'=>wpAny (model prog w) A (assign target env v) (λ_ s₂=>
     wpAny (model prog w) A (forIn ifs true λc r=>if r=true then do let ok <- isTrue c env (eval c env);pure (ForInStep.yield ok) else pure (ForInStep.yield r)) (λok s₃=>
      if ok=true then wpAny (model prog w) A (eval elt env) (λx s₄=>
       wpAny (model prog w) A (call (.builtin "list.append") [acc,x]) (λ_ s₅=>∃m,m<n/\I m s₅) (notedBy (model prog w) A env λe s'=>R (.error e) s') s₄) (notedBy (model prog w) A env λe s'=>R (.error e) s') s₃
      else ∃m,m<n/\I m s₃) (notedBy (model prog w) A env λe s'=>R (.error e) s') s₂) (notedBy (model prog w) A env λe s'=>R (.error e) s') s₁') (notedBy (model prog w) A env λe s'=>R (.error e) s') s₁) (notedBy (model prog w) A env λe s'=>R (.error e) s') s)
  (n:Nat) (h:I n s) :
  codeAny (model prog w) A (.compLoop (.ListComp elt [⟨target,iter,ifs,0⟩] scope pos) 0 it acc env) R s:=by
 refine codeAny_loop rfl I (λn s hI=>?_) n h;refine wpAny_noted ?_;rw[compTurn_list];refine wpAny_bind (wpAny_standAt (wpAny_bind (wpAny_mono (turn n s hI) (λr s₁ h₁=>?_) λ_ _ h'=>h')));cases r with
 |none=>exact wpAny_pure h₁
 |some v=>
  refine wpAny_bind (wpAny_mono h₁ (λ_ s₁' h₁'=>?_) λ_ _ h'=>h');refine wpAny_bind (wpAny_mono h₁' (λ_ s₂ h₂=>wpAny_bind (wpAny_mono h₂ (λok s₃ h₃=>?_) λ_ _ h'=>h')) λ_ _ h'=>h');cases ok with
  |false=>exact wpAny_pure ⟨rfl,h₃⟩
  |true=>exact wpAny_bind (wpAny_bind (wpAny_mono h₃ (λx s₄ h₄=>wpAny_bind (wpAny_mono h₄ (λ_ s₅ h₅=>wpAny_pure (wpAny_pure ⟨rfl,h₅⟩)) λ_ _ h'=>h')) λ_ _ h'=>h'))
end
end
section
section
variable{X:Cx}{T:Tb}{W:Nat->St->MK}{Z:Zn}{F F1 B L:Mz}{H H1:Hp}{Y:St}{env:En}{fp:Nat->MD}{D:Ends}
theorem ax.wk(S:ax T Z F H Y env fp)(hpin:Z.pin=none)(hl:e2.length=env.length)(h:∀(i:Nat) pv,e2[i]?=some (some pv)->env[i]?=some (some pv)):ax T Z F H Y e2 fp:=
 ⟨S.hp,S.len.trans hl.symm,λi pv e=>S.rel i pv (h i pv e),S.nd,S.dj,S.dis,S.new,S.ch,λv hv=>by lia⟩
def ax.MZ(S:ax T Z F H Y env fp)(h:∀(i:Nat) pv,env[i]?=some (some pv)->pv.has Fl.MU=false):ax T Z F H Y env (λ_=>[]):=
 ⟨S.hp,S.len,λi pv e=>by
  obtain⟨v,h1,h2⟩:=S.rel i pv e;have:=Rel.MZ (h i pv e) h2;rw[this]at h2;exact⟨v,h1,h2⟩,λ_=>nodup_nil,λ_ _ _ _ z=>(nomatch z),λ_ _ z=>(nomatch z),λ_ _ z=>(nomatch z),λ_ _ z=>(nomatch z),S.pn⟩
theorem ax.updD(S:ax T Z F H Y env (λ_=>[]))(hF:¬F Dd)(h0:Z.H0 Dd=none)(hD:H Dd=some o)(hfx:¬iB o):ax T Z F (upd H Dd o') Y env (λ_=>[]):=by
 have ne:∀a u,H a=some u->(F a\/Z.B a\/NoL a\/iB u)->a≠Dd:=(by grind[cv,ax,b9,Gr])
 refine⟨⟨S.hp.bo,λa u e n=>?_,S.hp.f0,S.hp.fn,λa h=>?_⟩,S.len,λi pv e=>?_,S.nd,S.dj,λ_ _ z=>(nomatch z),S.new,λ_ _ z=>(nomatch z),S.pn⟩
 .have:a≠Dd:=λz=>by rw[z,h0]at e;cases e
  rw[aT this];exact S.hp.keep a u e n
 .obtain⟨u,e⟩:=S.hp.ft a h;exact⟨u,by rw[aT (show a≠Dd from λz=>hF ())];exact e⟩
 .obtain⟨v,h1,h2⟩:=S.rel i pv e;refine⟨v,h1,Rel.tr (λ_ h=>h) (λ_ h=>h) (λ_ h=>h) (λa u q h=>?_) (λ_ z=>(nomatch z)) h2⟩;rw[aT (ne a u q h)];exact q
def zC(F:Mz)(H:Hp):Zn:=⟨H,F,λ_=>False,λa=>∃o,H a=some o,none⟩
def w5(S:ax T Z F H Y env fp)(hD:H Dd=none)(hFD:¬F Dd) :
  ax T (zC F H) F (upd H Dd (.lst [])) (pz caps k Y) (bI caps k env) (λ_=>[]):=by
 have ext:Ext H (upd H Dd (.lst [])):=Ext.upd hD;refine⟨⟨⟨λa h=>⟨h,λz=>z⟩,S.tbo Ext.refl λ_ z=>False.elim z⟩,λa o h _=>ext a o h,λ_ h=>h,λ_ h=>.inl h,λa h=>let⟨o,e⟩:=S.hp.ft a h;⟨o,ext a o e⟩⟩,by simp[pz,bI],λi pv e=>?_,λ_=>nodup_nil,λ_ _ _ _ z=>(nomatch z),λ_ _ z=>(nomatch z),λ_ _ z=>(nomatch z),λ_ _ z=>(nomatch z),λ_ h=>(nomatch h)⟩;unfold bI at e;unfold pz;by_cases hi:i<caps.length
 .rw[getElem?_append_left (by simpa using hi),getElem?_map]at e ⊢;obtain⟨j,hj,e2⟩:=map_eq_some_iff.mp e;rw[hj];obtain⟨pv0,e3,rfl⟩:=map_eq_some_iff.mp e2;have e4:env[j]?=some (some pv0):=by
   cases e5:env[j]? with
   |none=>rw[e5]at e3;cases e3
   |some w=>rw[e5]at e3;simp at e3;rw[e3]
  obtain⟨v,h1,h2⟩:=S.rel j pv0 e4;refine⟨v,by simp[h1],?_⟩;refine Rel.MR (L:=NoL) (λ_ h=>h) (λ_ h=>h.elim) (λa ha=>(S.dis j a ha).2) ?_;exact Rel.tr (λ_ h=>h) (λa h=>let⟨⟨o,h1⟩,h2⟩:=S.hp.bo.1 a h;⟨o,S.hp.keep a o h1 h2⟩) (λ_ h=>h) (λa o q _=>ext a o q) (λa _ o q=>ext a o q) h2
 .rw[getElem?_append_right (by simpa using hi),getElem?_replicate]at e;split at e<;>cases e
inductive CI(X:Cx)(T:Tb)(Z:Zn)(B L:Mz)(E:List (Option PV))(D:Addr)(H2:Hp)(p:MD)(t:Nat->Heap->Prop)(xs full:ML)(cl:ML->Res (ML))(n:Nat)(s:Shared):Prop
 |mk (i:Nat) (Y:St) (H:Hp) (F:Mz) (ys zs:ML) (vs:MJ) (f:MD):n=xs.length-i->i<=xs.length->L2.Inv X [] Y H s->t i s.heap->(∀b∈p,H b=none)->ax T Z F H Y E (λ_=>[])->H D=some (.lst vs)->RelL T F B L H ys vs f->f.Nodup->(∀a∈f,¬F a/\H2 a=none/\a≠D)->¬F D->ys.length<=i->cl (xs.drop i)=.ok zs->full=ys++zs->CI X T Z B L E D H2 p t xs full cl n s
set_option maxHeartbeats 1000000 in
theorem n5
  (cs:d6 X scope caps N tn) (hc:X.calm=true) (hi:SIc X T W tg iter mi) (hk:fA g caps.length)
  (hb:∀C s H ex,SG (cxC X scope C N s H ex) T tg g/\STs (cxC X scope C N s H ex) T WF ifs mc/\SE (cxC X scope C N s H ex) T WF elt me)
  (hs:∀x,foldedSetIterable iter X.env x=pure x) (I:L2.Inv X js Y H s) (h:tE T W (ay caps tn.length mi g mc me) Y H Q)
  (hfin:∀(Dd C:Addr) (H':Hp) (s6:Shared) (m:Mw),Q (.ref Dd) H'->L2.Inv X js Y H' s6->s6.heap.Ns C m->H' C=none->C≠X.env.locals->C∉X.fs->X.s₀.heap.objs.size<=C->(∀x c,X.env.cells.lookup x=some c->c≠C)->(∀p∈X.pn++js,p.1≠C)->compPost (model X.prog X.w) X.A X.xe use Q' (.ref Dd) C (.ok .next) s6) :
  wpAny (model X.prog X.w) X.A (comprehension (.ListComp elt [⟨tg,iter,ifs,0⟩] scope pos) scope X.env p' (newList []) false (eval iter X.env) use) Q' X.xe s:=by
 obtain⟨Z,F,env,fp,S,q⟩:=h;unfold ay at q;refine wpAny_comprehension_free rfl hs (mB λy hy hf=>I.ok.has y.1 (cs.free y hy hf)) cs.kind cs.names ?_;refine thn (hi js s Y H (λJ H1=>∃F1 xs,mi env=.ok xs/\Gr F H F1 H1/\ItC T F1 Z.B (Own fp) H1 J xs) I ⟨Z,F,env,fp,S,?_⟩) λxv s1 h1=>thn h1 λitv s2 h2=>?_
 .cases em:mi env with
  |ok xs=>exact λJ H1 F1 g1 it=>⟨F1,xs,rfl,g1,it⟩
  |exc c|stuck=>rw[em]at q;exact q
 obtain⟨it,fpi,tn_,J,H2,rfl,I2,Tn,st2,f2,F1,xs,em,g1,itc⟩:=h2;rw[em]at q;simp at q;split at q
 case isFalse=>exact q.elim
 cases ec:dU g mc me (bI caps tn.length env) xs with
 |exc c|stuck=>rw[ec]at q;exact q.elim
 |ok full=>
 rw[ec]at q;have S2:=S.grow g1;have hlt:∀b∈fpi,b<s2.heap.objs.size:=λb hb=>by obtain⟨o,ho,_⟩:=Tn.obj 0 _ st2 b hb;exact lt_size ho
 refine PySem.wpAny_newObj_type (qk λh₁ hns₁ hsb₁ hcl₁=>?_);generalize hH2:s2.heap.push {cls:=.type "list",dict:=none,data:=.seq ([]:MC).toArray}=P2 at hns₁ hsb₁ hcl₁ ⊢;have hC:P2.objs.size=s2.heap.objs.size+1:=by rw[<- hH2,size_push]
 have old:∀b o,s2.heap.get? b=some o->h₁.get? b=some o:=λb o e=>hsb₁ b o (hH2▸get?_push_of_some _ e);have hDo:h₁.get? s2.heap.objs.size=some {cls:=.type "list",data:=.seq ([]:MC).toArray}:=hsb₁ _ _ (hH2▸get?_push_size _ rfl);rw[hC]at hns₁ hcl₁;have inv0:=zY (t:=s2.toks) cs I2 f2 hlt hns₁ hDo old hcl₁;have hDH:H2 s2.heap.objs.size=none:=I2.hok.fresh (Nat.le_refl _);have hDF:¬F1 s2.heap.objs.size:=λz=>by obtain⟨o,e⟩:=g1.dom _ z;rw[hDH]at e;cases e
 have SB:=w5 (caps:=caps) (k:=tn.length) S2 hDH hDF;obtain⟨hgN,hts,hel⟩:=hb (s2.heap.objs.size+1) s2 H2 fpi;have never:∀{α:Type}{t:Sem α}{Qa:α->Shared->Prop}{E':Mv}{s':Shared},wpAny (model X.prog X.w) X.A t Qa (λ_ _=>False) s'->wpAny (model X.prog X.w) X.A t Qa E' s':=λh=>wpAny_mono h (λ_ _ x=>x) λ_ _ z=>z.elim;have fpok:∀{H':Hp}{pins':My},(∀p∈pins',p.1∉fpi)->(∀b∈fpi,H' b=none)->∀b∈fpi,l8 (cxC X scope (s2.heap.objs.size+1) N s2 H2 fpi) pins' H' b:=λ{H' pins'} hp hn b hb=>by
  refine⟨hn b hb,Nat.ne_of_lt (Nat.lt_succ_of_lt (hlt b hb)),(o_ cs I2 f2 hlt (le_succ _)).exfs b hb,.inl hb,((o_ cs I2 f2 hlt (le_succ _)).exf b hb).2,λp hp' z=>?_⟩;rcases mem_append.mp hp' with w|w
  .exact absurd (show p ∈([]:My)from w) ()
  .exact hp p w (z▸hb)
 have key:∀s4:Shared,L2.Inv (cxC X scope (s2.heap.objs.size+1) N s2 H2 fpi) [] (pz caps tn.length Y) (upd H2 s2.heap.objs.size (.lst [])) s4->tn_ 0 s4.heap ->
   codeAny (model X.prog X.w) X.A (.compLoop (.ListComp elt [⟨tg,iter,ifs,0⟩] scope pos) 0 (.ref it) (.ref s2.heap.objs.size) (compEnvC scope (rB X scope (s2.heap.objs.size+1)) (s2.heap.objs.size+1) X.env))
    (compPost (model X.prog X.w) X.A X.xe use Q' (.ref s2.heap.objs.size) (s2.heap.objs.size+1)) s4:=by
  intro s4 inv4 st4;refine pf (CI (cxC X scope (s2.heap.objs.size+1) N s2 H2 fpi) T (zC F1 H2) Z.B (Own fp) (bI caps tn.length env) s2.heap.objs.size H2 fpi tn_ xs full (dU g mc me (bI caps tn.length env))) ?_ xs.length ?_
  case refine_2=>
   refine⟨0,_,_,F1,[],full,[],[],by simp,zero_le _,inv4,st4,λb hb=>?_,SB,bK,by exact⟨rfl,rfl⟩,nodup_nil,λ_ z=>(nomatch z),hDF,zero_le _,ec,rfl⟩;rw[aT (Nat.ne_of_lt (hlt b hb))];exact(f2 b hb).1
  rintro n s5 ⟨i,σ',H',Fi,ys,zs,vs,f,rfl,hil,inv5,st5,fr5,SI5,hD5,ry,nd5,nf5,nFD,hyl,ecl,efull⟩;have ext5:Ext H2 H':=λa o e=>SI5.hp.keep a o e λz=>z;have gr5:Gr F1 H2 Fi H':=⟨ext5,SI5.hp.f0,λa h=>by
   rcases SI5.hp.fn a h with z|z|z
   .exact .inl z
   .exact .inr z
   .exact z.elim,SI5.hp.ft⟩
  obtain⟨go,stop⟩:=itc H' ext5;by_cases hlt5:i<xs.length
  .have hx:xs[i]?=some xs[i]:=by simp
   obtain⟨g5,yl⟩:=go i _ hx;rw[List.drop_eq_getElem_cons hlt5]at ecl;unfold dU at ecl;cases eg:g xs[i].MR (bI caps tn.length env)with
   |none=>rw[eg]at ecl;cases ecl
   |some e'=>
   rw[eg]at ecl;dsimp only at ecl;refine thn (Tn.item (cxC X scope (s2.heap.objs.size+1) N s2 H2 fpi) rfl rfl rfl hc i [] s5 σ' H' _ inv5 (fpok (λ_ z=>absurd z ()) fr5) st5 g5) λr s6 hz1=>?_;obtain⟨u,hr,h6⟩:=hz1;subst hr;refine thn h6 λ_ s7 hz1=>?_;obtain⟨v,H7,inv7,rv,yy,st7,fr7⟩:=hz1;obtain⟨ex7,fx,tx,rx⟩:=yl v H7 yy
   replace SI5:=SI5.grow (Gr.same SI5.hp.ft ex7)
   replace ry:=ry.ext ex7 λ_ h=>h
   replace hD5:=ex7 _ _ hD5
   replace gr5:=gr5.trans (Gr.same gr5.dom ex7)
   replace ext5:=gr5.ext
   have pinv:=inv7.pinned (fpok (λ_ z=>absurd z ()) fr7) (Tn.obj _ _ st7);have rxb:Rel T Fi (zC F1 H2).B NoL H7 xs[i].MR v []:=by refine Rel.MR (L:=Own fp) (λ_ h=>h) (λa ⟨j,hj⟩=>(S2.dis j a hj).2) (λa ha=>tx a ha) ?_;exact Rel.tr SI5.hp.f0 (λa h=>let⟨⟨o,h1⟩,h2⟩:=S2.hp.bo.1 a h;⟨o,S2.hp.keep a o h1 h2⟩) (λ_ h=>h) (λa o q _=>q) (λa _ o q=>q) rx
   refine never (thn (hgN _ s7 σ' H7 v u (λσ8 H8=>H8=H7/\∃fp8,ax T (zC F1 H2) Fi H7 σ8 e' fp8) pinv rv ⟨zC F1 H2,Fi,bI caps tn.length env,λ_=>[],xs[i].MR,[],SI5,rxb,xo.nil,?_⟩) λ_ s8 zz=>?_)
   .rw[eg];exact λσ8 fp8 S8=>⟨rfl,fp8,S8⟩
   obtain⟨σ8,H8,inv8,e8,fp8,S8⟩:=zz;subst e8;obtain⟨kl,kk⟩:=hk.keep _ _ _ eg;have capOwn:∀(j:Nat) pv,(bI caps tn.length env)[j]?=some (some pv)->pv.has Fl.MU=false:=λj pv ej=>by
    unfold bI at ej;by_cases hj:j<caps.length
    .rw[getElem?_append_left (by simpa using hj),getElem?_map]at ej;obtain⟨jj,_,e2⟩:=map_eq_some_iff.mp ej;obtain⟨pv0,_,rfl⟩:=map_eq_some_iff.mp e2;exact iT pv0
    .rw[getElem?_append_right (by simpa using hj),getElem?_replicate]at ej;split at ej<;>cases ej
   have S8':ax T (zC F1 H2) Fi H8 σ8 e' (λ_=>[]):=S8.MZ λj pv ej=>by
    rcases hk.own _ _ _ eg (iT _) j pv ej with z|z
    .exact capOwn j pv z
    .exact z
   have back:∀{F9:Mz}{H9:Hp},ax T (zC F1 H2) F9 H9 σ8 e' (λ_=>[])->ax T (zC F1 H2) F9 H9 σ8 (bI caps tn.length env) (λ_=>[]):=λS9=>S9.wk rfl kl.symm λj pv ej=>by
    have hj:j<caps.length:=by
     by_cases hj:j<caps.length
     .exact hj
     .unfold bI at ej;rw[getElem?_append_right (by simpa using hj),getElem?_replicate]at ej;split at ej<;>cases ej
    rw[kk j hj];exact ej
   have pinback:∀{H9:Hp}{s9:Shared},L2.Inv (cxC X scope (s2.heap.objs.size+1) N s2 H2 fpi) ([]++ k_ fpi s7.heap) σ8 H9 s9->L2.Inv (cxC X scope (s2.heap.objs.size+1) N s2 H2 fpi) [] σ8 H9 s9/\tn_ (i+1) s9.heap/\∀b∈fpi,H9 b=none:=λ{H9 s9} i9=>
    ⟨i9.unpinned,Tn.keep _ _ _ st7 λb hb o e=>(i9.pin (b,o) (mem_append_right _ (mem_append_right _ (gC hb e)))).1,λb hb=>by
     obtain⟨o,e,_⟩:=Tn.obj _ _ st7 b hb;exact(i9.pin (b,o) (mem_append_right _ (mem_append_right _ (gC hb e)))).2.1⟩
   cases emc:mc e' with
   |exc c|stuck=>rw[emc]at ecl;cases ecl
   |ok bb=>
   rw[emc]at ecl;simp only[Res.M0]at ecl;refine never (thn (hts _ s8 σ8 H8 (λb H9=>b=bb/\∃F9,Gr Fi H8 F9 H9) inv8 ⟨zC F1 H2,Fi,e',λ_=>[],S8',?_⟩) λok s9 zz=>?_)
   .rw[emc];exact λH9 F9 g9=>⟨rfl,F9,g9⟩
   obtain⟨H9,inv9,eb,F9,g9⟩:=zz;subst eb;have S9:=S8'.grow g9;have ry9:=ry.ext g9.ext g9.mono;have nf9:∀a∈f,¬F9 a:=λa ha z=>by
    rcases g9.only a z with z|z
    .exact(nf5 a ha).1 z
    .obtain⟨o,e⟩:=ry.there a ha;rw[e]at z;cases z
   have nFD9:¬F9 s2.heap.objs.size:=λz=>by
    rcases g9.only _ z with z|z
    .exact nFD z
    .rw[hD5]at z;cases z
   cases ok with
   |false=>obtain⟨i10,st10,fr10⟩:=pinback inv9;exact⟨xs.length-(i+1),by lia,i+1,σ8,H9,F9,ys,zs,vs,f,rfl,hlt5,i10,st10,fr10,back S9,g9.ext _ _ hD5,ry9,nd5,λa ha=>⟨nf9 a ha,(nf5 a ha).2⟩,nFD9,by lia,ecl,efull⟩
   |true=>
    simp only[if_true]at ecl ⊢;cases eme:me e' with
    |exc c|stuck=>rw[eme]at ecl;cases ecl
    |ok y=>
    rw[eme]at ecl;simp only[Res.M0]at ecl;split at ecl
    case isTrue=>cases ecl
    rename_i hyb
    simp at hyb;cases ecr:dU g mc me (bI caps tn.length env) (xs.drop (i+1))with
    |exc c|stuck=>rw[ecr]at ecl;cases ecl
    |ok zs'=>
    rw[ecr]at ecl;cases ecl;refine never (thn (hel _ s9 σ8 H9 (λv' H10=>∃F10 f10,Gr F9 H9 F10 H10/\Rel T F10 (zC F1 H2).B (Own λ_=>[]) H10 y v' f10/\(∀a∈f10,¬F10 a)/\f10.Nodup/\∀a∈f10,H9 a=none) inv9 ⟨zC F1 H2,F9,e',λ_=>[],S9,?_⟩) λw s10 zz=>?_)
    .rw[eme];exact λv' H10 F10 f10 g10 r10 n10 d10 w10=>⟨F10,f10,g10,r10,n10,d10,w10⟩
    obtain⟨v',H10,inv10,rw10,F10,f10,g10,r10,n10,d10,w10⟩:=zz;have hvl:vs.length<sizeLine:=by
     have h1:=ry.length;have h2:sizeLine=16777216:=sizeLine_eq
     lia
    have hD10:H10 s2.heap.objs.size=some (.lst vs):=g10.ext _ _ (g9.ext _ _ hD5);refine never (thn (nq _ s10 σ8 H10 (.ref s2.heap.objs.size) [v'] (.ref s2.heap.objs.size) [w] (λ_ H11=>H11=upd H10 s2.heap.objs.size (.lst (vs++[v']))) inv10 rfl (.cons rw10 .nil) ⟨s2.heap.objs.size,vs,v',rfl,rfl,hD10,hvl,rfl⟩) λ_ s11 zz=>?_);obtain⟨_,H11,inv11,_,e11⟩:=zz;subst e11;obtain⟨i12,st12,fr12⟩:=pinback inv11;have S10:=S9.grow g10;have nFD10:¬F10 s2.heap.objs.size:=λz=>by
     rcases g10.only _ z with z|z
     .exact nFD9 z
     .rw[g9.ext _ _ hD5]at z;cases z
    have ry10:=ry9.ext g10.ext g10.mono;have ryy:RelL T F10 Z.B (Own fp) (upd H10 s2.heap.objs.size (.lst (vs++[v']))) (ys++[y]) (vs++[v']) (f++f10):=by
     have ry1:Rel T F10 Z.B (Own fp) H10 y v' f10:=Rel.noL hyb.2 (Rel.noB (B':=Z.B) hyb.1 r10);have all:RelL T F10 Z.B (Own fp) H10 (ys++[y]) (vs++[v']) (f++f10):=RelL.append ry10 (by exact⟨v',[],f10,[],rfl,ry1,by exact⟨rfl,rfl⟩,by simp⟩);refine RelL.tr (λ_ h=>h) (λ_ h=>h) (λ_ h=>h) (λa o e h=>?_) (λa ha o e=>?_) all
     .refine(aT λz=>?_).trans e;subst z;rcases h with h|h|h|h
      .exact nFD10 h
      .obtain⟨⟨o',h1⟩,h2⟩:=S2.hp.bo.1 _ h;rw[S2.hp.keep _ o' h1 h2]at hDH;cases hDH
      .obtain⟨j,hj⟩:=h;obtain⟨_,o',ho'⟩:=S2.dis j _ hj;rw[hDH]at ho';cases ho'
      .rw[hD10]at e;cases e;exact h
     .refine(aT λz=>?_).trans e;subst z;rcases mem_append.mp ha with ha|ha
      .lia
      .have:=w10 _ ha;rw[g9.ext _ _ hD5]at this;cases this
    have nf10:∀a∈f,¬F10 a:=λa ha z=>by
     rcases g10.only a z with z|z
     .exact nf9 a ha z
     .obtain⟨o,e⟩:=ry9.there a ha;rw[e]at z;cases z
    refine⟨xs.length-(i+1),by lia,i+1,σ8,_,F10,ys++[y],zs',vs++[v'],f++f10,rfl,hlt5,i12,st12,fr12,back (S10.updD nFD10 hDH hD10 (λz=>z)),bK,ryy,?_,λa ha=>?_,nFD10,by simp;lia,ecr,by rw[efull,List.append_assoc];rfl⟩
    .refine nodup_append.mpr ⟨nd5,d10,λa ha b hb z=>?_⟩;subst z;obtain⟨o,e⟩:=ry9.there a ha;rw[w10 a hb]at e;cases e
    .rcases mem_append.mp ha with ha|ha
     .exact⟨nf10 a ha,(nf5 a ha).2⟩
     .refine⟨n10 a ha,?_,λz=>?_⟩
      .have:=w10 a ha;exact ext5.free (g9.ext.free this)
      .subst z;have:=w10 _ ha;rw[g9.ext _ _ hD5]at this;cases this
  .have e:i=xs.length:=by lia
   subst e;rw[List.drop_length]at ecl;cases ecl;rw[append_nil]at efull;subst efull;refine thn (Tn.done (cxC X scope (s2.heap.objs.size+1) N s2 H2 fpi) rfl rfl rfl hc xs.length [] s5 σ' H' _ inv5 (fpok (λ_ z=>absurd z ()) fr5) st5 stop) λr s6 hz1=>?_;obtain⟨hr,inv6⟩:=hz1;subst hr;obtain⟨m,hn,_⟩:=id inv6.loc;have hlc:X.env.locals<s2.heap.objs.size+1:=Nat.lt_succ_of_lt I2.lt;have iX:L2.Inv X js Y H' s6:=I2.call' inv6.os inv6.base inv6.hok inv6.bare λb hb=>⟨(f2 b hb).2.2.2.1,(f2 b hb).2.1,(f2 b hb).2.2.2.2.1,(f2 b hb).2.2.2.2.2⟩
   refine hfin _ (s2.heap.objs.size+1) H' s6 m ?_ iX hn inv6.free (Nat.ne_of_gt hlc) (I2.nofs (le_succ _)) (Nat.le_trans I2.sz (le_succ _)) (λx c e z=>?_) (λp hp z=>?_)
   case refine_2=>
    obtain⟨v,hv⟩:=I2.cell x c e;rw[z]at hv;exact absurd hv.lt (Nat.not_lt.mpr (le_succ _))
   case refine_3=>
    have:=lt_size (I2.pin p hp).1;rw[z]at this;exact absurd this (Nat.not_lt.mpr (le_succ _))
   refine q (.ref s2.heap.objs.size) H' Fi (s2.heap.objs.size::f) (g1.trans gr5) ?_ (λa ha=>?_) ?_ (λa ha=>?_)
   .unfold Rel;exact⟨_,vs,f,rfl,hD5,ry,rfl⟩
   .grind
   .exact nodup_cons.mpr ⟨λz=>(nf5 _ z).2.2 rfl,nd5⟩
   .rcases mem_cons.mp ha with rfl|ha
    .exact g1.ext.free hDH
    .exact g1.ext.free (nf5 a ha).2.1
 have st0:tn_ 0 h₁:=Tn.keep _ _ _ st2 λb _ o e=>old b o e;have lp:=key _ inv0 st0;simp only[hC];exact codeAny_compStart_list lp (Tn.self _ 0 _ _ _ st0 lp)
def BT
  (cs:d6 X scope caps N tn) (hc:X.calm=true) (hi:SIc X T W tg iter mi) (hk:fA g caps.length)
  (hb:∀C s H ex,SG (cxC X scope C N s H ex) T tg g/\STs (cxC X scope C N s H ex) T WF ifs mc/\SE (cxC X scope C N s H ex) T WF elt me)
  (hs:∀x,foldedSetIterable iter X.env x=pure x:=by intro _;rfl):SE X T W (.ListComp elt [⟨tg,iter,ifs,0⟩] scope pos) (ay caps tn.length mi g mc me):=by
 intro js s Y H Q I h;refine n5 cs hc hi hk hb hs I h λDd C H' s6 m hq iX hn hCn hCl hCf hC0 hCc hCp=>⟨m,hn,λh' hs'=>⟨.ref Dd,H',?_,rfl,hq⟩⟩
 exact iX.turned (t':=s6.toks) (λb o hb e=>(hs'.2 b hb).trans e) hCn hCl (.inr hC0) hCc hCp
def Bj
  (cs:d6 X scope caps N tn) (hc:X.calm=true) (hN:X.N.Nodup) (hy:X.N[i]?=some y) (hx:Loc X.env.scope y) (hi:SIc X T W tg iter mi) (hk:fA g caps.length)
  (hb:∀C s H ex,SG (cxC X scope C N s H ex) T tg g/\STs (cxC X scope C N s H ex) T WF ifs mc/\SE (cxC X scope C N s H ex) T WF elt me)
  (hsw:swapsWith (.ListComp elt [⟨tg,iter,ifs,0⟩] scope pos) (some (.Name y py)) spos.line X.env=pure true:=by rfl)
  (hs:∀x,foldedSetIterable iter X.env x=pure x:=by intro _;rfl)
  (hf:X.fn y=true\/X.env.scope.names.lookup y=some .local:=by first|exact .inl rfl|exact .inr rfl|assumption) :
  SS X T W (.Assign [.Name y py] (.ListComp elt [⟨tg,iter,ifs,0⟩] scope pos) spos) (aw i (ay caps tn.length mi g mc me)):=by
 intro js s Y H D I h;obtain⟨Z,F,env,fp,S,q⟩:=h;unfold aw at q;rw[exec_Assign_Name_used _ _ _ _ hsw];refine wpAny_bind (wpAny_standAt (wpAny_bind ?_));refine wpAny_bind (wpAny_mono (n5 (Q':=λ_ s'=>SP X js D .next s') (Q:=λv H1=>D.nx (Y.set i (some v)) H1) cs hc hi hk hb hs I ?_ λDd C H' s6 m hq iX hn hCn hCl hCf hC0 hCc hCp=>?_) (λ_ s' hq=>wpAny_pure (wpAny_pure hq)) λ_ _ e=>e)
 .refine tE.bind S (λc e H' x=>?_) (λe=>by rw[e]at q;exact q) λpv v H1 F1 f e g r h1 h2 h3=>?_
  .rw[e]at q;exact q F H' Y fp (S.grow (Gr.same S.hp.ft x))
  .rw[e]at q;simp only at q;split at q
   .rename_i hl
    rw[and_eq_true]at hl;exact q F1 H1 _ _ (S.putN g hl.2 r hl.1 h1 h2 h3)
   .exact q.elim
 .refine wpAny_assign_Name (mU (v:=.ref Dd) iX hN hy hx rfl (λs7 i7 ⟨a,hsa,ha⟩=>?_) hf);have hCa:C≠a:=by
   rcases ha with ha|ha
   .rw[ha];exact hCl
   .exact λz=>hCc y a ha z.symm
  refine⟨m,hn.sameBut hsa hCa,λh' hs'=>⟨_,H',?_,hq⟩⟩;exact i7.turned (t':=s7.toks) (λb o hb e=>(hs'.2 b hb).trans e) hCn hCl (.inr hC0) hCc hCp
end
def GFI(T:Tb)(Z:Zn)(v0:V)(Q:VK)(E:XK):MM->Prop
 |.ok pv=>∀F H f,b9 T Z F H->Rel T F Z.B NoL H pv v0 f->f.Nodup->(∀a∈f,¬F a)->(∀a∈f,Z.H0 a=none\/Z.fp0 a)->Q .non H
 |.exc c=>∀H,(∀a o,Z.H0 a=some o->¬Z.fp0 a->H a=some o)->E (.ref (T.xcl c)) none H
 |.stuck=>False
def spI(T:Tb)(n:Nat)(m:ML->MM):Sp:=λvs H Q E=>vs.length=n/\∃v0 pvs F B f,vs[0]?=some v0/\xp T F B H pvs vs f/\(∃fl c ks xs,pvs[0]?=some (.obj fl c ks xs))/\GFI T ⟨H,F,(·∈f),B,some v0⟩ v0 Q E (m pvs)
noncomputable def gT(n:Nat)(m:MS)(args:ML):MM:=match m (args.map some++replicate (n-args.length) none)with
 |.next e=>match e[0]? with
  |some (some o)=>.ok o
  |_=>.stuck
 |.exc c _=>.exc c
 |_=>.stuck
section
variable{P:Program}{w:World}{K:PySem.W.Frag}{mg:Mw}{base:Heap}{T:Tb}
def Hg(F:Fun K x qual st f fd)(S:dE N ps (aB st))
  (body:∀ (cdv:Value) (A:Around) (outer:List Env) (s:Shared) (H:Hp) (E:XK),dQ k (A.deeper (PyProof.Rows.envOfC qual (aB st) s.heap.objs.size f cdv)) ->
   SSs (fE (CXP P w) P w K mg base N qual (aB st) f cdv A outer s H E) T (WD T E) (ba st) m):cF P w K mg base (CXP P w) (k+1) f fd ps (spI T ps.length (gT N.length m)):=by
 obtain⟨oc,od,kV,doc,pm,an,cdv,ct,osl,rfl,lk,hcd⟩:=F.ex;refine Ae lk hcd S (λvs H Q E h=>h.1) λA outer s H vs Q E hr hsp=>⟨_,body cdv A outer s H E hr,?_⟩
 obtain⟨_,v0,pvs,F,B,fl,hv0,R,hob,q⟩:=hsp;obtain⟨fp,S0⟩:=j8 N R (some v0) (λv hv=>by simp_all);refine⟨_,F,_,fp,S0,?_⟩;unfold gT at q;cases e:m (pvs.map some++replicate (N.length-pvs.length) none)with
 |next e'=>
  rw[e]at q;dsimp only at q;intro F' H' σ' fp' S';obtain⟨h1,_⟩:=S'.pn v0 rfl;cases e0:e'[0]? with
  |none=>rw[e0]at q;exact q.elim
  |some o0=>
   cases o0 with
   |none=>rw[e0]at q;exact q.elim
   |some o=>rw[e0]at q;obtain⟨v,h2,r⟩:=S'.rel 0 o e0;rw[h1]at h2;cases h2;exact q F' H' (fp' 0) S'.hp r (S'.nd 0) (λa ha=>(S'.dis 0 a ha).1) (S'.new 0)
 |ret v|brk e'|cont e'=>rw[e]at q;exact q.elim
 |exc c e'=>rw[e]at q;exact λF' H' σ' fp' S'=>q H' S'.hp.keep
 |stuck=>rw[e]at q;exact q.elim
end
section
variable{X:Cx}{T:Tb}{W:Nat->St->MK}{Z:Zn}{F F1 B L:Mz}{H H1:Hp}{Y:St}{env:En}{fp:Nat->MD}{D:Ends}
theorem FU
  (M:Mk X.K (T.cls c) f) (hcn:c<T.nc) (G:cF X.prog X.w X.K X.mg X.base (CXP X.prog X.w) k f fd ps (spI T ps.length m)) (hr:dQ (k+1) X.A) (hb:eK X.K fd ps ds) (hd:aS dvs ds) (hdp:∀F B L H,RelL T F B L H dps dvs []) (hx:XF X T W)
  (S:ax T Z F H Y env fp) (g:Gr F H F1 H1) (r:RelL T F1 Z.B (Own fp) H1 xs vs fx) (nf:∀a∈fx,¬F1 a) (nd:fx.Nodup) (new:∀a∈fx,H a=none) (q:GE T W Z.B F (Own fp) Y H Q (aq m (.obj .own c [] []::(xs++dps))))
  (I1:L2.Inv X js Y H1 s1) (rv:aS vs us) (hlen:vs.length+dvs.length+1=ps.length):wpAny (model X.prog X.w) X.A (call (.ref (T.cls c)) us) (EP X js Y Q) X.xe s1:=by
 have hxn:H1 (s1.heap.objs.size+1)=none:=I1.hok.fresh (le_succ _);have hdn:H1 s1.heap.objs.size=none:=I1.hok.fresh (Nat.le_refl _);have hne:s1.heap.objs.size≠s1.heap.objs.size+1:=Nat.ne_of_lt (Nat.lt_succ_self _);generalize hH2:upd (upd H1 s1.heap.objs.size (.own (s1.heap.objs.size+1))) (s1.heap.objs.size+1) (.ins (T.cls c) s1.heap.objs.size [])=H2;have ext2:Ext H1 H2:=by rw[<- hH2];exact(Ext.upd hdn).trans (Ext.upd (by rw[aT hne.symm];exact hxn))
 have free2:∀a,H2 a=none->H1 a=none:=λa h=>ext2.free h;have hx2:H2 (s1.heap.objs.size+1)=some (.ins (T.cls c) s1.heap.objs.size []):=by rw[<- hH2];exact bK
 have I2:=L2.Inv.made (C:=T.cls c) I1;rw[hH2]at I2;have r2:aS (V.ref (s1.heap.objs.size+1)::(vs++dvs)) (Value.ref (s1.heap.objs.size+1)::(us++ds)):=.cons rfl (rv.append hd);have hl:(Value.ref (s1.heap.objs.size+1)::us++ds).length=ps.length:=by
  have e:=r2.length;simp at e hlen ⊢
  lia
 have rr:RelL T F1 Z.B (Own fp) H1 (xs++dps) (vs++dvs) fx:=by
  have:=RelL.append r (hdp F1 Z.B (Own fp) H1)
  rwa [append_nil]at this
 have nx:s1.heap.objs.size+1∉fx:=λz=>by obtain⟨o,ho⟩:=r.there _ z;rw[hxn]at ho;cases ho
 have hBo:∀a,Z.B a->(∃o,H2 a=some o)/\a ∉(s1.heap.objs.size+1)::fx:=λa h=>by
  obtain⟨⟨o,h1⟩,h2⟩:=S.hp.bo.1 a h;have h3:=S.hp.keep a o h1 h2;refine⟨⟨o,ext2 a o (g.ext a o h3)⟩,λz=>?_⟩;rcases mem_cons.mp z with z|z
  .rw[z]at h3;rw[g.ext _ _ h3]at hxn;cases hxn
  .simp_all
 have hOw:∀a,Own fp a->(∃o,H2 a=some o)/\a ∉(s1.heap.objs.size+1)::fx:=λa hz1=>by
  obtain⟨i,hi⟩:=hz1;obtain⟨_,o,ho⟩:=S.dis i a hi;refine⟨⟨o,ext2 a o (g.ext a o ho)⟩,λz=>?_⟩;rcases mem_cons.mp z with z|z
  .rw[z]at ho;rw[g.ext _ _ ho]at hxn;cases hxn
  .simp_all
 have nF:¬F1 (s1.heap.objs.size+1):=λz=>by obtain⟨o,ho⟩:=g.dom _ z;rw[hxn]at ho;cases ho
 have R:xp T F1 (λa=>(∃o,H2 a=some o)/\a ∉(s1.heap.objs.size+1)::fx) H2 (.obj .own c [] []::mapL Fl.MP (xs++dps)) (.ref (s1.heap.objs.size+1)::(vs++dvs)) ((s1.heap.objs.size+1)::fx):=by
  refine⟨?_,nodup_cons.mpr ⟨nx,nd⟩,λa ha=>?_,⟨λa h=>h,S.tbo (g.ext.trans ext2) λa z=>.inl ((mem_cons.mp z).elim (λz=>by rw[z];exact g.ext.free hxn) (new a))⟩,λa h=>let⟨o,ho⟩:=g.dom a h;⟨o,ext2 a o ho⟩⟩
  .unfold RelL;refine⟨_,_,[s1.heap.objs.size+1],fx,rfl,?_,RelL.MP hBo hOw (rr.ext ext2 λ_ h=>h),rfl⟩;exact⟨_,s1.heap.objs.size,[],[],rfl,by simpa using hx2,⟨rfl,hcn⟩,by exact⟨rfl,rfl⟩,rfl,True.intro⟩
  .rcases mem_cons.mp ha with rfl|ha
   .exact nF
   .exact nf a ha
 have newx:∀a ∈(s1.heap.objs.size+1)::fx,H a=none:=λa ha=>by
  rcases mem_cons.mp ha with rfl|ha
  .exact g.ext.free hxn
  .exact new a ha
 refine wpAny_call (zI I1.kIn M.makes M.init (beq_iff_eq.mp M.fn) (codeAny_mono (G.run _ X.stack _ _ ⟨Value.ref (s1.heap.objs.size+1)::us,[]⟩ (Value.ref (s1.heap.objs.size+1)::(us ++ ds)) _ (λv H3=>v=.non/\Q (.ref (s1.heap.objs.size+1)) H3) (λcls _ H'=>∃ c,cls=.ref (T.xcl c)/\W c Y H') (hr.make (T.cls c) us [])
  (I2.env0.make (T.cls c) us []) (hb _ (Value.ref (s1.heap.objs.size+1)::us) I2.kIn hl) r2 ⟨by rw[r2.length];exact hl,_,_,F1,_,_,rfl,R,⟨.own,c,[],[],rfl⟩,?_⟩) λrs s' hq'=>?_))
 .unfold aq at q;have e0:mapL Fl.MP (PV.obj .own c [] []::(xs++dps))=.obj .own c [] []::mapL Fl.MP (xs++dps):=by simp[mapL,PV.MY,Fl.MP]
  rw[e0]at q;cases e:m (.obj .own c [] []::mapL Fl.MP (xs++dps))with
  |ok v=>
   rw[e]at q;dsimp only at q;intro F3 H3 f3 hp3 r3 nd3 nf3 new3;refine⟨rfl,?_⟩;by_cases hbr:v.has Fl.MW=true
   .rw[if_pos hbr]at q;exact q.elim
   .rw[if_neg hbr]at q;have hbr':v.has Fl.MW=false:=by lia
    refine q _ H3 F3 f3 ⟨λa o h=>hp3.keep a o (ext2 a o (g.ext a o h)) λz=>(by rw[newx a z]at h;cases h),λa h=>hp3.f0 a (g.mono a h),λa h=>?_,hp3.ft⟩ ?_ nf3 nd3 λa ha=>?_
    .rcases hp3.fn a h with z|z|z
     .exact g.only a z
     .exact .inr (g.ext.free (free2 a z))
     .exact .inr (newx a z)
    .exact Rel.tr (λ_ h=>h) (λ_ h=>h) (λ_ h=>h.elim) (λ_ _ h _=>h) (λ_ _ _ h=>h) (Rel.noB (B':=Z.B) hbr' r3)
    .rcases new3 a ha with z|z
     .exact g.ext.free (free2 a z)
     .exact newx a z
  |exc c'=>rw[e]at q;exact λH' h=>⟨c',rfl,q H' λa o z=>h a o (ext2 a o (g.ext a o z)) λz'=>by rw[newx a z']at z;cases z⟩
  |stuck=>rw[e]at q;exact q.elim
 .cases rs with
  |error e=>obtain⟨cls,H',fl,c',rfl,hw⟩:=hq';exact hx js Y H2 _ c' H' e s' I2 fl hw
  |ok fl=>
   cases fl with
   |ret u=>obtain⟨v,H',I3,rv',ev,q3⟩:=I2.after hq';subst ev;exact⟨rv',⟨V.ref (s1.heap.objs.size+1),H',I3,rfl,q3⟩⟩
   |next|brk|cont=>exact False.elim hq'
def BN
  (M:Mk X.K (T.cls c) f) (hcn:c<T.nc) (G:cF X.prog X.w X.K X.mg X.base (CXP X.prog X.w) k f fd ps (spI T ps.length m)) (hr:dQ (k+1) X.A) (hg:Gl X x) (hm:X.mg x=some (.ref (T.cls c))) (hb:eK X.K fd ps ds) (hd:aS dvs ds) (hdp:∀F B L H,RelL T F B L H dps dvs []) (hx:XF X T W)
  (hn:hV ms n) (hps:n+dvs.length+1=ps.length) (ha:SA X T W (e::es) ms)
  (hdb:Nd x:=by decide) (he:starEach (e::es) X.env=(false,eval e X.env)::starEach es X.env:=by rfl) (hpl:(backTo pos (starEach es X.env)).any (·.1)=false:=by rfl) :
  SE X T W (.Call (.Name x p) (e::es) [] pos) (af (λxs=>aq m (.obj .own c [] []::(xs++dps))) ms):=by
 intro js s Y H Q I h;obtain⟨Z,F,env,fp,S,q⟩:=h;unfold af at q;refine wpAny_Call_Name_kw (kJ I hg hm ?_ hdb);refine callWith_K I.ok.mod.kin M.kp (thn (ha pos js s Y H (λvs H1=>∀ us s1,L2.Inv X js Y H1 s1->aS vs us->wpAny (model X.prog X.w) X.A (call (.ref (T.cls c)) us) (EP X js Y Q) X.xe s1) I
  (tA.bq S λxs vs H1 F1 f1 e1 g1 r1 n1 d1 w1 us s1 I1 rv=>?_)) λus s1 ⟨vs,H1,I1,r,q1⟩=>⟨I1.kIn,q1 us s1 I1 r⟩) he hpl
 rw[e1]at q;exact FU M hcn G hr hb hd hdp hx S g1 r1 n1 d1 w1 q I1 rv (by rw[<- r1.length,hn env xs e1];exact hps)
theorem ax.mut(S:ax T Z F H Y env fp)(hi:i<env.length)(hv:Y[i]?=some (some v))(ha:a∈fp i)(r:Rel T F Z.B NoL (upd H a o') pv' v f')(nd:f'.Nodup)(nf:∀b∈f',¬F b)
  (new:∀b∈f',Z.H0 b=none\/Z.fp0 b) (dj:∀b∈f',∀j,j≠i->b∉fp j) (ho:i=0->d5 env=true->∃fl c ks xs,pv'=.obj fl c ks xs):ax T Z F (upd H a o') Y (env.set i (some pv')) (cv fp i f'):=by
 obtain⟨oa,hoa,hch⟩:=S.ch i a ha;have nFa:¬F a:=(S.dis i a ha).1;have nBa:¬Z.B a:=λz=>S.bow a z ⟨i,ha⟩;have ne:∀b u,H b=some u->(F b\/Z.B b\/NoL b\/iB u)->b≠a:=λb u e h z=>by
  subst z;rcases h with h|h|h|h
  .exact nFa h
  .exact nBa h
  .exact h
  .rw[hoa]at e;cases e;cases oa with
   |lst _|ins _ _ _=>exact h
   |_=>exact hch
 have nz:∀b u,Z.H0 b=some u->¬Z.fp0 b->b≠a:=(by grind[cv,ax,b9,Gr])
 have nj:∀j,j≠i->∀b∈fp j,b≠a:=λj hj b hb z=>by subst z;exact S.dj j i hj _ hb ha
 refine⟨⟨S.hp.bo,λb u e n=>by rw[aT (nz b u e n)];exact S.hp.keep b u e n,S.hp.f0,S.hp.fn,λb h=>?_⟩,by rw[length_set,S.len],λj pv e=>?_,λj=>?_,λj k hjk b hb=>?_,λj b hb=>?_,λj b hb=>?_,λj b hb=>?_,λw hw=>?_⟩
 .obtain⟨u,e⟩:=S.hp.ft b h;exact⟨u,by rw[aT (show b≠a from λz=>nFa ())];exact e⟩
 .by_cases hj:j=i
  .subst hj;rw[getElem?_set_self hi]at e;cases e;refine⟨v,hv,?_⟩;unfold cv;rw[if_pos rfl];exact r
  .rw[getElem?_set_ne (Ne.symm hj)]at e;obtain⟨w,h1,h2⟩:=S.rel j pv e;refine⟨w,h1,?_⟩;unfold cv;rw[if_neg hj];exact Rel.tr (λ_ h=>h) (λ_ h=>h) (λ_ h=>h) (λb u q h=>by rw[aT (ne b u q h)];exact q) (λb hb u q=>by rw[aT (nj j hj b hb)];exact q) h2
 .unfold cv;split
  .exact nd
  .exact S.nd j
 .grind[cv,ax,b9,Gr]
 .unfold cv at hb;by_cases h1:j=i
  .rw[if_pos h1]at hb;exact⟨nf b hb,r.there b hb⟩
  .rw[if_neg h1]at hb;obtain⟨n,u,e⟩:=S.dis j b hb;exact⟨n,u,by rw[aT (nj j h1 b hb)];exact e⟩
 .unfold cv at hb;by_cases h1:j=i
  .rw[if_pos h1]at hb;exact new b hb
  .rw[if_neg h1]at hb;exact S.new j b hb
 .unfold cv at hb;by_cases h1:j=i
  .rw[if_pos h1]at hb;exact r.chg b hb
  .rw[if_neg h1]at hb;obtain⟨u,e,c⟩:=S.ch j b hb;exact⟨u,by rw[aT (nj j h1 b hb)];exact e,c⟩
 .obtain⟨h1,h2⟩:=S.pn w hw;refine⟨h1,?_⟩;by_cases hi0:i=0
  .obtain⟨fl,c,ks,xs,e⟩:=ho hi0 h2;subst hi0 e;unfold d5;rw[getElem?_set_self hi]
  .unfold d5 at h2 ⊢;rw[getElem?_set_ne hi0];exact h2
def eR(i k:Nat)(e:ME):MS:=λenv=>match e env with
 | .ok v=>(match env[i]? with
  |some (some (.obj .own c ks vs))=>if v.MX&&!ks.contains k&&decide (ks.length<900)then .next (env.set i (some (.obj .own c (ks++[k]) (vs++[v]))))else .stuck
  |_=>.stuck)
 |.exc c=>.exc c env
 |.stuck=>.stuck
theorem p8:∀{ks:List Nat}{ws:MJ},ks.contains k=false->ks.length=ws.length->gw (T.att k) y ((ks.map T.att).zip ws)=((ks++[k]).map T.att).zip (ws++[y])
 | [],[],_,_=>rfl
 |j::ks,w::ws,h,hl=>by simp only[List.contains_cons,or_eq_false_iff,beq_eq_false_iff_ne]at h;show gw (T.att k) y ((T.att j,w)::(ks.map T.att).zip ws)=(T.att j,w)::((ks++[k]).map T.att).zip (ws++[y]);unfold gw;rw[if_neg (λz=>h.1 (T.inj _ _ z).symm),p8 h.2 (by simp_all)]
 | [],_::_,_,hl|_::_,[],_,hl=>by simp at hl
theorem E8(hK:X.K=T.K)(hf:T.att k=f)(hc:∀c<T.nc,Cls T.K (T.cls c))(hn:∀c<T.nc,fB T.K (T.cls c) f)(hN:X.N[i]?=some x)(hv:Vis X.env.scope x)(he:SE X T W e m)
  (hs:swapsWith e (some (.Attribute (.Name x px) f pos')) pos.line X.env=pure false:=by rfl) (hd:Nd x:=by decide) (hcd:Nc x:=by decide) :
  SS X T W (.Assign [.Attribute (.Name x px) f pos'] e pos) (eR i k m):=PS.wk (Gc (pos':=pos') (gx hN hv hd hcd) he hs) λD Y H hz1=>by
 walk_at "b";unfold eR at q;refine tE.bind S (λc e H' x=>?_) (λe=>by rw[e]at q;exact q) λpv v H1 F1 f1 e g r h1 h2 h3=>?_
 .rw[e]at q;exact q F H' Y fp (S.grow (Gr.same S.hp.ft x))
 .rw[e]at q;dsimp only at q;split at q
  .rename_i c ks vs eo
   split at q
   .rename_i hcnd
    simp only[and_eq_true,not_eq_true']at hcnd;obtain⟨⟨hln,hkn⟩,hkl⟩:=hcnd;have S1:=S.grow g;obtain⟨vo,ho1,ho2⟩:=S1.rel i _ eo;have ho3:=ho2;obtain⟨a,dx,ws,fp',rfl,hl,hk,hr,hfl,_⟩:=ho3;have hfl':fp i=a::fp':=hfl;have hil:i<env.length:=(List.getElem?_eq_some_iff.mp eo).1;refine⟨_,ho1,a,_,dx,_,rfl,hl,by simp_all,by simp_all,?_,?_⟩
    .have:=hr.length;rw[List.length_zip,length_map]
     lia
    .rw[<- hf,p8 hkn (by rw[<- hr.length];exact hk.1)];have ha:a∈fp i:=by simp_all
     have nd:(a::fp').Nodup:=by rw[<- hfl'];exact S1.nd i
     have old:∀b∈f1,∀j,b∉fp j:=λb hb j hj=>by obtain⟨_,o,e⟩:=S.dis j b hj;rw[h3 b hb]at e;cases e
     have hrv:Rel T F1 Z.B NoL H1 pv v f1:=Rel.noL (by simpa[PV.MX]using hln) r;have nea:∀b u,H1 b=some u->(F1 b\/Z.B b\/NoL b\/iB u)->b≠a:=λb u e h z=>by
      subst z;rcases h with h|h|h|h
      .exact(S1.dis i _ ha).1 h
      .exact S1.bow _ h ⟨i,ha⟩
      .exact h
      .rw[hl]at e;cases e;exact h
     refine q F1 _ Y _ (S1.mut (f':=a::(fp'++f1)) hil ho1 ha ?_ ?_ (λb hb=>?_) (λb hb=>?_) (λb hb j hj=>?_) λ_ _=>⟨_,_,_,_,rfl⟩)
     .unfold Rel;have hrr:RelL T F1 Z.B NoL H1 (vs++[pv]) (ws++[v]) (fp'++f1):=RelL.append hr (by exact⟨v,[],f1,[],rfl,hrv,by exact⟨rfl,rfl⟩,by simp⟩);refine⟨a,dx,ws++[v],fp'++f1,rfl,bK,⟨by simp[hk.1],hk.2⟩,?_,rfl,True.intro⟩;refine RelL.tr (λ_ h=>h) (λ_ h=>h) (λ_ h=>h) (λb u e h=>by rw[aT (nea b u e h)];exact e) (λb hb u e=>?_) hrr;refine(aT λz=>?_).trans e
      grind
     .grind
     .grind[cv,ax,b9,Gr]
     .rcases mem_cons.mp hb with rfl|hb
      .exact S1.new i _ ha
      .rcases mem_append.mp hb with hb|hb
       .exact S1.new i b (by simp_all)
       .exact S.hp.newE h3 b hb
     grind[cv,ax,b9,Gr]
   .exact q.elim
  .exact q.elim
theorem ax.mutL{i:Nat}{xs ys:ML}{ws us:MJ}{a:Addr}{v:V}{f' fp':MD}(S:ax T Z F H Y env fp)(eo:env[i]?=some (some (.lst .own xs)))(hv:Y[i]?=some (some (.ref a)))(hfp:fp i=a::fp')(r:RelL T F Z.B NoL H ys us f')(nd:f'.Nodup)
  (hf:∀b∈f',(b∈fp')\/(¬F b/\(Z.H0 b=none\/Z.fp0 b)/\∀j,b∉fp j)) (hl:H a=some (.lst ws)):ax T Z F (upd H a (.lst us)) Y (env.set i (some (.lst .own ys))) (cv fp i (a::f')):=by
 have ha:a∈fp i:=by simp_all
 have ndi:(a::fp').Nodup:=by rw[<- hfp];exact S.nd i
 have sub:∀b∈fp',b∈fp i:=λb hb=>by simp_all
 have na:∀b∈f',b≠a:=(by grind)
 have hil:i<env.length:=(List.getElem?_eq_some_iff.mp eo).1;have nea:∀b u,H b=some u->(F b\/Z.B b\/NoL b\/iB u)->b≠a:=λb u e h z=>by
  subst z;rcases h with h|h|h|h
  .exact(S.dis i _ ha).1 h
  .exact S.bow _ h ⟨i,ha⟩
  .exact h
  .rw[hl]at e;cases e;exact h
 refine S.mut hil hv ha ?_ (nodup_cons.mpr ⟨λz=>na a z rfl,nd⟩) (λb hb=>?_) (λb hb=>?_) (λb hb j hj=>?_) λh0 h1=>?_
 .unfold Rel;exact⟨a,us,f',rfl,bK,RelL.tr (λ_ h=>h) (λ_ h=>h) (λ_ h=>h) (λb u e h=>by rw[aT (nea b u e h)];exact e) (λb hb u e=>by rw[aT (na b hb)];exact e) r,rfl⟩
 .rcases mem_cons.mp hb with rfl|hb
  .exact(S.dis i _ ha).1
  .rcases hf b hb with h|h
   .exact(S.dis i b (sub b h)).1
   .exact h.1
 .grind[cv,ax,b9,Gr]
 .grind[cv,ax,b9,Gr]
 .subst h0;unfold d5 at h1;rw[eo]at h1;cases h1
def ax.lst{i:Nat}{xs:ML}(S:ax T Z F H Y env fp)(eo:env[i]?=some (some (.lst .own xs))):∃a ws fp',Y[i]?=some (some (.ref a))/\H a=some (.lst ws)/\RelL T F Z.B NoL H xs ws fp'/\fp i=a::fp':=by obtain⟨v,h1,h2⟩:=S.rel i _ eo;obtain⟨a,ws,fp',rfl,hl,hr,hf⟩:=h2;exact⟨a,ws,fp',h1,hl,hr,hf⟩
def ax.beside{f1:MD}(S:ax T Z F H Y env fp)(g:Gr F H F1 H1)(h1:∀ a ∈ f1,¬ F1 a)(h3:∀ a ∈ f1,H a=none):∀ b ∈ f1,¬ F1 b/\(Z.H0 b=none \/ Z.fp0 b)/\∀ j,b ∉ fp j:=λb hb=>⟨h1 b hb,S.hp.newE h3 b hb,λj hj=>by
 obtain⟨_,o,e⟩:=S.dis j b hj;rw[h3 b hb]at e;cases e⟩
def bu(i:Nat)(e:ME):MS:=λenv=>match e env with
 | .ok v=>(match env[i]? with
  |some (some (.lst .own xs))=>if v.MX&&decide (xs.length<10000000)then .next (env.set i (some (.lst .own (xs++[v]))))else .stuck
  |_=>.stuck)
 | .exc c=>(match env[i]? with
  |some (some (.lst .own _))=>.exc c env
  |_=>.stuck)
 |.stuck=>.stuck
theorem vN{i:Nat}{x:Str}{e:Expr}{m:ME}{pos px apos cpos:Pos}(hK:X.K=T.K)(hN:X.N[i]?=some x)(hv:Vis X.env.scope x)(he:SE X T W e m)
  (hs:swapsWith (.Call (.Attribute (.Name x px) "append" apos) [e] [] cpos) none pos.line X.env=pure false:=by rfl) (hst:starEach [e] X.env=[(false,eval e X.env)]:=by rfl)
  (hfew:Fwe X.env cpos [e]:=by rfl)
  (hline:(apos.endLine==cpos.line)=true:=by rfl) (hd:Nd x:=by decide) (hcd:Nc x:=by decide) :
  SS X T W (.Expr (.Call (.Attribute (.Name x px) "append" apos) [e] [] cpos) pos) (bu i m):=
 PS.wk (oJ (uv PySem.F.plainAttrs_list PySem.F.slot_list_append PySem.F.type_list_append nq (gx hN hv hd hcd) (bU he cN hst) rfl hfew hline hst) hs) λD Y H hz1=>by
  walk_at "b";unfold bu at q;cases em:m env with
  |stuck=>rw[em]at q;exact q.elim
  |exc c=>
   rw[em]at q;dsimp only at q;split at q
   .rename_i xs eo
    obtain⟨a,ws,fp',h1,hl,hr,hf⟩:=S.lst eo;refine⟨_,h1,.inl ⟨rfl,ws,by exact SqL.of hl⟩,Z,F,env,fp,S,?_⟩;unfold ab;rw[em];exact λH' x=>q F H' Y fp (S.grow (Gr.same S.hp.ft x))
   .exact q.elim
  |ok v=>
   rw[em]at q;dsimp only at q;split at q
   .rename_i xs eo
    split at q
    .rename_i hc
     simp at hc;obtain⟨a,ws,fp',h1,hl,hr,hf⟩:=S.lst eo;refine⟨_,h1,.inl ⟨rfl,ws,by exact SqL.of hl⟩,Z,F,env,fp,S,?_⟩;unfold ab ae;rw[em];intro vs H1 F1 f1 g r n1 d1 w1;obtain⟨u,rfl,ru⟩:=r.one;have S1:=S.grow g;have hl1:=g.ext a _ hl;refine⟨a,ws,u,rfl,rfl,hl1,?_,?_⟩
     .rw[<- hr.length,sizeLine_eq];lia
     .have rone:RelL T F1 Z.B NoL H1 [v] [u] f1:=by unfold RelL;exact⟨u,[],f1,[],rfl,Rel.noL (by simpa[PV.MX]using hc.1) ru,by exact⟨rfl,rfl⟩,by simp⟩
      refine q F1 _ Y _ (S1.mutL (v:=u) eo h1 hf (RelL.append (hr.ext g.ext g.mono) rone) ?_ (λb hb=>?_) hl1)
      .have ndi:(a::fp').Nodup:=by rw[<- hf];exact S.nd i
       refine nodup_append.mpr ⟨(nodup_cons.mp ndi).2,d1,λb hb b' hb' z=>?_⟩;subst z;exact(S.beside g n1 w1 b hb').2.2 i (by simp_all)
      .rcases mem_append.mp hb with hb|hb
       .exact .inl hb
       .exact .inr (S.beside g n1 w1 b hb)
    .exact q.elim
   .exact q.elim
def fR(i:Nat)(k e:ME):MS:=λenv=>match e env with
 | .ok v=>(match env[i]? with
  | some (some (.lst .own xs))=>(match k env with
   | .ok (.int j)=>(match ixN xs.length j with
    |some n=>if v.MX then .next (env.set i (some (.lst .own (xs.set n v))))else .stuck
    |none=>.stuck)
   |_=>.stuck)
  |_=>.stuck)
 |.exc c=>.exc c env
 |.stuck=>.stuck
theorem RelL.set{y:PV}{w:V}{g:MD}(ry:Rel T F B L H y w g):∀{xs:ML}{vs:MJ}{f:MD} (n:Nat),RelL T F B L H xs vs f->(f++g).Nodup->∃f',RelL T F B L H (xs.set n y) (vs.set n w) f'/\f'.Nodup/\∀b∈f',b∈f\/b∈g
 | [],vs,f,n,h,nd=>by obtain⟨rfl,rfl⟩:=h;exact⟨[],by simp[RelL],nodup_nil,λ_ z=>(nomatch z)⟩
 |x::xs,_,_,0,h,nd=>by
  obtain⟨v,ws,f1,f2,rfl,h1,h2,rfl⟩:=h;obtain⟨n1,n2,n3⟩:=nodup_append.mp nd;obtain⟨m1,m2,m3⟩:=nodup_append.mp n1;refine⟨g++f2,?_,(by grind),λb hb=>?_⟩
  .rw[List.set_cons_zero,List.set_cons_zero];exact⟨w,ws,g,f2,rfl,ry,h2,rfl⟩
  grind
 |x::xs,_,_,n+1,h,nd=>by
  obtain⟨v,ws,f1,f2,rfl,h1,h2,rfl⟩:=h;obtain⟨n1,n2,n3⟩:=nodup_append.mp nd;obtain⟨m1,m2,m3⟩:=nodup_append.mp n1;obtain⟨f',r,d,s⟩:=RelL.set ry n h2 (nodup_append.mpr ⟨m2,n2,λa ha b hb=>n3 a (mem_append_right _ ha) b hb⟩);refine⟨f1++f',?_,nodup_append.mpr ⟨m1,d,λa ha b hb z=>?_⟩,λb hb=>?_⟩
  .rw[List.set_cons_succ,List.set_cons_succ];exact⟨v,_,f1,f',rfl,h1,r,rfl⟩
  .grind
  grind
def xO{i:Nat}{x:Str}{k e:Expr}{mk me:ME}{pos px tpos:Pos}(hN:X.N[i]?=some x)(hv:Vis X.env.scope x)(hk:SE X T W k mk)(he:SE X T W e me)
  (ha:∀ v,assign (.Subscript (.Name x px) k tpos) X.env v=(do
   let ov <- holding [v] (eval (.Name x px) X.env)
   let iv <- holding [v,ov] (eval k X.env)
   standAt tpos
   holding [v,ov,iv] (setItem ov iv v)
   release [v,ov,iv] []):=by intro _;rfl)
  (hs:swapsWithSole [.Subscript (.Name x px) k tpos] e pos.line X.env=pure false:=by rfl) (hw:swappedStores [.Subscript (.Name x px) k tpos] e X.env=pure none:=by rfl)
  (h1:(assignEach [.Subscript (.Name x px) k tpos] X.env).map (·.2)=[assign (.Subscript (.Name x px) k tpos) X.env]:=by rfl) (hd:Nd x:=by decide) (hcd:Nc x:=by decide) :
  SS X T W (.Assign [.Subscript (.Name x px) k tpos] e pos) (fR i mk me):=
 PS.wk (Ge he (Gj (gx hN hv hd hcd) hk yd ha) hs hw h1) λD Y H hz1=>by
  walk_at "b";unfold fR at q;refine tE.bind S (λc e H' x=>?_) (λe=>by rw[e]at q;exact q) λpv v H1 F1 f1 e g r n1 d1 w1=>?_
  .rw[e]at q;exact q F H' Y fp (S.grow (Gr.same S.hp.ft x))
  .rw[e]at q;dsimp only at q;split at q
   .rename_i xs eo
    have S1:=S.grow g;obtain⟨a,ws,fp',h1,hl,hr,hf⟩:=S1.lst eo;cases ek:mk env with
    |stuck|exc c=>rw[ek]at q;exact q.elim
    |ok kv=>
     rw[ek]at q;refine⟨_,h1,Z,F1,env,fp,S1,?_⟩;rw[ek];intro u H2 F2 f2 g2 r2 _ _ _;cases kv with
     |int j=>
      dsimp only at q;obtain⟨rfl,_⟩:=r2;cases en:ixN xs.length j with
      |none=>rw[en]at q;exact q.elim
      |some n=>
       rw[en]at q;dsimp only at q;split at q
       .rename_i hln
        have S2:=S1.grow g2;have hr2:=hr.ext g2.ext g2.mono;have ndi:(a::fp').Nodup:=by rw[<- hf];exact S.nd i
        have g12:=g.trans g2;have nn:∀b∈f1,¬F2 b:=λb hb z=>by
         rcases g2.only b z with z|z
         .exact n1 b hb z
         .obtain⟨o,ho⟩:=r.there b hb;rw[ho]at z;cases z
        obtain ⟨f',r',nd',sub'⟩:=RelL.set (Rel.noL (L':=NoL) (by simpa [PV.MX] using hln) (r.ext g2.ext g2.mono)) n hr2 (nodup_append.mpr ⟨(nodup_cons.mp ndi).2,d1,λb hb b' hb' z=>by
         subst z;exact(S.beside g12 nn w1 b hb').2.2 i (by simp_all)⟩)
        refine⟨a,ws,j,n,rfl,rfl,g2.ext a _ hl,by rw[<- hr.length];exact en,?_⟩;refine q F2 _ Y _ (S2.mutL (v:=v) eo h1 hf r' nd' (λb hb=>?_) (g2.ext a _ hl));rcases sub' b hb with h|h
        .exact .inl h
        .exact .inr (S.beside g12 nn w1 b h)
       .exact q.elim
     |_=>exact q.elim
   .exact q.elim
end
noncomputable def Cs(i:Nat):Str:=⟨#[1114112+i]⟩
def jA(l:MF)(i:Nat):Str:=match l[i]? with
 |some x=>x
 |none=>Cs i
noncomputable def jN(x:Str):Bool:=x.cps.all λc=>decide (c<1114112)
def fP(i:Nat):jN (Cs i)=false:=by simp[jN,Cs]
def xk(nd:l.Nodup)(h:l.all jN=true)(i j:Nat)(e:jA l i=jA l j):i=j:=by
 have pl:∀(i:Nat) x,l[i]?=some x->jN x=true:=λi x hx=>all_eq_true.mp h x (List.mem_of_getElem? hx);unfold jA at e;cases ei:l[i]? with
 |some x=>
  cases ej:l[j]? with
  |some y=>rw[ei,ej]at e;subst e;obtain⟨h1,e1⟩:=List.getElem?_eq_some_iff.mp ei;obtain⟨h2,e2⟩:=List.getElem?_eq_some_iff.mp ej;exact(getElem_inj nd).mp (e1.trans e2.symm)
  |none=>rw[ei,ej]at e;dsimp only at e;have:=pl i x ei;rw[e,fP]at this;cases this
 |none=>
  cases ej:l[j]? with
  |some y=>rw[ei,ej]at e;dsimp only at e;have:=pl j y ej;rw[<- e,fP]at this;cases this
  |none=>rw[ei,ej]at e;simpa[Cs]using e
def AQ(hp:jN m=true)(hm:m∉l)(k:Nat):jA l k≠m:=by
 unfold jA;cases e:l[k]? with
 |some x=>exact λz=>hm (z▸List.mem_of_getElem? e)
 |none=>intro z;rw[<- z,fP]at hp;cases hp
structure Ctx(X:Cx)(T:Tb)(W:Nat->St->MK)(k:Nat):Prop where
 hK:X.K=T.K
 calm:X.calm=true
 room:dQ k X.A
 xf:XF X T W
 po:PassesOwn (model X.prog X.w) X.A X.env X.xe
def Ctx.hu(c:Ctx X T W k):X.A.units+64<cLine:=c.room.units
theorem Ctx.hu2(c:Ctx X T W k):X.A.units+66<cLine:=by
 have:=c.room.un
 lia
def pb
  (hr:dQ k (A.deeper (PyProof.Rows.envOfC qual scope s.heap.objs.size f cd))):Ctx (fE (CXP P w) P w T.K mg base N qual scope f cd A outer s H E) T (WD T E) k:=⟨rfl,rfl,hr,EO,PassesOwn.leaving⟩
def Ctx.comp(c:Ctx X T W k):Ctx (cxC X scope C N s H ex) T WF k:=⟨c.hK,c.calm,c.room,λ_ _ _ _ _ _ _ _ _ _ h=>h.elim,PassesOwn.never⟩
noncomputable def lU(scD scope:Scope)(NX:MF)(caps:List Nat)(N tn:MF):Bool:=
 decide (scope.kind=.function)&&scope.names.all (λy=>decide (y.2=.cell->scope.names.lookup y.1=some .cell))&&scope.names.all (λy=>decide (y.2=.local->scope.names.lookup y.1=some .local)) &&
 scope.names.all (λy=>decide (y.2=.free->scD.names.lookup y.1=some .cell\/scD.names.lookup y.1=some .free))&&decide (N=caps.map (λi=>NX.getD i "")++ tn)&&caps.all (λi=>decide (i<NX.length)) &&
 caps.all (λi=>match NX[i]? with|some x=>decide ((x,NameKind.free)∈ scope.names/\scope.names.lookup x=some .free)|none=>false)&&decide N.Nodup
def DI(h:lU scD scope NX caps N tn=true)(hs:X.env.scope=scD)(hN:X.N=NX):d6 X scope caps N tn:=by simp only[lU,and_eq_true,decide_eq_true_eq,all_eq_true]at h;obtain⟨⟨⟨⟨⟨⟨⟨h1,h2⟩,h3⟩,h4⟩,h5⟩,h6⟩,h7⟩,h9⟩:=h;subst hs hN;refine⟨h1,h2,h3,h4,h5,h6,λi hi x hx=>?_,h9⟩;have:=h7 i hi;rw[hx]at this;simpa using this
section
variable{X:Cx}{T:Tb}{W:Nat->St->MK}
def sv(i:Nat)(hN:X.N[i]?=some x:=by rfl)(hv:Vis X.env.scope x:=by first|exact Or.inl rfl|exact Or.inr (Or.inl rfl)|exact Or.inr (Or.inr rfl))(hd:Nd x:=by decide)
  (hcd:Nc x:=by decide):SE X T W (.Name x pos) (aa i):=Fj hN hv hd hcd
noncomputable def tyP:PV->String
 |.non=>"NoneType"
 |.bl _=>"bool"
 |.int _=>"int"
 |.str _=>"str"
 |.lst _ _=>"list"
 |.tup _=>"tuple"
 |_=>""
noncomputable def mw(t c:String):Bool:=t==c ||(t=="bool"&&c=="int")
def oN(c:String):PV->MM:=λx=>if tyP x="" then .stuck else .ok (.bl (mw (tyP x) c))
def vJ(m:ME)(c:String):ME:=λenv=>(m env).bind (oN c)
def HK(K:PySem.W.Frag)(c:String):Prop:=∀t∈["NoneType","bool","int","str","list","tuple"],kitOne K (.type t) (.type c)=some (mw t c)
def C4(hK:X.K=T.K)(hc:HK T.K c)(I:L2.Inv X js Y H s)(r:Rel T F B L H x v f)(ru:bA v u)(hx:tyP x≠"")
  (h:∀tk,Q (.bool (mw (tyP x) c)) {s with toks:=tk}):wpAny (model X.prog X.w) A (call (.builtin "isinstance") [u,.type c]) Q E s:=by
 have kin:T.K.In s.heap:=by rw[<- hK];exact I.kIn
 cases x with
 |non=>unfold Rel at r;obtain⟨rfl,_⟩:=r;cases ru;exact kia_one kitx_none kin True.intro (hc _ ()) (λz=>nomatch z) h
 |bl b=>unfold Rel at r;obtain⟨rfl,_⟩:=r;cases ru;exact kia_one kitx_bool kin True.intro (hc _ ()) (λz=>nomatch z) h
 |int i=>unfold Rel at r;obtain⟨rfl,_⟩:=r;obtain⟨t,rfl⟩:=ru;exact kia_one kitx_int kin True.intro (hc _ ()) (λz=>nomatch z) h
 |str i=>unfold Rel at r;obtain⟨rfl,_⟩:=r;obtain⟨t,rfl⟩:=ru;exact kia_one kitx_str kin True.intro (hc _ ()) (λz=>nomatch z) h
 |lst f xs=>obtain⟨a,vs,fp',rfl,hl,hr,_⟩:=r;cases ru;obtain⟨its,_,⟨o,n,ho,hcl,_,_⟩,_⟩:=I.list (by rw[hK];exact hl.sq);exact kia_one kitx_list kin ⟨_,ho,hcl⟩ (hc _ ()) (λz=>nomatch z) h
 |tup xs=>obtain⟨a,vs,rfl,hl,hr⟩:=r;cases ru;obtain⟨its,_,⟨o,ho,hcl,_⟩,_⟩:=I.tuple (by rw[hK];exact hl);exact kia_one PySem.W.kitx_tuple kin ⟨_,ho,hcl⟩ (hc _ ()) (λz=>nomatch z) h
 |obj f c ks xs|exc c|box k xs=>exact absurd rfl hx
theorem FE(hK:X.K=T.K)(hc:HK T.K c)(hg:Gl X "isinstance")(hm:X.mg "isinstance"=none)(hb:bootBuiltins "isinstance"=some (.builtin "isinstance"))(hgc:Gl X cn)(hmc:X.mg cn=none)(hvc:bootBuiltins cn=some (.type c))(he:SE X T W e m)
  (hcn:cn≠"__name__":=by decide) (hcd:Nd cn:=by decide) (hst:starEach [e,.Name cn pc] X.env=[(false,eval e X.env),(false,eval (.Name cn pc) X.env)]:=by rfl)
  (hst2:starEach [.Name cn pc] X.env=[(false,eval (.Name cn pc) X.env)]:=by rfl):SE X T W (.Call (.Name "isinstance" p) [e,.Name cn pc] [] pos) (vJ m c):=by
 have ht:PE X (.Name cn pc) (tC (.ty c)):=Ch hgc hmc hvc rfl hcn hcd;have hcall:dr X (.builtin "isinstance") (λvs H Q=>∃v x F B L f,vs=[v,.ty c]/\Rel T F B L H x v f/\tyP x≠"" /\ Q (.bl (mw (tyP x) c)) H):=by
  intro js s Y H vs us Q I rv h;obtain⟨v,x,F,B,L,f,rfl,r,hx,q⟩:=h;cases rv with
  |cons r1 r2=>
   cases r2 with
   |cons r3 r4=>cases r4;cases r3;exact C4 hK hc I r r1 hx λtk=>⟨.bl _,H,I.tok tk,rfl,q⟩
 have hargs:PA X [e,.Name cn pc] (mR (tE T W m) (mR (tC (.ty c)) Ba)):=cy he (cy ht e_ hst2) ();refine PE.wk (jb hcall hg hm hb hargs (he:=by lia)) λY H Q hz1=>?_;walk_at "b";unfold vJ at q;walk_at "a";simp only[Res.M0,oN]at q;by_cases hx:tyP x=""
 .rw[if_pos hx]at q;exact q.elim
 .rw[if_neg hx]at q;exact⟨v,x,F1,Z.B,Own fp,f1,rfl,r1,hx,q.scal g1 fT⟩
end
def yo(hg:Gl X x)(hm:X.mg x=some (.int i t))(hd:Nd x:=by decide):SE X T W (.Name x pos) (mC (.int i)):=
 iG (v:=.int i) (gy hg hm ⟨t,rfl⟩ hd) λ_ _ _ _=>dP
end
section
def i8(F B L:Mz)(H:Hp):RelL T F B L H [] [] []:=by exact⟨rfl,rfl⟩
def bB(disp:Nat->Option (ML->MM))(o:ME)(ms:MA):ME:=λenv=>(o env).bind λov=>match ov with
 |.obj _ c _ _=>match disp c with
  |some m=>(ms env).bind λxs=>aq m (ov::xs)
  |none=>.stuck
 |_=>.stuck
def CP(disp:Nat->Option (ML->MM))(o:ME)(ms:MA):uC disp [] o ms=bB disp o ms:=by
 funext env;unfold uC bB;congr 1;funext ov;cases ov with
 |obj f c ks vs=>simp<;>rfl
 |_=>rfl
def eA(c:Nat)(m:ML->MM)(ms:MA):ME:=af (λxs=>aq m (.obj .own c [] []::xs)) ms
section
variable{X:Cx}{T:Tb}{W:Nat->St->MK}
def p3
  (G:cF X.prog X.w X.K X.mg X.base (CXP X.prog X.w) k f fd ps (spM T ps.length m)) (cx:Ctx X T W kk) (hk:k<=kk) (hg:Gl X x) (hm:X.mg x=some (.ref f)) (hkp:PySem.W.keepIn X.K (.ref f)=true) (hb:eK X.K fd ps [])
  (hn:hV ms n) (hps:n=ps.length) (ha:SA X T W (e::es) ms)
  (hdb:Nd x:=by decide) (he:starEach (e::es) X.env=(false,eval e X.env)::starEach es X.env:=by rfl) (hpl:(backTo pos (starEach es X.env)).any (·.1)=false:=by rfl) :
  SE X T W (.Call (.Name x p) (e::es) [] pos) (af (aq m) ms):=by
 have h:=BU (p:=p) G (cx.room.mono hk) hg hm hkp hb .nil i8 cx.xf (λenv xs q=>by rw[hn env xs q];exact hps) ha hdb he hpl;simpa using h
def Fy
  (cx:Ctx X T W kk) (hc:∀c<T.nc,Cls T.K (T.cls c)) (hm:∀k,T.att k≠mn) (D:fC X T k mn ps [] disp) (hk:k<=kk)
  (hn:hV ms n) (hps:n+1=ps.length) (ho:SE X T W o mo) (ha:SA X T W (e::es) ms)
  (hst:starEach (e::es) X.env=(false,eval e X.env)::starEach es X.env:=by rfl) (hpl:(backTo pos (starEach es X.env)).any (·.1)=false:=by rfl)
  (ht:eval (.Call (.Attribute o mn apos) (e::es) [] pos) X.env=(do
   let ov <- eval o X.env
   standAt apos.atName
   let(f,first) <- holding [ov] (getMethod ov mn pl)
   callWith pos f first (backTo pos (starEach (e::es) X.env)) (backToKw pos (keywordEach [] X.env))):=by rfl) :
  SE X T W (.Call (.Attribute o mn apos) (e::es) [] pos) (bB disp mo ms):=by
 rw[<- CP];exact BL cx.hK hc hm D (cx.room.mono hk) .nil i8 cx.xf (λenv xs q=>by rw[hn env xs q];exact hps) ho ha hst hpl ht
def Ft
  (M:Mk X.K (T.cls c) f) (hcn:c<T.nc) (G:cF X.prog X.w X.K X.mg X.base (CXP X.prog X.w) k f fd ps (spI T ps.length m)) (cx:Ctx X T W kk) (hk:k+1<=kk) (hg:Gl X x) (hm:X.mg x=some (.ref (T.cls c))) (hb:eK X.K fd ps [])
  (hn:hV ms n) (hps:n+1=ps.length) (ha:SA X T W (e::es) ms)
  (hdb:Nd x:=by decide) (he:starEach (e::es) X.env=(false,eval e X.env)::starEach es X.env:=by rfl) (hpl:(backTo pos (starEach es X.env)).any (·.1)=false:=by rfl) :
  SE X T W (.Call (.Name x p) (e::es) [] pos) (eA c m ms):=by
 have h:=BN (p:=p) M hcn G (cx.room.mono hk) hg hm hb .nil i8 cx.xf hn hps ha hdb he hpl;unfold eA;simpa using h
end
structure Scr(fl:Fl):Prop where
 is:fl=.frz\/fl=.mod
def Scr.MN(h:Scr fl):fl.MN=fl:=by rcases h.is with rfl|rfl<;>rfl
def Scr.MP(h:Scr fl):fl.MP=fl:=by rcases h.is with rfl|rfl<;>rfl
def Scr.MR(h:Scr fl):fl.MR=fl:=by rcases h.is with rfl|rfl<;>rfl
theorem jJ:∀ns:MB,RelL T F B L H (ns.map PV.int) (ns.map V.int) []
 | []=>i8 _ _ _ _
 |n::ns=>by exact⟨_,_,[],[],rfl,dP,jJ ns,rfl⟩
def xV(K:PySem.W.Frag)(tb:Addr->Option (MH):=λ_=>none):Sp:=λvs H Q _=>(∀b ps,tb b=some ps->H b=some (.tbl ps))/\∃(a:Addr) (ns:MB),vs=[.ref a]/\SqL K H a (ns.map V.int)/\ns.length<=63/\∀v H',v=.bl true->Q v H'
def GW(G:cF P w T.K mg base (CXP P w) k f fd [x] (spM T 1 m))
  (h:∀(fl:Fl) (ns:MB),Scr fl->ns.length<=63->m [.lst fl (ns.map .int)]=.ok (.bl true)):cF P w T.K mg base (CXP P w) k f fd [x] (xV T.K T.tb):=by
 refine G.imp λvs H Q E q=>?_;obtain⟨hT,a,ns,rfl,hS,hl,hQ⟩:=q;have hTb:DS T H (· ∈([]:MD)):=λb ps h=>⟨hT b ps h,λz=>nomatch z⟩
 have fin:∀fl,Scr fl->∀Z:Zn,GF T Z Q E (m [.lst fl (ns.map .int)]):=λfl hf Z=>by rw[h fl ns hf hl];intro F H' v f' _ r _ _ _;exact hQ v H' r.1
 refine⟨rfl,?_⟩;rcases hS with hS|hS
 .refine⟨[.lst .frz (ns.map .int)],(·=a),λ_=>False,[],⟨?_,nodup_nil,λ_ z=>(nomatch z),⟨λ_ z=>False.elim z,hTb⟩,λb hb=>?_⟩,fin _ ⟨.inl rfl⟩ _⟩
  .unfold RelL;refine⟨_,_,[],[],rfl,?_,i8 _ _ _ _,rfl⟩;exact⟨a,_,[],rfl,⟨rfl,hS⟩,jJ ns,rfl,rfl⟩
  .subst hb;rcases hS with e |⟨o,e⟩
   .exact⟨_,e⟩
   .exact⟨_,e⟩
 .refine⟨[.lst .mod (ns.map .int)],λ_=>False,λ_=>False,[],⟨?_,nodup_nil,λ_ z=>(nomatch z),⟨λ_ z=>False.elim z,hTb⟩,λ_ z=>z.elim⟩,fin _ ⟨.inr rfl⟩ _⟩;refine⟨_,_,[],[],rfl,?_,i8 _ _ _ _,rfl⟩;exact⟨a,_,[],rfl,hS,jJ ns,rfl,rfl⟩
def zP{l:PySem.W.OpenLaw}{k:Nat}{x:Str}{q:Program}{loose:MF}{XP:(Mw)->Heap->Prop}{YP:World->Heap->Prop}{d:DefRec}{K:Params->PySem.W.Frag}(hn:l.most=some 63)(hdf:d.params.defaults=[])(hr:dQ k callerA)
  (hY:∀(w:World) (h:Heap),YP w h->(K w.params).In h)
  (F:∀ (w:World) (mg:Mw) (fa:Addr) (h:Heap),(K w.params).In h->h.Ns mainGlobals mg->mg d.name=some (.ref fa) ->
   ∃fd:FuncData,(∀(s:Shared) (u:Value),BindsTo s fd ⟨[u],[]⟩ [(x,u)])/\∀base:Heap,(K w.params).In base->base.Ns mainGlobals mg->cF l.prog w (K w.params) mg base (CXP l.prog w) k fa fd [x] (xV (K w.params))) :
  PySem.W.WalkO q loose XP YP l.row.toRowW d [] (λf vs=>PySem.call f vs):=
 L2.A7 hn () hdf hr hY F (λ_ _ a ns hl _ hS=>⟨λ_ _ z=>(nomatch z),a,ns,rfl,hS,hl,λ_ _ z=>z⟩) λ_ _ _ _ _ ⟨_,_,_,z⟩=>z
def zR:HK K "list":=by intro t ht;simp at ht;rcases ht with rfl|rfl|rfl|rfl|rfl|rfl<;>kernel_rfl
theorem iD:bootBuiltins "isinstance"=some (.builtin "isinstance"):=by decide +kernel
def HC:bootBuiltins "int"=some (.type "int"):=by decide +kernel
theorem pH:bootBuiltins "list"=some (.type "list"):=by decide +kernel
theorem AD:bootBuiltins "tuple"=some (.type "tuple"):=by decide +kernel
noncomputable def Hi(K:PySem.W.Frag)(C:Addr):Bool:=
 decide (PySem.W.findIn K (.ref C) "__getattribute__"=some (some (.builtin "BaseException.__getattribute__")))&&decide (PySem.W.findIn K (.ref C) "__getattr__"=some none) &&
 decide (PySem.W.findIn K (.ref C) "__class__"=some (some (.builtin "object.__class__")))&&decide (mroIn K C (.type "BaseException")=some true)&&decide (mroIn K C (.type "object")=some true)&&(PySem.W.clsIn K C).isSome &&
 PySem.W.excIn K C [.type "ValueError",.type "Exception",.type "BaseException",.type "object"] "ValueError.__new__"
def Cc(l:MD)(i:Nat):Addr:=l.getD i (l.headD 0)
noncomputable def la(l:List Bool)(i:Nat):Bool:=l.getD i (l.headD false)
theorem yO{α:Type}{f:Addr->Option α}{g:α->Bool}{l:MD}{bs:List Bool}{r:Bool->Option α}(hl:l≠[])(h:l.map f=bs.map r)(i:Nat):f (Cc l i)=r (la bs i):=by
 have hlen:l.length=bs.length:=by simpa using congrArg List.length h
 unfold Cc la;rw[getD_eq_getElem?_getD,getD_eq_getElem?_getD];have key:∀j,(l[j]?).map f=(bs[j]?).map r:=λj=>by rw[<- getElem?_map,<- getElem?_map,h]
 cases e:l[i]? with
 |some C=>
  have:=key i;rw[e]at this;cases e2:bs[i]? with
  |some b=>rw[e2]at this;simpa using this
  |none=>rw[e2]at this;simp at this
 |none=>
  have hb:bs[i]?=none:=by
   rw[List.getElem?_eq_none_iff]at e ⊢
   lia
  rw[hb];cases l with
  |nil=>exact absurd rfl hl
  |cons a l=>
   cases bs with
   |nil=>simp at hlen
   |cons b bs=>simpa using key 0
theorem t7:∀(xs:MJ) (ys:MC),xs.length=ys.length->(∀(i:Nat) x y,xs[i]?=some x->ys[i]?=some y->bA x y)->aS xs ys
 | [],[],_,_=>.nil
 |x::xs,y::ys,hl,h=>.cons (h 0 x y rfl rfl) (t7 xs ys (by simp_all) λi a b e1 e2=>h (i+1) a b (by simpa using e1) (by simpa using e2))
 | [],_::_,hl,_|_::_,[],hl,_=>by simp at hl
noncomputable def a9:ML->Option (MB)
 | []=>some []
 |.int i::xs=>(a9 xs).map (i::·)
 |_::_=>none
noncomputable def nZ(ns:MB):Nat:=(firstMet (λi=>ns.getD i 0) ns.length).length
def gz:PV->MM
 |.lst _ xs=>match a9 xs with
  |some ns=>if decide (ns.length<=1000)then .ok (.int (nZ ns))else .stuck
  |none=>.stuck
 |_=>.stuck
section
variable{X:Cx}{T:Tb}{W:Nat->St->MK}{Z:Zn}{F F1 B L:Mz}{H H1:Hp}{Y:St}{env:En}{fp:Nat->MD}
theorem bT:∀{xs:ML}{vs:MJ}{f:MD}{ns:MB},a9 xs=some ns->RelL T F B L H xs vs f->vs=ns.map V.int
 | [],_,_,_,e,r=>by cases e;exact r.1
 |.int i::xs,_,_,ns,e,r=>by
  obtain⟨v,ws,f1,f2,rfl,h1,h2,rfl⟩:=r;simp only[a9]at e;cases e2:a9 xs with
  |none=>rw[e2]at e;cases e
  |some ms=>rw[e2]at e;cases e;rw[h1.1,bT e2 h2];rfl
 |.non::_,_,_,_,e,_|.bl _::_,_,_,_,e,_|.str _::_,_,_,_,e,_|.lst _ _::_,_,_,_,e,_|.tup _::_,_,_,_,e,_|.obj _ _ _ _::_,_,_,_,e,_|.exc _::_,_,_,_,e,_|.box _ _::_,_,_,_,e,_=>by simp[a9]at e
theorem gj:∀{ns:MB}{its:MC},aS (ns.map V.int) its->PyProof.Rows.IntsAre its ns
 | [],_,r=>by cases r;exact .nil
 |n::ns,_,r=>by
  cases r with
  |cons h t=>obtain⟨tk,rfl⟩:=h;exact .cons _ _ (gj t)
theorem mF(hc:X.calm=true):dr X (.type "set") (λxs H Q=>∃p ns,xs=[.ref p]/\SqL X.K H p (ns.map V.int)/\ns.length<=1000/\∀r S,H r=none->Q (.ref r) (upd H r (.set S (nZ ns)))):=by
 intro js s Y H xs us Q I rv h;obtain⟨p,ns,rfl,hS,hl,q⟩:=h;obtain⟨u,rfl,rx⟩:=dw rv;cases rx;obtain⟨its,r',pl,hz⟩:=I.list hS;have hlen:=r'.length;rw[length_map]at hlen;refine call_set_list (I.ok.hd hc) pl.isList (by simpa using gj r') (by simp;unfold scanBound;lia) λh' tk hs kp=>?_;have e:its.toArray.size=ns.length:=by simp[hlen]
 rw[e]at hs;exact⟨.ref s.heap.objs.size,_,I.laid (t':=tk) (o:=.set (λk'=>(firstMet (λi=>ns.getD i 0) ns.length).any (·==k')) (nZ ns)) (λb o e=>kp b o (lt_size e) e) (Nat.le_refl _) hs,rfl,q _ _ (I.hok.fresh (Nat.le_refl _))⟩
theorem mG:dr X (.builtin "len") (λxs H Q=>∃r S n,xs=[.ref r]/\H r=some (.set S n)/\Q (.int n) H):=by intro js s Y H xs us Q I rv h;obtain⟨r,S,n,rfl,hr,q⟩:=h;obtain⟨u,rfl,rx⟩:=dw rv;cases rx;obtain⟨o,es,ep,t,ho,hex,hd,_,_,hb,hf,hn⟩:=I.hok r _ hr;have hb':es.size<4096:=hb;exact call_len_set ho hex hd hf () ⟨.int n,H,I.tok _,⟨s.toks+1,by rw[hn]⟩,q⟩
theorem HA:bootBuiltins "set"=some (.type "set"):=by decide +kernel
def vX(hK:X.K=T.K)(hc:X.calm=true)(hg:Gl X "len")(hm:X.mg "len"=none)(hg2:Gl X "set")(hm2:X.mg "set"=none)(he:SE X T W e m)
  (hs:starEach [e] X.env=[(false,eval e X.env)]:=by rfl)
  (hs2:starEach [.Call (.Name "set" p2) [e] [] pos2] X.env=[(false,eval (.Call (.Name "set" p2) [e] [] pos2) X.env)]:=by rfl) :
  SE X T W (.Call (.Name "len" p) [.Call (.Name "set" p2) [e] [] pos2] [] pos) (mUn gz m):=by
 refine PE.wk (jb mG hg hm boot_len (cy (m8 (mF hc) hg2 hm2 HA (cy he e_ (by rw[hs];rfl)) (he:=by rw[hs];rfl)) e_ (by rfl))) λY H Q hz1=>?_;walk_at "b";unfold mUn at q;walk_at "a";cases x with
 |lst fl xs=>
  simp only[Res.M0,gz]at q;cases en:a9 xs with
  |none=>rw[en]at q;exact q.elim
  |some ns=>
   rw[en]at q;dsimp only at q;obtain⟨a,vs,fp',rfl,hl,hr,_⟩:=r1;by_cases hn:decide (ns.length<=1000)=true
   .rw[if_pos hn]at q;have hv:=bT en hr;subst hv;exact⟨a,ns,rfl,by rw[hK];exact hl.sq,of_decide_eq_true hn,λr S hr=>⟨r,S,_,rfl,bK,q.scal (g1.trans (Gr.same g1.dom (Ext.upd hr))) dP⟩⟩
   .rw[if_neg hn]at q;exact q.elim
 |_=>exact q.elim
end
noncomputable def fQ:MB->Int
 | []=>0
 | [a]=>a
 |a::b::l=>min a (fQ (b::l))
noncomputable def cr:MB->Int
 | []=>0
 | [a]=>a
 |a::b::l=>max a (cr (b::l))
theorem ly:∀{l:MB},l≠[]->fQ l∈l/\∀x∈l,fQ l<=x
 | [],h=>absurd rfl h
 | [a],_=>by simp[fQ]
 |a::b::l,_=>by
  obtain⟨h1,h2⟩:=ly (l:=b::l) ();unfold fQ
  grind
theorem qr:∀{l:MB},l≠[]->cr l∈l/\∀x∈l,x<=cr l
 | [],h=>absurd rfl h
 | [a],_=>by simp[cr]
 |a::b::l,_=>by
  obtain⟨h1,h2⟩:=qr (l:=b::l) ();unfold cr;refine⟨?_,λx hx=>?_⟩
  .rcases Int.le_total a (cr (b::l))with h|h
   .rw[Int.max_eq_right h];exact mem_cons_of_mem _ h1
   .rw[Int.max_eq_left h];exact mem_cons_self
  .rcases mem_cons.mp hx with rfl|hx
   .lia
   .exact Int.le_trans (h2 x hx) (Int.le_max_right _ _)
section
variable{X:Cx}{T:Tb}{W:Nat->St->MK}{Z:Zn}{F F1 B L:Mz}{H H1:Hp}{Y:St}{env:En}{fp:Nat->MD}{js:My}{s:Shared}
def fq{h':Heap}{t:Nat}(I:L2.Inv X js Y H s)(k:∀b o,s.heap.get? b=some o->h'.get? b=some o):L2.Inv X js Y H {s with heap:=h',toks:=t}:=I.un (Un.kept k) (I.hok.kept k)
def dD{its:MC}{ns:MB}(r:aS (ns.map V.int) its):∀(i:Nat) (v:Value),its.toArray[i]?=some v->∃t,v=.int (ns.getD i 0) t:=by
 intro i v e;have e':its[i]?=some v:=by simpa using e
 have:∀{ns:MB}{its:MC}{i:Nat}{v:Value},aS (ns.map V.int) its->its[i]?=some v->∃t,v=.int (ns.getD i 0) t:=by
  intro ns
  induction ns with
  |nil=>intro its i v r e;cases r;simp at e
  |cons n ns ih=>
   intro its i v r e;cases r with
   |cons h t=>
    obtain⟨tk,rfl⟩:=h;cases i with
    |zero=>simp at e;exact⟨tk,by rw[<- e];rfl⟩
    |succ i=>obtain⟨tk',h'⟩:=ih t (by simpa using e);exact⟨tk',by rw[h'];rfl⟩
 exact this r e'
theorem rH{ns:MB}(h:0<ns.length):ns.getD (argBest (λi j=>decide (ns.getD i 0<ns.getD j 0)) (ns.length-1)) 0=fQ ns:=by
 obtain⟨h1,h2⟩:=argBest_lt (λi=>ns.getD i 0) (ns.length-1);obtain⟨m1,m2⟩:=ly (l:=ns) (by intro z;simp[z]at h);refine Int.le_antisymm ?_ (m2 _ ?_)
 .obtain⟨i,hi,e⟩:=getElem_of_mem m1;have:=h2 i ()
  grind
 .rw[getD_eq_getElem?_getD,getElem?_eq_getElem ()];exact getElem_mem _
theorem rJ{ns:MB}(h:0<ns.length):ns.getD (argBest (λi j=>decide (ns.getD i 0>ns.getD j 0)) (ns.length-1)) 0=cr ns:=by
 obtain⟨h1,h2⟩:=argBest_gt (λi=>ns.getD i 0) (ns.length-1);obtain⟨m1,m2⟩:=qr (l:=ns) (by intro z;simp[z]at h);refine Int.le_antisymm (m2 _ ?_) ?_
 .rw[getD_eq_getElem?_getD,getElem?_eq_getElem ()];exact getElem_mem _
 .obtain⟨i,hi,e⟩:=getElem_of_mem m1;have:=h2 i ()
  grind
theorem gR{n:Nat}{l I:Addr}(hl:l<n)(e:I=n):∀b∈[I,l],b<n+1:=(by grind)
def dM{h h':Heap}{o:Obj}(hk:∀b u,b∉[h.objs.size]->(h.push o).get? b=some u->h'.get? b=some u):∀b u,h.get? b=some u->h'.get? b=some u:=λb u e=>
 hk b u (λhm=>by
  rcases mem_cons.mp hm with z|z
  .exact absurd (z▸lt_size e) (Nat.lt_irrefl _)
  .cases z) (get?_push_of_some _ e)
theorem pB(hc:X.calm=true):dr X (.builtin "min") (λxs H Q=>∃p ns,xs=[.ref p]/\(SqL X.K H p (ns.map V.int)\/ SqT X.K H p (ns.map V.int))/\0<ns.length/\Q (.int (fQ ns)) H):=by
 intro js s Y H xs us Q I rv h;obtain⟨p,ns,rfl,hq,hn,q⟩:=h;obtain⟨u,rfl,rx⟩:=dw rv;cases rx;have hh:=I.ok.hd hc;have key:∀{its:MC},aS (ns.map V.int) its->∀{v:Value}{h':Heap}{tk:Nat},its.toArray[argBest (λi j=>decide (ns.getD i 0<ns.getD j 0)) (its.toArray.size-1)]?=some v->(∀b o,s.heap.get? b=some o->h'.get? b=some o)->EP X js Y Q v {s with heap:=h',toks:=tk}:=by
  intro its r v h' tk hv k;have hl:its.toArray.size=ns.length:=by have:=r.length;simpa using this.symm
  rw[hl]at hv;obtain⟨t,rfl⟩:=dD r _ _ hv;rw[rH hn];exact⟨.int _,H,fq I k,⟨t,rfl⟩,q⟩
 rcases hq with hq|hq
 .obtain⟨its,r,pl,hz⟩:=I.list hq;have hl:its.toArray.size=ns.length:=by have:=r.length;simpa using this.symm
  obtain⟨o,ho,hcl,n,hd⟩:=pl.isList;have hlt:=lt_size ho;refine call_min_walk (wpAny_pyIter_list pl.isList ?_);refine⟨_,_,_,_,_,_,_,rfl,Walks.list (A:=X.A.in1) hh _ p (Nat.ne_of_lt hlt) its.toArray,⟨⟨_,get?_push_size _ rfl,rfl,rfl⟩,pl.isList.push _⟩,λb hb=>?_,by lia,CmpOf.ints_lt (λi=>ns.getD i 0) (dD r),λv h' tk hP hk=>key r hP (dM hk)⟩;rw[size_push];exact gR hlt rfl b hb
 .obtain⟨its,r,pl,hz⟩:=I.tuple hq;have hl:its.toArray.size=ns.length:=by have:=r.length;simpa using this.symm
  have pt:s.heap.IsTuple p its.toArray:=pl;obtain⟨o,ho,hcl,n,hd⟩:=pl;have hlt:=lt_size ho;refine call_min_walk (wpAny_pyIter_tuple pt ?_);refine⟨_,_,_,_,_,_,_,rfl,Walks.tuple (A:=X.A.in1) hh _ p (Nat.ne_of_lt hlt) its.toArray,⟨⟨_,get?_push_size _ rfl,rfl,rfl⟩,pt.push _⟩,λb hb=>?_,by lia,CmpOf.ints_lt (λi=>ns.getD i 0) (dD r),λv h' tk hP hk=>key r hP (dM hk)⟩;rw[size_push];exact gR hlt rfl b hb
def pC(hc:X.calm=true):dr X (.builtin "max") (λxs H Q=>∃p ns,xs=[.ref p]/\(SqL X.K H p (ns.map V.int)\/ SqT X.K H p (ns.map V.int))/\0<ns.length/\Q (.int (cr ns)) H):=by
 intro js s Y H xs us Q I rv h;obtain⟨p,ns,rfl,hq,hn,q⟩:=h;obtain⟨u,rfl,rx⟩:=dw rv;cases rx;have hh:=I.ok.hd hc;have key:∀{its:MC},aS (ns.map V.int) its->∀{v:Value}{h':Heap}{tk:Nat},its.toArray[argBest (λi j=>decide (ns.getD i 0>ns.getD j 0)) (its.toArray.size-1)]?=some v->(∀b o,s.heap.get? b=some o->h'.get? b=some o)->EP X js Y Q v {s with heap:=h',toks:=tk}:=by
  intro its r v h' tk hv k;have hl:its.toArray.size=ns.length:=by have:=r.length;simpa using this.symm
  rw[hl]at hv;obtain⟨t,rfl⟩:=dD r _ _ hv;rw[rJ hn];exact⟨.int _,H,fq I k,⟨t,rfl⟩,q⟩
 rcases hq with hq|hq
 .obtain⟨its,r,pl,hz⟩:=I.list hq;have hl:its.toArray.size=ns.length:=by have:=r.length;simpa using this.symm
  obtain⟨o,ho,hcl,n,hd⟩:=pl.isList;have hlt:=lt_size ho;refine call_max_walk (wpAny_pyIter_list pl.isList ?_);refine⟨_,_,_,_,_,_,_,rfl,Walks.list (A:=X.A.in1) hh _ p (Nat.ne_of_lt hlt) its.toArray,⟨⟨_,get?_push_size _ rfl,rfl,rfl⟩,pl.isList.push _⟩,λb hb=>?_,by lia,CmpOf.ints_gt (λi=>ns.getD i 0) (dD r),λv h' tk hP hk=>key r hP (dM hk)⟩;rw[size_push];exact gR hlt rfl b hb
 .obtain⟨its,r,pl,hz⟩:=I.tuple hq;have hl:its.toArray.size=ns.length:=by have:=r.length;simpa using this.symm
  have pt:s.heap.IsTuple p its.toArray:=pl;obtain⟨o,ho,hcl,n,hd⟩:=pl;have hlt:=lt_size ho;refine call_max_walk (wpAny_pyIter_tuple pt ?_);refine⟨_,_,_,_,_,_,_,rfl,Walks.tuple (A:=X.A.in1) hh _ p (Nat.ne_of_lt hlt) its.toArray,⟨⟨_,get?_push_size _ rfl,rfl,rfl⟩,pt.push _⟩,λb hb=>?_,by lia,CmpOf.ints_gt (λi=>ns.getD i 0) (dD r),λv h' tk hP hk=>key r hP (dM hk)⟩;rw[size_push];exact gR hlt rfl b hb
def dh(g:MB->Int):PV->MM:=λx=>match aV x with
 |some xs=>match a9 xs with
  |some ns=>if ns.isEmpty then .stuck else .ok (.int (g ns))
  |none=>.stuck
 |none=>.stuck
theorem qp(hK:X.K=T.K):Mir T W (p1 (dh g)) (λxs H Q=>∃p ns,xs=[.ref p]/\(SqL X.K H p (ns.map V.int)\/ SqT X.K H p (ns.map V.int))/\0<ns.length/\Q (.int (g ns)) H):=by
 intro B F L Y H Q F' H' xs vs fx gr r nf nd new q
 match xs,r,q with
 | [x],r,q=>
  obtain⟨v,rfl,rv⟩:=RelL.one r;simp only[p1,dh]at q;cases e:aV x with
  |none=>rw[e]at q;exact q.elim
  |some ys=>
   rw[e]at q;dsimp only at q;cases e2:a9 ys with
   |none=>rw[e2]at q;exact q.elim
   |some ns=>
    rw[e2]at q;obtain⟨a,us,fx',rfl,hs,hr,_⟩:=rv.seq e;have hu:=bT e2 hr;subst hu;cases ns with
    |nil=>exact q.elim
    |cons n ns=>exact⟨a,_,rfl,by lia,by simp,q.scal gr dP⟩
 | [],_,q=>exact q.elim
 |_::_::_,_,q=>simp only[p1]at q;exact q.elim
theorem tV:bootBuiltins "min"=some (.builtin "min"):=by decide +kernel
theorem AE:bootBuiltins "max"=some (.builtin "max"):=by decide +kernel
def BK(hK:X.K=T.K)(hc:X.calm=true)(hg:Gl X "min")(hm:X.mg "min"=none)(ha:SE X T W e m)(he:starEach [e] X.env=[(false,eval e X.env)]:=by rfl):SE X T W (.Call (.Name "min" p) [e] [] pos) (af (p1 (dh fQ)) (ab m ae)):=
 d_ (pB hc) (qp hK) hg hm tV (bU ha cN (by rw[he];rfl)) (he:=by rw[he];rfl)
def BM(hK:X.K=T.K)(hc:X.calm=true)(hg:Gl X "max")(hm:X.mg "max"=none)(ha:SE X T W e m)(he:starEach [e] X.env=[(false,eval e X.env)]:=by rfl):SE X T W (.Call (.Name "max" p) [e] [] pos) (af (p1 (dh cr)) (ab m ae)):=
 d_ (pC hc) (qp hK) hg hm AE (bU ha cN (by rw[he];rfl)) (he:=by rw[he];rfl)
noncomputable def gA(g:Int->Int->Int):ML->MM
 | [.int i,.int j]=>.ok (.int (g i j))
 |_=>.stuck
def wF{g:Int->Int->Int}{g':Int->Int->Int}(hg:∀i j,g' i j=g i j):Mir T W (gA g) (λxs H Q=>∃i j,xs=[.int i,.int j]/\Q (.int (g' i j)) H):=by
 intro B F L Y H Q F' H' xs vs fx gr r nf nd new q
 match xs,r,q with
 | [x,y],r,q=>
  cases x with
  |int i=>
   cases y with
   |int j=>obtain⟨v,ws,f1,f2,rfl,h1,h2,rfl⟩:=r;obtain⟨u,rfl,h3⟩:=RelL.one h2;obtain⟨rfl,_⟩:=h1;obtain⟨rfl,_⟩:=h3;exact⟨i,j,rfl,by rw[hg];exact q.scal gr dP⟩
   |_=>exact q.elim
  |_=>exact q.elim
 | [],_,q=>exact q.elim
 | [x],_,q=>cases x<;>exact q.elim
 |x::y::z::l,_,q=>cases x<;>cases y<;>exact q.elim
theorem BJ(hc:X.calm=true)(hg:Gl X "min")(hm:X.mg "min"=none)(ha:SA X T W [a,b] ms)(he:starEach [a,b] X.env=[(false,eval a X.env),(false,eval b X.env)]:=by rfl)(he2:starEach [b] X.env=[(false,eval b X.env)]:=by rfl) :
  SE X T W (.Call (.Name "min" p) [a,b] [] pos) (af (gA min) ms):=
 d_ (w_ hc) (wF λi j=>by lia) hg hm tV ha (he:=by rw[he,he2]) (hpl:=by rw[he2];rfl)
end
end
end PR
namespace PR
open PySem PySem.W PyProof.Rows
structure Ord(N:Nat)(lt:Nat->Nat->Bool):Prop where
 tr:∀i j k,i<N->j<N->k<N->lt i j=true->lt j k=true->lt i k=true
 tot:∀i j,i<N->j<N->i≠j->lt i j=false->lt j i=true
 irr:∀i,i<N->lt i i=false
structure Plc(N:Nat)(p:Array Nat):Prop where
 pm:p.toList.Perm (range N)
noncomputable abbrev at_(p:Array Nat)(i:Nat):Nat:=p.getD i 0
section
variable{N:Nat}{lt:Nat->Nat->Bool}{p:Array Nat}
def Plc.sz(P:Plc N p):p.size=N:=by simpa using P.pm.length_eq
def Plc.get(P:Plc N p)(h:i<N):p[i]?=some (at_ p i):=by
 have:i<p.size:=by rw[P.sz];exact h
 simp[this]
def Plc.bd(P:Plc N p)(h:i<N):at_ p i<N:=by
 have hm:at_ p i∈p.toList:=by have:=P.get h;exact Array.mem_toList_iff.mpr (Array.mem_of_getElem? this)
 simpa using P.pm.mem_iff.mp hm
def Plc.inj(P:Plc N p)(hi:i<N)(hj:j<N)(e:at_ p i=at_ p j):i=j:=by
 have nd:p.toList.Nodup:=P.pm.nodup_iff.mpr nodup_range;have h1:=P.get hi;have h2:=P.get hj;rw[e]at h1;have h1':p.toList[i]?=some (at_ p j):=by simpa using h1
 have h2':p.toList[j]?=some (at_ p j):=by simpa using h2
 obtain⟨a1,b1⟩:=List.getElem?_eq_some_iff.mp h1';obtain⟨a2,b2⟩:=List.getElem?_eq_some_iff.mp h2';exact(getElem_inj nd).mp (b1.trans b2.symm)
def Asc(lt:Nat->Nat->Bool)(p:Array Nat)(n:Nat):Prop:=∀a b,a<b->b<n->lt (at_ p a) (at_ p b)=true
def Dsc(lt:Nat->Nat->Bool)(p:Array Nat)(n:Nat):Prop:=∀a b,a<b->b<n->lt (at_ p b) (at_ p a)=true
theorem Asc.more(O:Ord N lt)(P:Plc N p)(h:Asc lt p n)(h1:1<=n)(hn:n<N)(hl:lt (at_ p (n-1)) (at_ p n)=true):Asc lt p (n+1):=λa b hab hb=>by
 by_cases hbn:b<n
 .exact h a b hab hbn
 .obtain rfl:b=n:=by lia
  by_cases ha:a=b-1
  .rw[ha];exact hl
  .exact O.tr _ _ _ (P.bd ()) (P.bd ()) (P.bd ()) (h a (b-1) () ()) hl
def Dsc.more(O:Ord N lt)(P:Plc N p)(h:Dsc lt p n)(h1:1<=n)(hn:n<N)(hl:lt (at_ p n) (at_ p (n-1))=true):Dsc lt p (n+1):=λa b hab hb=>by
 by_cases hbn:b<n
 .exact h a b hab hbn
 .obtain rfl:b=n:=by lia
  by_cases ha:a=b-1
  .rw[ha];exact hl
  .exact O.tr _ _ _ (P.bd ()) (P.bd ()) (P.bd ()) hl (h a (b-1) () ())
theorem Dsc.rev(P:Plc N p)(h:Dsc lt p n)(hn:n<=N):Asc lt (kas_rev p 0 n) n/\Plc N (kas_rev p 0 n):=by
 have hp:(kas_rev p 0 n).toList.Perm p.toList:=Array.perm_iff_toList_perm.mp (mirror_perm _ _ _ _);have P':Plc N (kas_rev p 0 n):=⟨hp.trans P.pm⟩
 have ix:∀k,k<n->at_ (kas_rev p 0 n) k=at_ p (n-1-k):=λk hk=>by
  have e:=getElem?_mirror_all (i:=0) (by rw[P.sz];exact hn) k;have h1:(kas_rev p 0 n)[k]?=p[0+n-1-k]?:=by unfold kas_rev;rw[e,if_pos ⟨by lia,hk⟩]
  rw[P'.get (),show 0+n-1-k=n-1-k by lia,P.get ()]at h1;exact Option.some.inj h1
 refine⟨λa b hab hb=>?_,P'⟩;rw[ix a (),ix b hb];exact h _ _ () ()
variable{cmp:Nat->Nat->(Bool->Shared->Prop)->Shared->Prop}{s:Shared}
abbrev Cmp(N:Nat)(lt:Nat->Nat->Bool)(cmp:Nat->Nat->(Bool->Shared->Prop)->Shared->Prop)(s:Shared):Prop:=∀(i j:Nat) (C:Bool->Shared->Prop),i<N->j<N->C (lt i j) s->cmp i j C s
theorem tX(O:Ord N lt)(C:Cmp N lt cmp s)(P:Plc N p):∀(f n:Nat) (Q:Nat->Shared->Prop),1<=n->n+f=N->Asc lt p n->(∀m,n<=m->m<=N->Asc lt p m->(m<N->lt (at_ p m) (at_ p (m-1))=true)->Q m s)->(kas_asc p f n).kasWp cmp Q s
 |0,n,Q,h1,hn,ha,k=>k n (Nat.le_refl _) () ha ()
 |f+1,n,Q,h1,hn,ha,k=>by
  refine C _ _ _ (P.bd ()) (P.bd ()) ?_;cases e:lt (at_ p n) (at_ p (n-1))with
  |true=>exact k n (Nat.le_refl _) () ha λ_=>e
  |false=>have hl:=O.tot _ _ (P.bd ()) (P.bd ()) (λz=>by have:=P.inj () () z;lia) e;exact tX O C P f (n+1) Q () () (ha.more O P h1 () hl) λm hm=>k m ()
theorem Aq(O:Ord N lt)(C:Cmp N lt cmp s)(P:Plc N p):∀(f n:Nat) (Q:Array Nat×Nat×Nat->Shared->Prop),1<=n->n+f=N->Dsc lt p n->(∀m,n<=m->m<=N->Dsc lt p m->Q (p,m,0) s)->(kas_desc f p n 0).kasWp cmp Q s
 |0,n,Q,h1,hn,ha,k=>k n (Nat.le_refl _) () ha
 |f+1,n,Q,h1,hn,ha,k=>by
  refine C _ _ _ (P.bd ()) (P.bd ()) ?_;cases e:lt (at_ p n) (at_ p (n-1))with
  |true=>exact Aq O C P f (n+1) Q () () (ha.more O P h1 () e) λm hm=>k m ()
  |false=>have hl:=O.tot _ _ (P.bd ()) (P.bd ()) (λz=>by have:=P.inj () () z;lia) e;refine C _ _ _ (P.bd ()) (P.bd ()) ?_;have e2:lt (p.getD (n-1) 0) (p.getD n 0)=true:=hl;rw[e2];exact k n (Nat.le_refl _) () ha
theorem Ax(O:Ord N lt)(C:Cmp N lt cmp s)(P:Plc N p)(h2:2<=N)(Q:Nat×Array Nat->Shared->Prop)(k:∀m p',1<=m->m<=N->Plc N p'->Asc lt p' m->Q (m,p') s):(kas_count N p).kasWp cmp Q s:=by
 unfold kas_count;rw[KasT.kasWp_bind];refine tX O C P (N-1) 1 _ (Nat.le_refl _) () (λa b _ hb=>by lia) λn h1 hn ha hs=>?_;by_cases e:n=N
 .rw[if_pos (by simpa using e)];exact k n p h1 hn P ha
 .rw[if_neg (by simpa using e)];by_cases hn1:n>1
  .rw[if_pos hn1];refine C _ _ _ (P.bd ()) (P.bd ()) ?_;have e2:lt (p.getD 0 0) (p.getD (n-1) 0)=true:=ha 0 (n-1) () ();rw[e2];exact k n p h1 hn P ha
  .rw[if_neg hn1];obtain rfl:n=1:=by lia
   unfold kas_descPart;rw[KasT.kasWp_bind];refine Aq O C P (N-2) 2 _ () () (λa b hab hb=>?_) λm hm1 hm2 hd=>?_
   .obtain rfl:a=0:=by lia
    obtain rfl:b=1:=by lia
    exact hs ()
   .dsimp only;rw[if_neg (Nat.lt_irrefl 0)];obtain⟨ha',P'⟩:=hd.rev P hm2;unfold kas_tail3;rw[KasT.kasWp_bind];exact tX O C P' (N-m) m _ () () ha' λn' h1' hn' ha'' _=>k n' _ () hn' P' ha''
theorem k9(O:Ord N lt)(C:Cmp N lt cmp s)(P:Plc N p)(hk:k<N)(ha:Asc lt p k):∀(f l r:Nat) (Q:Nat->Shared->Prop),l<=r->r<=k->r-l<=f->(∀a,a<l->lt (at_ p a) (at_ p k)=true)->(∀a,r<=a->a<k->lt (at_ p k) (at_ p a)=true)->
  (∀m,m<=k->(∀a,a<m->lt (at_ p a) (at_ p k)=true)->(∀a,m<=a->a<k->lt (at_ p k) (at_ p a)=true)->Q m s)->(kas_place p k f l r).kasWp cmp Q s
 |0,l,r,Q,h1,h2,h3,h4,h5,q=>by
  obtain rfl:l=r:=by lia
  exact q l h2 h4 h5
 |f+1,l,r,Q,h1,h2,h3,h4,h5,q=>by
  unfold kas_place;by_cases e:l >= r
  .rw[if_pos e];obtain rfl:l=r:=by lia
   exact q l h2 h4 h5
  .rw[if_neg e];have hm2:l <=(l+r) / 2:=by lia
   refine C _ _ _ (P.bd hk) (P.bd ()) ?_;cases e2:lt (at_ p k) (at_ p ((l+r) / 2))with
   |true=>
    refine k9 O C P hk ha f l ((l+r) / 2) Q hm2 () () h4 (λa h6 h7=>?_) q;by_cases hae:a=(l+r) / 2
    .rw[hae];exact e2
    .exact O.tr _ _ _ (P.bd hk) (P.bd ()) (P.bd ()) e2 (ha _ a () h7)
   |false=>
    have hl:=O.tot _ _ (P.bd hk) (P.bd ()) (λz=>by have:=P.inj hk () z;lia) e2;refine k9 O C P hk ha f ((l+r) / 2+1) r Q () h2 () (λa h6=>?_) h5 q;by_cases hae:a=(l+r) / 2
    .rw[hae];exact hl
    .exact O.tr _ _ _ (P.bd ()) (P.bd ()) (P.bd hk) (ha a _ () ()) hl
theorem AC(O:Ord N lt)(C:Cmp N lt cmp s):∀(f k:Nat) (p:Array Nat) (Q:Array Nat->Shared->Prop),Plc N p->Asc lt p k->k+f=N->(∀p',Plc N p'->Asc lt p' N->Q p' s)->(kas_bin f p k).kasWp cmp Q s
 |0,k,p,Q,P,ha,hk,q=>q p P ()
 |f+1,k,p,Q,P,ha,hk,q=>by
  unfold kas_bin;rw[KasT.kasWp_bind];refine k9 O C P () ha k 0 k _ (zero_le _) (Nat.le_refl _) () (λ_ z=>absurd z (Nat.not_lt_zero _)) (λa h1 h2=>by lia) λm hm h1 h2=>?_;have P':Plc N (bubble p k (k-m)):=⟨(Array.perm_iff_toList_perm.mp (bubble_perm _ _ _)).trans P.pm⟩
  have ix:=getElem?_bubble (src:=k) (by rw[P.sz];lia) (k-m) ();have g:∀i,i<k+1->at_ (bubble p k (k-m)) i=if i=m then at_ p k else if m<i then at_ p (i-1)else at_ p i:=λi hi=>by
   have e:=ix i;rw[P'.get ()]at e;have hkm:k-(k-m)=m:=by lia
   rw[hkm]at e;by_cases c1:i=m
   .rw[if_pos c1];rw[if_pos c1,P.get ()]at e;exact Option.some.inj e
   .rw[if_neg c1]at e ⊢;by_cases c2:m<i
    .rw[if_pos c2];rw[if_pos ⟨c2,by lia⟩,P.get ()]at e;exact Option.some.inj e
    .rw[if_neg c2];rw[if_neg (λz=>c2 z.1),P.get ()]at e;exact Option.some.inj e
  refine AC O C f (k+1) _ Q P' (λa b hab hb=>?_) () q;rw[g a (),g b hb];by_cases a1:a=m
  .rw[if_pos a1,if_neg (),if_pos ()];exact h2 (b-1) () ()
  .rw[if_neg a1];by_cases a2:m<a
   .rw[if_pos a2,if_neg (),if_pos ()];exact ha _ _ () ()
   .rw[if_neg a2];by_cases b1:b=m
    .rw[if_pos b1];exact h1 a ()
    .rw[if_neg b1];by_cases b2:m<b
     .rw[if_pos b2];by_cases hh:a=b-1
      .lia
      .exact ha _ _ () ()
     .rw[if_neg b2];exact ha _ _ hab ()
theorem Bq(O:Ord N lt)(C:Cmp N lt cmp s)(h2:2<=N)(Q:Array Nat->Shared->Prop)(q:∀p,Plc N p->Asc lt p N->Q p s):(kas_sort N).kasWp cmp Q s:=by
 unfold kas_sort;rw[KasT.kasWp_bind];refine Ax O C ⟨by simp⟩ h2 _ λm p' h1 hm P ha=>?_;by_cases e:m<N
 .rw[if_pos e,Nat.max_eq_left h1];exact AC O C (N-m) m p' Q P ha () q
 .rw[if_neg e];obtain rfl:m=N:=by lia
  exact q p' P ha
end
end PR
namespace PR
open PySem PySem.Spec L2 PyProof.Rows PySem.W
section
variable{prog:Program}{w:World}{A:Around}{E:Mv}{s:Shared}
def lv(vs:MC)(p:Array Nat):MH:=(p.toList.map λi=>vs.getD i Value.none).toArray
def wf(N:Nat):Plc N (range N).toArray:=⟨by simp⟩
def ke:lv vs (range vs.length).toArray=vs.toArray:=by unfold lv;congr 1;refine List.ext_getElem () λi h1 h2=>?_;simp[h2]
theorem A3{vs:MC}(h:vs.length<2):(vs.toArray.zip vs.toArray).map (·.2)=vs.toArray:=by
 cases vs with
 |nil=>simp
 |cons v l=>cases l with
  |nil=>simp
  |cons w l=>simp only[List.length_cons]at h;omega
theorem wG{κ:SortKind}(ho:s.heap.get? a=some (seqObj "list" vs.toArray n))(h64:vs.length<64)
  (hK:2<=vs.length->∀s':Shared,(∀b o,b≠a->s.heap.get? b=some o->s'.heap.get? b=some o)->Ord vs.length lt/\(∀Q:SortKind->Shared->Prop,Q κ s'->wpAny (model prog w) A (keyKind' vs.toArray) Q E s')/\Cmp vs.length lt (kas_ask prog w A κ vs) s')
  (h:∀p,Plc vs.length p->Asc lt p vs.length->P (.done (.ret .none)) {s with heap:=sortedHeap s.heap a vs (lv vs p)}) :
  wpAny (model prog w) A (Builtin.«list.sort» ⟨[.ref a],[]⟩) P E s:=by
 obtain⟨e1,g1⟩:∃e1,(s.heap.update a (Obj.mapSeq λ_=>#[])).get? a=some (seqObj "list" #[] e1):=⟨_,get?_update_seq ho (λ_=>#[])⟩
 have g6:(((s.heap.update a (Obj.mapSeq λ_=>#[])).push (seqObj "tuple" vs.toArray 0)).push (seqObj "list" #[] 0)).get? a=some (seqObj "list" #[] e1):=get?_push_of_some _ (get?_push_of_some _ g1);have kp:∀b o,b≠a->s.heap.get? b=some o->(((s.heap.update a (Obj.mapSeq λ_=>#[])).push (seqObj "tuple" vs.toArray 0)).push (seqObj "list" #[] 0)).get? b=some o:=λb o hb q=>
  get?_push_of_some _ (get?_push_of_some _ ((Heap.get?_update_ne _ _ _ _ hb).trans q))
 rw[list_sort_plain];refine wpAny_bind (listItems_at ho rfl (wpAny_bind (listUpdate_at ho rfl (wpAny_bind (seqEpoch_at g1 rfl (wpAny_bind (wpAny_newTuple (wpAny_bind (wpAny_newList (wpAny_holding ?_))))))))))<;>try (simp;lia)
 dsimp only;by_cases h2:vs.toArray.size<2
 .have h2':vs.length<2:=by simpa using h2
  rw[if_pos h2,if_pos h2];refine wpAny_bind (wpAny_pure ?_);refine wpAny_bind (wpAny_pure ?_);dsimp only;have e3:(arrOf (SortSt.mk' general' (vs.toArray.zip vs.toArray) #[] 7 none)).map (·.2)=lv vs (range vs.length).toArray:=by rw[ke];exact A3 h2'
  rw[e3];refine wpAny_bind (seqEpoch_at g6 rfl (wpAny_bind (listUpdate_at g6 rfl ?_ (zero_le _) (by rw[ke];lia))));simp only[bne_self_eq_false];exact wpAny_pure (h _ (wf _) λx y hxy hy=>by lia)
 .have h2':2<=vs.length:=by simp at h2;lia
  rw[if_neg h2,if_neg h2];obtain⟨O,hk,C⟩:=hK h2' {s with heap:=((s.heap.update a (Obj.mapSeq λ_=>#[])).push (seqObj "tuple" vs.toArray 0)).push (seqObj "list" #[] 0)} kp;refine wpAny_bind (hk _ ?_);refine wpAny_bind (wpAny_mono (kat_run (Q:=λst' s'=>∃ p:Array Nat,arrOf st'=p.map (kas_item (vs.toArray.zip vs.toArray))/\failedOf st'=none/\Plc vs.length p/\Asc lt p vs.length/\s'=_) rfl h2' h64
   (λp st' s' _ a2 a3 a4=>⟨p,a2,a3,a4⟩) (Bq O C h2' _ λp c1 c2=>⟨c1,c2,rfl⟩)) ?_ λ_ _ e=>e)
  rintro⟨⟨⟩,st'⟩ s' ⟨p,har,hf,c1,c2,rfl⟩;have e3:=kat_snds rfl har;rw[e3];refine wpAny_bind (seqEpoch_at g6 rfl (wpAny_bind (listUpdate_at g6 rfl ?_ (zero_le _) (by
   rw[size_toArray,length_map,Array.length_toList,c1.sz,sizeLine_eq];lia))))
  rw[hf];simp only[bne_self_eq_false];exact wpAny_pure (h _ c1 c2)
theorem rY{κ:SortKind}(hl:s.heap.IsList l vs.toArray)(h64:vs.length<64)
  (hK:2<=vs.length->∀s':Shared,(∀b o,s.heap.get? b=some o->s'.heap.get? b=some o)->Ord vs.length lt/\(∀(E:Mv) (Q:SortKind->Shared->Prop),Q κ s'->wpAny (model prog w) A.in1.in1 (keyKind' vs.toArray) Q E s')/\Cmp vs.length lt (kas_ask prog w A.in1.in1 κ vs) s')
  (h:∀p,Plc vs.length p->Asc lt p vs.length->Q (.ref (s.heap.objs.size+1)) {s with heap:=sortedAll s.heap vs (lv vs p)}) :
  wpAny (model prog w) A (call (.builtin "sorted") [.ref l]) Q E s:=by
 refine Calls.call_function_entry kind_sorted plain_sorted entry_sorted (args_sorted1 _) ?_;have sz:((s.heap.push (seqObj "list" #[] 0)).update s.heap.objs.size (Obj.mapSeq (·++vs.toArray))).objs.size=s.heap.objs.size+1:=(Heap.size_update _ _ _).trans (size_push' _ _);refine wpAny_bind (wpAny_pure (wpAny_bind (collect_list hl (wpAny_bind (wpAny_newList ?_ (by rw[sizeLine_eq];lia))) (by rw[sizeLine_eq];lia))));have g:(((s.heap.push (seqObj "list" #[] 0)).update s.heap.objs.size (Obj.mapSeq (·++vs.toArray))).push (seqObj "list" vs.toArray 0)).get? (s.heap.objs.size+1)=some (seqObj "list" vs.toArray 0):=sz▸get?_push_size _ rfl;have kp:∀b o,s.heap.get? b=some o->(((s.heap.push (seqObj "list" #[] 0)).update s.heap.objs.size (Obj.mapSeq (·++vs.toArray))).push (seqObj "list" vs.toArray 0)).get? b=some o:=λb o q=>
  get?_push_of_some _ ((Heap.get?_update_ne _ _ _ _ (Nat.ne_of_lt (lt_size q))).trans (get?_push_of_some _ q))
 rw[sz];refine wpAny_bind (wpAny_holding (wpAny_call_entry slot_list_sort ⟨_,g,rfl⟩ entry_list_sort ?body (args_list_sort _)));refine wG (κ:=κ) g h64 (λh2 s' k'=>?_) λp c1 c2=>⟨_,rfl,wpAny_pure ⟨_,rfl,h p c1 c2⟩⟩
 obtain⟨O,hk,C⟩:=hK h2 s' λb o q=>k' b o (Nat.ne_of_lt (Nat.lt_succ_of_lt (lt_size q))) (kp b o q);exact⟨O,λQ q=>hk _ Q q,C⟩
noncomputable def eP(x y:Int×Int):Bool:=decide (x.1<y.1) ||(x.1==y.1&&decide (x.2<y.2))
theorem iH(h1:eP x y=true)(h2:eP y z=true):eP x z=true:=by
 simp only[eP]at *
 lia
def p_(x:Int×Int):eP x x=false:=by simp[eP]
theorem p9(h:x≠y):eP x y=true\/eP y x=true:=by
 obtain⟨a,b⟩:=x;obtain⟨c,d⟩:=y;have:a≠c\/b≠d:=by lia
 simp only[eP,Bool.or_eq_true,and_eq_true]
 lia
def cS(h:Heap):MC->Mx->Prop
 | [],[]=>True
 |v::vs,x::ps=>(∃a o n t u,v=.ref a/\h.get? a=some o/\o.cls=.type "tuple" /\ o.data=.seq #[.int x.1 t,.int x.2 u] n)/\cS h vs ps
 |_,_=>False
theorem cS.len:∀{vs:MC}{ps:Mx},cS h vs ps->vs.length=ps.length
 | [],[],_=>rfl
 |_::_,_::_,q=>by simp[q.2.len]
def cS.kept(k:∀b o,h.get? b=some o->h'.get? b=some o){vs:MC}{ps:Mx}(r:cS h vs ps):cS h' vs ps:=by
 induction ps generalizing vs with
 |nil=>cases vs with
  |nil=>trivial
  |cons=>exact r.elim
 |cons x ps i=>cases vs with
  |nil=>exact r.elim
  |cons=>obtain⟨⟨a,o,n,t,u,e1,e2,e3⟩,q⟩:=r;exact⟨⟨a,o,n,t,u,e1,k _ _ e2,e3⟩,i q⟩
def cS.at{vs:MC}{ps:Mx}(r:cS h vs ps)(i)(hi:i<ps.length):∃a o n t u,vs.getD i Value.none=.ref a/\h.get? a=some o/\o.data=.seq #[.int (ps.getD i (0,0)).1 t,.int (ps.getD i (0,0)).2 u] n:=by
 induction ps generalizing vs i with
 |nil=>simp at hi
 |cons x ps k=>cases vs with
  |nil=>exact r.elim
  |cons v vs=>
   obtain⟨⟨a,o,n,t,u,e1,e2,e3⟩,q⟩:=r;cases i with
   |zero=>exact⟨a,o,n,t,u,by simp[e1],e2,by simpa using e3.2⟩
   |succ i=>have:=k q i (by simp_all);simpa using this
def cS.firsts{vs:MC}{ps:Mx}(r:cS h vs ps):∃fs,KatTups h vs fs/\fs.length=ps.length/\∀v∈fs,∃i t,v=.int i t:=by
 induction ps generalizing vs with
 |nil=>cases vs with
  |nil=>exact⟨[],.nil,rfl,λv hv=>by cases hv⟩
  |cons=>exact r.elim
 |cons x ps k=>cases vs with
  |nil=>exact r.elim
  |cons=>
   obtain⟨⟨a,o,n,t,u,e1,e2,e3,e4⟩,q⟩:=r;obtain⟨fs,h1,h2,h3⟩:=k q;subst e1;refine⟨_::fs,.cons e2 e3 e4 rfl h1,by simp[h2],λv hv=>?_⟩;rcases mem_cons.mp hv with rfl|hv
   .exact⟨_,_,rfl⟩
   .exact h3 v hv
def wj{ps:Mx}(hd:ps.Nodup):Ord ps.length (λi j=>eP (ps.getD i (0,0)) (ps.getD j (0,0))):=by
 refine⟨λi j k _ _ _ h1 h2=>iH h1 h2,λi j hi hj hn h=>?_,λi _=>p_ _⟩;have:ps.getD i (0,0)≠ ps.getD j (0,0):=by simp only[getD_eq_getElem?_getD,getElem?_eq_getElem hi,getElem?_eq_getElem hj];exact λe=>hn ((getElem_inj hd).mp e)
 rcases p9 this with q|q
 .rw[q]at h;cases h
 .exact q
def ng(h:Q (decide (x<y)) s):wpAny (model prog w) A (oneLt' b (.int x t) (.int y u)) Q E s:=by
 cases b with
 |true=>exact oneLt_int h
 |false=>exact kat_one _ _ (wpAny_lt_int h)
def wm(hp:cS s.heap vs ps):Cmp vs.length (λi j=>eP (ps.getD i (0,0)) (ps.getD j (0,0))) (kas_ask prog w A (tuples' true) vs) s:=by
 intro i j C hi hj q;rw[hp.len]at hi hj;obtain⟨a,o,n,t,u,e1,e2,e3⟩:=hp.at i hi;obtain⟨a',o',n',t',u',e1',e2',e3'⟩:=hp.at j hj;unfold kas_ask;rw[e1,e1'];dsimp only at q;generalize ps.getD i (0,0)=x at *;generalize ps.getD j (0,0)=y at *;refine kat_lt e2 e3 e2' e3' (kat_cons (wpAny_eqBool_int (kat_go (λh1=>kat_yes (kat_cons (wpAny_eqBool_int (kat_go (λh2=>kat_yes (kat_nil ?_)) λh2=>kat_no (ng ?_))))) λh1=>kat_no (ng ?_))))
 .simp at h1 h2;have:eP x y=false:=by simp[eP,h1,h2]
  rw[this]at q;exact q
 .simp at h1;have:eP x y=decide (x.2<y.2):=by simp[eP,h1]
  rw[this]at q;exact q
 .have:eP x y=decide (x.1<y.1):=by simp[eP,h1]
  rw[this]at q;exact q
theorem sC(hp:cS s.heap vs ps)(h2:2<=vs.length){Q:SortKind->Shared->Prop}(q:Q (tuples' true) s):wpAny (model prog w) A (keyKind' vs.toArray) Q E s:=by obtain⟨fs,h1,hl,hi⟩:=hp.firsts;refine kat_kind (T:=.type "int") h1 (by rw[hl,<- hp.len];lia) (λv hv=>?_) rfl q;obtain⟨i,t,rfl⟩:=hi v hv;exact Looks.of_pure rfl
def oy(hl:s.heap.IsList l vs.toArray)(h64:vs.length<64)(hp:cS s.heap vs ps)(hd:ps.Nodup)
  (h:∀p,Plc vs.length p->Asc (λi j=>eP (ps.getD i (0,0)) (ps.getD j (0,0))) p vs.length->Q (.ref (s.heap.objs.size+1)) {s with heap:=sortedAll s.heap vs (lv vs p)}) :
  wpAny (model prog w) A (call (.builtin "sorted") [.ref l]) Q E s:=
 rY hl h64 (λh2 s' k=>⟨hp.len▸wj hd,λE Q q=>sC (hp.kept k) h2 q,wm (hp.kept k)⟩) h
end
end PR
namespace PR
open PySem PySem.Spec L2 PyProof.Rows
noncomputable def s_(x:Int):MB->MB
 | []=>[x]
 |y::l=>if x<=y then x::y::l else y::s_ x l
def j9:MB->MB
 | []=>[]
 |x::l=>s_ x (j9 l)
theorem jW(x:Int):∀l,(s_ x l).Perm (x::l)
 | []=>.refl _
 |y::l=>by
  unfold s_;split
  .exact .refl _
  .exact((jW x l).cons y).trans (.swap x y l)
theorem eZ:∀l,(j9 l).Perm l
 | []=>.refl _
 |x::l=>(jW x _).trans ((eZ l).cons x)
theorem qF(x:Int):∀{l:MB},l.Pairwise (·<=·)->(s_ x l).Pairwise (·<=·)
 | [],_=>by simp[s_]
 |y::l,h=>by
  obtain⟨h1,h2⟩:=pairwise_cons.mp h;unfold s_;split
  .refine pairwise_cons.mpr ⟨λz hz=>?_,h⟩;rcases mem_cons.mp hz with rfl|hz
   .assumption
   .have:=h1 z hz;lia
  .refine pairwise_cons.mpr ⟨λz hz=>?_,qF x h2⟩;rcases mem_cons.mp ((jW x l).mem_iff.mp hz)with rfl|hz
   .lia
   .exact h1 z hz
theorem mX:∀l,(j9 l).Pairwise (·<=·)
 | []=>.nil
 |x::l=>qF x (mX l)
def r6{l l':MB}(h1:l'.Perm l)(h2:l'.Pairwise (·<=·)):l'=j9 l:=
 List.Perm.eq_of_pairwise (λa b _ _ x y=>Int.le_antisymm x y) h2 (mX l) (h1.trans (eZ l).symm)
def sZ(x:Int×Int):Mx->Mx
 | []=>[x]
 |y::l=>if eP x y then x::y::l else y::sZ x l
def fF:Mx->Mx
 | []=>[]
 |x::l=>sZ x (fF l)
theorem jV(x:Int×Int):∀l,(sZ x l).Perm (x::l)
 | []=>.refl _
 |y::l=>by
  unfold sZ;split
  .exact .refl _
  .exact((jV x l).cons y).trans (.swap x y l)
theorem gp:∀l,(fF l).Perm l
 | []=>.refl _
 |x::l=>(jV x _).trans ((gp l).cons x)
theorem qE(x:Int×Int):∀{l:Mx},x∉l->l.Pairwise (λa b=>eP a b=true)->(sZ x l).Pairwise (λa b=>eP a b=true)
 | [],_,_=>by simp[sZ]
 |y::l,hn,h=>by
  obtain⟨h1,h2⟩:=pairwise_cons.mp h;unfold sZ;split
  .refine pairwise_cons.mpr ⟨λz hz=>?_,h⟩;rcases mem_cons.mp hz with rfl|hz
   .assumption
   .exact iH ‹_› (h1 z hz)
  .refine pairwise_cons.mpr ⟨λz hz=>?_,qE x (λz=>hn (mem_cons_of_mem _ z)) h2⟩;rcases mem_cons.mp ((jV x l).mem_iff.mp hz)with rfl|hz
   .rcases p9 (y:=z) (λe=>hn (e▸mem_cons_self))with q|q
    .exact q
    .contradiction
   .exact h1 z hz
theorem mW:∀{l:Mx},l.Nodup->(fF l).Pairwise (λa b=>eP a b=true)
 | [],_=>.nil
 |x::l,h=>by obtain⟨h1,h2⟩:=nodup_cons.mp h;exact qE x (λz=>h1 ((gp l).mem_iff.mp z)) (mW h2)
def rZ(hd:l.Nodup)(h1:l'.Perm l)(h2:l'.Pairwise (λa b=>eP a b=true)):l'=fF l:=
 List.Perm.eq_of_pairwise (λa b _ _ x y=>by
  have:=iH x y;rw[p_]at this;cases this) h2 (mW hd) (h1.trans (gp l).symm)
def wb{α:Type}(l:List α)(d:α):(range l.length).map (λi=>l.getD i d)=l:=by refine List.ext_getElem () λi h1 h2=>?_;simp[h2]
theorem we{ps:Mx}{p:Array Nat}(hd:ps.Nodup)(P:Plc ps.length p)(a:Asc (λi j=>eP (ps.getD i (0,0)) (ps.getD j (0,0))) p ps.length):p.toList.map (λi=>ps.getD i (0,0))=fF ps:=by
 refine rZ hd (by have:=P.pm.map (λi=>ps.getD i (0,0));rwa [wb]at this) ?_;refine List.pairwise_iff_getElem.mpr λi j hi hj hij=>?_;have hs:=P.sz;have hi':i<p.size:=by simpa using hi
 have hj':j<p.size:=by simpa using hj
 have:=a i j hij ();simpa[at_,hi',hj']using this
def PrH(K:PySem.W.Frag)(H:Hp):MJ->Mx->Prop
 | [],[]=>True
 |v::vs,x::ps=>(∃a,v=.ref a/\SqT K H a [.int x.1,.int x.2])/\PrH K H vs ps
 |_,_=>False
theorem PrH.len{K:PySem.W.Frag}{H:Hp}:∀{vs:MJ}{ps:Mx},PrH K H vs ps->vs.length=ps.length
 | [],[],_=>rfl
 |_::_,_::_,q=>by simp[q.2.len]
section
variable{X:Cx}{T:Tb}{W:Nat->L2.St->MK}{Z:Zn}{F F1 B L:Mz}{H H1:Hp}{Y:L2.St}{env:En}{fp:Nat->MD}{js:My}{s:Shared}
theorem PrH.at(I:L2.Inv X js Y H s):∀{vs:MJ}{its:MC}{ps:Mx},PrH X.K H vs ps->aS vs its->cS s.heap its ps
 | [],_,[],_,r=>by cases r;trivial
 |_::_,_,_::_,⟨⟨a,e,h⟩,q⟩,r=>by
  cases r with
  |cons h1 h2=>
   subst e;cases h1;refine⟨?_,q.at I h2⟩;obtain⟨its,r,pl,_⟩:=I.tuple h;obtain⟨u,r2,rfl,⟨t,rfl⟩,r3⟩:∃u r2,its=u::r2/\bA _ u/\aS _ r2:=by cases r with|cons a b=>exact⟨_,_,rfl,a,b⟩
   obtain⟨u',rfl,⟨t',rfl⟩⟩:=dw r3;obtain⟨o,ho,hcl,n,hd⟩:=pl;exact⟨a,o,n,t,t',rfl,ho,hcl,hd⟩
def xr{vs:MJ}{its:MC}(r:aS vs its)(q:List Nat)(hq:∀i∈q,i<vs.length):aS (q.map λi=>vs.getD i .non) (q.map λi=>its.getD i Value.none):=by
 induction q with
 |nil=>exact .nil
 |cons i q ih=>
  refine .cons ?_ (ih λj hj=>hq j (mem_cons_of_mem _ hj));have hi:=hq i mem_cons_self;have:∀{vs:MJ}{its:MC}{i:Nat},aS vs its->i<vs.length->bA (vs.getD i .non) (its.getD i Value.none):=by
   intro vs its i r
   induction r generalizing i with
   |nil=>intro h;simp at h
   |cons a b ih=>
    intro h;cases i with
    |zero=>simpa using a
    |succ i=>simpa using ih (by simpa using h)
  exact this r hi
def o3:∀{ns:MB}{its:MC},PyProof.Rows.IntsAre its ns->aS (ns.map V.int) its:=by
 intro ns its h
 induction h with
 |nil=>exact .nil
 |cons=>exact .cons ⟨_,rfl⟩ ‹_›
theorem rD:dr X (.builtin "sorted") (λxs H Q=>∃ p ys,xs=[.ref p]/\SqL X.K H p ys/\ys.length < 64 /\
    ((∃ ns,ys=ns.map V.int/\∀ l,H l=none->Q (.ref l) (upd H l (.lst ((j9 ns).map V.int)))) \/
     (∃ps,PrH X.K H ys ps/\ps.Nodup/\∀l (q:List Nat),H l=none->q.Perm (range ys.length)->q.map (λi=>ps.getD i (0,0))=fF ps->Q (.ref l) (upd H l (.lst (q.map λi=>ys.getD i .non)))))):=by
  intro js s Y H xs us Q I rv h;obtain⟨p,ys,rfl,hq,h64,h⟩:=h;obtain⟨u,rfl,rx⟩:=dw rv;cases rx;obtain⟨its,r,pl,hz⟩:=I.list hq;have hlen:=r.length;have hfr:=I.hok.fresh (le_succ s.heap.objs.size);rcases h with⟨ns,rfl,q⟩ |⟨ps,hp,hd,q⟩
  . refine sorted_ints pl.isList (gj r) () λout ns' a1 a2 a3=>?_;obtain⟨c,hc⟩:=sortedAll_at s.heap its out;have e:=r6 a2 a3;subst e;refine⟨.ref (s.heap.objs.size+1),_,I.laid (λb o=>sortedAll_old) (le_succ _) ?_,rfl,q _ hfr⟩;refine⟨?_,out.toList,c,o3 a1,by simpa using hc⟩;rw[sizeLine_eq];simp[(eZ ns).length_eq]at h64 ⊢;lia
  . refine oy pl.isList () (hp.at I r) hd λp P a=>?_;obtain⟨c,hc⟩:=sortedAll_at s.heap its (lv its p);have hl:=hp.len;have pm:p.toList.Perm (range ys.length):=by rw[hlen];exact P.pm
    refine⟨.ref (s.heap.objs.size+1),_,I.laid (λb o=>sortedAll_old) (le_succ _) ?_,rfl,q _ p.toList hfr pm (we hd () ())⟩;refine⟨?_,_,c,xr r p.toList (λi hi=>by simpa using pm.mem_iff.mp hi),hc⟩;rw[sizeLine_eq];simp[P.sz];lia
end
end PR
namespace PR
open PySem PySem.Spec L2
section
noncomputable def prV(x:Int×Int):PV:=.tup [.int x.1,.int x.2]
noncomputable def lc:PV->Option (Int×Int)
 |.tup [.int a,.int b]=>some (a,b)
 |_=>none
def gW:ML->Option (Mx)
 | []=>some []
 |x::xs=>match lc x,gW xs with
  |some y,some ys=>some (y::ys)
  |_,_=>none
def ig:PV->MM
 | .lst _ xs=>if decide (xs.length < 64) then (match a9 xs with
  |some ns=>.ok (.lst .own ((j9 ns).map .int))
  |none=>match gW xs with
   |some ps=>if decide ps.Nodup then .ok (.lst .own ((fF ps).map prV))else .stuck
   |none=>.stuck)else .stuck
 |_=>.stuck
section
variable{X:Cx}{T:Tb}{W:Nat->St->MK}{Z:Zn}{F F1 B L:Mz}{H H1:Hp}{Y:St}{env:En}{fp:Nat->MD}
def wn(e:lc x=some y):x=prV y:=by
 unfold lc at e;split at e
 .cases e;rfl
 .cases e
theorem lb:∀{xs:ML}{vs:MJ}{f:MD}{ps:Mx},gW xs=some ps->RelL T F B L H xs vs f->PrH T.K H vs ps/\f=[]
 | [],_,_,_,e,r=>by cases e;obtain⟨rfl,rfl⟩:=r;exact⟨trivial,rfl⟩
 |x::xs,_,_,ps,e,r=>by
  obtain⟨v,ws,f1,f2,rfl,h1,h2,rfl⟩:=r;unfold gW at e;cases e1:lc x with
  |none=>rw[e1]at e;cases e
  |some y=>
   cases e2:gW xs with
   |none=>rw[e1,e2]at e;cases e
   |some ys=>rw[e1,e2]at e;cases e;obtain⟨q,rfl⟩:=lb e2 h2;have:=wn e1;subst this;obtain⟨a,us,rfl,hs,hr⟩:=h1;obtain⟨v1,w1,g1,g2,rfl,k1,k2,rfl⟩:=hr;obtain⟨v2,rfl,k3⟩:=RelL.one k2;obtain⟨rfl,rfl⟩:=k1;obtain⟨rfl,rfl⟩:=k3;exact⟨⟨⟨a,rfl,hs⟩,q⟩,rfl⟩
theorem PrH.rel:∀{vs:MJ}{ps:Mx},PrH T.K H vs ps->RelL T F B L H (ps.map prV) vs []
 | [],[],_=>i8 _ _ _ _
 |_::_,x::ps,⟨⟨a,e,h⟩,q⟩=>by subst e;refine⟨_,_,[],[],rfl,?_,q.rel,rfl⟩;refine⟨a,_,rfl,h,?_⟩;refine⟨_,_,[],[],rfl,dP,?_,rfl⟩;exact⟨_,_,[],[],rfl,dP,i8 _ _ _ _,rfl⟩
theorem PrH.get:∀{vs:MJ}{ps:Mx},PrH K H vs ps->∀i,i<vs.length->∃a,vs.getD i .non=.ref a/\SqT K H a [.int (ps.getD i (0,0)).1,.int (ps.getD i (0,0)).2]
 |_::_,_::_,⟨h,q⟩,0,_=>by simpa using h
 |_::_,_::_,⟨_,q⟩,i+1,hi=>by simpa using q.get i (by simp_all)
 | [],[],_,_,hi=>by simp at hi
def PrH.map(h:PrH K H vs ps)(q:List Nat)(hq:∀i∈q,i<vs.length):PrH K H (q.map λi=>vs.getD i .non) (q.map λi=>ps.getD i (0,0)):=by
 induction q with
 |nil=>trivial
 |cons i q ih=>exact⟨h.get i (hq i mem_cons_self),ih λj hj=>hq j (mem_cons_of_mem _ hj)⟩
def ul(ns:MB):RelL T F B L H (ns.map PV.int) (ns.map V.int) []:=by
 induction ns with
 |nil=>exact i8 _ _ _ _
 |cons a l ih=>exact⟨_,_,[],[],rfl,dP,ih,rfl⟩
theorem RelL.len2:∀{xs:ML}{vs:MJ}{f:MD},RelL T F B L H xs vs f->xs.length=vs.length
 | [],_,_,r=>by rw[r.1];rfl
 |x::xs,_,_,r=>by obtain⟨v,ws,f1,f2,rfl,_,h2,_⟩:=r;simp[h2.len2]
theorem sM(hK:X.K=T.K):Mir T W (p1 ig) (λxs H Q=>∃ p ys,xs=[.ref p]/\SqL X.K H p ys/\ys.length < 64 /\
    ((∃ ns,ys=ns.map V.int/\∀ l,H l=none->Q (.ref l) (upd H l (.lst ((j9 ns).map V.int)))) \/
     (∃ps,PrH X.K H ys ps/\ps.Nodup/\∀l (q:List Nat),H l=none->q.Perm (range ys.length)->q.map (λi=>ps.getD i (0,0))=fF ps->Q (.ref l) (upd H l (.lst (q.map λi=>ys.getD i .non)))))):=by
  intro B F L Y H Q F' H' xs vs fx g r nf nd new q
  match xs,r,q with
  | [x],r,q=>
    obtain⟨v,rfl,r1⟩:=r.one;simp only[p1]at q;cases x with
    |lst f xs=>
      obtain⟨a,ws,fp',rfl,hl,hr,_⟩:=r1;simp only[ig]at q;by_cases hn:decide (xs.length<64)=true
      . rw[if_pos hn]at q;refine⟨a,ws,rfl,by rw[hK];exact hl.sq,by rw[<- hr.len2];exact of_decide_eq_true hn,?_⟩;cases e1:a9 xs with
        |some ns=>rw[e1]at q;exact .inl ⟨ns,bT e1 hr,GE.newL q g (ul _) (λ_ h=>by cases h) .nil (λ_ h=>by cases h)⟩
        |none=>
          rw[e1]at q;cases e2:gW xs with
          |none=>rw[e2]at q;exact q.elim
          |some ps=>
            rw[e2]at q;dsimp only at q;by_cases hd:decide ps.Nodup=true
            . rw[if_pos hd]at q;obtain⟨hp,rfl⟩:=lb e2 hr;refine .inr ⟨ps,by lia,of_decide_eq_true hd,λl q' hl' pm e=>?_⟩;have h2:=hp.map q' λi hi=>by simpa using pm.mem_iff.mp hi
              rw[e]at h2;exact GE.newL q g h2.rel (λ_ h=>by cases h) .nil (λ_ h=>by cases h) l hl'
            . rw[if_neg hd]at q;exact q.elim
      . rw[if_neg hn]at q;exact q.elim
    |_=>exact q.elim
  | [],_,q=>exact q.elim
  |_::_::_,_,q=>simp only[p1]at q;exact q.elim
theorem xi:bootBuiltins "sorted"=some (.builtin "sorted"):=by decide +kernel
def vV(hK:X.K=T.K)(hg:Gl X "sorted")(hm:X.mg "sorted"=none)(ha:SE X T W e m)(he:starEach [e] X.env=[(false,eval e X.env)]:=by rfl):SE X T W (.Call (.Name "sorted" p) [e] [] pos) (af (p1 ig) (ab m ae)):=
 d_ rD (sM hK) hg hm xi (bU ha cN (by rw[he];rfl)) (he:=by rw[he];rfl)
end
section
variable{X:Cx}{T:Tb}{W:Nat->St->MK}{Z:Zn}{F:Mz}{H:Hp}{Y:St}{env:En}{fp:Nat->MD}
def yp(hg:Gl X x)(hm:∃t,X.mg x=some (.int i t))(hd:Nd x:=by decide):SE X T W (.Name x pos) (mC (.int i)):=by obtain⟨t,h⟩:=hm;exact yo hg h hd
end
def dJ(ns:MB):Bool:=ns.all λv=>decide (-1000000<=v/\v<=1000000)
def iJ:PV->MM:=λx=>match aV x with
 |some xs=>match a9 xs with
  |some ns=>if decide (ns.length<=1000)&&dJ ns then .ok (.int ns.sum)else .stuck
  |none=>.stuck
 |none=>.stuck
theorem oK(ns:MB):∀n,n<=ns.length->preSum (λi=>ns.getD i 0) n=(ns.take n).sum
 |0,_=>rfl
 |n+1,h=>by have hn:n<ns.length:=h;have e:preSum (λi=>ns.getD i 0) (n+1)=preSum (λi=>ns.getD i 0) n+ns.getD n 0:=rfl;rw[e,oK ns n (),List.take_add_one,getElem?_eq_getElem hn,toList_some,List.sum_append,List.sum_singleton];simp[hn]
theorem mS:∀{ns:MB},dJ ns=true->-(1000000*ns.length:Int)<= ns.sum/\ns.sum<=1000000*ns.length
 | [],_=>by simp
 |n::ns,h=>by
  simp only[dJ,all_cons,and_eq_true]at h;have:=mS (by simpa[dJ]using h.2);simp
  lia
def r8(h:dJ ns=true)(k:Nat):dJ (ns.take k)=true:=by simp only[dJ,all_eq_true]at h ⊢;exact λx hx=>h x (List.mem_of_mem_take hx)
section
variable{X:Cx}{T:Tb}{W:Nat->St->MK}{Z:Zn}{F F1 B L:Mz}{H H1:Hp}{Y:St}{env:En}{fp:Nat->MD}{js:My}{s:Shared}{a b:Expr}{ma mb:ME}{pos:Pos}
theorem pA(hc:X.calm=true):dr X (.builtin "sum") (λxs H Q=>∃p ns,xs=[.ref p]/\(SqL X.K H p (ns.map V.int)\/ SqT X.K H p (ns.map V.int))/\ns.length<=1000/\dJ ns=true/\Q (.int ns.sum) H):=by
 intro js s Y H xs us Q I rv h;obtain⟨p,ns,rfl,hq,hn,hsm,q⟩:=h;obtain⟨u,rfl,rx⟩:=dw rv;cases rx;have hh:=I.ok.hd hc;have fit:∀m,m=ns.length->∀j,j<m->InLong (ns.getD j 0)/\InLong (preSum (λi=>ns.getD i 0) (j+1)):=λm e j hj=>by
  subst e;have h1:ns.getD j 0∈ns:=by simp[hj]
  simp only[dJ,all_eq_true]at hsm;have h2:=hsm _ h1;have h3:=mS (r8 (k:=j+1) (show dJ ns=true by simpa[dJ]using hsm));rw[oK ns (j+1) hj];have h4:(ns.take (j+1)).length<=1000:=by simp;lia
  unfold InLong
  lia
 have key:∀{its:MC},aS (ns.map V.int) its->∀{h':Heap}{tk t':Nat},(∀b o,s.heap.get? b=some o->h'.get? b=some o)->EP X js Y Q (.int (preSum (λi=>ns.getD i 0) its.toArray.size) t') {s with heap:=h',toks:=tk}:=by
  intro its r h' tk t' k;have hl:its.toArray.size=ns.length:=by have:=r.length;simpa using this.symm
  rw[hl,oK ns _ (Nat.le_refl _),List.take_length];exact⟨.int _,H,fq I k,⟨t',rfl⟩,q⟩
 rcases hq with hq|hq
 .obtain⟨its,r,pl,hz⟩:=I.list hq;have hl:its.toArray.size=ns.length:=by have:=r.length;simpa using this.symm
  obtain⟨o,ho,hcl,n,hd⟩:=pl.isList;have hlt:=lt_size ho;refine call_sum_walk (wpAny_pyIter_list pl.isList ?_);refine⟨_,_,_,_,_,_,(λi=>ns.getD i 0),rfl,Walks.list (A:=X.A.in1) hh _ p (Nat.ne_of_lt hlt) its.toArray,⟨⟨_,get?_push_size _ rfl,rfl,rfl⟩,pl.isList.push _⟩,λb hb=>?_,dD r,fit _ hl,λh' tk t' hk=>key r (dM hk)⟩;rw[size_push];exact gR hlt rfl b hb
 .obtain⟨its,r,pl,hz⟩:=I.tuple hq;have hl:its.toArray.size=ns.length:=by have:=r.length;simpa using this.symm
  have pt:s.heap.IsTuple p its.toArray:=pl;obtain⟨o,ho,hcl,n,hd⟩:=pl;have hlt:=lt_size ho;refine call_sum_walk (wpAny_pyIter_tuple pt ?_);refine⟨_,_,_,_,_,_,(λi=>ns.getD i 0),rfl,Walks.tuple (A:=X.A.in1) hh _ p (Nat.ne_of_lt hlt) its.toArray,⟨⟨_,get?_push_size _ rfl,rfl,rfl⟩,pt.push _⟩,λb hb=>?_,dD r,fit _ hl,λh' tk t' hk=>key r (dM hk)⟩;rw[size_push];exact gR hlt rfl b hb
theorem CB(hK:X.K=T.K):Mir T W (p1 iJ) (λxs H Q=>∃p ns,xs=[.ref p]/\(SqL X.K H p (ns.map V.int)\/ SqT X.K H p (ns.map V.int))/\ns.length<=1000/\dJ ns=true/\Q (.int ns.sum) H):=by
 intro B F L Y H Q F' H' xs vs fx gr r nf nd new q
 match xs,r,q with
 | [x],r,q=>
  obtain⟨v,rfl,rv⟩:=RelL.one r;simp only[p1,iJ]at q;cases e:aV x with
  |none=>rw[e]at q;exact q.elim
  |some ys=>
   rw[e]at q;dsimp only at q;cases e2:a9 ys with
   |none=>rw[e2]at q;exact q.elim
   |some ns=>
    rw[e2]at q;dsimp only at q;obtain⟨a,us,fx',rfl,hs,hr,_⟩:=rv.seq e;have hu:=bT e2 hr;subst hu;split at q
    .rename_i hc
     simp at hc;exact⟨a,_,rfl,by lia,hc.1,hc.2,q.scal gr dP⟩
    .exact q.elim
 | [],_,q=>exact q.elim
 |_::_::_,_,q=>simp only[p1]at q;exact q.elim
theorem Hz:bootBuiltins "sum"=some (.builtin "sum"):=by decide +kernel
def Fm(hK:X.K=T.K)(hc:X.calm=true)(hg:Gl X "sum")(hm:X.mg "sum"=none)(ha:SE X T W e m)(he:starEach [e] X.env=[(false,eval e X.env)]:=by rfl):SE X T W (.Call (.Name "sum" p) [e] [] pos) (af (p1 iJ) (ab m ae)):=
 d_ (pA hc) (CB hK) hg hm Hz (bU ha cN (by rw[he];rfl)) (he:=by rw[he];rfl)
end
structure Sup(K:PySem.W.Frag)(C f:Addr):Prop where
 ga:specialIn K (.ref C) "__getattribute__"=some (some (.builtin "type.__getattribute__"))
 rd:readsIn K C (.type "type")=true
 fc:findCls K (.ref C) (.type "type") "__init__"=some (.val (.ref f))
 kp:PySem.W.keepIn K (.ref f)=true
def fD(m:ML->MM)(ms:MA):MS:=λenv=>match (env[(0:Nat)]?:Option (Option PV))with
 |some (some (.obj .own c ks vs))=>match ms env with
  |.ok xs=>if hasL Fl.MV xs then .stuck else match m (.obj .own c ks vs::mapL Fl.MP xs)with
   |.ok (.obj fl c' ks' vs')=>if(PV.obj fl c' ks' vs').has Fl.MW then .stuck else .next (env.set 0 (some (.obj fl c' ks' vs')))
   |_=>.stuck
  |.exc c=>.exc c env
  |.stuck=>.stuck
 |_=>.stuck
section
variable{X:Cx}{T:Tb}{W:Nat->St->MK}{Z:Zn}{F F1 F3:Mz}{H H1 H3:Hp}{Y:St}{env:En}{fp:Nat->MD}
theorem ax.sup(S:ax T Z F H Y env fp)(h0:Y[0]?=some (some v0))(hl:0<env.length)
  (nx:∀a∈fx,Z.H0 a=none\/Z.fp0 a) (nj:∀a∈fx,∀i,a∉fp i) (nF:∀a∈fx,¬F a) (cx:∀a∈fx,∃o,H a=some o/\Chg o)
  (hp3:b9 T ⟨H,F,(·∈fp 0++fx),B',some v0⟩ F3 H3) (r:Rel T F3 B' NoL H3 o v0 f3) (hb:o.has Fl.MW=false) (nd3:f3.Nodup) (nf3:∀a∈f3,¬F3 a) (new3:∀a∈f3,H a=none\/a∈fp 0++fx)
  (ho:∃fl c ks xs,o=.obj fl c ks xs):ax T Z F3 H3 Y (env.set 0 (some o)) (cv fp 0 f3):=by
 have zfree:∀a,H a=none->Z.H0 a=none\/Z.fp0 a:=λa z=>by
  by_cases q:Z.fp0 a
  .exact .inr q
  .refine .inl ?_;cases w:Z.H0 a with
   |none=>rfl
   |some o=>rw[S.hp.keep a o w q]at z;exact(nomatch z)
 have inn:∀a∈fp 0++fx,Z.H0 a=none\/Z.fp0 a:=λa h=>by
  rcases mem_append.mp h with h|h
  .exact S.new 0 a h
  .exact nx a h
 have jn:∀j,j≠0->∀a∈fp j,a∉fp 0++fx:=λj hj a ha z=>by
  rcases mem_append.mp z with z|z
  .exact S.dj j 0 hj a ha z
  .exact nj a z j ha
 have chgn:∀a∈fp 0++fx,∃o,H a=some o/\Chg o:=λa h=>by
  rcases mem_append.mp h with h|h
  .exact S.ch 0 a h
  .exact cx a h
 have rel':Rel T F3 Z.B NoL H3 o v0 f3:=Rel.noB hb r;refine⟨⟨S.hp.bo,λa u e n=>hp3.keep a u (S.hp.keep a u e n) λz=>?_,λa h=>hp3.f0 a (S.hp.f0 a h),λa h=>?_,hp3.ft⟩,by rw[length_set,S.len],λj pv e=>?_,λj=>?_,λj k hjk b hb=>?_,λj b hb=>?_,λj b hb=>?_,λj b hb=>?_,λw hw=>?_⟩
 .rcases inn a z with q|q
  .rw[e]at q;cases q
  .exact n q
 .rcases hp3.fn a h with z|z|z
  .exact S.hp.fn a z
  .exact .inr (zfree a z)
  .exact .inr (inn a z)
 .by_cases hj:j=0
  .subst hj;rw[getElem?_set_self hl]at e;cases e;refine⟨v0,h0,?_⟩;unfold cv;exact rel'
  .rw[getElem?_set_ne (Ne.symm hj)]at e;obtain⟨w,h1,h2⟩:=S.rel j pv e;refine⟨w,h1,?_⟩;unfold cv;rw[if_neg hj];refine Rel.tr (λa h=>hp3.f0 a h) (λ_ h=>h) (λ_ h=>h) (λb u q h=>hp3.keep b u q λz=>?_) (λb hb u q=>hp3.keep b u q (jn j hj b hb)) h2;rcases h with h|h|h|h
   .rcases mem_append.mp z with z|z
    .exact(S.dis 0 b z).1 h
    .exact nF b z h
   .obtain⟨⟨o',e1⟩,e2⟩:=S.hp.bo.1 b h;rcases inn b z with q'|q'
    .lia
    .exact e2 q'
   .exact h
   .obtain⟨o',e1,e2⟩:=chgn b z;have q1:H b=some u:=q;rw[q1]at e1;cases e1;cases u with
    |lst _|ins _ _ _=>exact h
    |_=>exact e2
 .unfold cv;split
  .exact nd3
  .exact S.nd j
 .grind[cv,ax,b9,Gr]
 .unfold cv at hb;by_cases h1:j=0
  .rw[if_pos h1]at hb;exact⟨nf3 b hb,r.there b hb⟩
  .rw[if_neg h1]at hb;obtain⟨n,u,e⟩:=S.dis j b hb;refine⟨λz=>?_,u,hp3.keep b u e (jn j h1 b hb)⟩;rcases hp3.fn b z with q|q|q
   .exact n q
   .lia
   .exact jn j h1 b hb q
 .unfold cv at hb;by_cases h1:j=0
  .rw[if_pos h1]at hb;rcases new3 b hb with q|q
   .exact zfree b q
   .exact inn b q
  .rw[if_neg h1]at hb;exact S.new j b hb
 .unfold cv at hb;by_cases h1:j=0
  .rw[if_pos h1]at hb;exact r.chg b hb
  .rw[if_neg h1]at hb;obtain⟨u,e,c⟩:=S.ch j b hb;exact⟨u,hp3.keep b u e (jn j h1 b hb),c⟩
 .obtain⟨h1,h2⟩:=S.pn w hw;refine⟨h1,?_⟩;obtain⟨fl,c,ks,xs,e⟩:=ho;subst e;unfold d5;rw[getElem?_set_self hl]
theorem E1
  (cx:Ctx X T W kk) (U:Sup X.K C f) (G:cF X.prog X.w X.K X.mg X.base (CXP X.prog X.w) k f fd ps (spI T ps.length m)) (hk:k<=kk) (hg:Gl X x) (hm:X.mg x=some (.ref C)) (hb:eK X.K fd ps [])
  (hN:X.N[0]?=some y) (hv:Vis X.env.scope y) (hn:hV ms n) (hps:n+1=ps.length) (ha:SA X T W es ms)
  (hdb:Nd x:=by decide) (hdy:Nd y:=by decide) (hcy:Nc y:=by decide)
  (hst:starEach (.Name y px::es) X.env=(false,eval (.Name y px) X.env)::starEach es X.env:=by rfl) (hpl:(backTo pos (starEach es X.env)).any (·.1)=false:=by rfl)
  (ht:eval (.Call (.Attribute (.Name x p) "__init__" apos) (.Name y px::es) [] pos) X.env=(do
   let ov <- eval (.Name x p) X.env
   standAt apos.atName
   let(f,first) <- holding [ov] (getMethod ov "__init__" pl)
   callWith pos f first (backTo pos (starEach (.Name y px::es) X.env)) (backToKw pos (keywordEach [] X.env))):=by rfl)
  (hs:swapsWith (.Call (.Attribute (.Name x p) "__init__" apos) (.Name y px::es) [] pos) none pos'.line X.env=pure false:=by rfl) :
  SS X T W (.Expr (.Call (.Attribute (.Name x p) "__init__" apos) (.Name y px::es) [] pos) pos') (fD m ms):=by
 have pe:PE X (.Call (.Attribute (.Name x p) "__init__" apos) (.Name y px::es) [] pos) (λY H Q=>∃ Z F env fp,ax T Z F H Y env fp/\(match fD m ms env with
   |.next e=>∀F' H' fp',ax T Z F' H' Y e fp'->Q .non H'
   |.exc c e=>∀F' H' fp',ax T Z F' H' Y e fp'->W c Y H'
   |_=>False)):=by
  intro js s Y H Q I h;obtain⟨Z,F,env,fp,S,q⟩:=h;refine PySem.W.methodCall_KW (kJ I hg hm ?_ hdb) ht;refine PySem.W.method_cls I.kIn U.ga (PySem.W.cls_value I.kIn U.rd U.fc rfl ?_);have I':=I.tok (s.toks+1);unfold fD at q;cases e0:env[0]? with
  |none=>rw[e0]at q;exact q.elim
  |some o0=>
  cases o0 with
  |none=>rw[e0]at q;exact q.elim
  |some ov=>
  obtain⟨v0,hv0,r0⟩:=S.rel 0 ov e0;have hl0:0<env.length:=(List.getElem?_eq_some_iff.mp e0).1;rw[e0]at q;by_cases hob:∃c ks vs,ov=.obj .own c ks vs
  case neg=>
   exfalso;cases ov with
   |obj fl c ks vs=>
    cases fl with
    |own=>exact hob ⟨_,_,_,rfl⟩
    |_=>exact q
   |_=>exact q
  obtain⟨c,ks,vs0,rfl⟩:=hob;dsimp only at q;have pa:=cy (gx hN hv hdy hcy) ha hst;refine callWith_K I'.ok.mod.kin U.kp (thn (pa pos js _ Y H (λvs H1=>∀ us s1,L2.Inv X js Y H1 s1->aS vs us->wpAny (model X.prog X.w) X.A (call (.ref f) us) (EP X js Y Q) X.xe s1) I'
   ⟨v0,hv0,tA.bind S (λc e=>?_) (λe=>by lia) λxs vs H1 F1 f1 e1 g1 r1 n1 d1 w1 us s1 I1 rv=>?_⟩) λus s1 ⟨vs,H1,I1,r,q1⟩=>⟨I1.kIn,q1 us s1 I1 r⟩) hst hpl
  .rw[e]at q;exact λH' x=>q F H' fp (S.grow (Gr.same S.hp.ft x))
  rw[e1]at q;dsimp only at q;by_cases hln:hasL Fl.MV xs=true
  .lia
  rw[if_neg hln]at q;have hln':hasL Fl.MV xs=false:=by lia
  have S1:=S.grow g1;obtain⟨v0',hv0',r0'⟩:=S1.rel 0 _ e0;rw[hv0]at hv0';cases hv0';have xn:∀a∈f1,∀i,a∉fp i:=λa ha i hi=>by obtain⟨_,o,e⟩:=S.dis i a hi;rw[w1 a ha]at e;cases e
  have xz:∀a∈f1,Z.H0 a=none\/Z.fp0 a:=λa ha=>by
   by_cases q:Z.fp0 a
   .exact .inr q
   .refine .inl ?_;cases w:Z.H0 a with
    |none=>rfl
    |some o=>have:=w1 a ha;rw[S.hp.keep a o w q]at this;cases this
  have hBo:∀a,Z.B a->(∃o,H1 a=some o)/\a∉fp 0++f1:=λa h=>by
   obtain⟨⟨o,h1⟩,h2⟩:=S.hp.bo.1 a h;have h3:=S.hp.keep a o h1 h2;refine⟨⟨o,g1.ext a o h3⟩,λz=>?_⟩;rcases mem_append.mp z with z|z
   .exact S.bow a h ⟨0,z⟩
   .simp_all
  have R:xp T F1 (λa=>(∃o,H1 a=some o)/\a∉fp 0++f1) H1 (.obj .own c ks vs0::mapL Fl.MP xs) (v0::vs) (fp 0++f1):=by
   refine⟨?_,nodup_append.mpr ⟨S.nd 0,d1,λa ha b hb z=>by simp_all⟩,λa ha=>?_,⟨λa h=>h,S.tbo g1.ext λa z=>(mem_append.mp z).elim (λz=>.inr ⟨0,z⟩) λz=>.inl (w1 a z)⟩,g1.dom⟩
   .unfold RelL;refine⟨v0,vs,fp 0,f1,rfl,Rel.tr (λ_ h=>h) hBo (λ_ h=>h) (λ_ _ q _=>q) (λ_ _ _ q=>q) r0',?_,rfl⟩;exact RelL.MP hBo (λ_ h=>h.elim) (RelL.noL (L':=NoL) hln' r1)
   .rcases mem_append.mp ha with ha|ha
    .exact(S1.dis 0 a ha).1
    .exact n1 a ha
  have r2:aS (v0::vs) us:=rv;have hl:us.length=ps.length:=by rw[<- r2.length,length_cons,<- r1.length,hn env xs e1];exact hps
  refine wpAny_call (codeAny_mono (G.run X.A X.stack s1 H1 ⟨us,[]⟩ us (v0::vs) Q (λcls _ H'=>∃ c,cls=.ref (T.xcl c)/\W c Y H') (cx.room.mono hk) I1.env0 (by simpa using hb s1 us I1.kIn (by simpa using hl)) r2
   ⟨by rw[r2.length,hl],v0,_,F1,_,_,rfl,R,⟨.own,c,ks,vs0,rfl⟩,?_⟩) λrs s' hq=>?_)
  .cases e:m (.obj .own c ks vs0::mapL Fl.MP xs)with
   |ok o=>
    rw[e]at q;cases o with
    |obj fl c' ks' vs'=>
     dsimp only at q;by_cases hbr:(PV.obj fl c' ks' vs').has Fl.MW=true
     .lia
     .rw[if_neg hbr]at q;have hbr':(PV.obj fl c' ks' vs').has Fl.MW=false:=by lia
      intro F3 H3 f3 hp3 r3 nd3 nf3 new3;exact q F3 H3 _ (S1.sup hv0 hl0 xz xn n1 r1.chg hp3 r3 hbr' nd3 nf3 new3 ⟨_,_,_,_,rfl⟩)
    |_=>exact q.elim
   |exc c|stuck=>rw[e]at q;exact q.elim
  .cases rs with
   |error e=>obtain⟨cls,H',fl,c,rfl,hw⟩:=hq;exact cx.xf js Y H1 s1 c H' e s' I1 fl hw
   |ok fl=>
    cases fl with
    |ret u=>exact I1.after hq
    |next|brk|cont=>exact False.elim hq
 exact PS.wk (oJ pe hs) λD Y H hz1=>by
  walk_at "b";refine⟨Z,F,env,fp,S,?_⟩;cases e:fD m ms env with
  |next e'|exc c e'=>rw[e]at q;exact λF' H' fp' S'=>q F' H' Y fp' S'
  |ret v=>
   exfalso;revert e;unfold fD;split
   .lia
   .simp
  |brk e'=>
   exfalso;revert e;unfold fD;split
   .lia
   .simp
  |cont e'=>
   exfalso;revert e;unfold fD;split
   .lia
   .simp
  |stuck=>rw[e]at q;exact q
end
end
section
noncomputable def whL(c:MT)(b:MS):Nat->MS
 |0,_=>.stuck
 |k+1,env=>match c env with
  |.ok true=>match b env with
   |.next e|.cont e=>whL c b k e
   |.brk e=>.next e
   |.ret v=>.ret v
   |.exc x e=>.exc x e
   |.stuck=>.stuck
  |.ok false=>.next env
  |.exc x=>.exc x env
  |.stuck=>.stuck
def gD(c:MT)(b:MS):MS:=whL c b 100000
section
variable{X:Cx}{T:Tb}{W:Nat->St->MK}
def xN(hp:PassesOwn (model X.prog X.w) X.A X.env X.xe)(hc:ST X T W c mc)(hb:SSs X T W body mb):SS X T W (.While c body [] pos) (gD mc mb):=
 PS.wk (yI hp hc hb) λD Y H hz1=>by
  walk_at "b";refine⟨λm σ' H'=>∃F' env' fp',ax T Z F' H' σ' env' fp'/\GS T W Z D (whL mc mb m env'),⟨100000,F,env,fp,S,q⟩,?_⟩;rintro m σ' H' ⟨F',env',fp',S',q'⟩;cases m with
  |zero=>exact q'.elim
  |succ k=>
   unfold whL at q';refine tT.bind S' (λc e H2 x=>?_) (λe=>by rw[e]at q';exact q') λb H1 F1 e g=>?_
   .rw[e]at q';exact q' F' H2 σ' fp' (S'.grow (Gr.same S'.hp.ft x))
   .cases b with
    |false=>rw[e]at q';exact(if_neg ()).mpr (q' F1 H1 σ' fp' (S'.grow g))
    |true=>
     rw[e]at q';dsimp only at q';refine(if_pos rfl).mpr ⟨λσ2 H2=>∃F2 env2 fp2,ax T Z F2 H2 σ2 env2 fp2/\GS T W Z D (whL mc mb k env2),λσ2 H2 h=>⟨k,Nat.lt_succ_self k,h⟩,Z,F1,env',fp',S'.grow g,?_⟩;cases eb:mb env' with
     |next e2|cont e2=>rw[eb]at q';exact λF3 H3 σ3 fp3 S3=>⟨F3,e2,fp3,S3,q'⟩
     |brk e2|ret v|exc c e2|stuck=>rw[eb]at q';exact q'
end
noncomputable def eH:ML->Option (List Bool)
 | []=>some []
 |.bl b::xs=>(eH xs).map (b::·)
 |_=>none
def sD(f:List Bool->Bool):PV->MM
 |.lst _ xs=>match eH xs with
  |some bs=>.ok (.bl (f bs))
  |none=>.stuck
 |_=>.stuck
def mH(bs:List Bool):Bool:=bs.all id
section
variable{X:Cx}{T:Tb}{W:Nat->St->MK}{Z:Zn}{F F1 B L:Mz}{H H1:Hp}{Y:St}{env:En}{fp:Nat->MD}{js:My}{s:Shared}
theorem n6:∀{xs:ML}{vs:MJ}{f:MD}{bs:List Bool},eH xs=some bs->RelL T F B L H xs vs f->vs=bs.map V.bl
 | [],_,_,_,e,h=>by simp only[eH,Option.some.injEq]at e;subst e;rw[h.1];rfl
 |.bl b::xs,_,_,bs,e,h=>by
  simp only[eH]at e;cases e2:eH xs with
  |none=>rw[e2]at e;cases e
  |some ms=>rw[e2]at e;cases e;obtain⟨v,ws,f1,f2,rfl,h1,h2,_⟩:=h;rw[h1.1,n6 e2 h2];rfl
 |.non::_,_,_,_,e,_|.int _::_,_,_,_,e,_|.str _::_,_,_,_,e,_|.lst _ _::_,_,_,_,e,_|.tup _::_,_,_,_,e,_|.obj _ _ _ _::_,_,_,_,e,_|.exc _::_,_,_,_,e,_|.box _ _::_,_,_,_,e,_=>by simp[eH]at e
theorem AB:∀{bs:List Bool}{its:MC},aS (bs.map V.bl) its->∀(i:Nat) (v:Value),its.toArray[i]?=some v->v=.bool (bs.getD i false)
 | [],_,r,i,v,e=>by cases r;simp at e
 |b::bs,_,r,i,v,e=>by
  cases r with
  |cons r1 r2=>
   cases i with
   |zero=>simp at e;subst e;exact r1
   |succ i=>exact AB r2 i v (by simpa using e)
def BX(bs:List Bool)(n:Nat)(h:n=bs.length):(range n).all (λi=>bs.getD i false)=mH bs:=by
 subst h;unfold mH;rw[Bool.eq_iff_iff,all_eq_true,all_eq_true];refine⟨λz x hx=>?_,λz i hi=>?_⟩
 .obtain⟨i,hi,e⟩:=getElem_of_mem hx;have:=z i (mem_range.mpr hi);rw[<- e];simpa[hi]using this
 .have hi':=mem_range.mp hi;have:=z bs[i] (getElem_mem hi');simpa[hi']using this
def xc{bs:List Bool}{its:MC}(r:aS (bs.map V.bl) its):TruthOf X.prog X.w A (λi v=>its.toArray[i]?=some v) (λi=>bs.getD i false):=λi v s Q E hP hQ=>by rw[AB r i v hP];exact wpAny_truthy_bool hQ
def pG(hc:X.calm=true):dr X (.builtin "all") (λxs H Q=>∃p bs,xs=[.ref p]/\SqL X.K H p (bs.map V.bl)/\Q (.bl (mH bs)) H):=by
 intro js s Y H xs us Q I rv h;obtain⟨p,bs,rfl,hq,q⟩:=h;obtain⟨u,rfl,rx⟩:=dw rv;cases rx;have hh:=I.ok.hd hc;obtain⟨its,r,pl,hz⟩:=I.list hq;have hl:its.toArray.size=bs.length:=by have:=r.length;simpa using this.symm
 obtain⟨o,ho,hcl,n,hd⟩:=pl.isList;have hlt:=lt_size ho;have key:∀{h':Heap}{tk:Nat},(∀b o,s.heap.get? b=some o->h'.get? b=some o)->EP X js Y Q (.bool (mH bs)) {s with heap:=h',toks:=tk}:=λk=>⟨.bl _,H,fq I k,rfl,q⟩
 refine call_all_walk (wpAny_pyIter_list pl.isList ?_);refine⟨_,_,_,_,_,_,(λi=>bs.getD i false),rfl,Walks.list (A:=X.A.in1) hh _ p (Nat.ne_of_lt hlt) its.toArray,⟨⟨_,get?_push_size _ rfl,rfl,rfl⟩,pl.isList.push _⟩,xc r,λh' tk hk=>?_⟩;rw[BX bs _ hl];exact key (dM hk)
def CH(hK:X.K=T.K)(f:List Bool->Bool):Mir T W (p1 (sD f)) (λxs H Q=>∃p bs,xs=[.ref p]/\SqL X.K H p (bs.map V.bl)/\Q (.bl (f bs)) H):=by
 intro B F L Y H Q F' H' xs vs fx gr r nf nd new q
 match xs,r,q with
 | [x],r,q=>
  obtain⟨v,rfl,rv⟩:=RelL.one r;simp only[p1]at q;cases x with
  |lst fl ys=>
   simp only[sD]at q;cases e2:eH ys with
   |none=>rw[e2]at q;exact q.elim
   |some bs=>rw[e2]at q;obtain⟨a,us,fp',rfl,hl,hr,_⟩:=rv;have hu:=n6 e2 hr;subst hu;exact⟨a,_,rfl,by rw[hK];exact hl.sq,q.scal gr fT⟩
  |_=>exact q.elim
 | [],_,q=>exact q.elim
 |_::_::_,_,q=>simp only[p1]at q;exact q.elim
theorem HD:bootBuiltins "all"=some (.builtin "all"):=by decide +kernel
def FM(hK:X.K=T.K)(hc:X.calm=true)(hg:Gl X "all")(hm:X.mg "all"=none)(ha:SE X T W e m)(he:starEach [e] X.env=[(false,eval e X.env)]:=by rfl):SE X T W (.Call (.Name "all" p) [e] [] pos) (af (p1 (sD mH)) (ab m ae)):=
 d_ (pG hc) (CH hK mH) hg hm HD (bU ha cN (by rw[he];rfl)) (he:=by rw[he];rfl)
end
end
section
def iN:PV->MM
 |.bl b=>.ok (.int (if b then 1 else 0))
 |.int i=>.ok (.int i)
 |_=>.stuck
section
variable{X:Cx}{T:Tb}{W:Nat->St->MK}
def rE:dr X (.type "int") (λxs H Q=>(∃b,xs=[.bl b]/\Q (.int (if b then 1 else 0)) H)\/ ∃i,xs=[.int i]/\Q (.int i) H):=by
 intro js s Y H xs us Q I rv h;rcases h with⟨b,rfl,q⟩ |⟨i,rfl,q⟩
 .obtain⟨u,rfl,rx⟩:=dw rv;cases rx;exact PySem.call_int_bool ⟨.int _,H,fq I λ_ _ e=>e,⟨_,rfl⟩,q⟩
 .obtain⟨u,rfl,rx⟩:=dw rv;obtain⟨t,rfl⟩:=rx;exact PySem.call_int_int ⟨.int _,H,I,⟨_,rfl⟩,q⟩
def wE:Mir T W (p1 iN) (λxs H Q=>(∃b,xs=[.bl b]/\Q (.int (if b then 1 else 0)) H)\/ ∃i,xs=[.int i]/\Q (.int i) H):=by
 intro B F L Y H Q F' H' xs vs fx g r nf nd new q
 match xs,r,q with
 | [x],r,q=>
  obtain⟨v,rfl,r1⟩:=r.one;cases x with
  |bl b=>unfold Rel at r1;obtain⟨rfl,_⟩:=r1;exact .inl ⟨b,rfl,q.scal g dP⟩
  |int i=>unfold Rel at r1;obtain⟨rfl,_⟩:=r1;exact .inr ⟨i,rfl,q.scal g dP⟩
  |_=>exact q.elim
 | [],_,q|_::_::_,_,q=>exact q.elim
def yi(hg:Gl X "int")(hm:X.mg "int"=none)(ha:SE X T W e m)(he:starEach [e] X.env=[(false,eval e X.env)]:=by rfl):SE X T W (.Call (.Name "int" p) [e] [] pos) (af (p1 iN) (ab m ae)):=
 eV rE wE hg hm HC (bU ha cN he) (he:=he)
end
open AutoSeq1 (wpAny_loadPart')
section
variable{prog:Program}{w:World}{A:Around}{E:Mv}{s:Shared}
theorem j7(ft:TypeCalled T nI iI)
  (c1:checkTypeCall T ⟨us,kw⟩=pure .unit) (c2:checkBuiltinCall nI ⟨.type T::us,kw⟩=pure .unit) (eN:entryFor table nI=some Bn) (eI:entryFor table iI=some Bi) (g:Meets (Bn ⟨.type T::us,kw⟩) S)
  (h:S A.in1 (wants Q1 E) s) (nx:∀ob s1,Q1 ob s1->s1.TypeIs ob T/\argsOk iI ⟨ob::us,kw⟩/\∃Si,Meets (Bi ⟨ob::us,kw⟩) Si/\Si A.in1 (wants (λr s2=>r=.none/\Q ob s2) E) s1) :
  wpAny (model prog w) A (call (.type T) us kw) Q E s:=by
 obtain⟨cc,tt,hmro⟩:=ft.mro;have hmade:=ft.made;have hsub:=ft.sub;have h1:=ft.notType;have h2:=ft.canCreate;refine wpAny_call (codeAny_of_tree (show wpAny _ _ (callAny (.type T) _) _ _ _ from wpAny_pure ⟨Code.quiet_builtin _ (by decide +kernel),codeAny_builtin F.entry_type_call ?_⟩))
 repeat (any_goals (first|assumption|wp_step|fail))
 refine codeAny_mono (codeAny_call_builtin ft.plain eN (wpAny_of_eq c2 (g prog w A.in1 _ s h))) λr s1 hr=>?_;cases r with
 |error e=>exact hr
 |ok fl=>
  cases fl with
  |ret ob=>
   obtain⟨hT,hok,Si,gi,hsi⟩:=nx _ _ hr;have hli:=ft.init.lookup;have hbi:=ft.init.bind ob
   repeat (any_goals (first|assumption|wp_step|fail))
   refine codeAny_mono (codeAny_call_builtin ft.init.plain eI (ft.init.check _ _ _ _ _ _ _ _ hT hok (gi prog w A.in1 _ s1 hsi))) λr2 s2 hr2=>?_;cases r2 with
   |error e=>exact hr2
   |ok fl2=>
    cases fl2 with
    |ret r=>
     obtain⟨rfl,hq⟩:=hr2
     repeat (any_goals (first|assumption|wp_step|fail))
    |_=>exact hr2.elim
  |_=>exact hr.elim
def Ee(hl:typeLookup (.type T) "__init__"=pure (some (.builtin "object.__init__")))(hm:Bind.madeBy (.type T)=pure (some nI))(hne:(some nI != some "object.__new__")=true) :
  Meets (Builtin.«object.__init__» ⟨[self,a],kw⟩) (λ_ R s=>s.TypeIs self T/\R (.ok (.ret .none)) s):=by
 refine Meets.of_wp λpr w A R s0 hs=>?_;obtain⟨hT,hq⟩:=hs
 repeat (any_goals (first|assumption|wp_step|fail))
 exact⟨_,rfl,hq⟩
def cK1(a v:Value):checkTypeCall "enumerate" ⟨[a],[("start",v)]⟩=pure .unit:=by kernel_rfl
def cK2(a v:Value):checkBuiltinCall "enumerate.__new__" ⟨[.type "enumerate",a],[("start",v)]⟩=pure .unit:=by kernel_rfl
def cK3(a b v:Value):argsOk "object.__init__" ⟨[a,b],[("start",v)]⟩:=by
 unfold argsOk
 kernel_rfl
noncomputable abbrev itO(n:String)(l:Addr):Obj:={cls:=.type n,data:=.fields #[.ref l,.int 0 0]}
noncomputable abbrev enO(it:Addr)(i:Int):Obj:={cls:=.type "enumerate",data:=.fields #[.none,.bool false,.ref it,rawInt i,.none,.none]}
def om(n:String)(l:Addr)(s:Shared):Prop:=∀(pr:Program) (w:World) (A:Around) (Q:Mv) (E:Mv),Q (.ref s.heap.objs.size) {s with heap:=s.heap.push (itO n l)}->wpAny (model pr w) A (pyIter (.ref l)) Q E s
def JT(n:String)(l:Addr)(t:Tok) :
  Meets (Builtin.«enumerate.__new__» ⟨[.type "enumerate",.ref l],[("start",.int 1 t)]⟩) (λ_ R s=>om n l s/\R (.ok (.ret (.ref (s.heap.push (itO n l)).objs.size))) {s with heap:=(s.heap.push (itO n l)).push (enO s.heap.objs.size 1)}):=
 .of_wp λpr w A R s0 h=>by
  obtain⟨hp,g,d,tk,os⟩:=s0;obtain⟨hI,h⟩:=h;have hsub:=sub_enumerate;have hJ:∀{Q:Mv}{E:Mv},Q (.ref hp.objs.size) ⟨hp.push (itO n l),g,d,tk,os⟩->wpAny (model pr w) A.in1 (pyIter (.ref l)) Q E ⟨hp,g,d,tk,os⟩:=λ{Q E} q=>hI pr w A.in1 Q E q;have hJ':∀{Q:Mv}{E:Mv},Q (.ref hp.objs.size) ⟨hp.push (itO n l),g,d,tk,os⟩->wpAny (model pr w) A (pyIter (.ref l)) Q E ⟨hp,g,d,tk,os⟩:=λ{Q E} q=>hI pr w A Q E q
  wp_walk
  refine wpAny_stack_any λst=>wpAny_pure ?_;split<;>try (rename_i c _ _ _ _ _;cases(c==Value.type "enumerate"))
  all_goals (wp_walk using hJ,hJ')
  all_goals exact⟨_,rfl,h⟩
def Ht(hI:om n l s)(h:Q (.ref (s.heap.objs.size+1)) {s with heap:=(s.heap.push (itO n l)).push (enO s.heap.objs.size 1)}) :
  wpAny (model prog w) A (call (.type "enumerate") [.ref l] [("start",.int 1 t)]) Q E s:=by
 have hz:(s.heap.push (itO n l)).objs.size=s.heap.objs.size+1:=size_push ..
 refine j7 (Q1:=λob s1=>s1.TypeIs ob "enumerate" /\ Q ob s1) F.called_enumerate (cK1 _ _) (cK2 _ _) F.entry_enumerate_new F.entry_object_init (JT n l t) ⟨hI,?_⟩ λob s1 hq=>⟨hq.1,cK3 ob _ _,_,Ee F.called_enumerate.init.lookup F.called_enumerate.made (),hq.1,rfl,hq.2⟩
 rw[hz];have:=get?_push_size (s.heap.push (itO n l)) (o:=enO s.heap.objs.size 1) rfl;rw[hz]at this;exact⟨⟨_,this,rfl⟩,h⟩
def y7(hit:s.heap.IsTupleIter it t i)(ht:s.heap.IsTuple t items)(hx:items[i]?=some x)
  (hQ:∀h',h'.IsTupleIter it t (i+1)->SameBut it s.heap h'->Q x {s with heap:=h'}):wpAny (model prog w) A (Builtin.SmallTypes.nextOf (.ref it)) Q E s:=by
 obtain⟨o,ho,hc,hd⟩:=id hit;obtain⟨o2,ho2,_,n2,hd2⟩:=ht;refine wpAny_bind (wpAny_callSpecial?_slot hit.typeIs F.slot_tuple_iterator_next (wpAny_call_entry F.slot_tuple_iterator_next hit.typeIs F.entry_tuple_iterator_next ?_ (F.args_tuple_iterator_next_1 _)));refine(show wpAny _ _ (field (.ref it) 0 >>= _) _ _ s from wpAny_bind (wpAny_field ho hd (x:=.ref t) rfl ?_));refine(show wpAny _ _ (if(Value.ref t==Value.none)=true then _ else _) _ _ s from ?_);refine(show wpAny _ _ (field (.ref it) 1 >>= _) _ _ s from wpAny_bind (wpAny_field ho hd rfl ?_));refine(show wpAny _ _ (seqItems? (.ref t) >>= _) _ _ s from wpAny_bind (wpAny_seqItems ho2 hd2 ?_));simp only[Int.toNat_natCast,hx];refine wpAny_bind (wpAny_setField ho hd () (wpAny_pure ⟨x,rfl,wpAny_pure (hQ _ ⟨_,get?_update_self _ ho (Obj.isFreed_of_fields (Obj.data_mapFields hd _)),(Obj.cls_mapFields ..).trans hc,by rw[Obj.data_mapFields hd];simp[rawInt]⟩ (SameBut.update ..))⟩))
theorem Cu(hh:A.handled=none)(hit:s.heap.IsTupleIter it t i)(ht:s.heap.IsTuple t items)(hx:items[i]?=none)
  (hE:∀h' e,ExtBut it s.heap h'->(∃o,h'.get? e=some o/\o.cls=.type "StopIteration")->E (.ref e) {s with heap:=h'}):wpAny (model prog w) A (Builtin.SmallTypes.nextOf (.ref it)) Q E s:=by
 obtain⟨o,ho,hc,hd⟩:=id hit;obtain⟨o2,ho2,_,n2,hd2⟩:=ht;refine wpAny_bind (wpAny_callSpecial?_slot hit.typeIs F.slot_tuple_iterator_next (wpAny_call_entry F.slot_tuple_iterator_next hit.typeIs F.entry_tuple_iterator_next ?_ (F.args_tuple_iterator_next_1 _)));refine(show wpAny _ _ (field (.ref it) 0 >>= _) _ _ s from wpAny_bind (wpAny_field ho hd (x:=.ref t) rfl ?_));refine(show wpAny _ _ (if(Value.ref t==Value.none)=true then _ else _) _ _ s from ?_);refine(show wpAny _ _ (field (.ref it) 1 >>= _) _ _ s from wpAny_bind (wpAny_field ho hd rfl ?_));refine(show wpAny _ _ (seqItems? (.ref t) >>= _) _ _ s from wpAny_bind (wpAny_seqItems ho2 hd2 ?_));simp only[Int.toNat_natCast,hx];refine wpAny_bind (wpAny_rule (wpAny_bind (wpAny_setField ho hd () (show wpAny _ _ (newExc (.type "StopIteration") [] >>= _) _ _ _ from wpAny_bind ?_))));refine wpAny_bind (wpAny_newObj_type (wpAny_bind (wpAny_of_eq (a:=Value.none) (by first|rfl |(simp;rfl)) (wpAny_newObj_type ?_ (by size_fits)))) (by size_fits));refine wpAny_bind (wpAny_handled ?_)
 first|rw[show A.in1.handled=none from hh]|rw[hh]|skip
 exact wpAny_bind (wpAny_pure (wpAny_throw (hE _ _ (((SameBut.update ..).extBut.push _).push _) ⟨_,get?_push_size _ rfl,rfl⟩)))
inductive iV(h:Heap)(it l:Addr)(its:MH)(i:Nat):Prop
 |lst (a:h.IsListIter it l i) (b:h.IsList l its)
 |tup (a:h.IsTupleIter it l i) (b:h.IsTuple l its)
def iV.at(x:iV h it l its i)(k1:∀o,h.get? it=some o->h'.get? it=some o)(k2:∀o,h.get? l=some o->h'.get? l=some o):iV h' it l its i:=by
 rcases x with⟨⟨o,e,r⟩,⟨o2,e2,r2⟩⟩ |⟨⟨o,e,r⟩,⟨o2,e2,r2⟩⟩
 .exact .lst ⟨o,k1 o e,r⟩ ⟨o2,k2 o2 e2,r2⟩
 .exact .tup ⟨o,k1 o e,r⟩ ⟨o2,k2 o2 e2,r2⟩
def iV.obj(x:iV h it l its i):∃o,h.get? it=some o/\∀v,o.data≠.cell v:=by
 rcases x with⟨⟨o,e,_,d⟩,_⟩ |⟨⟨o,e,_,d⟩,_⟩
 .exact⟨o,e,λv z=>by lia⟩
 .exact⟨o,e,λv z=>by lia⟩
def Ct(hi:iV s.heap it l its i)(hne:l≠it)(hx:its[i]?=some x)(hQ:∀h',iV h' it l its (i+1)->SameBut it s.heap h'->Q x {s with heap:=h'}) :
  wpAny (model prog w) A (Builtin.SmallTypes.nextOf (.ref it)) Q E s:=by
 rcases hi with⟨a,b⟩ |⟨a,b⟩
 .exact wpAny_nextOf_list_item a b hx λh' q sb=>hQ h' (.lst q (b.extBut sb.extBut hne)) sb
 .exact y7 a b hx λh' q sb=>hQ h' (.tup q (b.extBut sb.extBut hne)) sb
def GL(hh:A.handled=none)(hi:iV s.heap it l its i)(hx:its[i]?=none)
  (hE:∀h' e,ExtBut it s.heap h'->(∃o,h'.get? e=some o/\o.cls=.type "StopIteration")->E (.ref e) {s with heap:=h'}):wpAny (model prog w) A (Builtin.SmallTypes.nextOf (.ref it)) Q E s:=by
 rcases hi with⟨a,b⟩ |⟨a,b⟩
 .exact wpAny_nextOf_list_end hh a b hx hE
 .exact Cu hh a b hx hE
theorem Dz{Q:Mv}(he:IsEnum s.heap e it k old)(hi:iV s.heap it l its i)(hne:e≠it)(hli:l≠it)(hle:l≠e)(hx:its[i]?=some x)
  (hQ:∀ h',IsEnumOut h' e it (k+1) x s.heap.objs.size->iV h' it l its (i+1)->h'.get? s.heap.objs.size=some { cls:=.type "tuple", data:=.seq #[.int k s.toks,x] }->h'.objs.size=s.heap.objs.size+1 ->
   (∀b o,b≠e->b≠it->s.heap.get? b=some o->h'.get? b=some o)->Q (.ref s.heap.objs.size) {s with heap:=h',toks:=s.toks+1}) :
  wpAny (model prog w) A (Builtin.«enumerate.__next__» ⟨[.ref e],[]⟩) (λfin s'=>∃v,fin=.done (.ret v)/\Q v s') E s:=by
 obtain⟨hp,g,d,tk,os⟩:=s;refine(show wpAny _ _ (field (.ref e) 2 >>= _) _ _ _ from wpAny_bind (wpAny_field he rfl rfl ?_));refine wpAny_bind (Ct hi hli hx λh1 i1 s1=>?_)
 replace s1:SameBut it hp h1:=s1
 have e1:IsEnum h1 e it k old:=(s1.2 e hne).trans he;refine(show wpAny _ _ (field (.ref e) 3 >>= _) _ _ ⟨h1,g,d,tk,os⟩from wpAny_bind (wpAny_field e1 rfl rfl ?_));refine(show wpAny _ _ (field (.ref e) 4 >>= _) _ _ ⟨h1,g,d,tk,os⟩from wpAny_bind (wpAny_field e1 rfl rfl ?_));refine(show wpAny _ _ (mkInt k >>= _) _ _ ⟨h1,g,d,tk,os⟩from wpAny_bind (wpAny_mkInt ?_));refine(show wpAny _ _ (setField (.ref e) 3 (rawInt (k+1)) >>= _) _ _ ⟨h1,g,d,tk+1,os⟩from wpAny_bind (wpAny_setField_rec e1 () λh2 e2 s2=>?_))
 replace s2:SameBut e h1 h2:=s2
 replace e2:IsEnum h2 e it (k+1) old:=e2
 refine(show wpAny _ _ (setField (.ref e) 4 .none >>= _) _ _ ⟨h2,g,d,tk+1,os⟩from wpAny_bind (wpAny_setField_rec e2 () λh3 e3 s3=>?_))
 replace s3:SameBut e h2 h3:=s3
 replace e3:IsEnum h3 e it (k+1) old:=e3
 refine(show wpAny _ _ (newTuple [.int k tk,x] >>= _) _ _ ⟨h3,g,d,tk+1,os⟩from wpAny_bind (wpAny_newTuple ?_));have e4:IsEnum (h3.push {cls:=.type "tuple",data:=.seq #[.int k tk,x]}) e it (k+1) old:=get?_push_of_some _ e3;generalize hh4:h3.push {cls:=.type "tuple",data:=.seq #[.int k tk,x]}=h4 at e4;have z3:h3.objs.size=hp.objs.size:=by rw[s3.1,s2.1,s1.1]
 have lte:e<hp.objs.size:=lt_size he;have t4:h4.get? hp.objs.size=some {cls:=.type "tuple",data:=.seq #[.int k tk,x]}:=by rw[<- hh4,<- z3];exact get?_push_size _ rfl
 have z4:h4.objs.size=hp.objs.size+1:=by rw[<- hh4,size_push,z3]
 have k4:∀b o,b≠e->h1.get? b=some o->h4.get? b=some o:=λb o hb q=>by rw[<- hh4];exact get?_push_of_some _ (s3.extBut b o hb (s2.extBut b o hb q))
 refine(show wpAny _ _ (Builtin.SmallTypes.ownedTupleIsFree (.ref e) >>= _) _ _ ⟨h4,g,d,tk+1,os⟩from ?_);rw[z3];refine wpAny_bind ?_;refine wpAny_bind (wpAny_field e4 rfl rfl (wpAny_pure ?_));refine wpAny_bind (wpAny_rule (wpAny_bind (wpAny_field e4 rfl (x:=old) rfl (wpAny_bind (wpAny_setField_rec e4 () λh5 e5 s5=>?_)))))
 replace s5:SameBut e h4 h5:=s5
 replace e5:IsEnum h5 e it (k+1) x:=e5
 refine(show wpAny _ _ (Builtin.SmallTypes.ownedTupleHandOut (.ref e) (.ref hp.objs.size) >>= _) _ _ ⟨h5,g,d,tk+1,os⟩from wpAny_bind ?_);refine wpAny_bind (wpAny_setField_rec e5 () λh6 e6 s6=>?_)
 replace s6:SameBut e h5 h6:=s6
 replace e6:IsEnumOut h6 e it (k+1) x hp.objs.size:=e6
 refine wpAny_setField_rec e6 () λh7 e7 s7=>?_
 replace s7:SameBut e h6 h7:=s7
 replace e7:IsEnumOut h7 e it (k+1) x hp.objs.size:=e7
 have up:∀b o,b≠e->h4.get? b=some o->h7.get? b=some o:=λb o hb q=>s7.extBut b o hb (s6.extBut b o hb (s5.extBut b o hb q));refine wpAny_bind (wpAny_letGo (wpAny_pure ⟨_,rfl,hQ h7 e7 (i1.at (λo q=>up it o hne.symm (k4 it o hne.symm q)) λo q=>up l o hle (k4 l o hle q)) (up _ _ (Nat.ne_of_gt lte) t4) (by rw[s7.1,s6.1,s5.1,z4]) λb o hb hb2 q=>up b o hb (k4 b o hb (s1.extBut b o hb2 q))⟩))
def Ca(he:IsEnum s.heap e it k old)(hi:iV s.heap it l its i)(hne:e≠it)(hli:l≠it)(hle:l≠e)(hx:its[i]?=some x)
  (hQ:∀ h',IsEnumOut h' e it (k+1) x s.heap.objs.size->iV h' it l its (i+1)->h'.get? s.heap.objs.size=some { cls:=.type "tuple", data:=.seq #[.int k s.toks,x] }->h'.objs.size=s.heap.objs.size+1 ->
   (∀b o,b≠e->b≠it->s.heap.get? b=some o->h'.get? b=some o)->Q (some (.ref s.heap.objs.size)) {s with heap:=h',toks:=s.toks+1}):wpAny (model prog w) A (pyNext (.ref e)) Q E s:=by
 have hT:s.TypeIs (.ref e) "enumerate":=⟨_,he,rfl⟩
 exact wpAny_bind (wpAny_attempt (wpAny_callSpecial?_slot hT F.slot_enumerate_next (wpAny_call_entry F.slot_enumerate_next hT F.entry_enumerate_next (Dz he hi hne hli hle hx λh' a b c d q=>wpAny_pure (hQ h' a b c d q)) (F.args_enumerate_next_1 _))))
def Gf(hh:A.handled=none)(he:IsEnum s.heap e it k old)(hi:iV s.heap it l its i)(hx:its[i]?=none)
  (hQ:∀h',ExtBut it s.heap h'->Q none {s with heap:=h'}):wpAny (model prog w) A (pyNext (.ref e)) Q E s:=by
 have hT:s.TypeIs (.ref e) "enumerate":=⟨_,he,rfl⟩
 refine wpAny_bind (wpAny_attempt (wpAny_callSpecial?_slot hT F.slot_enumerate_next (wpAny_call_entry F.slot_enumerate_next hT F.entry_enumerate_next ?_ (F.args_enumerate_next_1 _))));refine(show wpAny _ _ (field (.ref e) 2 >>= _) _ _ _ from wpAny_bind (wpAny_field he rfl rfl ?_));refine wpAny_bind (GL hh hi hx λh' y q ⟨o,ho,hc⟩=>?_);exact wpAny_bind (wpAny_isInstance ⟨o,ho,hc⟩ isSubtype_stop (wpAny_pure (hQ _ q)))
end
section
variable{X:Cx}{T:Tb}{W:Nat->St->MK}{Z:Zn}{F F1 B L:Mz}{H H1:Hp}{Y:St}{env:En}{js:My}{s:Shared}
def nC{fp:MD}{vs:MJ}(I:L2.Inv X js Y H s)(hf:∀b∈fp,l8 X js H b)(k:∀b o,b∉fp->s.heap.get? b=some o->h'.get? b=some o)(hp:s.heap.objs.size<=a)(new:cK X.prog X.w (upd H a (.tup vs)) h' a (.tup vs)) :
  L2.Inv X js Y (upd H a (.tup vs)) {s with heap:=h',toks:=t'}:=by
 have hn:H a=none:=I.hok.fresh hp;have nit:∀b u,H b=some u->b∉fp:=λb u e z=>by rw[(hf b z).1]at e;cases e
 refine I.step (g':=s.gens) (d':=s.drawn) (λb hb=>?_) (λb o _ _ hc e _=>k b o hc e) (λb o _ _ hc e _=>⟨o.slots,k b o hc e⟩) (λb o _ e n=>?_) (λb o hc e=>⟨o,k b o hc e⟩)
  (λb xs e=>by rw[aT (bR e hn)];exact e) (λb o u e=>by rw[aT (bR e hn)];exact e) (λb ps e=>⟨#[],by rw[aT (bR e hn),e];simp⟩) (λm hm=>?_) (λb u e=>?_) I.bare
 .obtain⟨_,q1,_,q3,q4,q5⟩:=hf b hb;exact⟨q3,q1,q4,q5⟩
 .rw[aT (Nat.ne_of_lt (Nat.lt_of_lt_of_le (lt_size e) hp))];exact n
 .obtain⟨o,es,ep,ho,r⟩:=hm;exact⟨o,es,ep,k _ o (λz=>(hf _ z).2.1 rfl) ho,r⟩
 .by_cases hb:b=a
  .subst hb;rw[bK]at e;cases e;exact new
  .rw[aT hb]at e;refine(I.hok b u e).stay (λc v hc q=>k c v ?_ q) (λc q=>by rw[aT (bR q hn)];exact q) λc xs _ q=>by rw[aT (bR q hn)];exact q
   rcases hc with z|z
   .rw[z];exact nit b u e
   .exact nit c _ z
def Sq(tp:Bool)(K:PySem.W.Frag)(H:Hp)(l:Addr)(xs:MJ):Prop:=match tp with
 |true=>SqT K H l xs
 |false=>SqL K H l xs
def AW(tp:Bool)(h:Heap)(it l:Addr)(i:Nat):Prop:=match tp with
 |true=>h.IsTupleIter it l i
 |false=>h.IsListIter it l i
def Ite(tp:Bool)(K:PySem.W.Frag)(st:Int)(l:Addr):It:=
 ⟨λi H=>∃xs x,Sq tp K H l xs/\xs[i]?=some x,λi H v H'=>∃p y,H p=none/\v=.ref p/\H'=upd H p (.tup [.int (st+i),y])/\∀xs,Sq tp K H l xs->xs[i]?=some y,λi H=>∃xs,Sq tp K H l xs/\xs.length<=i⟩
theorem D0(I:L2.Inv X js Y H s)(hq:Sq tp X.K H l xs)(ha:AW tp s.heap it l i):∃its:MC,aS xs its/\iV s.heap it l its.toArray i/\l≠it/\∀e k old,IsEnum s.heap e it k old->e≠it/\l≠e:=by
 cases tp with
 |false=>
  obtain⟨its,rv,p,_⟩:=I.list hq;obtain⟨o,ho,hc,_⟩:=id p.isList;obtain⟨o2,ho2,hc2,_⟩:=id (show s.heap.IsListIter it l i from ha);refine⟨its,rv,.lst ha p.isList,λz=>?_,λe k old he=>⟨λz=>?_,λz=>?_⟩⟩
  .lia
  .grind
  grind
 |true=>
  obtain⟨its,rv,p,_⟩:=I.tuple hq;have p':s.heap.IsTuple l its.toArray:=p;obtain⟨o,ho,hc,_⟩:=id p';obtain⟨o2,ho2,hc2,_⟩:=id (show s.heap.IsTupleIter it l i from ha);refine⟨its,rv,.tup ha p',λz=>?_,λe k old he=>⟨λz=>?_,λz=>?_⟩⟩
  .lia
  .grind
  grind
def E9(I:L2.Inv X js Y H s)(h1:Sq tp X.K H l xs)(h2:Sq tp X.K H l ys):xs=ys:=by
 cases tp with
 |false=>exact I.list_inj h1 h2
 |true=>exact I.tuple_inj h1 h2
theorem JA(x:iV h it l its i)(hl:tp=true->∃o,h.get? l=some o/\o.cls=.type "tuple")(hl2:tp=false->∃o,h.get? l=some o/\o.cls=.type "list"):AW tp h it l i:=by
 cases tp with
 |false=>
  obtain⟨o,ho,hc⟩:=hl2 rfl;rcases x with⟨a,b⟩ |⟨a,⟨o2,ho2,hc2,_⟩⟩
  .exact a
  .lia
 |true=>
  obtain⟨o,ho,hc⟩:=hl rfl;rcases x with⟨a,⟨o2,ho2,hc2,_⟩⟩ |⟨a,b⟩
  .lia
  .exact a
theorem mM{els:List Expr}{x1}(tp:Bool)(st:Int)(l e it:Addr) :
  tZ P w K (.Tuple els x1 tpos) (Ite tp K st l) [e,it] e (λi h=>(∃old,IsEnum h e it (st+i) old)/\AW tp h it l i) where
 mem:=by simp
 obj:=λi h st b hb=>by
  obtain⟨⟨old,he⟩,ha⟩:=st;simp at hb;rcases hb with rfl|rfl
  .exact⟨_,he,λv z=>by cases z⟩
  .cases tp with
   |false=>obtain⟨o,e,c,d⟩:=id (show h.IsListIter b l i from ha);exact⟨o,e,λv z=>by lia⟩
   |true=>obtain⟨o,e,c,d⟩:=id (show h.IsTupleIter b l i from ha);exact⟨o,e,λv z=>by lia⟩
 keep:=λi h h' st k=>by
  obtain⟨⟨old,he⟩,ha⟩:=st;refine⟨⟨old,k e () _ he⟩,?_⟩;cases tp with
  |false=>obtain⟨o,e,r⟩:=id (show h.IsListIter it l i from ha);exact⟨o,k it () o e,r⟩
  |true=>obtain⟨o,e,r⟩:=id (show h.IsTupleIter it l i from ha);exact⟨o,k it () o e,r⟩
 item:=by
  intro X hP hw hK hc i js s Y H E I hf stt hg;subst hP hw hK;obtain⟨⟨old,he⟩,ha⟩:=stt;obtain⟨xs,x,hq,hx⟩:=hg;obtain⟨its,rv,hi,hli,hen⟩:=D0 I hq ha;obtain⟨hne,hle⟩:=hen e _ old he;obtain⟨u,hu,ru⟩:=rv.get hx;refine Ca he hi hne hli hle (by simpa using hu) λh1 eo in1 tu sz kp=>?_;refine⟨_,rfl,wpAny_letOwnedTupleGo_enum eo λh2 e2 s2=>?_⟩
  replace s2:SameBut e h1 h2:=s2
  have lte:e<s.heap.objs.size:=lt_size he;have kp2:∀b o,b∉[e,it]->s.heap.get? b=some o->h2.get? b=some o:=λb o hb q=>by simp at hb;exact s2.extBut b o hb.1 (kp b o hb.1 hb.2 q)
  have tu2:h2.get? s.heap.objs.size=some {cls:=.type "tuple",data:=.seq #[.int (st+i) s.toks,u]}:=s2.extBut _ _ (Nat.ne_of_gt lte) tu;refine⟨.ref s.heap.objs.size,upd H s.heap.objs.size (.tup [.int (st+i),x]),(nC (h':=h2) (t':=s.toks+1) (vs:=[.int (st+i),x]) I hf kp2 (Nat.le_refl _) ⟨by rw[sizeLine_eq];simp,[.int (st+i) s.toks,u],.cons ⟨_,rfl⟩ (.cons ru .nil),⟨_,tu2,rfl,_,rfl⟩⟩ :),rfl,⟨_,x,I.hok.fresh (Nat.le_refl _),rfl,rfl,λys hy=>by rw[E9 I hy hq];exact hx⟩,⟨⟨u,?_⟩,?_⟩,λb hb=>?_⟩
  .lia
  .have in2:=in1.at (λo q=>s2.extBut it o hne.symm q) λo q=>s2.extBut l o hle q;refine JA in2 (λz=>?_) λz=>?_
   .subst z;obtain⟨_,_,p,_⟩:=I.tuple hq;obtain⟨o,ho,hc,_⟩:=id (show s.heap.IsTuple l _ from p);exact⟨o,kp2 l o (by simp[hle,hli]) ho,hc⟩
   .subst z;obtain⟨_,_,p,_⟩:=I.list hq;obtain⟨o,ho,hc,_⟩:=id p.isList;exact⟨o,kp2 l o (by simp[hle,hli]) ho,hc⟩
  .have:b<s.heap.objs.size:=by
    simp at hb;rcases hb with rfl|rfl
    .exact lte
    .obtain⟨o,ho,_⟩:=hi.obj;exact lt_size ho
   rw[aT (Nat.ne_of_lt this)];exact(hf b hb).1
 done:=by intro X hP hw hK hc i js s Y H E I hf stt hg;subst hP hw hK;obtain⟨⟨old,he⟩,ha⟩:=stt;obtain⟨xs,hq,hx⟩:=hg;obtain⟨its,rv,hi,hli,hen⟩:=D0 I hq ha;obtain⟨f0,f1,f2,f3,f4,f5⟩:=hf it ();have hl:=rv.length;exact Gf (I.ok.hd hc) he hi (by simp;lia) λh' eb=>⟨rfl,I.turned (t':=s.toks) (λb o hb e=>eb b o hb e) f0 f1 f3 f4 f5⟩
 self:=λ_ _ _ _ _ st h=>by obtain⟨⟨old,he⟩,_⟩:=st;exact wpAny_pyIter_enum he h
def jz{M:Model}{A:Around}{E:Mv}{s:Shared}{env:Env}{v:Value}{bw:List Expr}{kws:List Keyword}{Q:Mv}
  (h:wpAny M A (spliced (backTo pos (starEach (e::bw) env))) (λvs s1=>wpAny M A (evalAll ((backToKw pos (keywordEach kws env)).map (·.2))) (λks s2=>wpAny M A (call v vs (((backToKw pos (keywordEach kws env)).filterMap (·.1)).zip ks)) Q E s2) E s1) E s)
  (hall:(backToKw pos (keywordEach kws env)).all (·.1.isSome)=true:=by rfl) (hkw:(backToKw pos (keywordEach kws env)).any (·.1.isNone)=false:=by rfl)
  (he:starEach (e::bw) env=(false,eval e env)::starEach bw env:=by rfl) (hpl:(backTo pos (starEach (e::bw) env)).any (·.1)=false:=by rfl) (hv:keeperOf v=pure .machine:=by rfl) :
  wpAny M A (callWith pos v [] (backTo pos (starEach (e::bw) env)) (backToKw pos (keywordEach kws env))) Q E s:=by
 refine wpAny_bind (wpAny_holding (wpAny_mono (PyProof.Rows.evalArgs_kw2 (Q:=λa s1=>wpAny M A (call v ([]++ a.pos) a.kw) Q E s1) hall h he) (λa s1 h1=>wpAny_bind (wpAny_standAt ?_)) λ_ _ x=>x));simp only[hpl,hkw];rw[hv];exact wpAny_bind (wpAny_pure (wpAny_bind (wpAny_mono h1 (λr s2 hr=>wpAny_bind (wpAny_holding (wpAny_point (wpAny_pure hr)))) λ_ _ x=>x)))
theorem vE:bootBuiltins "enumerate"=some (.type "enumerate"):=by decide +kernel
noncomputable abbrev enE(l:Expr)(p pos kp cp:Pos)(j:Nat):Expr:=.Call (.Name "enumerate" p) [l] [⟨some "start",.Constant (.int 1) j cp,kp⟩] pos
theorem ut{x1}(hg:Gl X "enumerate")(hm:X.mg "enumerate"=none)(hl:PE X l tl)(hs:starEach [l] X.env=[(false,eval l X.env)]:=by rfl) :
  PI X (.Tuple els x1 tpos) (enE l p pos kp cp j) (λY H R=>tl Y H λx H1=>∃a tp xs,[x]=[V.ref a]/\Sq tp X.K H1 a xs/\R (Ite tp X.K 1 a) H1):=by
 intro js s Y H R I h;refine wpAny_Call_Name_kw (fm I hg hm vE ?_ () ());refine jz ?_ rfl rfl hs (by rw[hs];rfl);refine thn (cy hl e_ (by rw[hs];rfl) pos js s Y H (λvs H1=>∃a tp xs,vs=[.ref a]/\Sq tp X.K H1 a xs/\R (Ite tp X.K 1 a) H1) I h) λus s1 hz1=>?_;obtain⟨vs,H1,I1,r1,a,tp,xs,ev,hq,q⟩:=hz1;subst ev;obtain⟨u,rfl,rx⟩:=dw r1;cases rx;refine thn (ur (yU) yM pos js s1 Y H1 (λzs H2=>zs=[.int 1]/\H2=H1) I1 ⟨rfl,rfl⟩) λws s2 hz1=>?_;obtain⟨zs,H2,I2,r2,ez,eh⟩:=hz1;subst ez;rw[eh]at I2;obtain⟨u2,rfl,rx2⟩:=dw r2;obtain⟨t,rfl⟩:=rx2;have hI:∃n,om n a s2/\∀h',h'.get? s2.heap.objs.size=some (itO n a)->AW tp h' s2.heap.objs.size a 0:=by
  cases tp with
  |false=>obtain⟨its,rv,pl,_⟩:=I2.list hq;exact⟨"list_iterator",λ_ _ _ _ _ q=>wpAny_pyIter_list pl.isList q,λh' e=>⟨_,e,rfl,rfl⟩⟩
  |true=>obtain⟨its,rv,pl,_⟩:=I2.tuple hq;exact⟨"tuple_iterator",λ_ _ _ _ _ q=>wpAny_pyIter_tuple (show s2.heap.IsTuple a its.toArray from pl) q,λh' e=>⟨_,e,rfl,rfl⟩⟩
 obtain⟨n,hI,hA⟩:=hI;have hz:(s2.heap.push (itO n a)).objs.size=s2.heap.objs.size+1:=size_push ..
 have he:((s2.heap.push (itO n a)).push (enO s2.heap.objs.size 1)).get? (s2.heap.objs.size+1)=some (enO s2.heap.objs.size 1):=by have:=get?_push_size (s2.heap.push (itO n a)) (o:=enO s2.heap.objs.size 1) rfl;rw[hz]at this;exact this
 refine Ht hI (wpAny_pyIter_enum he ?_);refine⟨s2.heap.objs.size+1,[s2.heap.objs.size+1,s2.heap.objs.size],_,_,H1,rfl,I2.kept (t':=s2.toks) λb o e=>get?_push_of_some _ (get?_push_of_some _ e),mM tp 1 a _ _,⟨⟨.none,by lia⟩,hA _ (get?_push_of_some _ (get?_push_size _ rfl))⟩,λb hb=>?_,q⟩;simp at hb;rcases hb with rfl|rfl
 .exact I2.fpOk (le_succ _) (I2.hok.fresh (le_succ _))
 .exact I2.fpOk (Nat.le_refl _) (I2.hok.fresh (Nat.le_refl _))
end
noncomputable def enP(k:Int):ML->ML
 | []=>[]
 |x::xs=>.tup [.int k,x]::enP (k+1) xs
theorem fJ:∀(k:Int) (xs:ML) (i:Nat),(enP k xs)[i]?=(xs[i]?).map λx=>.tup [.int (k+i),x]
 |_,[],i|k,x::xs,0=>by simp[enP]
 |k,x::xs,i+1=>by
  simp only[enP,getElem?_cons_succ,fJ (k+1) xs i];congr 1;funext y;congr 3
  lia
theorem gK:∀(k:Int) (xs:ML),(enP k xs).length=xs.length
 |_,[]=>rfl
 |k,_::xs=>by simp[enP,gK (k+1) xs]
def sR(m:ME):MI:=λenv=>(m env).bind λx=>match x with
 |.lst f xs=>if !f.MV&&eQ xs then .ok (enP 1 xs)else .stuck
 |.tup xs=>if eQ xs then .ok (enP 1 xs)else .stuck
 |_=>.stuck
def zJ(m:ME):MI:=λenv=>(m env).bind λx=>match aV x with
 |some xs=>.ok (enP 1 xs)
 |none=>.stuck
section
variable{X:Cx}{T:Tb}{W:Nat->St->MK}{Z:Zn}{F F1 B L:Mz}{H H1:Hp}{Y:St}{env:En}{fp:Nat->MD}
def kZ(hp:H2 p=none)(r:Rel T F B L H2 x v f):Rel T F B L (upd H2 p (.tup [.int k,v])) (.tup [.int k,x]) (.ref p) f:=by refine⟨p,_,rfl,SqT.of bK,?_⟩;have r2:Rel T F B L (upd H2 p (.tup [.int k,v])) x v f:=r.ext (Ext.upd hp) λ_ h=>h;refine⟨.int k,[v],[],f,rfl,dP,?_,rfl⟩;exact⟨v,[],f,[],rfl,r2,by exact⟨rfl,rfl⟩,by simp⟩
def BA{x1}(hK:X.K=T.K)(hg:Gl X "enumerate")(hm:X.mg "enumerate"=none)(he:SE X T W e m)(hs:starEach [e] X.env=[(false,eval e X.env)]:=by rfl) :
  SI X T W (.Tuple els x1 tpos) (enE e p pos kp cp j) (sR m):=λjs s Y H R I h=>ut hg hm he hs js s Y H R I (by
 obtain⟨Z,F,env,fp,S,q⟩:=h;unfold sR at q;walk_at "a";simp only[Res.M0]at q;have S1:=S.grow g1;rw[hK];have key:∀(tp:Bool) (a:Addr) (xs:ML) (vs:MJ),RelL T F1 Z.B NoL H1 xs vs []->(∀H2,(∀a o,H1 a=some o->¬Own fp a->H2 a=some o)->Sq tp T.K H2 a vs)->ItR T F1 Z.B (Own fp) H1 (Ite tp T.K 1 a) (enP 1 xs):=by intro tp a xs vs hr hq H2 hk;have hq2:=hq H2 hk;refine⟨λi x ex=>?_,⟨vs,hq2,by rw[gK,hr.length];exact Nat.le_refl _⟩⟩;rw[fJ]at ex;obtain⟨y,ey,rfl⟩:=map_eq_some_iff.mp ex;obtain⟨v,_,ev,_,_⟩:=hr.get ey;refine⟨⟨vs,v,hq2,ev⟩,λw H3 hy=>?_⟩;obtain⟨p,y',hp,rfl,rfl,hall⟩:=hy;have:=hall vs hq2;rw[ev]at this;cases this;exact⟨Ext.upd hp,kZ hp (gG S1.fow S1.bow S1.oow hk hr ey ev)⟩
 cases x with
 |lst f xs=>
  dsimp only at q;by_cases hc:(!f.MV&&eQ xs)=true
  .rw[if_pos hc]at q;rw[and_eq_true]at hc;obtain⟨a,vs,fp',rfl,hl,hr,hf⟩:=r1;obtain⟨rfl,hr'⟩:=er hc.2 hr;refine⟨a,false,vs,rfl,hl.sq,q _ H1 F1 g1 (key false a xs vs hr' λH2 hk=>?_)⟩;have na:f≠.mod->∀o,H1 a=some o->H2 a=some o:=λhn o ho=>by
    refine hk a o ho ?_;cases f with
    |own=>rintro⟨i,hi⟩;obtain⟨_,o',ho'⟩:=S.dis i a hi;obtain rfl:f1=[a]:=hf;rw[w1 a mem_cons_self]at ho';cases ho'
    |frz=>exact S1.fow a hl.1
    |bor=>exact S1.bow a hl.1
    |lnt=>exact absurd hc.1 ()
    |mod=>exact absurd rfl hn
   by_cases hn:f=.mod
   .subst hn;exact .inr hl
   .exact .inl (Rd.tr (na hn) (hl.rd hn))
  .rw[if_neg hc]at q;exact q.elim
 |tup xs=>
  dsimp only at q;by_cases hc:eQ xs=true
  .rw[if_pos hc]at q;obtain⟨a,vs,rfl,hl,hr⟩:=r1;obtain⟨rfl,hr'⟩:=er hc hr;refine⟨a,true,vs,rfl,hl,q _ H1 F1 g1 (key true a xs vs hr' λH2 hk=>?_)⟩;exact SqT.tr (λo ho hfx=>hk a o ho λz=>by
    have:=S1.oow a o z ho;cases o with
    |lst _|ins _ _ _=>exact hfx
    |_=>exact this) hl
  .rw[if_neg hc]at q;exact q.elim
 |_=>exact q.elim)
def xX{x1}(hK:X.K=T.K)(hg:Gl X "enumerate")(hm:X.mg "enumerate"=none)(he:SE X T W e m)(hs:starEach [e] X.env=[(false,eval e X.env)]:=by rfl) :
  SIc X T W (.Tuple els x1 tpos) (enE e p pos kp cp j) (zJ m):=λjs s Y H R I h=>ut hg hm he hs js s Y H R I (by
 obtain⟨Z,F,env,fp,S,q⟩:=h;unfold zJ at q;walk_at "a";simp at q;cases es:aV x with
 |none=>rw[es]at q;exact q.elim
 |some xs=>
  rw[es]at q;obtain⟨a,vs,f',rfl,hs,hr,_⟩:=r1.seq es;rw[hK];have key:∀(tp:Bool),Sq tp T.K H1 a vs->(∀H2,Ext H1 H2->Sq tp T.K H2 a vs)->ItC T F1 Z.B (Own fp) H1 (Ite tp T.K 1 a) (enP 1 xs):=by intro tp _ hq H2 hx;have hq2:=hq H2 hx;refine⟨λi x ex=>?_,⟨vs,hq2,by rw[gK,hr.length];exact Nat.le_refl _⟩⟩;rw[fJ]at ex;obtain⟨y,ey,rfl⟩:=map_eq_some_iff.mp ex;obtain⟨v,f,ev,rv,_⟩:=hr.get ey;refine⟨⟨vs,v,hq2,ev⟩,λw H3 hy=>?_⟩;obtain⟨p,y',hp,rfl,rfl,hall⟩:=hy;have:=hall vs hq2;rw[ev]at this;cases this;exact⟨Ext.upd hp,f,λb hb=>rv.there b hb,kZ hp (rv.ext hx λ_ h=>h)⟩
  rcases hs with hs|hs
  .refine⟨a,false,vs,rfl,hs,q _ H1 F1 g1 (key false hs λH2 hx=>?_)⟩;rcases hs with z|z
   .exact .inl (Rd.tr (λo q=>hx a o q) z)
   .exact .inr z
  .exact⟨a,true,vs,rfl,hs,q _ H1 F1 g1 (key true hs λH2 hx=>SqT.tr (λo q _=>hx a o q) hs)⟩)
end
open AutoSeq1 (wpAny_loadPart')
section
variable{prog:Program}{w:World}{A:Around}{E:Mv}{s:Shared}
noncomputable abbrev zTI(n:Addr):Obj:={cls:=.type "tuple",data:=.seq #[.ref n,.ref (n+1)]}
noncomputable abbrev zTO:Obj:={cls:=.type "tuple",data:=.seq #[.none,.none]}
noncomputable abbrev zO(n:Addr):Obj:={cls:=.type "zip",data:=.fields #[.none,.bool false,.bool false,.ref (n+2),.ref (n+3)]}
abbrev DW(h:Heap)(l1 l2:Addr):Heap:=((((h.push (itO "list_iterator" l1)).push (itO "list_iterator" l2)).push (zTI h.objs.size)).push zTO).push (zO h.objs.size)
def Il(hl:typeLookup (.type T) "__init__"=pure (some (.builtin "object.__init__")))(hm:Bind.madeBy (.type T)=pure (some nI))(hne:(some nI != some "object.__new__")=true) :
  Meets (Builtin.«object.__init__» ⟨[self,a,b],[]⟩) (λ_ R s=>s.TypeIs self T/\R (.ok (.ret .none)) s):=by
 refine Meets.of_wp λpr w A R s0 hs=>?_;obtain⟨hT,hq⟩:=hs
 repeat (any_goals (first|assumption|wp_step|fail))
 exact⟨_,rfl,hq⟩
def Lp(l1 l2:Addr)(xs ys:MH) :
  Meets (Builtin.«zip.__new__» ⟨[.type "zip",.ref l1,.ref l2],[]⟩) (λ_ R s=>s.heap.IsList l1 xs/\s.heap.IsList l2 ys/\R (.ok (.ret (.ref (s.heap.objs.size+4)))) {s with heap:=DW s.heap l1 l2}):=
 .of_wp λpr w A R s0 h=>by
  obtain⟨hp,g,d,tk,os⟩:=s0;obtain⟨h1,h2,h⟩:=h;have hsub:=sub_zip;have h2':(hp.push (itO "list_iterator" l1)).IsList l2 ys:=by obtain⟨o,e,r⟩:=h2;exact⟨o,get?_push_of_some _ e,r⟩
  have hz1:(hp.push (itO "list_iterator" l1)).objs.size=hp.objs.size+1:=size_push ..
  have hJ1:∀{Q:Mv}{E:Mv},Q (.ref hp.objs.size) ⟨hp.push (itO "list_iterator" l1),g,d,tk,os⟩->wpAny (model pr w) A.in1 (pyIter (.ref l1)) Q E ⟨hp,g,d,tk,os⟩:=λ{Q E} q=>wpAny_pyIter_list h1 q;have hJ2:∀{Q:Mv}{E:Mv},Q (.ref (hp.push (itO "list_iterator" l1)).objs.size) ⟨(hp.push (itO "list_iterator" l1)).push (itO "list_iterator" l2),g,d,tk,os⟩->wpAny (model pr w) A.in1 (pyIter (.ref l2)) Q E ⟨hp.push (itO "list_iterator" l1),g,d,tk,os⟩:=λ{Q E} q=>wpAny_pyIter_list h2' q
  wp_walk using hJ1,hJ2
  refine⟨_,rfl,?_⟩;simp only[size_push];exact h
def DK(h1:s.heap.IsList l1 xs)(h2:s.heap.IsList l2 ys)(h:Q (.ref (s.heap.objs.size+4)) {s with heap:=DW s.heap l1 l2}) :
  wpAny (model prog w) A (call (.type "zip") [.ref l1,.ref l2] []) Q E s:=by
 have hz:((((s.heap.push (itO "list_iterator" l1)).push (itO "list_iterator" l2)).push (zTI s.heap.objs.size)).push zTO).objs.size=s.heap.objs.size+4:=by simp only[size_push]
 refine j7 (Q1:=λob s1=>s1.TypeIs ob "zip" /\ Q ob s1) F.called_zip (F.typeCall_zip_2 _ _) (F.newCall_zip_2 _ _) F.entry_zip_new F.entry_object_init (Lp l1 l2 xs ys) ⟨h1,h2,?_⟩ λob s1 hq=>⟨hq.1,?_,_,Il F.called_zip.init.lookup F.called_zip.made (),hq.1,rfl,hq.2⟩
 .have:=get?_push_size ((((s.heap.push (itO "list_iterator" l1)).push (itO "list_iterator" l2)).push (zTI s.heap.objs.size)).push zTO) (o:=zO s.heap.objs.size) rfl;rw[hz]at this;exact⟨⟨_,this,rfl⟩,h⟩
 .exact F.args_object_init_3 _ _ _
end
section
variable{X:Cx}{T:Tb}{W:Nat->St->MK}{Z:Zn}{F F1 B L:Mz}{H H1:Hp}{Y:St}{env:En}{js:My}{s:Shared}
def wK{fp:MD}(I:L2.Inv X js Y H s)(hf:∀b∈fp,l8 X js H b)(k:∀b o,b∉fp->s.heap.get? b=some o->h'.get? b=some o) :
  L2.Inv X js Y H {s with heap:=h',toks:=t'}:=by
 have nit:∀b u,H b=some u->b∉fp:=λb u e z=>by rw[(hf b z).1]at e;cases e
 refine I.step (g':=s.gens) (d':=s.drawn) (λb hb=>?_) (λb o _ _ hc e _=>k b o hc e) (λb o _ _ hc e _=>⟨o.slots,k b o hc e⟩) (λ_ _ _ _ n=>n) (λb o hc e=>⟨o,k b o hc e⟩)
  (λ_ _ e=>e) (λ_ _ _ e=>e) (λb ps e=>⟨#[],by rw[e];simp⟩) (λm hm=>?_) (λb u e=>?_) I.bare
 .obtain⟨_,q1,_,q3,q4,q5⟩:=hf b hb;exact⟨q3,q1,q4,q5⟩
 .obtain⟨o,es,ep,ho,r⟩:=hm;exact⟨o,es,ep,k _ o (λz=>(hf _ z).2.1 rfl) ho,r⟩
 .refine(I.hok b u e).stay (λc v hc q=>k c v ?_ q) (λ_ q=>q) λ_ _ _ q=>q;rcases hc with z|z
  .rw[z];exact nit b u e
  .exact nit c _ z
def Itz(K:PySem.W.Frag)(l1 l2:Addr):It:=
  ⟨λi H=>∃ xs ys x y,SqL K H l1 xs/\SqL K H l2 ys/\xs[i]?=some x/\ys[i]?=some y,
   λi H v H'=>∃p x y,H p=none/\v=.ref p/\H'=upd H p (.tup [x,y])/\(∀xs,SqL K H l1 xs->xs[i]?=some x)/\∀ys,SqL K H l2 ys->ys[i]?=some y,
   λi H=>∃xs ys,SqL K H l1 xs/\SqL K H l2 ys/\(xs.length<=i\/ys.length<=i)⟩
def jh{h h':Heap}{it l:Addr}{i:Nat}(a:h.IsListIter it l i)(k:∀o,h.get? it=some o->h'.get? it=some o):h'.IsListIter it l i:=by obtain⟨o,e,r⟩:=a;exact⟨o,k o e,r⟩
theorem xt{P:Program}{w:World}{K:PySem.W.Frag}{els:List Expr}{x1}(l1 l2 z ti to i1 i2:Addr)(D:ZipApart z ti to i1 i2 l1 l2) :
  tZ P w K (.Tuple els x1 tpos) (Itz K l1 l2) [z,ti,to,i1,i2] z (λi h=>IsZip h z ti to .none/\IsPair h ti (.ref i1) (.ref i2)/\(∃a b,IsPair h to a b)/\h.IsListIter i1 l1 i/\h.IsListIter i2 l2 i) where
 mem:=by simp
 obj:=λi h st b hb=>by
  obtain⟨hz,ht,⟨a',b',ho⟩,h1,h2⟩:=st;simp at hb;rcases hb with rfl|rfl|rfl|rfl|rfl
  .exact⟨_,hz,λv z=>by cases z⟩
  .exact⟨_,ht,λv z=>by cases z⟩
  .exact⟨_,ho,λv z=>by cases z⟩
  .obtain⟨o,e,c,d⟩:=id h1;exact⟨o,e,λv z=>by lia⟩
  .obtain⟨o,e,c,d⟩:=id h2;exact⟨o,e,λv z=>by lia⟩
 keep:=λi h h' st k=>by obtain⟨hz,ht,⟨a',b',ho⟩,h1,h2⟩:=st;exact⟨k z () _ hz,k ti () _ ht,⟨a',b',k to () _ ho⟩,jh h1 (k i1 ()),jh h2 (k i2 ())⟩
 item:=by
  intro X hP hw hK hc i js s Y H E I hf stt hg;subst hP hw hK;obtain⟨hz,ht,⟨a',b',ho⟩,h1,h2⟩:=stt;obtain⟨xs,ys,x,y,hq1,hq2,hx,hy⟩:=hg;obtain⟨its1,rv1,pl1,_⟩:=I.list hq1;obtain⟨its2,rv2,pl2,_⟩:=I.list hq2;obtain⟨u1,hu1,ru1⟩:=rv1.get hx;obtain⟨u2,hu2,ru2⟩:=rv2.get hy;refine wpAny_pyNext_zip_item D hz ht ho h1 h2 pl1.isList pl2.isList (by simpa using hu1) (by simpa using hu2) λh' z' to' i1' i2' pr sz kp=>?_;refine⟨_,rfl,wpAny_letOwnedTupleGo_zip z' λh3 z3 s3=>?_⟩
  replace s3:SameBut z h' h3:=s3
  have ltz:z<s.heap.objs.size:=lt_size hz;have kp2:∀b o,b∉[z,ti,to,i1,i2]->s.heap.get? b=some o->h3.get? b=some o:=λb o hb q=>by simp at hb;exact s3.extBut b o hb.1 (kp b o hb.1 hb.2.2.1 hb.2.2.2.1 hb.2.2.2.2 q)
  have tu2:h3.get? s.heap.objs.size=some {cls:=.type "tuple",data:=.seq #[u1,u2]}:=s3.extBut _ _ (Nat.ne_of_gt ltz) pr;refine⟨.ref s.heap.objs.size,upd H s.heap.objs.size (.tup [x,y]),(nC (h':=h3) (t':=s.toks) I hf kp2 (Nat.le_refl _) ⟨by rw[sizeLine_eq];simp,[u1,u2],.cons ru1 (.cons ru2 .nil),⟨_,tu2,rfl,_,rfl⟩⟩ :),rfl,⟨_,x,y,I.hok.fresh (Nat.le_refl _),rfl,rfl,λzs hz=>by rw[I.list_inj hz hq1];exact hx,λzs hz=>by rw[I.list_inj hz hq2];exact hy⟩,⟨z3,s3.extBut ti _ D.TIz (kp ti _ D.TIz D.TITO D.TIi1 D.TIi2 ht),⟨_,_,s3.extBut to _ D.TOz to'⟩,jh i1' λo q=>s3.extBut i1 o D.i1z q,jh i2' λo q=>s3.extBut i2 o D.i2z q⟩,λb hb=>?_⟩;have:b<s.heap.objs.size:=by
   simp at hb;rcases hb with rfl|rfl|rfl|rfl|rfl
   .exact ltz
   .exact lt_size ht
   .exact lt_size ho
   .obtain⟨o,e,_⟩:=id h1;exact lt_size e
   .obtain⟨o,e,_⟩:=id h2;exact lt_size e
  rw[aT (Nat.ne_of_lt this)];exact(hf b hb).1
 done:=by
  intro X hP hw hK hc i js s Y H E I hf stt hg;subst hP hw hK;obtain⟨hz,ht,⟨a',b',ho⟩,h1,h2⟩:=stt;obtain⟨xs,ys,hq1,hq2,hx⟩:=hg;obtain⟨its1,rv1,pl1,_⟩:=I.list hq1;obtain⟨its2,rv2,pl2,_⟩:=I.list hq2;have l1':=rv1.length;have l2':=rv2.length;refine wpAny_pyNext_zip_end (I.ok.hd hc) D hz ht ho h1 h2 pl1.isList pl2.isList (by simp;lia) λh' kp=>⟨rfl,wK (t':=s.toks) I hf λb o hb q=>?_⟩
  grind
 self:=λ_ _ _ _ _ st h=>wpAny_pyIter_zip st.1 h
theorem Hy:bootBuiltins "zip"=some (.type "zip"):=by decide +kernel
theorem Gg{x1}(hg:Gl X "zip")(hm:X.mg "zip"=none)(ha:PA X [a,b] ta)(hs:starEach [a,b] X.env=[(false,eval a X.env),(false,eval b X.env)]:=by rfl)(hs2:starEach [b] X.env=[(false,eval b X.env)]:=by rfl) :
  PI X (.Tuple els x1 tpos) (.Call (.Name "zip" p) [a,b] [] pos) (λY H R=>ta Y H λvs H1=>∃l1 l2 xs ys,vs=[V.ref l1,V.ref l2]/\SqL X.K H1 l1 xs/\SqL X.K H1 l2 ys/\R (Itz X.K l1 l2) H1):=by
 intro js s Y H R I h;refine PyProof.Rows.Call_ (fm I hg hm Hy (PyProof.Rows.callWith_type1 (thn (ha pos js s Y H _ I h) λus s1 zz=>?_) (by rw[hs,hs2]) (by rw[hs2];rfl)));obtain⟨vs,H1,I1,r1,q1⟩:=zz;obtain⟨l1,l2,xs,ys,e,hq1,hq2,q⟩:=q1;subst e;cases r1 with
 |cons r rr=>
  cases rr with
  |cons r' rr=>
   cases rr;cases r;cases r';obtain⟨its1,rv1,pl1,_⟩:=I1.list hq1;obtain⟨its2,rv2,pl2,_⟩:=I1.list hq2;have hl1:l1<s1.heap.objs.size:=by obtain⟨o,e,_⟩:=id pl1.isList;exact lt_size e
   have hl2:l2<s1.heap.objs.size:=by obtain⟨o,e,_⟩:=id pl2.isList;exact lt_size e
   have z1:(s1.heap.push (itO "list_iterator" l1)).objs.size=s1.heap.objs.size+1:=size_push ..
   have z2:((s1.heap.push (itO "list_iterator" l1)).push (itO "list_iterator" l2)).objs.size=s1.heap.objs.size+2:=by simp
   have z3:(((s1.heap.push (itO "list_iterator" l1)).push (itO "list_iterator" l2)).push (zTI s1.heap.objs.size)).objs.size=s1.heap.objs.size+3:=by simp
   have z4:((((s1.heap.push (itO "list_iterator" l1)).push (itO "list_iterator" l2)).push (zTI s1.heap.objs.size)).push zTO).objs.size=s1.heap.objs.size+4:=by simp only[size_push]
   have e4:=get?_push_size ((((s1.heap.push (itO "list_iterator" l1)).push (itO "list_iterator" l2)).push (zTI s1.heap.objs.size)).push zTO) (o:=zO s1.heap.objs.size) rfl;have e3:=get?_push_size (((s1.heap.push (itO "list_iterator" l1)).push (itO "list_iterator" l2)).push (zTI s1.heap.objs.size)) (o:=zTO) rfl;have e2:=get?_push_size ((s1.heap.push (itO "list_iterator" l1)).push (itO "list_iterator" l2)) (o:=zTI s1.heap.objs.size) rfl;have e1:=get?_push_size (s1.heap.push (itO "list_iterator" l1)) (o:=itO "list_iterator" l2) rfl;have e0:=get?_push_size s1.heap (o:=itO "list_iterator" l1) rfl;rw[z4]at e4;rw[z3]at e3;rw[z2]at e2;rw[z1]at e1;refine DK pl1.isList pl2.isList (wpAny_pyIter_zip e4 ?_);refine⟨s1.heap.objs.size+4,[s1.heap.objs.size+4,s1.heap.objs.size+2,s1.heap.objs.size+3,s1.heap.objs.size,s1.heap.objs.size+1],_,_,H1,rfl,I1.kept (t':=s1.toks) λb o e=>get?_push_of_some _ (get?_push_of_some _ (get?_push_of_some _ (get?_push_of_some _ (get?_push_of_some _ e)))),xt l1 l2 _ _ _ _ _ (PyProof.Rows.zipApart_new hl1 hl2),⟨e4,get?_push_of_some _ (get?_push_of_some _ e2),⟨.none,.none,get?_push_of_some _ e3⟩,⟨_,get?_push_of_some _ (get?_push_of_some _ (get?_push_of_some _ (get?_push_of_some _ e0))),rfl,rfl⟩,⟨_,get?_push_of_some _ (get?_push_of_some _ (get?_push_of_some _ e1)),rfl,rfl⟩⟩,λb hb=>?_,q⟩;simp at hb;have hb':s1.heap.objs.size<=b:=by lia
   exact I1.fpOk hb' (I1.hok.fresh hb')
end
noncomputable def iF:ML->ML->ML
 |x::xs,y::ys=>.tup [x,y]::iF xs ys
 |_,_=>[]
theorem pM:∀(xs ys:ML) (i:Nat) {p:PV},(iF xs ys)[i]?=some p->∃x y,xs[i]?=some x/\ys[i]?=some y/\p=.tup [x,y]
 | [],_,i,_,h|_::_,[],i,_,h=>by simp[iF]at h
 |x::xs,y::ys,0,p,h=>by exact⟨x,y,rfl,rfl,(Option.some.inj h).symm⟩
 |x::xs,y::ys,i+1,p,h=>by exact pM xs ys i h
theorem pL:∀(xs ys:ML),(iF xs ys).length=min xs.length ys.length
 | [],_|_::_,[]=>by simp[iF]
 |_::xs,_::ys=>by simp only[iF,length_cons,pL xs ys];lia
def iu(ms:MA):MI:=λenv=>(ms env).bind λzs=>match zs with
 | [.lst _ xs,.lst _ ys]=>if eQ xs&&eQ ys then .ok (iF xs ys)else .stuck
 |_=>.stuck
section
variable{X:Cx}{T:Tb}{W:Nat->St->MK}{Z:Zn}{F F1 B L:Mz}{H H1:Hp}{Y:St}{env:En}{fp:Nat->MD}
def v8(hp:H2 p=none)(r:Rel T F B L H2 x v [])(r':Rel T F B L H2 y u []):Rel T F B L (upd H2 p (.tup [v,u])) (.tup [x,y]) (.ref p) []:=by refine⟨p,_,rfl,SqT.of bK,?_⟩;have r1:Rel T F B L (upd H2 p (.tup [v,u])) x v []:=r.ext (Ext.upd hp) λ_ h=>h;have r2:Rel T F B L (upd H2 p (.tup [v,u])) y u []:=r'.ext (Ext.upd hp) λ_ h=>h;refine⟨v,[u],[],[],rfl,r1,?_,rfl⟩;exact⟨u,[],[],[],rfl,r2,by exact⟨rfl,rfl⟩,by simp⟩
def uK{xs:ML}{vs:MJ}{i:Nat}{x:PV}(h:RelL T F B L H xs vs [])(e:xs[i]?=some x):∃v,vs[i]?=some v/\Rel T F B L H x v []:=by obtain⟨v,f,ev,rv,sl⟩:=h.get e;have:f=[]:=List.eq_nil_of_sublist_nil sl;subst this;exact⟨v,ev,rv⟩
theorem Bx{els:List Expr}{x1}(hK:X.K=T.K)(hg:Gl X "zip")(hm:X.mg "zip"=none)(ha:SA X T W [a,b] ms)(hs:starEach [a,b] X.env=[(false,eval a X.env),(false,eval b X.env)]:=by rfl)(hs2:starEach [b] X.env=[(false,eval b X.env)]:=by rfl) :
  SIc X T W (.Tuple els x1 tpos) (.Call (.Name "zip" p) [a,b] [] pos) (iu ms):=λjs s Y H R I h=>Gg hg hm ha hs hs2 js s Y H R I (by
 obtain⟨Z,F,env,fp,S,q⟩:=h;unfold iu at q;refine tA.bq S λzs vs H1 F1 f1 e1 g1 r1 n1 d1 w1=>?_;rw[e1]at q;simp only[Res.M0]at q;split at q
 .rename_i f xs g ys
  split at q
  .rename_i hc
   rw[and_eq_true]at hc;obtain⟨v1,ws,f2,f3,rfl,ra,rb,_⟩:=r1;obtain⟨v2,rfl,rc⟩:=rb.one;obtain⟨a1,us,fp1,rfl,hl1,hr1,_⟩:=ra;obtain⟨a2,ws,fp2,rfl,hl2,hr2,_⟩:=rc;obtain⟨rfl,_⟩:=er hc.1 hr1;obtain⟨rfl,_⟩:=er hc.2 hr2;rw[hK];refine⟨a1,a2,us,ws,rfl,hl1.sq,hl2.sq,q _ H1 F1 g1 λH2 hx=>?_⟩;have up:∀{a:Addr}{us:MJ},SqL T.K H1 a us->SqL T.K H2 a us:=λ{a us} hs=>by
    rcases hs with z|z
    .exact .inl (Rd.tr (λo q=>hx a o q) z)
    .exact .inr z
   have s1:=up hl1.sq;have s2:=up hl2.sq;have ln1:=hr1.length;have ln2:=hr2.length;refine⟨λi x ex=>?_,⟨us,ws,s1,s2,by rw[pL];lia⟩⟩;obtain⟨x1,y1,ex1,ey1,rfl⟩:=pM xs ys i ex;obtain⟨v,ev,rv⟩:=uK hr1 ex1;obtain⟨u,eu,ru⟩:=uK hr2 ey1;refine⟨⟨us,ws,v,u,s1,s2,ev,eu⟩,λw H3 hy=>?_⟩;obtain⟨p,v',u',hp,rfl,rfl,hall1,hall2⟩:=hy;have q1:=hall1 us s1;have q2:=hall2 ws s2;rw[ev]at q1;rw[eu]at q2;cases q1;cases q2;exact⟨Ext.upd hp,[],λb hb=>(nomatch hb),v8 hp (rv.ext hx λ_ h=>h) (ru.ext hx λ_ h=>h)⟩
  .exact q.elim
 .exact q.elim)
end
section
variable{prog:Program}{w:World}{A:Around}{R:Result->Shared->Prop}{ia:Addr}{fps wrs:MD}{len:Nat}{Pv:Nat->Value->Prop}{Sv:Nat->Heap->Prop}
abbrev BF(xs:MH)(c:Nat):Obj:={cls:=.type "list",dict:=none,data:=.seq xs c,slots:=#[]}
def mN:Bool->String|true=>"min"|_=>"max"
def mO:Bool->CmpOp|true=>.Lt|_=>.Gt
def lpB:Bool->Builtin|true=>Builtin.«min.loop»|_=>Builtin.«max.loop»
abbrev lpN(b:Bool):String:=toString (mN b)++ toString ".loop"
def lpE(b:Bool):entryFor table (lpN b)=some (lpB b)/\plainId (lpN b)=true:=by
 cases b
 .exact(by decide:"max.loop"=lpN false)▸⟨F.entry_max_loop,F.plain_max_loop⟩
 .exact(by decide:"min.loop"=lpN true)▸⟨F.entry_min_loop,F.plain_min_loop⟩
theorem GU(kw:List (Str×Value))(Wk:Walks prog w A.in1 ia fps wrs len Pv Sv)(lt:Nat->Nat->Bool)(hc:CmpOf prog w A.in1 (mO y) Pv lt)(best:Addr)(nb:best∉fps)(left j:Nat)(sh:Shared)(u:Value)(cap:Nat)(e1:len-(j+1)=left)(e2:j+1<=len)(st:Sv (j+1) sh.heap)(pu:Pv (argBest lt j) u)(ob:sh.heap.get? best=some (BF #[u,u] cap))
   (fin:∀v h' tk,Pv (argBest lt (len-1)) v->(∀b o,b∉wrs->b≠best->sh.heap.get? b=some o->h'.get? b=some o)->R (.ok (.ret v)) {sh with heap:=h',toks:=tk}):codeAny (model prog w) A (.builtin (lpN y) ⟨[.ref ia,.none,.ref best],kw⟩) R sh:=by
 have nw:best∉wrs:=λz=>nb (Wk.sub _ z);have hq:=plainId_quiet (lpE y).2
 induction left generalizing j sh u cap with
 |zero=>
  have ej:j+1=len:=by lia
  cases y
  all_goals
   refine codeAny_builtin (lpE _).1 ?_;rw[Around.under_plainId (lpE _).2 _];refine(show wpAny _ A.in1 (seqItems? (.ref best) >>= _) _ _ sh from wpAny_bind (wpAny_seqItems ob rfl ?_));refine(show wpAny _ A.in1 (tryCatch (pyNext (.ref ia)) _ >>= _) _ _ sh from wpAny_bind (wpAny_tryCatch (Wk.done sh _ _ (ej▸st) λh' tk kp=>?_)));refine(show wpAny _ A.in1 (updateSeq best (λ_=>#[]) >>= _) _ _ _ from wpAny_bind (wpAny_updateSeq (kp best _ nw ob) rfl (wpAny_bind (wpAny_letGo (wpAny_pure ?_)))));exact fin u _ tk (by rw[<- ej];exact pu) λb o q1 q2 e=>(get?_update_other _ _ (Ne.symm q2)).trans (kp b o q1 e)
 |succ left ih=>
  have lj:j+1<len:=by lia
  cases y
  all_goals
   refine codeAny_builtin (lpE _).1 ?_;rw[Around.under_plainId (lpE _).2 _];refine(show wpAny _ A.in1 (seqItems? (.ref best) >>= _) _ _ sh from wpAny_bind (wpAny_seqItems ob rfl ?_));refine(show wpAny _ A.in1 (tryCatch (pyNext (.ref ia)) _ >>= _) _ _ sh from wpAny_bind (wpAny_tryCatch (Wk.item (j+1) sh _ _ lj st λv h' tk pv st' kp=>?_)));have ob':=kp best _ nw ob;refine(show wpAny _ A.in1 (tryCatch (holding [v,v] (richCompare _ v u >>= _)) _ >>= _) _ _ _ from wpAny_bind (wpAny_tryCatch (wpAny_holding (wpAny_bind (hc (j+1) (argBest lt j) v u _ _ _ pv pu (wpAny_bind (wpAny_holding (wpAny_truthy_bool (wpAny_bind (wpAny_letGo (wpAny_pure ?_)))))))))));by_cases yes:lt (j+1) (argBest lt j)=true
   .rw[yes];simp only[if_true];refine wpAny_bind (wpAny_updateSeq ob' rfl (wpAny_bind (wpAny_letGo ?_)));refine wpAny_pure ⟨hq _,ih (j+1) _ v _ () lj (Wk.frame _ _ _ st' λb hb o e=>(get?_update_other _ _ (λz:best=b=>nb (z▸hb))).trans e) (by simp only[argBest,yes];exact pv) (get?_update_self _ ob' rfl) λv' h2 t2 pv' kp2=>?_⟩;exact fin v' h2 t2 pv' λb o q1 q2 e=>kp2 b o q1 q2 ((get?_update_other _ _ (Ne.symm q2)).trans (kp b o q1 e))
   .have no:lt (j+1) (argBest lt j)=false:=by simpa using yes
    rw[no];simp;refine wpAny_bind (wpAny_letGo ?_);refine wpAny_pure ⟨hq _,ih (j+1) _ u cap () lj st' (by simp only[argBest,no];exact pu) ob' λv' h2 t2 pv' kp2=>?_⟩;exact fin v' h2 t2 pv' λb o q1 q2 e=>kp2 b o q1 q2 (kp b o q1 e)
theorem CL(kw:List (Str×Value))(Wk:Walks prog w A.in1 ia fps wrs len Pv Sv)(lt:Nat->Nat->Bool)(hc:CmpOf prog w A.in1 (mO y) Pv lt)(best:Addr)(nb:best∉fps)(pos:0<len)(st:Sv 0 sh.heap)(ob:sh.heap.get? best=some (BF #[] cap))
  (fin:∀v h' tk,Pv (argBest lt (len-1)) v->(∀b o,b∉wrs->b≠best->sh.heap.get? b=some o->h'.get? b=some o)->R (.ok (.ret v)) {sh with heap:=h',toks:=tk}):codeAny (model prog w) A (.builtin (lpN y) ⟨[.ref ia,.none,.ref best],kw⟩) R sh:=by
 have nw:best∉wrs:=λz=>nb (Wk.sub _ z);have hq:=plainId_quiet (lpE y).2;cases y
 all_goals
  refine codeAny_builtin (lpE _).1 ?_;rw[Around.under_plainId (lpE _).2 _];refine(show wpAny _ A.in1 (seqItems? (.ref best) >>= _) _ _ sh from wpAny_bind (wpAny_seqItems ob rfl ?_));refine(show wpAny _ A.in1 (tryCatch (pyNext (.ref ia)) _ >>= _) _ _ sh from wpAny_bind (wpAny_tryCatch (Wk.item 0 sh _ _ pos st λv h' tk pv st' kp=>?_)));have ob':=kp best _ nw ob;refine(show wpAny _ A.in1 (updateSeq best (λ_=>#[v,v]) >>= _) _ _ _ from wpAny_bind (wpAny_updateSeq ob' rfl ?_));refine wpAny_pure ⟨hq _,GU kw Wk lt hc best nb _ 0 _ v _ rfl pos (Wk.frame _ _ _ st' λb hb o e=>(get?_update_other _ _ (λz:best=b=>nb (z▸hb))).trans e) pv (get?_update_self _ ob' rfl) λv' h2 t2 pv' kp2=>?_⟩;exact fin v' h2 t2 pv' λb o q1 q2 e=>kp2 b o q1 q2 ((get?_update_other _ _ (Ne.symm q2)).trans (kp b o q1 e))
def GR(hc:CmpOf prog w A.in1 (mO y) Pv lt)(Wk:Walks prog w A.in1 ia fps wrs 0 Pv Sv)(best:Addr)(nb:best∉fps)(st:Sv 0 sh.heap)(ob:sh.heap.get? best=some (BF #[] cap))
  (fin:∀h' tk,(∀b o,b∉wrs->sh.heap.get? b=some o->h'.get? b=some o)->R (.ok (.ret d)) {sh with heap:=h',toks:=tk}):codeAny (model prog w) A (.builtin (lpN y) ⟨[.ref ia,.none,.ref best],[(dn,d)]⟩) R sh:=by
 cases y
 all_goals
  refine codeAny_builtin (lpE _).1 ?_;rw[Around.under_plainId (lpE _).2 _];refine(show wpAny _ A.in1 (seqItems? (.ref best) >>= _) _ _ sh from wpAny_bind (wpAny_seqItems ob rfl ?_));refine(show wpAny _ A.in1 (tryCatch (pyNext (.ref ia)) _ >>= _) _ _ sh from wpAny_bind (wpAny_tryCatch (Wk.done sh _ _ st λh' tk kp=>?_)));exact wpAny_bind (wpAny_rule (wpAny_pure (fin h' tk kp)))
end
section
variable{prog:Program}{w:World}{A:Around}{E:Mv}{s:Shared}
def rM(y d:Value):argsOk (mN b) ⟨[y],[(Str.ofString "default",d)]⟩:=by cases b<;>kernel_rfl
theorem rF
  (h:wpAny (model prog w) A.in1 (pyIter x) (λit s2=>∃ ia fps wrs len Pv Sv lt,it=.ref ia/\Walks prog w A.in1 ia fps wrs len Pv Sv/\Sv 0 s2.heap/\(∀ b ∈ fps,b < s2.heap.objs.size)/\CmpOf prog w A.in1 (mO y) Pv lt /\
   ∀v h' tk,(len=0/\v=d\/0<len/\Pv (argBest lt (len-1)) v)->(∀b o,b∉wrs->s2.heap.get? b=some o->h'.get? b=some o)->Q v {s2 with heap:=h',toks:=tk}) E s) :
  wpAny (model prog w) A (call (.builtin (mN y)) [x] [(Str.ofString "default",d)]) Q E s:=by
 have hq:=plainId_quiet (lpE y).2;cases y;refine kmk_tree F.kind_max F.plain_max F.entry_max (rM _ _) ?_
 rotate_left
 refine kmk_tree F.kind_min F.plain_min F.entry_min (rM _ _) ?_
 all_goals
  refine(show wpAny _ A.in1 (Builtin.Builtins.bindParams _ ["key","default"] 0 ⟨[],[(Str.ofString "default",d)]⟩ >>= _) _ _ s from wpAny_bind (wpAny_of_eq (a:=[none,some d]) (by kernel_rfl) (wpAny_bind (wpAny_pure (wpAny_bind (wpAny_mono h (λit s2 q=>?_) λ_ _ e=>e))))));obtain⟨ia,fps,wrs,len,Pv,Sv,lt,rfl,Wk,st,hf,hc,fin⟩:=q;refine wpAny_bind (wpAny_newObj_type ?_);have nb:s2.heap.objs.size∉fps:=λz=>Nat.lt_irrefl _ (hf _ z);have st':=Wk.frame _ _ (s2.heap.push (BF #[] 0)) st λb _ o e=>get?_push_of_some _ e;refine wpAny_pure ⟨hq _,?_⟩;by_cases pos:0<len
  .exact CL _ Wk lt hc s2.heap.objs.size nb pos st' (get?_push_size _ rfl) λv h' tk pv kp=>fin v h' tk (.inr ⟨pos,pv⟩) λb o q e=>kp b o q (Nat.ne_of_lt (lt_size e)) (get?_push_of_some _ e)
  .have z:len=0:=by lia
   subst z;exact GR hc Wk s2.heap.objs.size nb st' (get?_push_size _ rfl) λh' tk kp=>fin d h' tk (.inl ⟨rfl,rfl⟩) λb o q e=>kp b o q (get?_push_of_some _ e)
end
section
variable{X:Cx}{T:Tb}{W:Nat->St->MK}{Z:Zn}{F F1 B L:Mz}{H H1:Hp}{Y:St}{env:En}{fp:Nat->MD}{js:My}{s:Shared}
def GK(vs:MJ)(P:V->Prop):Prop:=match vs with
 | [v]=>P v
 |_=>False
def uy(h:GK vs P):∃v,vs=[v]/\P v:=by
 match vs,h with
 | [v],h=>exact⟨v,rfl,h⟩
def AA(y:Bool)(d:V)(ns:MB):V:=if ns.isEmpty then d else .int ((bif y then fQ else cr) ns)
noncomputable def bLt(y:Bool)(ns:MB)(i j:Nat):Bool:=bif y then decide (ns.getD i 0<ns.getD j 0)else decide (ns.getD i 0>ns.getD j 0)
def yB(y:Bool)(d:V)(K:PySem.W.Frag):V->Hp->VK->Prop:=λv H Q=>∃p ns,v=.ref p/\(SqL K H p (ns.map V.int)\/ SqT K H p (ns.map V.int))/\Q (AA y d ns) H
def w9(hc:X.calm=true)(I:L2.Inv X js Y H s)(hq:SqL X.K H p (ns.map V.int)\/ SqT X.K H p (ns.map V.int))(rd:bA d du)(q:Q (AA y d ns) H):wpAny (model X.prog X.w) X.A (call (.builtin (mN y)) [.ref p] [(Str.ofString "default",du)]) (EP X js Y Q) X.xe s:=by
 have hh:=I.ok.hd hc;have cm:∀{its:MC},aS (ns.map V.int) its->CmpOf X.prog X.w X.A.in1 (mO y) (λi v=>its.toArray[i]?=some v) (bLt y ns):=λr=>match y with
  |true=>CmpOf.ints_lt (λi=>ns.getD i 0) (dD r)
  |false=>CmpOf.ints_gt (λi=>ns.getD i 0) (dD r)
 have key:∀{its:MC},aS (ns.map V.int) its->∀{v:Value}{h':Heap}{tk:Nat},(its.toArray.size=0/\v=du\/0<its.toArray.size/\its.toArray[argBest (bLt y ns) (its.toArray.size-1)]?=some v)->(∀b o,s.heap.get? b=some o->h'.get? b=some o)->EP X js Y Q v {s with heap:=h',toks:=tk}:=by
  intro its r v h' tk hv k;have hl:its.toArray.size=ns.length:=by have:=r.length;simpa using this.symm
  rw[hl]at hv;rcases hv with⟨h0,rfl⟩ |⟨hn,hv⟩
  .have e:ns=[]:=List.length_eq_zero_iff.mp h0;subst e;exact⟨d,H,fq I k,rd,q⟩
  .obtain⟨t,rfl⟩:=dD r _ _ hv;have e:AA y d ns=.int (ns.getD (argBest (bLt y ns) (ns.length-1)) 0):=by
    unfold AA;rw[if_neg λz=>by simp_all];cases y
    .exact congrArg V.int (rJ hn).symm
    .exact congrArg V.int (rH hn).symm
   exact⟨.int _,H,fq I k,⟨t,rfl⟩,e▸q⟩
 rcases hq with hq|hq
 .obtain⟨its,r,pl,hz⟩:=I.list hq;obtain⟨o,ho,hcl,n,hd⟩:=pl.isList;have hlt:=lt_size ho;refine rF (wpAny_pyIter_list pl.isList ?_);refine⟨_,_,_,_,_,_,_,rfl,Walks.list (A:=X.A.in1) hh _ p (Nat.ne_of_lt hlt) its.toArray,⟨⟨_,get?_push_size _ rfl,rfl,rfl⟩,pl.isList.push _⟩,λb hb=>?_,cm r,λv h' tk hP hk=>key r hP (dM hk)⟩;rw[size_push];exact gR hlt rfl b hb
 .obtain⟨its,r,pl,hz⟩:=I.tuple hq;have pt:s.heap.IsTuple p its.toArray:=pl;obtain⟨o,ho,hcl,n,hd⟩:=pl;have hlt:=lt_size ho;refine rF (wpAny_pyIter_tuple pt ?_);refine⟨_,_,_,_,_,_,_,rfl,Walks.tuple (A:=X.A.in1) hh _ p (Nat.ne_of_lt hlt) its.toArray,⟨⟨_,get?_push_size _ rfl,rfl,rfl⟩,pt.push _⟩,λb hb=>?_,cm r,λv h' tk hP hk=>key r hP (dM hk)⟩;rw[size_push];exact gR hlt rfl b hb
noncomputable def mN8:Bool->Str|true=>"min"|_=>"max"
abbrev mdE(y:Bool)(e de:Expr)(p pos kp:Pos):Expr:=.Call (.Name (mN8 y) p) [e] [⟨some "default",de,kp⟩] pos
def Cf(hc:X.calm=true)(hg:Gl X (mN8 y))(hm:X.mg (mN8 y)=none)(he:PE X e te)(hd:PE X de (tC d))(hk:keywordEach [⟨some "default",de,kp⟩] X.env=[(some (Str.ofString "default"),eval de X.env)]:=by rfl)(hs:starEach [e] X.env=[(false,eval e X.env)]:=by rfl):PE X (mdE y e de p pos kp) (tUn (yB y d X.K) te):=by intro js s Y H Q I h;refine wpAny_Call_Name_kw (fm I hg hm (u:=.builtin (mN y)) (by cases y;exact AE;exact tV) ?_ (by cases y<;>decide) (by cases y<;>decide));refine jz ?_ (by rfl) (by rfl) hs (by rw[hs];rfl);refine thn (cy he e_ (by rw[hs];rfl) pos js s Y H (λvs H1=>GK vs λv=>yB y d X.K v H1 Q) I h) λus s1 hz1=>?_;obtain⟨vs,H1,I1,r1,q1⟩:=hz1;obtain⟨v,rfl,a,ns,rfl,hq,q⟩:=uy q1;obtain⟨u,rfl,rx⟩:=dw r1;cases rx;refine thn (ur hd yM pos js s1 Y H1 (λzs H2=>zs=[d]/\H2=H1) I1 ⟨rfl,rfl⟩) λws s2 hz1=>?_;obtain⟨zs,H2,I2,r2,ez,eh⟩:=hz1;subst ez;rw[eh]at I2;obtain⟨u2,rfl,rx2⟩:=dw r2;exact w9 hc I2 hq rx2 q
def lg(x:PV):MM:=match aV x with
 | some xs=>(match a9 xs with
  |some ns=>.ok (if ns.isEmpty then .non else .int (fQ ns))
  |none=>.stuck)
 |none=>.stuck
def zr(hK:X.K=T.K):xm T W lg (yB true .non X.K):=by
 intro B F L Y H Q F' H' x v fx g rx nf nd new q;unfold lg at q;cases e:aV x with
 |none=>rw[e]at q;exact q.elim
 |some xs=>
  rw[e]at q;dsimp only at q;cases e2:a9 xs with
  |none=>rw[e2]at q;exact q.elim
  |some ns=>
   rw[e2]at q;obtain⟨a,us,fx',rfl,hs,hr,_⟩:=rx.seq e;have hu:=bT e2 hr;subst hu;refine⟨a,ns,rfl,by lia,q.scal g ?_⟩;unfold AA;split
   .unfold Rel;exact⟨rfl,rfl⟩
   .exact dP
def BI{cp kp:Pos}(hK:X.K=T.K)(hc:X.calm=true)(hg:Gl X "min")(hm:X.mg "min"=none)(he:SE X T W e m)(hs:starEach [e] X.env=[(false,eval e X.env)]:=by rfl):SE X T W (mdE true e (.Constant .none j cp) p pos kp) (mUn lg m):=
 PE.wk (Cf hc hg hm he yT rfl hs) λ_ _ _ h=>tE.mir1 (zr hK) h
end
def wo(x y:PV):MM:=match x,y with
 | .tup xs,.tup ys=>(match a9 xs,a9 ys with
  |some ns,some ms=>.ok (.bl (HT.lexLt ns ms))
  |_,_=>.stuck)
 |_,_=>.stuck
section
variable{X:Cx}{T:Tb}{W:Nat->St->MK}{Z:Zn}{F F1 B L:Mz}{H H1:Hp}{Y:St}{env:En}{fp:Nat->MD}{D:Ends}
theorem CC(hK:X.K=T.K):ip T W wo (IX X.K):=by
 intro B F L Y H Q F' H' x y v u fx fy gr rx ry _ _ _ q;unfold wo at q;split at q
 case h_2=>exact q.elim
 split at q
 case h_2=>exact q.elim
 rename_i ns ms e1 e2
 obtain⟨a,vs,rfl,hs,hr⟩:=rx;obtain⟨b,us,rfl,ht,hq⟩:=ry;have z1:=bT e1 hr;have z2:=bT e2 hq;subst z1 z2;exact⟨a,b,ns,ms,rfl,rfl,by lia,by lia,q.scal gr fT⟩
theorem EZ(hK:X.K=T.K)(hu:X.A.units+64<cLine)(ha:SE X T W a ma)(hb:SE X T W b mb):ST X T W (.Compare a [.Lt] [b] pos) (ai (mOp wo ma mb)):=eY (Gz ()) (CC hK) ha hb (dZ _)
end
open AutoSeq1 (wpAny_loadPart')
section
variable{prog:Program}{w:World}{A:Around}{E:Mv}{s:Shared}
def dK1(a:Value):checkTypeCall "enumerate" ⟨[a],[]⟩=pure .unit:=by kernel_rfl
def dK2(a:Value):checkBuiltinCall "enumerate.__new__" ⟨[.type "enumerate",a],[]⟩=pure .unit:=by kernel_rfl
def dK3(a b:Value):argsOk "object.__init__" ⟨[a,b],[]⟩:=by
 unfold argsOk
 kernel_rfl
def Hn(n:String)(l:Addr) :
  Meets (Builtin.«enumerate.__new__» ⟨[.type "enumerate",.ref l],[]⟩) (λ_ R s=>om n l s/\R (.ok (.ret (.ref (s.heap.push (itO n l)).objs.size))) {s with heap:=(s.heap.push (itO n l)).push (enO s.heap.objs.size 0)}):=
 .of_wp λpr w A R s0 h=>by
  obtain⟨hp,g,d,tk,os⟩:=s0;obtain⟨hI,h⟩:=h;have hsub:=sub_enumerate;have hJ:∀{Q:Mv}{E:Mv},Q (.ref hp.objs.size) ⟨hp.push (itO n l),g,d,tk,os⟩->wpAny (model pr w) A.in1 (pyIter (.ref l)) Q E ⟨hp,g,d,tk,os⟩:=λ{Q E} q=>hI pr w A.in1 Q E q
  wp_walk
  refine wpAny_stack_any λst=>wpAny_pure ?_;split<;>try (rename_i c _ _ _ _ _;cases(c==Value.type "enumerate"))
  all_goals (wp_walk using hJ,hJ')
  all_goals exact⟨_,rfl,h⟩
def DL(hI:om n l s)(h:Q (.ref (s.heap.objs.size+1)) {s with heap:=(s.heap.push (itO n l)).push (enO s.heap.objs.size 0)}) :
  wpAny (model prog w) A (call (.type "enumerate") [.ref l] []) Q E s:=by
 have hz:(s.heap.push (itO n l)).objs.size=s.heap.objs.size+1:=size_push ..
 refine j7 (Q1:=λob s1=>s1.TypeIs ob "enumerate" /\ Q ob s1) F.called_enumerate (dK1 _) (dK2 _) F.entry_enumerate_new F.entry_object_init (Hn n l) ⟨hI,?_⟩ λob s1 hq=>⟨hq.1,dK3 ob _,_,Ee F.called_enumerate.init.lookup F.called_enumerate.made (),hq.1,rfl,hq.2⟩
 rw[hz];have:=get?_push_size (s.heap.push (itO n l)) (o:=enO s.heap.objs.size 0) rfl;rw[hz]at this;exact⟨⟨_,this,rfl⟩,h⟩
end
def iy(m:ME):MI:=λenv=>(m env).bind λx=>match x with
 |.lst f xs=>if !f.MV&&eQ xs then .ok (enP 0 xs)else .stuck
 |.tup xs=>if eQ xs then .ok (enP 0 xs)else .stuck
 |_=>.stuck
section
variable{X:Cx}{T:Tb}{W:Nat->St->MK}{Z:Zn}{F F1 B L:Mz}{H H1:Hp}{Y:St}{env:En}{fp:Nat->MD}{js:My}{s:Shared}
theorem yQ{x1}(hg:Gl X "enumerate")(hm:X.mg "enumerate"=none)(hl:PE X l tl)(hs:starEach [l] X.env=[(false,eval l X.env)]:=by rfl) :
  PI X (.Tuple els x1 tpos) (.Call (.Name "enumerate" p) [l] [] pos) (λY H R=>tl Y H λx H1=>∃a tp xs,[x]=[V.ref a]/\Sq tp X.K H1 a xs/\R (Ite tp X.K 0 a) H1):=by
 intro js s Y H R I h;refine PyProof.Rows.Call_ (fm I hg hm vE (PyProof.Rows.callWith_type1 (thn (cy hl e_ (by rw[hs];rfl) pos js s Y H (λvs H1=>∃a tp xs,vs=[.ref a]/\Sq tp X.K H1 a xs/\R (Ite tp X.K 0 a) H1) I h) λus s2 zz=>?_) (by rw[hs];rfl) rfl));obtain⟨vs,H1,I2,r1,a,tp,xs,ev,hq,q⟩:=zz;subst ev;obtain⟨u,rfl,rx⟩:=dw r1;cases rx;have hI:∃n,om n a s2/\∀h',h'.get? s2.heap.objs.size=some (itO n a)->AW tp h' s2.heap.objs.size a 0:=by
  cases tp with
  |false=>obtain⟨its,rv,pl,_⟩:=I2.list hq;exact⟨"list_iterator",λ_ _ _ _ _ q=>wpAny_pyIter_list pl.isList q,λh' e=>⟨_,e,rfl,rfl⟩⟩
  |true=>obtain⟨its,rv,pl,_⟩:=I2.tuple hq;exact⟨"tuple_iterator",λ_ _ _ _ _ q=>wpAny_pyIter_tuple (show s2.heap.IsTuple a its.toArray from pl) q,λh' e=>⟨_,e,rfl,rfl⟩⟩
 obtain⟨n,hI,hA⟩:=hI;have hz:(s2.heap.push (itO n a)).objs.size=s2.heap.objs.size+1:=size_push ..
 have he:((s2.heap.push (itO n a)).push (enO s2.heap.objs.size 0)).get? (s2.heap.objs.size+1)=some (enO s2.heap.objs.size 0):=by have:=get?_push_size (s2.heap.push (itO n a)) (o:=enO s2.heap.objs.size 0) rfl;rw[hz]at this;exact this
 refine DL hI (wpAny_pyIter_enum he ?_);refine⟨s2.heap.objs.size+1,[s2.heap.objs.size+1,s2.heap.objs.size],_,_,H1,rfl,I2.kept (t':=s2.toks) λb o e=>get?_push_of_some _ (get?_push_of_some _ e),mM tp 0 a _ _,⟨⟨.none,by lia⟩,hA _ (get?_push_of_some _ (get?_push_size _ rfl))⟩,λb hb=>?_,q⟩;simp at hb;rcases hb with rfl|rfl
 .exact I2.fpOk (le_succ _) (I2.hok.fresh (le_succ _))
 .exact I2.fpOk (Nat.le_refl _) (I2.hok.fresh (Nat.le_refl _))
def xY{x1}(hK:X.K=T.K)(hg:Gl X "enumerate")(hm:X.mg "enumerate"=none)(he:SE X T W e m)(hs:starEach [e] X.env=[(false,eval e X.env)]:=by rfl) :
  SI X T W (.Tuple els x1 tpos) (.Call (.Name "enumerate" p) [e] [] pos) (iy m):=λjs s Y H R I h=>yQ hg hm he hs js s Y H R I (by
 obtain⟨Z,F,env,fp,S,q⟩:=h;unfold iy at q;walk_at "a";simp only[Res.M0]at q;have S1:=S.grow g1;rw[hK];have key:∀(tp:Bool) (a:Addr) (xs:ML) (vs:MJ),RelL T F1 Z.B NoL H1 xs vs []->(∀H2,(∀a o,H1 a=some o->¬Own fp a->H2 a=some o)->Sq tp T.K H2 a vs)->ItR T F1 Z.B (Own fp) H1 (Ite tp T.K 0 a) (enP 0 xs):=by intro tp a xs vs hr hq H2 hk;have hq2:=hq H2 hk;refine⟨λi x ex=>?_,⟨vs,hq2,by rw[gK,hr.length];exact Nat.le_refl _⟩⟩;rw[fJ]at ex;obtain⟨y,ey,rfl⟩:=map_eq_some_iff.mp ex;obtain⟨v,_,ev,_,_⟩:=hr.get ey;refine⟨⟨vs,v,hq2,ev⟩,λw H3 hy=>?_⟩;obtain⟨p,y',hp,rfl,rfl,hall⟩:=hy;have:=hall vs hq2;rw[ev]at this;cases this;exact⟨Ext.upd hp,kZ hp (gG S1.fow S1.bow S1.oow hk hr ey ev)⟩
 cases x with
 |lst f xs=>
  dsimp only at q;by_cases hc:(!f.MV&&eQ xs)=true
  .rw[if_pos hc]at q;rw[and_eq_true]at hc;obtain⟨a,vs,fp',rfl,hl,hr,hf⟩:=r1;obtain⟨rfl,hr'⟩:=er hc.2 hr;refine⟨a,false,vs,rfl,hl.sq,q _ H1 F1 g1 (key false a xs vs hr' λH2 hk=>?_)⟩;have na:f≠.mod->∀o,H1 a=some o->H2 a=some o:=λhn o ho=>by
    refine hk a o ho ?_;cases f with
    |own=>rintro⟨i,hi⟩;obtain⟨_,o',ho'⟩:=S.dis i a hi;obtain rfl:f1=[a]:=hf;rw[w1 a mem_cons_self]at ho';cases ho'
    |frz=>exact S1.fow a hl.1
    |bor=>exact S1.bow a hl.1
    |lnt=>exact absurd hc.1 ()
    |mod=>exact absurd rfl hn
   by_cases hn:f=.mod
   .subst hn;exact .inr hl
   .exact .inl (Rd.tr (na hn) (hl.rd hn))
  .rw[if_neg hc]at q;exact q.elim
 |tup xs=>
  dsimp only at q;by_cases hc:eQ xs=true
  .rw[if_pos hc]at q;obtain⟨a,vs,rfl,hl,hr⟩:=r1;obtain⟨rfl,hr'⟩:=er hc hr;refine⟨a,true,vs,rfl,hl,q _ H1 F1 g1 (key true a xs vs hr' λH2 hk=>?_)⟩;exact SqT.tr (λo ho hfx=>hk a o ho λz=>by
    have:=S1.oow a o z ho;cases o with
    |lst _|ins _ _ _=>exact hfx
    |_=>exact this) hl
  .rw[if_neg hc]at q;exact q.elim
 |_=>exact q.elim)
end
def q9(P:Params):List DictEntry->List (Str×Int)->Prop
 | [],[]=>True
 |e::es,kv::kvs=>(∃t u,e=⟨PyData.keyHash P kv.1,.str kv.1 t,.int kv.2 u⟩)/\q9 P es kvs
 |_,_=>False
structure iE(w:World)(K:PySem.W.Frag)(d:Addr)(kvs:List (Str×Int)):Prop where
 ne:(d==sysModules)=false
 ex:∃(es:List DictEntry) (ep:Nat),K.lookup d=some {cls:=.type "dict",dict:=none,data:=.dict es.toArray ep,slots:=#[]}/\q9 w.params es kvs
noncomputable def look(kvs:List (Str×Int))(k:Str):MG:=(kvs.find? λp=>p.1==k).map (·.2)
def KS(f:Mw)(kvs:List (Str×Int)):Prop:=∀k,match look kvs k with
 |some i=>∃u,f k=some (.int i u)
 |none=>f k=none
theorem vy:∀{es:List DictEntry}{kvs:List (Str×Int)},q9 P es kvs->KS (λk=>(es.find? λe=>Value.isStrOf k e.key).map (·.val)) kvs
 | [],[],_=>λk=>rfl
 | [],_::_,h|_::_,[],h=>h.elim
 |e::es,kv::kvs,h=>λk=>by
  obtain⟨⟨t,u,rfl⟩,h2⟩:=h;have ih:=vy h2 k;simp only[look,List.find?_cons,Value.isStrOf]at ih ⊢;by_cases q:(kv.1==k)=true
  .simp only[q,Option.map_some];exact⟨u,rfl⟩
  .simp only[q];exact ih
theorem q8:∀{es:List DictEntry}{kvs:List (Str×Int)},q9 P es kvs->∀e∈es,∃k t,e.key=.str k t/\e.hash=PyData.keyHash P k
 | [],_,_=>λe he=>nomatch he
 |_::_,[],h=>h.elim
 |e::es,kv::kvs,h=>λe' he=>by
  obtain⟨⟨t,u,rfl⟩,h2⟩:=h;rcases mem_cons.mp he with rfl|he
  .exact⟨kv.1,t,rfl,rfl⟩
  .exact q8 h2 e' he
def iE.map(hD:iE w K d kvs)(hI:K.In h):∃f,h.MapOf (strKind prog w) d f/\KS f kvs:=by
 obtain⟨es,ep,hl,he⟩:=hD.ex;refine⟨_,⟨_,es.toArray,ep,hI _ _ hl,⟨rfl,rfl,rfl⟩,rfl,λe hm=>?_,λk=>rfl⟩,?_⟩
 .obtain⟨k,t,h1,h2⟩:=q8 he e (by simpa using hm);refine⟨k,?_,h2⟩;rw[h1];show(k==k)=true;simp
 .intro k;have:=vy he k;simpa[findBy,strKind]using this
section
variable{X:Cx}{T:Tb}{W:Nat->St->MK}{Z:Zn}{F F1 B L:Mz}{H H1:Hp}{Y:St}{env:En}{fp:Nat->MD}{d:Addr}{kvs:List (Str×Int)}
def uo(d:Addr)(kvs:List (Str×Int)):R2:=λx y H Q=>∃k,x=.str k/\y=.ref d/\Q (.bl (!(look kvs k).isSome)) H
def Gw(hD:iE X.w X.K d kvs):OpR X (compareOp .NotIn) (uo d kvs):=by
 intro js s Y H x y v u Q I rx ry h;obtain⟨k,rfl,rfl,q⟩:=h;obtain⟨t,rfl⟩:=rx;cases ry;obtain⟨f,hm,hf⟩:=hD.map (prog:=X.prog) I.kIn;refine wpAny_notIn_of (knd:=strKind X.prog X.w) (k:=k) (by show(k==k)=true;simp) hD.ne hm ⟨.bl (!(look kvs k).isSome),H,I.tok _,?_,q⟩;have:=hf k;cases e:look kvs k with
 |none=>rw[e]at this;rw[show f k=none from this];rfl
 |some i=>rw[e]at this;obtain⟨u,hu⟩:=this;rw[hu];rfl
def D6(d:Addr)(kvs:List (Str×Int)):R2:=λx y H Q=>∃k i,x=.ref d/\y=.str k/\look kvs k=some i/\Q (.int i) H
def C2(hD:iE X.w X.K d kvs):IxR X (D6 d kvs):=by
 intro value slice js s Y H x y v u Q I rx ry h hs;obtain⟨k,i,rfl,rfl,e,q⟩:=h;cases rx;obtain⟨t,rfl⟩:=ry;obtain⟨f,hm,hf⟩:=hD.map (prog:=X.prog) I.kIn;have:=hf k;rw[e]at this;obtain⟨u,hu⟩:=this;exact PyProof.Rows.subscriptTail_builtinR (x:=.int i u) hm.typeIs PySem.F.slot_dict_getitem.lookup
  (wpAny_getItem_of (knd:=strKind X.prog X.w) (k:=k) (Q:=λr s'=>r=.int i u/\EP X js Y Q r s') (by show(k==k)=true;simp) hm hu ⟨rfl,.int i,H,I.tok _,⟨u,rfl⟩,q⟩) hs
def jc(kvs:List (Str×Int)):PV->MM
 |.str k=>.ok (.bl (!(look kvs k).isSome))
 |_=>.stuck
def iq(kvs:List (Str×Int)):PV->MM
 | .str k=>(match look kvs k with
  |some i=>.ok (.int i)
  |none=>.stuck)
 |_=>.stuck
def sN:xm T W (jc kvs) (λx H Q=>uo d kvs x (.ref d) H Q):=by
 intro B F L Y H Q F' H' x v fx g rx nf nd new q;cases x with
 |str k=>unfold Rel at rx;exact⟨k,rx.1,rfl,q.scal g fT⟩
 |_=>exact q.elim
def zx:xm T W (iq kvs) (λx H Q=>D6 d kvs (.ref d) x H Q):=by
 intro B F L Y H Q F' H' x v fx g rx nf nd new q;cases x with
 |str k=>
  unfold Rel at rx;unfold iq at q;dsimp only at q;cases e:look kvs k with
  |none=>rw[e]at q;exact q.elim
  |some i=>rw[e]at q;exact⟨k,i,rfl,rx.1,e,q.scal g dP⟩
 |_=>exact q.elim
def uf(hg:Gl X x)(hm:X.mg x=some (.ref d))(hD:iE X.w X.K d kvs)(he:SE X T W e m)(hs:jD e)(hd:Nd x:=by decide):SE X T W (.Subscript (.Name x px) e pos) (mUn (iq kvs) m):=
 PE.wk (D8 (pos:=pos) (C2 hD) (gy (v:=.ref d) (pos:=px) hg hm rfl hd) he hs) λ_ _ _ h=>tE.mir1 zx h
def vM(hg:Gl X x)(hm:X.mg x=some (.ref d))(hD:iE X.w X.K d kvs)(he:SE X T W e m)(hd:Nd x:=by decide):ST X T W (.Compare e [.NotIn] [.Name x px] pos) (ai (mUn (jc kvs) m)):=
 PT.wk (oH (pos:=pos) (Gw hD) he (gy (v:=.ref d) (pos:=px) hg hm rfl hd) rfl) λY H Q h=>by obtain⟨Z,F,env,fp,S,q⟩:=tT.test h;exact tE.mir1 sN ⟨Z,F,env,fp,S,q⟩
end
noncomputable def oS(i j:Nat):MS:=λenv=>match env[i]?,env[j]? with
 |some (some v),some (some w)=>if i=j then .stuck else .ret (.tup [v,w])
 |_,_=>.stuck
section
variable{X:Cx}{T:Tb}{W:Nat->St->MK}{Z:Zn}{F F1 B L:Mz}{H H1:Hp}{Y:St}{env:En}{fp:Nat->MD}{D:Ends}
def xP{x1}(hN:X.N[i]?=some x)(hv:Vis X.env.scope x)(hN2:X.N[j]?=some y)(hv2:Vis X.env.scope y)(hd:Nd x:=by decide)(hcd:Nc x:=by decide)(hd2:Nd y:=by decide)(hcd2:Nc y:=by decide) :
  SS X T W (.Return (some (.Tuple [.Name x px,.Name y py] x1 tpos)) pos) (oS i j):=
 PS.wk (oI (sA (cy (gx hN hv hd hcd) (cy (gx hN2 hv2 hd2 hcd2) e_)))) λD Y H hz1=>by
  walk_at "b";unfold oS at q;split at q
  case h_2=>exact q.elim
  rename_i pv pw ei ej
  split at q
  case isTrue=>exact q.elim
  rename_i hij
  obtain⟨v,e1,r1⟩:=S.rel i pv ei;obtain⟨w,e2,r2⟩:=S.rel j pw ej;refine⟨v,e1,w,e2,ub (),λp hp=>?_⟩;have g:Gr F H F (upd H p (.tup [v,w])):=Gr.same S.hp.ft (Ext.upd hp);have S2:=S.grow g;obtain⟨v',e1',r1'⟩:=S2.rel i pv ei;obtain⟨w',e2',r2'⟩:=S2.rel j pw ej;rw[e1]at e1';cases e1';rw[e2]at e2';cases e2';refine q F (upd H p (.tup [v,w])) (.ref p) (fp i++fp j) S2.hp ?_ (nodup_append.mpr ⟨S.nd i,S.nd j,λa ha b hb z=>?_⟩) (λa ha=>?_) (λa ha=>?_)
  .unfold Rel;refine⟨p,_,rfl,SqT.of bK,?_⟩;refine⟨v,[w],fp i,fp j,rfl,r1',?_,rfl⟩;exact⟨w,[],fp j,[],rfl,r2',by exact⟨rfl,rfl⟩,by simp⟩
  .subst z;exact S.dj i j hij a ha hb
  .rcases mem_append.mp ha with h|h
   .exact(S2.dis i a h).1
   .exact(S2.dis j a h).1
  .rcases mem_append.mp ha with h|h
   .exact S.new i a h
   .exact S.new j a h
end
section
variable{P:Program}{w:World}{mg:Mw}{base:Heap}{T:Tb}
def He(F:Fun T.K x qual st f fd)(S:dE N ps (aB st))
  (body:∀ (cdv:Value) (A:Around) (outer:List Env) (s:Shared) (H:Hp) (E:XK),Ctx (fE (CXP P w) P w T.K mg base N qual (aB st) f cdv A outer s H E) T (WD T E) k ->
   SSs (fE (CXP P w) P w T.K mg base N qual (aB st) f cdv A outer s H E) T (WD T E) (ba st) m):cF P w T.K mg base (CXP P w) (k+1) f fd ps (spM T ps.length (aN N.length m)):=
 JO F S λcdv A outer s H E hr=>body cdv A outer s H E (pb hr)
def Db(F:Fun T.K x qual st f fd)(S:dE N ps (aB st))
  (body:∀ (cdv:Value) (A:Around) (outer:List Env) (s:Shared) (H:Hp) (E:XK),Ctx (fE (CXP P w) P w T.K mg base N qual (aB st) f cdv A outer s H E) T (WD T E) k ->
   SSs (fE (CXP P w) P w T.K mg base N qual (aB st) f cdv A outer s H E) T (WD T E) (ba st) m):cF P w T.K mg base (CXP P w) (k+1) f fd ps (spI T ps.length (gT N.length m)):=
 Hg F S λcdv A outer s H E hr=>body cdv A outer s H E (pb hr)
end
section
variable{prog:Program}{w:World}{A:Around}{E:Mv}{s:Shared}
abbrev emL(c:Nat):Obj:={cls:=.type "list",data:=.seq #[] c}
abbrev fuL(xs:MH)(c:Nat):Obj:={cls:=.type "list",dict:=none,data:=.seq xs c,slots:=#[]}
def zM:typeLookup (.type "list_reverseiterator") "__len__"=pure none:=by rw[typeLookup_type,builtinLookup_eq_fast];kernel_rfl
def CS:typeLookup (.type "list_reverseiterator") "__length_hint__"=pure (some (.builtin "list_reverseiterator.__length_hint__")):=by rw[typeLookup_type,builtinLookup_eq_fast];kernel_rfl
def DV(items:MH)(i:Nat)(v:Value):Prop:=items[items.size-1-i]?=some v
def Hh(hh:A.handled=none)(hS:s.heap.get? S=some (emL c₀))(hit:s.heap.IsRevIter it l ((items.size:Int)-1))(hl:s.heap.IsList l items)(hne:l≠it)(hSi:S≠it)(hSl:S≠l)(hz:items.size<=1000000)
  (hR:∀h' tk acc c,(∀b o,b≠S->b≠it->s.heap.get? b=some o->h'.get? b=some o)->h'.get? S=some (fuL acc c)->ItemsOf (DV items) acc items.size->R (.ok (.ret .none)) {s with heap:=h',toks:=tk}) :
  wpAny (model prog w) A.in1 (Builtin.List.listExtendWith (.ref S) (.ref it) .none)
   (λfin s'=>match fin with|.done f=>R (.ok f) s'|.again c'=>c'.quiet=true/\codeAny (model prog w) A c' R s') (λe s'=>R (.error e) s') s:=by
 have W:=(Walks.listRev (prog:=prog) (w:=w) (A:=A.in1) hh it l hne items).toS;have n1:Builtin.List.listSameRef (.ref S) (.ref it)=false:=by simp[Builtin.List.listSameRef,hSi]
 unfold Builtin.List.listExtendWith;refine wpAny_bind (wpAny_typeOf hit.typeIs ?_);rw[if_neg (by rw[n1];decide)];refine wpAny_bind (wpAny_pyIter_revIter hit (wpAny_bind (wpAny_holding ?_)));unfold Builtin.List.listLengthHint;refine wpAny_bind (wpAny_specialOf hit.typeIs zM ?_);show wpAny _ _ (specialOf (.ref it) (Str.ofString "__length_hint__") >>= _) _ _ s;refine wpAny_bind (wpAny_specialOf hit.typeIs CS ?_);generalize hid:("list_reverseiterator.__length_hint__":String)=id0
 wp_delta
 rw[show splitId id0=some ("list_reverseiterator","__length_hint__")from by subst hid;decide +kernel];subst hid;refine wpAny_bind (wpAny_isInstance (b:=true) hit.typeIs (by rw[isSubtype_type];kernel_rfl) (wpAny_pure ?_));rw[if_neg ()];refine wpAny_pure ⟨plainId_quiet F.plain_extend_loop _,codeAny_extend_loopS W (by rw[sizeLine_eq];lia) S (by simp[hSi,hSl]) .none items.size 0 s #[] c₀ rfl (zero_le _) ⟨zero_le _,by simpa using hit,hl⟩ hS (ItemsOf.nil _) λs' acc c hm hS' ha=>?_⟩;rw[Moved.eq_with hm];exact hR s'.heap s'.toks acc c (λb o h1 h2 e=>hm.heap b o (by simp[h1,h2]) e) hS' ha
def rG(hh:A.handled=none)(hit:s.heap.IsRevIter it l ((items.size:Int)-1))(hl:s.heap.IsList l items)(hne:l≠it)(hz:items.size<=1000000)
  (hQ:∀h' tk acc c,(∀b o,b≠it->s.heap.get? b=some o->h'.get? b=some o)->h'.get? s.heap.objs.size=some (fuL acc c)->ItemsOf (DV items) acc items.size->Q (.ref s.heap.objs.size) {s with heap:=h',toks:=tk}) :
  wpAny (model prog w) A (call (.type "list") [.ref it]) Q E s:=by
 have lt1:it<s.heap.objs.size:=by obtain⟨o,e,_⟩:=id hit;exact lt_size e
 have lt2:l<s.heap.objs.size:=by obtain⟨o,e,_⟩:=id hl;exact lt_size e
 refine callType_codes (Q₁:=λob s1=>ob=.ref s.heap.objs.size/\s1={s with heap:=s.heap.push (emL 0)}) F.called_list (F.typeCall_list_1 _) F.entry_list_init (code_list_new _ ⟨rfl,rfl⟩) λob s1 hq=>?_;obtain⟨rfl,rfl⟩:=hq;have hS:(s.heap.push (emL 0)).get? s.heap.objs.size=some (emL 0):=get?_push_size _ rfl;refine⟨⟨_,hS,rfl⟩,F.args_list_init_2 _ _,?_⟩;show wpAny _ A.in1.in1 (Builtin.List.listItems (.ref s.heap.objs.size) >>= λold=>Builtin.List.listUpdate (.ref s.heap.objs.size) (λ_=>#[]) >>= λ_=>letGo old.toList.reverse >>= λ_=>Builtin.List.listExtendWith (.ref s.heap.objs.size) (.ref it) .none) _ _ _;refine wpAny_bind ?_;unfold Builtin.List.listItems;refine wpAny_bind (wpAny_seqItems hS rfl (wpAny_pure (wpAny_bind ?_)));show wpAny _ A.in1.in1 (updateSeq s.heap.objs.size (λ_=>#[])) _ _ _;refine wpAny_updateSeq hS rfl (wpAny_bind (wpAny_letGo ?_));have hS2:=get?_update_self (Obj.mapSeq (λ_=>(#[]:MH))) hS rfl;have ot:∀b o,b≠s.heap.objs.size->s.heap.get? b=some o->((s.heap.push (emL 0)).update s.heap.objs.size (Obj.mapSeq (λ_=>(#[]:MH)))).get? b=some o:=λb o hb e=>(get?_update_other _ _ (Ne.symm hb)).trans (get?_push_of_some _ e);refine Hh (A:=A.in1) (c₀:=0) hh hS2 (hit.at λo e=>ot _ o (Nat.ne_of_lt lt1) e) (hl.at λo e=>ot _ o (Nat.ne_of_lt lt2) e) hne (Ne.symm (Nat.ne_of_lt lt1)) (Ne.symm (Nat.ne_of_lt lt2)) hz λh' tk acc c kp e1 e2=>?_;exact⟨rfl,hQ h' tk acc c (λb o hb e=>kp b o (Nat.ne_of_lt (lt_size e)) hb (ot b o (Nat.ne_of_lt (lt_size e)) e)) e1 e2⟩
end
section
variable{X:Cx}{T:Tb}{W:Nat->St->MK}{Z:Zn}{F F1 B L:Mz}{H H1:Hp}{Y:St}{env:En}{fp:Nat->MD}{js:My}{s:Shared}
def rLR(K:PySem.W.Frag):V->Hp->VK->Prop:=λv H Q=>∃(p:Addr) (ns:MB),v=.ref p/\SqL K H p (ns.map V.int)/\ns.length<=1000000/\∀l,H l=none->Q (.ref l) (upd H l (.lst (ns.reverse.map V.int)))
def HB:bootBuiltins "reversed"=some (.type "reversed"):=by decide +kernel
def xj{ns:MB}{its:MC}(r:aS (ns.map V.int) its)(ha:ItemsOf (DV its.toArray) acc its.toArray.size):aS (ns.reverse.map V.int) acc.toList:=by
 have hl:its.length=ns.length:=by simpa using r.length.symm
 have hz:acc.size=ns.length:=by rw[ha.1];simpa using hl
 refine t7 _ _ (by simp[hz]) λi x y e1 e2=>?_;have hi:i<ns.length:=by have:=(List.getElem?_eq_some_iff.mp e1).1;simpa using this
 have:=ha.2 i y (by simpa using e2);unfold DV at this;obtain⟨t,rfl⟩:=dD r _ _ this;rw[getElem?_map,List.getElem?_reverse hi]at e1;have hk:ns.length-1-i<ns.length:=by lia
 rw[getElem?_eq_getElem hk]at e1;cases e1;refine⟨t,?_⟩;have hs:its.toArray.size-1-i=ns.length-1-i:=by simp[hl]
 rw[hs];simp[hk]
def sB(hc:X.calm=true)(hg:Gl X "list")(hm:X.mg "list"=none)(hg2:Gl X "reversed")(hm2:X.mg "reversed"=none)(he:PE X e te)(hs:starEach [e] X.env=[(false,eval e X.env)]:=by rfl)
  (hs2:starEach [.Call (.Name "reversed" p2) [e] [] pos2] X.env=[(false,eval (.Call (.Name "reversed" p2) [e] [] pos2) X.env)]:=by rfl):PE X (.Call (.Name "list" p) [.Call (.Name "reversed" p2) [e] [] pos2] [] pos) (tUn (rLR X.K) te):=by
 intro js s Y H Q I h;refine PyProof.Rows.Call_ (fm I hg hm pH (PyProof.Rows.callWith_type1 ?_ (by rw[hs2];rfl) rfl));rw[hs2];refine Calls.spliced_cons (PyProof.Rows.Call_ (fm I hg2 hm2 HB (PyProof.Rows.callWith_type1 (thn (cy (te:=te) he e_ (by rw[hs];rfl) pos2 js s Y H (λvs H1=>GK vs λv=>rLR X.K v H1 Q) I h) λus s1 ⟨vs,H1,I1,r1,q1⟩=>?_) (by rw[hs];rfl) rfl)));obtain⟨v,rfl,a,ns,rfl,hq,hz,q⟩:=uy q1;obtain⟨u,rfl,rx⟩:=dw r1;cases rx;obtain⟨its,rv,pl,_⟩:=I1.list hq;have hl:its.length=ns.length:=by simpa using rv.length.symm
 have lt:a<s1.heap.objs.size:=by obtain⟨o,e,_⟩:=id pl.isList;exact lt_size e
 refine call_reversed_list pl.isList (Calls.spliced_nil ?_);have hsz:(s1.heap.push (revObj a ((its.toArray.size:Int)-1))).objs.size=s1.heap.objs.size+1:=size_push ..
 refine rG (it:=s1.heap.objs.size) (l:=a) (items:=its.toArray) (I1.ok.hd hc) ⟨_,get?_push_size _ rfl,rfl,rfl⟩ (pl.isList.push _) (Nat.ne_of_lt lt) (by simp[hl];lia) λh' tk acc c kp e1 e2=>?_;rw[hsz]at e1 ⊢;refine⟨.ref (s1.heap.objs.size+1),_,I1.laid (t':=tk) (λb o e=>kp b o (Nat.ne_of_lt (lt_size e)) (get?_push_of_some _ e)) (le_succ _) ?_,rfl,q _ (I1.hok.fresh (le_succ _))⟩;exact⟨by rw[sizeLine_eq];simp;lia,acc.toList,c,xj rv e2,by simpa using e1⟩
def fe:PV->MM
 | .lst _ xs=>(match a9 xs with
  |some ns=>if ns.length<=1000000 then .ok (.lst .own (ns.reverse.map .int))else .stuck
  |none=>.stuck)
 |_=>.stuck
def qo(hK:X.K=T.K):xm T W fe (rLR X.K):=by
 intro B F L Y H Q F' H' x v fx g rx nf nd new q;cases x with
 |lst f xs=>
  unfold fe at q;dsimp only at q;cases e:a9 xs with
  |none=>rw[e]at q;exact q.elim
  |some ns=>
   rw[e]at q;dsimp only at q;split at q
   case isFalse=>exact q.elim
   rename_i hz
   unfold Rel at rx;obtain⟨a,vs,fp',rfl,hl,hr,hf⟩:=rx;have hu:=bT e hr;subst hu;exact⟨a,ns,rfl,by rw[hK];exact hl.sq,hz,GE.newL q g (ul _) (λ_ h=>by cases h) .nil (λ_ h=>by cases h)⟩
 |_=>exact q.elim
def si(hK:X.K=T.K)(hc:X.calm=true)(hg:Gl X "list")(hm:X.mg "list"=none)(hg2:Gl X "reversed")(hm2:X.mg "reversed"=none)(he:SE X T W e m)(hs:starEach [e] X.env=[(false,eval e X.env)]:=by rfl)
  (hs2:starEach [.Call (.Name "reversed" p2) [e] [] pos2] X.env=[(false,eval (.Call (.Name "reversed" p2) [e] [] pos2) X.env)]:=by rfl):SE X T W (.Call (.Name "list" p) [.Call (.Name "reversed" p2) [e] [] pos2] [] pos) (mUn fe m):=
 PE.wk (sB hc hg hm hg2 hm2 he hs hs2) λ_ _ _ h=>tE.mir1 (qo hK) h
end
section
variable{X:Cx}{T:Tb}{W:Nat->St->MK}{Z:Zn}{F F1 B L:Mz}{H H1:Hp}{Y:St}{env:En}{fp:Nat->MD}
def kr:Rel T F B L H (.str x) (.str x) []:=by exact⟨rfl,rfl⟩
noncomputable def m9(C:Str->Str->Bool)(g:Str->Str->PV):PV->PV->MM
 |.str i,.str j=>if C i j then .ok (g i j)else .stuck
 |_,_=>.stuck
def zy{C:Str->Str->Prop}{C':Str->Str->Bool}{g:Str->Str->V}{g':Str->Str->PV}(hc:∀i j,C' i j=true->C i j)(hg:∀i j F B L H,Rel T F B L H (g' i j) (g i j) []):ip T W (m9 C' g') (λx y H Q=>∃i j,x=.str i/\y=.str j/\C i j/\Q (g i j) H):=by
  intro B F L Y H Q F' H' x y v u fx fy gr rx ry _ _ _ q;cases x<;>cases y<;>first
    |exact q.elim
    | (unfold Rel at rx ry
       simp only[m9]at q;split at q
       . rename_i hh
         exact⟨_,_,rx.1,ry.1,hc _ _ hh,q.scal gr (hg _ _ _ _ _ _)⟩
       . exact q.elim)
def inS(i j:Str):Bool:=!(Builtin.Str.occurrences j i 0 j.length 1).isEmpty
def GC:OpR X (compareOp .In) (λx y H Q=>∃i j,x=.str i/\y=.str j/\True/\Q (.bl (inS i j)) H):=by intro js s Y H x y v u Q I rx ry h;obtain⟨i,j,e1,e2,_,q⟩:=h;exact wv js s Y H x y v u Q I rx ry ⟨i,j,e1,e2,q⟩
def yX:PV->PV->MM:=m9 (λ_ _=>true) λi j=>.bl (inS i j)
def Cp:OpR X (binaryOp .Add) (λx y H Q=>∃i j,x=.str i/\y=.str j/\i.length+j.length<=sizeLine/\Q (.str (i++j)) H):=sE
def aZ:PV->PV->MM:=m9 (λi j=>decide (i.length+j.length<=10000)) λi j=>.str (i++j)
def BW(ha:SE X T W a ma)(hb:SE X T W b mb):SE X T W (.BinOp a .Add b pos) (mOp aZ ma mb):=
 ka Cp (zy (λi j h=>by rw[sizeLine_eq];lia) λ_ _ _ _ _ _=>kr) ha hb
def FG(ha:SE X T W a ma)(hb:SE X T W b mb)(hk:behindInMarks .In b=false:=by with_unfolding_all rfl):SE X T W (.Compare a [.In] [b] pos) (mOp yX ma mb):=kU GC (zy (λ_ _ _=>True.intro) λ_ _ _ _ _ _=>fT) ha hb hk
noncomputable def fG(C:Str->Bool)(g:Str->PV):PV->MM
 |.str i=>if C i then .ok (g i)else .stuck
 |_=>.stuck
def zA{C:Str->Prop}{C':Str->Bool}{g:Str->V}{g':Str->PV}(hc:∀i,C' i=true->C i)(hg:∀i F B L H,Rel T F B L H (g' i) (g i) []):Mir T W (p1 (fG C' g')) (λxs H Q=>∃i,xs=[.str i]/\C i/\Q (g i) H):=by
  intro B F L Y H Q F' H' xs vs fx gr r _ _ _ q;cases xs with
  |nil=>exact q.elim
  |cons x xs=>
    cases xs with
    |cons _ _=>exact q.elim
    |nil=>
      obtain⟨v,rfl,rv⟩:=r.one;cases x<;>first
        |exact q.elim
        | (unfold Rel at rv
           simp only[p1,fG]at q;split at q
           . rename_i hh
             obtain⟨rfl,_⟩:=rv;exact⟨_,rfl,hc _ hh,q.scal gr (hg _ _ _ _ _)⟩
           . exact q.elim)
def BP(hg:Gl X "len")(hm:X.mg "len"=none)(ha:SE X T W e m)(he:starEach [e] X.env=[(false,eval e X.env)]:=by rfl):SE X T W (.Call (.Name "len" p) [e] [] pos) (af (p1 (fG (λz=>decide (z.length<=10000)) λz=>.int z.length)) (ab m ae)):=
 d_ pE (zA (λz h=>by rw[sizeLine_eq];lia) λ_ _ _ _ _=>dP) hg hm PySem.boot_len (bU ha cN he) (he:=he)
def xb:dr X (.type "int") (λxs H Q=>∃z,xs=[.str z]/\(z.length<=640/\(PySem.intText? z).isSome)/\Q (.int ((PySem.intText? z).getD 0)) H):=by intro js s Y H xs us Q I r h;obtain⟨z,rfl,⟨hl,hi⟩,q⟩:=h;obtain⟨u,rfl,ru⟩:=aS.one r;obtain⟨t,rfl⟩:=ru;obtain⟨n,hn⟩:=isSome_iff_exists.mp hi;rw[hn]at q;exact PySem.W.KIN.call_text hn hl ⟨.int n,H,I.tok _,⟨_,rfl⟩,q⟩
def DM:bootBuiltins "int"=some (.type "int"):=by decide +kernel
def vD:bootBuiltins "str"=some (.type "str"):=by decide +kernel
def BS(hg:Gl X "int")(hm:X.mg "int"=none)(ha:SE X T W e m)(he:starEach [e] X.env=[(false,eval e X.env)]:=by rfl):SE X T W (.Call (.Name "int" p) [e] [] pos) (af (p1 (fG (λz=>decide (z.length<=640)&&(PySem.intText? z).isSome) λz=>.int ((PySem.intText? z).getD 0))) (ab m ae)):=
 eV xb (zA (λz h=>by simpa using h) λ_ _ _ _ _=>dP) hg hm DM (bU ha cN he) (he:=he)
noncomputable def cq:PV->MM
 |.int i=>if i.natAbs<2 ^ 1000 then .ok (.str (PySem.Str.ofString (toString i)))else .stuck
 |_=>.stuck
def qm:Mir T W (p1 cq) (λxs H Q=>∃i,xs=[.int i]/\i.natAbs.log2<1920/\Q (.str (toString i)) H):=by
  intro B F L Y H Q F' H' xs vs fx gr r _ _ _ q;cases xs with
  |nil=>exact q.elim
  |cons x xs=>
    cases xs with
    |cons _ _=>exact q.elim
    |nil=>
      obtain⟨v,rfl,rv⟩:=r.one;cases x<;>first
        |exact q.elim
        | (unfold Rel at rv
           simp only[p1,cq]at q;split at q
           . rename_i i hh
             obtain⟨rfl,_⟩:=rv;refine⟨i,rfl,?_,q.scal gr kr⟩;by_cases h0:i.natAbs=0
             . rw[h0];decide
             . exact Nat.lt_trans ((Nat.log2_lt h0).mpr hh) ()
           . exact q.elim)
def BH(hg:Gl X "str")(hm:X.mg "str"=none)(ha:SE X T W e m)(he:starEach [e] X.env=[(false,eval e X.env)]:=by rfl):SE X T W (.Call (.Name "str" p) [e] [] pos) (af (p1 cq) (ab m ae)):=
 eV jy qm hg hm vD (bU ha cN he) (he:=he)
def B4:V->MJ->Hp->VK->Prop:=λx vs H Q=>∃z y,x=.str z/\vs=[.str y]/\Q (.bl (PySem.Txt.startswith z y)) H
def wx:MtM X "str.startswith" B4:=by intro js s Y H x vs v us Q I rx rv h;obtain⟨z,y,rfl,rfl,q⟩:=h;obtain⟨t,rfl⟩:=rx;obtain⟨u,rfl,ru⟩:=aS.one rv;obtain⟨t2,rfl⟩:=ru;exact PySem.SC.startswith ⟨.bl _,H,I,rfl,q⟩
def dN(mo mk:ME):ME:=λenv=>(mo env).bind λx=>match x,mk env with
 |.str z,.ok (.str y)=>.ok (.bl (PySem.Txt.startswith z y))
 |_,_=>.stuck
def vU(ho:SE X T W o mo)(hk:SE X T W k mk)(hbase:attributeBase o "startswith" X.env (eval o X.env)=eval o X.env:=by rfl)
  (hst:starEach [k] X.env=[(false,eval k X.env)]:=by rfl)
  (hfew:Fwe X.env cpos [k]:=by rfl)
  (hline:(apos.endLine==cpos.line)=true:=by rfl):SE X T W (.Call (.Attribute o "startswith" apos) [k] [] cpos) (dN mo mk):=
 PE.wk (uv PySem.F.plainAttrs_str PySem.F.slot_str_startswith PySem.F.type_str_startswith wx ho (bU hk cN hst) hbase hfew hline hst) λY H Q hz1=>by
  walk_at "b";unfold dN at q;refine tE.bq S λpv v H1 F1 f1 e1 g1 r1 n1 d1 w1=>?_;rw[e1]at q;simp at q;have S1:=S.grow g1;split at q
  .rename_i z y em
   obtain⟨rfl,_⟩:=r1;refine⟨rfl,Z,F1,env,fp,S1,?_⟩;unfold ab ae;rw[em];intro vs H2 F2 f2 g2 r2 n2 d2 w2;obtain⟨u,rfl,ru⟩:=r2.one;obtain⟨rfl,_⟩:=ru;exact⟨_,_,rfl,rfl,GE.scal q (g1.trans g2) fT⟩
  .exact q.elim
def Its(x:Str):It:=⟨λi _=>i<x.cps.size,λi H v H'=>H'=H/\∃c,x.cps[i]?=some c/\v=.str ⟨#[c]⟩,λi _=>x.cps.size<=i⟩
def xu(x:Str)(t:Tok)(it:Addr):tZ P w K tg (Its x) [it] it (λi h=>h.IsStrIter it "str_ascii_iterator" x t i) where
 mem:=by simp
 obj:=λi h st b hb=>by
  have e:b=it:=by simpa using hb
  subst e;obtain⟨o,e,c,d⟩:=st;exact⟨o,e,λv z=>by lia⟩
 keep:=λi h h' st k=>by obtain⟨o,e,r⟩:=st;exact⟨o,k it () o e,r⟩
 item:=by intro X hP hw hK hc i js s Y H E I hf st hg;obtain⟨f0,f1,f2,f3,f4,f5⟩:=hf it ();have hg':i<x.cps.size:=hg;refine wpAny_pyNext_ascii_item st (c:=x.cps[i]) () λh' st' sb=>?_;have I1:Inv X js Y H {s with heap:=h',toks:=s.toks+1}:=I.turned (t':=s.toks+1) (λb o hb e=>sb.extBut b o hb e) f0 f1 f3 f4 f5;obtain⟨o,e,c,d⟩:=id st';exact⟨_,rfl,uJ e c d () ⟨.str ⟨#[x.cps[i]]⟩,H,I1,⟨_,rfl⟩,⟨rfl,_,by simp,rfl⟩,st',λb hb=>(hf b hb).1⟩⟩
 done:=by intro X hP hw hK hc i js s Y H E I hf st hg;obtain⟨f0,f1,f2,f3,f4,f5⟩:=hf it ();have hg':x.cps.size<=i:=hg;exact wpAny_pyNext_ascii_end (I.ok.hd hc) st (by simp[hg']) λh' eb=>⟨rfl,I.turned (t':=s.toks) (λb o hb e=>eb b o hb e) f0 f1 f3 f4 f5⟩
 self:=λ_ _ _ _ _ st h=>wpAny_pyIter_striter_ascii st h
noncomputable def asc(x:Str):Bool:=x.cps.all (· < 128)
def Gh(hl:PE X l tl):PI X tg l (λY H R=>tl Y H λx H1=>∃z,x=.str z/\asc z=true/\R (Its z) H1):=by
 intro js s Y H R I h;refine thn (hl js s Y H _ I h) λv s1 hz1=>?_;obtain⟨x,H1,I1,r1,q1⟩:=hz1;obtain⟨z,rfl,ha,q⟩:=q1;obtain⟨t,rfl⟩:=r1;refine wpAny_pyIter_ascii ha ?_;refine⟨s1.heap.objs.size,[s1.heap.objs.size],_,_,H1,rfl,I1.kept (t':=s1.toks) λb o e=>get?_push_of_some _ e,xu z t _,⟨_,get?_push_size _ rfl,rfl,rfl⟩,λb hb=>?_,q⟩;have e:b=s1.heap.objs.size:=by simpa using hb
 subst e;exact I1.fpOk (Nat.le_refl _) (I1.hok.fresh (Nat.le_refl _))
def j_(z:Str):ML:=z.cps.toList.map λc=>.str ⟨#[c]⟩
def kh(m:ME):MI:=λenv=>(m env).bind λx=>match x with
 |.str z=>if asc z then .ok (j_ z)else .stuck
 |_=>.stuck
def By(he:SE X T W e m):SIc X T W tg e (kh m):=λjs s Y H R I h=>Gh he js s Y H R I (by
 obtain⟨Z,F,env,fp,S,q⟩:=h;unfold kh at q;walk_at "a";simp at q;cases x with
 |str z=>
  dsimp only at q;split at q
  .rename_i ha
   refine⟨z,r1.1,ha,q _ H1 F1 g1 (ItC.of0 λH2 hx=>⟨λi x ex=>?_,?_⟩)⟩
   .unfold j_ at ex;rw[getElem?_map]at ex;obtain⟨c,hc,rfl⟩:=map_eq_some_iff.mp ex;have hc':z.cps[i]?=some c:=by simpa using hc
    refine⟨?_,λv H3 hy=>⟨hy.1,[],?_⟩⟩
    .have:=(Array.getElem?_eq_some_iff.mp hc').1;exact this
    .obtain⟨_,d,hd,rfl⟩:=hy;rw[hc']at hd;cases hd;exact kr
   .show z.cps.size <=(j_ z).length;simp[j_]
  .exact q.elim
 |_=>exact q.elim)
def LK:V->MG->MG->Hp->VK->Prop:=λx lo hi H Q=>∃z,x=.str z/\z.length<=sizeLine/\Q (.str (PySem.Txt.slice z lo hi)) H
def E_:SlR X LK:=by
 intro js s Y H x v vl vu lo hi sl Q I rx hs pl pu h;obtain⟨z,rfl,hz,q⟩:=h;obtain⟨t,rfl⟩:=rx;refine⟨"str",_,PySem.F.slot_str_getitem.lookup,typeIs_str _ _ _,?_⟩;cases pl with
 |none=>
  cases pu with
  |none=>exact wpAny_getItem_str_slice (l:=none) (u:=none) (st:=none) hs rfl (post_val_or_str ⟨Nat.le_trans (Txt.slice_le z _ _) hz,λt' k=>⟨.str _,H,I.tok _,⟨_,rfl⟩,q⟩⟩)
  |int j uj=>exact wpAny_getItem_str_slice (l:=none) (u:=some (j,uj)) (st:=none) hs rfl (post_val_or_str ⟨Nat.le_trans (Txt.slice_le z _ _) hz,λt' k=>⟨.str _,H,I.tok _,⟨_,rfl⟩,q⟩⟩)
 |int i ui=>
  cases pu with
  |none=>exact wpAny_getItem_str_slice (l:=some (i,ui)) (u:=none) (st:=none) hs rfl (post_val_or_str ⟨Nat.le_trans (Txt.slice_le z _ _) hz,λt' k=>⟨.str _,H,I.tok _,⟨_,rfl⟩,q⟩⟩)
  |int j uj=>exact wpAny_getItem_str_slice (l:=some (i,ui)) (u:=some (j,uj)) (st:=none) hs rfl (post_val_or_str ⟨Nat.le_trans (Txt.slice_le z _ _) hz,λt' k=>⟨.str _,H,I.tok _,⟨_,rfl⟩,q⟩⟩)
def ii(o:ME)(lo hi:MO):ME:=λenv=>(o env).bind λx=>(lo env).bind λl=>(hi env).bind λh=>match x with
 |.str z=>if z.length<=10000 then .ok (.str (PySem.Txt.slice z l h))else .stuck
 |_=>.stuck
def vW(he:SE X T W e m)(hl:SO X T W lo ml)(hu:SO X T W hi mh):SE X T W (.Subscript e (.Slice lo hi none p2) pos) (ii m ml mh):=
 PE.wk (qa E_ he hl hu) λY H Q hz1=>by
  walk_at "b";unfold ii at q;walk_at "a";simp only[Res.M0]at q;refine⟨Z,F1,env,fp,S.grow g1,?_⟩;cases e2:ml env with
  |exc c=>rw[e2]at q;exact λH' x=>q H' (g1.ext.trans x)
  |stuck=>rw[e2]at q;exact q
  |ok l=>
   rw[e2]at q;intro H2 F2 g2;refine⟨Z,F2,env,fp,(S.grow g1).grow g2,?_⟩;cases e3:mh env with
   |exc c=>rw[e3]at q;exact λH' x=>q H' ((g1.ext.trans g2.ext).trans x)
   |stuck=>rw[e3]at q;exact q
   |ok h=>
    rw[e3]at q;intro H3 F3 g3;cases x with
    |str z=>
     dsimp only at q;split at q
     .rename_i hz
      exact⟨z,r1.1,by rw[sizeLine_eq];lia,GE.scal q ((g1.trans g2).trans g3) kr⟩
     .exact q.elim
    |_=>exact q.elim
def yn(hg:Gl X x)(hm:∃t,X.mg x=some (.str y t))(hd:Nd x:=by decide):SE X T W (.Name x pos) (mC (.str y)):=by obtain⟨t,h⟩:=hm;exact iG (gy (v:=.str y) hg h ⟨t,rfl⟩ hd) λ_ _ _ _=>kr
end
section
variable{prog:Program}{w:World}{A:Around}{E:Mv}{s:Shared}
abbrev liO(xs:MC)(c:Nat):Obj:={cls:=.type "list",data:=.seq xs.toArray c}
theorem qc(x:Str)(w:Nat):∀(cuts:List Nat) (a:Nat),(StrLaws.partsFrom x w a cuts).length=cuts.length+1
 | [],_=>rfl
 |c::r,a=>by show(_::StrLaws.partsFrom x w (c+w) r).length=_;rw[length_cons,qc x w r];rfl
def qd(x y:Str):(Builtin.Str.partsBetween x (Builtin.Str.occurrences x y 0 x.length (x.length+1)) y.length).length<=x.length+2:=by
 rw[StrLaws.partsBetween_eq,qc];have:=StrLaws.occ_length_le x y 0 x.length (x.length+1)
 lia
def xT(x y:Str):(PySem.Txt.split x y).length<=x.length+2:=by
 unfold PySem.Txt.split;split
 .simp
 .split
  .simp
  .exact qd x y
def xS(hy:(y.length==0)=false)(hz:x.length<=1000000)
  (hq:∀l c k,l.map (·.1)=PySem.Txt.split x y->Q (.ref s.heap.objs.size) {s with heap:=s.heap.push (liO (strValues l) c),toks:=k}) :
  wpAny (model prog w) A (call (.builtin "str.split") [.str x t,.str y u]) Q E s:=by
 have hz1:x.length<=sizeLine:=by rw[sizeLine_eq];lia
 have hn:(Builtin.Str.partsBetween x (Builtin.Str.occurrences x y 0 x.length (x.length+1)) y.length).length<=sizeLine:=by
  have:=qd x y;rw[sizeLine_eq]
  lia
 have one:∀(e:[x]=PySem.Txt.split x y),Q (.ref s.heap.objs.size) {s with heap:=s.heap.push (liO (strValues [(x,t)]) 0),toks:=s.toks}:=λe=>hq [(x,t)] 0 s.toks e;by_cases h1:(decide (x.length<y.length)||decide (Builtin.Str.strKind x<Builtin.Str.strKind y))=true
 .exact call_meets F.slot_str_split (typeIs_str _ _ _) F.entry_str_split (F.args_str_split_2 _ _) (meets_str_split_cannot_occur x y t u h1) (one (if_pos h1).symm)
 .by_cases h2:(Builtin.Str.occurrences x y 0 x.length (x.length+1)).isEmpty=true
  .exact call_meets F.slot_str_split (typeIs_str _ _ _) F.entry_str_split (F.args_str_split_2 _ _) (meets_str_split_not_found x y t u (eq_false_iff.mpr h1) hy h2) (one ((if_neg h1).trans (if_pos h2)).symm)
  .refine call_meets F.slot_str_split (typeIs_str _ _ _) F.entry_str_split (F.args_str_split_2 _ _) (meets_str_split_sep x y t u (eq_false_iff.mpr h1) hy (eq_false_iff.mpr h2) hz1 hn) ?_;rw[strsFrom_eq];exact hq (numbered s.toks _) 0 _ ((numbered_texts _ _).trans ((if_neg h1).trans (if_neg h2)).symm)
theorem ox:∀(l:List (Str×Tok)),aS ((l.map (·.1)).map V.str) (strValues l)
 | []=>.nil
 |p::l=>.cons ⟨p.2,rfl⟩ (ox l)
theorem t8:∀{ys:MF}{its:MC},aS (ys.map V.str) its->∃l:List (Str×Tok),its=strValues l/\l.map (·.1)=ys
 | [],_,.nil=>⟨[],rfl,rfl⟩
 |y::ys,_,.cons ⟨t,h⟩ r=>by obtain⟨l,h1,h2⟩:=t8 r;exact⟨(y,t)::l,by rw[h,h1];rfl,by rw[map_cons,h2]⟩
end
section
variable{X:Cx}{T:Tb}{W:Nat->St->MK}{Z:Zn}{F F1 B L:Mz}{H H1:Hp}{Y:St}{env:En}{fp:Nat->MD}
def FW:V->MJ->Hp->VK->Prop:=λx vs H Q=>∃z y,x=.str z/\vs=[.str y]/\((y.length==0)=false/\z.length<=1000000)/\∀l,H l=none->Q (.ref l) (upd H l (.lst ((PySem.Txt.split z y).map V.str)))
def zg:MtM X "str.split" FW:=by
 intro js s Y H x vs v us Q I rx rv h;obtain⟨z,y,rfl,rfl,⟨hy,hz⟩,q⟩:=h;obtain⟨t,rfl⟩:=rx;obtain⟨u,rfl,ru⟩:=aS.one rv;obtain⟨t2,rfl⟩:=ru;refine xS hy hz λl c k hl=>?_;have hv:=ox l;rw[hl]at hv;have hs:((PySem.Txt.split z y).map V.str).length<=sizeLine:=by
  have:=xT z y;rw[length_map,sizeLine_eq]
  lia
 exact⟨.ref s.heap.objs.size,_,I.laid (t':=k) (λb o e=>get?_push_of_some _ e) (Nat.le_refl _) (show cK X.prog X.w _ _ _ (.lst ((PySem.Txt.split z y).map V.str))from⟨hs,strValues l,c,hv,get?_push_size _ rfl⟩),rfl,q _ (I.hok.fresh (Nat.le_refl _))⟩
def IY(K:PySem.W.Frag):V->MJ->Hp->VK->Prop:=λx vs H Q=>∃z p ys,x=.str z/\vs=[.ref p]/\SqL K H p (ys.map V.str)/\JoinOk z ys=true/\Q (.str (PySem.Txt.join z ys)) H
def Cz:MtM X "str.join" (IY X.K):=by intro js s Y H x vs v us Q I rx rv h;obtain⟨z,p,ys,rfl,rfl,hq,hj,q⟩:=h;obtain⟨t,rfl⟩:=rx;obtain⟨u,rfl,ru⟩:=aS.one rv;cases ru;obtain⟨its,r',pl,hz⟩:=I.list hq;obtain⟨l,rfl,hl⟩:=t8 r';exact PySem.SC.join pl.isList hl hj λt' k=>⟨.str _,H,I.tok _,⟨_,rfl⟩,q⟩
def mMt(g:Str->PV->MM)(mo mk:ME):ME:=λenv=>(mo env).bind λx=>match x,mk env with
 |.str z,.ok v=>g z v
 |_,_=>.stuck
def D1{nm:Str}{id:String}{r:V->MJ->Hp->VK->Prop}{g:Str->PV->MM}{o k:Expr}{mo mk:ME}{apos cpos:Pos}(slot:Slot "str" nm id)(hty:typeOf (.builtin id)=pure (.type "method_descriptor"))(hmt:MtM X id r)
  (hr:∀{B F L F2:Mz}{Y:St}{H H2:Hp}{Q:VK}{z:Str}{v:PV}{u:V}{f2:MD},Gr F H F2 H2->Rel T F2 B L H2 v u f2->GE T W B F L Y H Q (g z v)->r (.str z) [u] H2 Q)
  (ho:SE X T W o mo) (hk:SE X T W k mk) (hbase:attributeBase o nm X.env (eval o X.env)=eval o X.env:=by rfl)
  (hst:starEach [k] X.env=[(false,eval k X.env)]:=by rfl)
  (hfew:Fwe X.env cpos [k]:=by rfl)
  (hline:(apos.endLine==cpos.line)=true:=by rfl):SE X T W (.Call (.Attribute o nm apos) [k] [] cpos) (mMt g mo mk):=
 PE.wk (uv PySem.F.plainAttrs_str slot hty hmt ho (bU hk cN hst) hbase hfew hline hst) λY H Q hz1=>by
  walk_at "b";unfold mMt at q;refine tE.bq S λpv v H1 F1 f1 e1 g1 r1 n1 d1 w1=>?_;rw[e1]at q;simp at q;have S1:=S.grow g1;split at q
  .rename_i z y em
   obtain⟨rfl,_⟩:=r1;refine⟨rfl,Z,F1,env,fp,S1,?_⟩;unfold ab ae;rw[em];intro vs H2 F2 f2 g2 r2 n2 d2 w2;obtain⟨u,rfl,ru⟩:=r2.one;exact hr (g1.trans g2) ru q
  .exact q.elim
theorem oC:∀(ys:MF),RelL T F B L H (ys.map .str) (ys.map V.str) []
 | []=>by exact⟨rfl,rfl⟩
 |y::ys=>by exact⟨_,_,[],[],rfl,kr,oC ys,rfl⟩
noncomputable def eO(z:Str):PV->MM
 |.str y=>if(y.length==0)=false/\z.length<=1000000 then .ok (.lst .own ((PySem.Txt.split z y).map .str))else .stuck
 |_=>.stuck
noncomputable def jG:ML->Option (MF)
 | []=>some []
 |.str z::xs=>(jG xs).map (z::·)
 |_::_=>none
def ef(z:Str):PV->MM
 | .lst _ xs=>(match jG xs with
  |some ys=>if JoinOk z ys=true then .ok (.str (PySem.Txt.join z ys))else .stuck
  |none=>.stuck)
 |_=>.stuck
theorem t_:∀{xs:ML}{ys:MF}{vs:MJ}{f:MD},jG xs=some ys->RelL T F B L H xs vs f->vs=ys.map V.str
 | [],ys,vs,f,h,r=>by cases h;exact r.1
 |x::xs,ys,vs,f,h,r=>by
  obtain⟨v,ws,f1,f2,rfl,r1,r2,_⟩:=r;cases x with
  |str z=>obtain⟨zs,hz,rfl⟩:=map_eq_some_iff.mp h;rw[r1.1,t_ hz r2];rfl
  |_=>cases h
section
variable{o k:Expr}{mo mk:ME}{apos cpos:Pos}
def yf(ho:SE X T W o mo)(hk:SE X T W k mk)(hbase:attributeBase o "split" X.env (eval o X.env)=eval o X.env:=by rfl)
  (hst:starEach [k] X.env=[(false,eval k X.env)]:=by rfl)
  (hfew:Fwe X.env cpos [k]:=by rfl)
  (hline:(apos.endLine==cpos.line)=true:=by rfl):SE X T W (.Call (.Attribute o "split" apos) [k] [] cpos) (mMt eO mo mk):=
 D1 PySem.F.slot_str_split PySem.F.type_str_split zg (λ{B F L F2 Y H H2 Q z v u f2} g ru q=>by
  cases v with
  |str y=>
   unfold eO at q;dsimp only at q;split at q
   .rename_i h
    exact⟨z,y,rfl,by rw[ru.1],h,GE.newL q g (oC _) (λ_ h=>nomatch h) .nil λ_ h=>nomatch h⟩
   .exact q.elim
  |_=>exact q.elim) ho hk hbase hst hfew hline
def BQ(hK:X.K=T.K)(ho:SE X T W o mo)(hk:SE X T W k mk)(hbase:attributeBase o "join" X.env (eval o X.env)=eval o X.env:=by rfl)
  (hst:starEach [k] X.env=[(false,eval k X.env)]:=by rfl)
  (hfew:Fwe X.env cpos [k]:=by rfl)
  (hline:(apos.endLine==cpos.line)=true:=by rfl):SE X T W (.Call (.Attribute o "join" apos) [k] [] cpos) (mMt ef mo mk):=
 D1 PySem.F.slot_str_join PySem.F.type_str_join Cz (λ{B F L F2 Y H H2 Q z v u f2} g ru q=>by
  cases v with
  |lst f xs=>
   obtain⟨a,ws,fp',rfl,hl,hr,_⟩:=ru;unfold ef at q;dsimp only at q;cases e:jG xs with
   |none=>rw[e]at q;exact q.elim
   |some ys=>
    rw[e]at q;dsimp only at q;split at q
    .rename_i h
     have:=t_ e hr;subst this;exact⟨z,a,ys,rfl,rfl,by rw[hK];exact hl.sq,h,GE.scal q g kr⟩
    .exact q.elim
  |_=>exact q.elim) ho hk hbase hst hfew hline
end
def HH(K:PySem.W.Frag)(d:Addr)(xs:MF):Prop:=
 ∃(dd:Option Addr) (l:List (Str×Tok)) (n:Nat) (sl:Array (Option Value)),K.lookup d=some ⟨.type "tuple",dd,.seq (strValues l).toArray n,sl⟩/\l.map (·.1)=xs
def gS(hK:X.K=T.K)(hg:Gl X x)(hm:X.mg x=some (.ref d))(hT:HH X.K d xs)(hn:xs.length<=1000)(hd:Nd x:=by decide):SE X T W (.Name x pos) (mC (.tup (xs.map .str))):=
 iG (gy (v:=.ref d) hg hm rfl hd) λ_ _ _ _=>by
  obtain⟨dd,l,n,sl,h1,rfl⟩:=hT;refine⟨d,_,rfl,.inr ⟨_,_,n,by rw[<- hK];exact h1,rfl,rfl,?_,ox l⟩,oC _⟩;rw[sizeLine_eq];simp at hn ⊢
  lia
variable{d:Addr}{kvs:List (Str×Int)}
def D5(d:Addr)(kvs:List (Str×Int)):R2:=λx y H Q=>∃k,x=.str k/\y=.ref d/\Q (.bl (look kvs k).isSome) H
def Cm(hD:iE X.w X.K d kvs):OpR X (compareOp .In) (D5 d kvs):=by
 intro js s Y H x y v u Q I rx ry h;obtain⟨k,rfl,rfl,q⟩:=h;obtain⟨t,rfl⟩:=rx;cases ry;obtain⟨f,hm,hf⟩:=hD.map I.kIn;refine wpAny_in_of (by show(k==k)=true;simp) hD.ne hm ⟨.bl (look kvs k).isSome,H,I.tok _,?_,q⟩;have:=hf k;cases e:look kvs k with
 |none=>rw[e]at this;rw[show f k=none from this];rfl
 |some i=>rw[e]at this;obtain⟨u,hu⟩:=this;rw[hu];rfl
def m_(kvs:List (Str×Int)):PV->MM
 |.str k=>.ok (.bl (look kvs k).isSome)
 |_=>.stuck
def zu:xm T W (m_ kvs) (λx H Q=>D5 d kvs x (.ref d) H Q):=by
 intro B F L Y H Q F' H' x v fx g rx nf nd new q;cases x with
 |str k=>exact⟨k,rx.1,rfl,q.scal g fT⟩
 |_=>exact q.elim
def Bg(hg:Gl X x)(hm:X.mg x=some (.ref d))(hD:iE X.w X.K d kvs)(he:SE X T W e m)(hd:Nd x:=by decide):ST X T W (.Compare e [.In] [.Name x px] pos) (ai (mUn (m_ kvs) m)):=
 PT.wk (oH (Cm hD) he (gy (v:=.ref d) hg hm rfl hd) rfl) λY H Q h=>by obtain⟨Z,F,env,fp,S,q⟩:=tT.test h;exact tE.mir1 zu ⟨Z,F,env,fp,S,q⟩
end
end
section
section
variable{X:Cx}{T:Tb}{W:Nat->St->MK}{Z:Zn}{F F1 B L:Mz}{H H1:Hp}{Y:St}{env:En}{fp:Nat->MD}
noncomputable def iM:PV->PV->MM
 |.str x,.int n=>if -1000<=n/\n<=1/\x.length<=1000 then .ok (.str (if n<1 then Str.empty else x))else .stuck
 |_,_=>.stuck
def y2:OpR X (binaryOp .Mult) (λx y H Q=>∃z n,x=.str z/\y=.int n/\(-1000<=n/\n<=1/\z.length<=1000)/\Q (.str (if n<1 then Str.empty else z)) H):=by
 intro js s Y H x y v u Q I rx ry h;obtain⟨z,n,rfl,rfl,⟨h1,h2,h3⟩,q⟩:=h;obtain⟨t,rfl⟩:=rx;obtain⟨t2,rfl⟩:=ry;refine PySem.P.mul_str ?_ (λa b=>?_) (λa b=>?_) ?_
 .rw[decide_eq_false (),decide_eq_false ()];rfl
 .exfalso;have:n=1:=by lia
  subst this;simp at b
 .exfalso;have:n=1:=by lia
  subst this;simp at b
 .by_cases h:n<1
  .rw[if_pos h]at q ⊢;exact⟨by decide,.str Str.empty,H,I.tok _,⟨_,rfl⟩,q⟩
  .have e:n=1:=by lia
   subst e;rw[if_neg h]at q ⊢;rw[if_pos ()];exact⟨.str z,H,I,⟨t,rfl⟩,q⟩
def wD:ip T W iM (λx y H Q=>∃z n,x=.str z/\y=.int n/\(-1000<=n/\n<=1/\z.length<=1000)/\Q (.str (if n<1 then Str.empty else z)) H):=by
  intro B F L Y H Q F' H' x y v u fx fy gr rx ry _ _ _ q;cases x<;>cases y<;>first
    |exact q.elim
    | (unfold Rel at rx ry
       simp only[iM]at q;split at q
       . rename_i hh
         exact⟨_,_,rx.1,ry.1,hh,q.scal gr kr⟩
       . exact q.elim)
def yh(ha:SE X T W a ma)(hb:SE X T W b mb):SE X T W (.BinOp a .Mult b pos) (mOp iM ma mb):=ka y2 wD ha hb
end
open AutoSeq1 (wpAny_loadPart')
structure AX(K:PySem.W.Frag)(x qual:Str)(st:Stmt)(f:Addr)(fd:FuncData)(dT:Addr)(ds:MC):Prop where
 ex:∃(oc:Value) (od:Option Addr) (kV doc pm:Value) (an:Option Addr) (cdv ct:Value) (osl:Array (Option Value)),
  fd=PySem.W.fnOf x qual (b8 st) (ba st) (aB st) (.ref dT) kV doc pm an cdv ct/\K.lookup f=some ⟨oc,od,.func fd,osl⟩/\PySem.W.codeIn K cdv qual=true
 kp:PySem.W.keepIn K (.ref f)=true
 dl:∃(o:Obj) (n:Nat),K.lookup dT=some o/\o.data=.seq ds.toArray n
section
variable{P:Program}{w:World}{mg:Mw}{base:Heap}{T:Tb}
def Hc(F:AX T.K x qual st f fd dT ds)(S:dE N ps (aB st))
  (body:∀ (cdv:Value) (A:Around) (outer:List Env) (s:Shared) (H:Hp) (E:XK),Ctx (fE (CXP P w) P w T.K mg base N qual (aB st) f cdv A outer s H E) T (WD T E) k ->
   SSs (fE (CXP P w) P w T.K mg base N qual (aB st) f cdv A outer s H E) T (WD T E) (ba st) m):cF P w T.K mg base (CXP P w) (k+1) f fd ps (spM T ps.length (aN N.length m)):=by
 obtain⟨oc,od,kV,doc,pm,an,cdv,ct,osl,rfl,lk,hcd⟩:=F.ex;refine Ae lk hcd S (λvs H Q E h=>h.1) λA outer s H vs Q E hr hsp=>⟨_,body cdv A outer s H E (pb hr),?_⟩
 obtain⟨_,pvs,F,B,fl,R,q⟩:=hsp;obtain⟨fp,S0⟩:=j8 N R none (λ_ h=>nomatch h);refine⟨_,F,_,fp,S0,?_⟩;unfold aN at q;cases e:m (pvs.map some++replicate (N.length-pvs.length) none)with
 |next e'=>rw[e]at q;exact λF' H' σ' fp' S'=>q F' H' .non [] S'.hp IV nodup_nil (λ_ z=>(nomatch z)) (λ_ z=>(nomatch z))
 |ret v=>rw[e]at q;exact q
 |brk e'|cont e'=>rw[e]at q;exact q.elim
 |exc c e'=>rw[e]at q;exact λF' H' σ' fp' S'=>q H' S'.hp.keep
 |stuck=>rw[e]at q;exact q.elim
def AX.binds(F:AX K x qual st f fd dT ds)
  (h:∀(kV doc pm:Value) (an:Option Addr) (cdv ct:Value) (us:MC),(us++es).length=ps.length->∃k:Option (MH)->Sem (List (Str×Value)),bindArgs (PySem.W.fnOf x qual (b8 st) (ba st) (aB st) (.ref dT) kV doc pm an cdv ct) ⟨us,[]⟩=seqItems? (.ref dT) >>= k/\k (some ds.toArray)=pure (ps.zip (us++es))):eK K fd ps es:=by
 obtain⟨oc,od,kV,doc,pm,an,cdv,ct,osl,rfl,lk,hcd⟩:=F.ex;obtain⟨o,n,lo,hd⟩:=F.dl;intro s us KI hl;obtain⟨k,h1,h2⟩:=h kV doc pm an cdv ct us hl;exact BindsTo.of_defaults rfl (KI _ _ lo) hd h1 h2
end
section
variable{X:Cx}{T:Tb}{W:Nat->St->MK}{Z:Zn}{F F1 B L:Mz}{H H1:Hp}{Y:St}{env:En}{fp:Nat->MD}
def mFz(m:ME):ME:=λenv=>(m env).bind λv=>.ok (v.MY Fl.MQ)
def IP(he:SE X T W e m):SE X T W e (mFz m):=PE.wk he λY H Q hz1=>by
 walk_at "b";unfold mFz at q;refine⟨Z,F,env,fp,S,?_⟩;cases em:m env with
 |stuck|exc c=>rw[em]at q;exact q
 |ok pv=>rw[em]at q;intro v H' F' f g r nf nd new;refine q v H' (λa=>F' a\/a∈f) [] ⟨g.ext,λa h=>.inl (g.mono a h),λa h=>h.elim (g.only a) λz=>.inr (new a z),λa h=>h.elim (g.dom a) λz=>r.there a z⟩ (Rel.MQ (λ_ h=>.inl h) (λa h=>.inr h) r) (λ_ h=>nomatch h) nodup_nil λ_ h=>nomatch h
end
open PySem.W (findIn fnOf keepIn nsIn codeIn isFn Frag)
structure FS where
 q:Str
 s:Stmt
 k:Nat
 N:MF
 c:Option Nat
def a_(s:Stmt):Str:=match s with
 |.FunctionDef n _ _ _ _ _ _ _ _ _=>n
 |_=>""
structure Clo(H:Hp)(fr:MF)(cl:List (Str×Addr))(cvs:MJ):Prop where
 inj:∀x y c,cl.lookup x=some c->cl.lookup y=some c->x=y
 sub:∀x c,cl.lookup x=some c->x∈fr
 len:cvs.length=fr.length
 val:∀(i:Nat) x v,fr[i]?=some x->cvs[i]?=some v->∃c o u z,cl.lookup x=some c/\H c=some (.frz o u)/\o.data=.cell (some z)/\bA v z
def Clo.tr(C:Clo H fr cl cvs)(h:∀b o u,H b=some (.frz o u)->H' b=some (.frz o u)):Clo H' fr cl cvs:=
 ⟨C.inj,C.sub,C.len,λi x v h1 h2=>let⟨c,o,u,z,q1,q2,q3⟩:=C.val i x v h1 h2;⟨c,o,u,z,q1,h _ _ _ q2,q3⟩⟩
structure FI where
 name:Str
 qual:Str
 params:Arguments
 body:List Stmt
 scope:Scope
 fr:MF
def FI.bx(i:FI)(H:Hp)(f:Addr)(cvs:MJ):Prop:=∃cl doc pm ctv c' oc u u' vs t,H f=some (.frz (PySem.W.fnMade i.name i.qual i.params i.body i.scope cl doc pm c' ctv) u)/\
 H c'=some (.frz oc u')/\oc.data=.fields vs/\vs[1]?=some (.str i.qual t)/\Clo H i.fr cl cvs
def FI.bxs{i:FI}(h:∀b o u,H b=some (.frz o u)->H' b=some (.frz o u))(q:i.bx H f cvs):i.bx H' f cvs:=by obtain⟨cl,doc,pm,ctv,c',oc,u,u',vs,t,h1,h2,h3,h4,C⟩:=q;exact⟨cl,doc,pm,ctv,c',oc,u,u',vs,t,h _ _ _ h1,h _ _ _ h2,h3,h4,C.tr h⟩
structure NFd where
 i:Nat
 j:Nat
 q:Str
 k:Nat
 fr:MF
 N:MF
structure PT where
 F:List FS
 C:MF
 X:MF
 A:MF
 M:List (Nat×Str×Nat)
 Mk:List (Nat×Nat)
 U:List (Nat×Nat)
 B:MF
 I:List (Str×Int)
 KT:List (Option Nat×String×List Bool)
 HT:List (Nat×List Bool)
 D:List (MF):=[]
 G:Option NFd:=none
noncomputable def fs0:FS:=⟨"",.Pass ⟨0,0,0,0⟩,0,[],none⟩
noncomputable def pk{α:Type}(d:α)(l:List α)(i:Nat):α:=l.getD i (l.headD d)
def fN{α:Type}{d:α}{p:α->Prop}{l:List α}(hl:l≠[])(h:∀x∈l,p x)(i:Nat):p (pk d l i):=by
 unfold pk;rw[getD_eq_getElem?_getD];cases e:l[i]? with
 |some C=>exact h C (List.mem_of_getElem? e)
 |none=>
  cases l with
  |nil=>exact absurd rfl hl
  |cons a l=>exact h a mem_cons_self
section
variable(p:PT)(K:Frag)
noncomputable def gAt(x:Str):Addr:=match nsIn K mainGlobals x with
 |some (some (.ref a))=>a
 |_=>0
noncomputable def mAt(c:Addr)(x:Str):Addr:=match findIn K (.ref c) x with
 |some (some (.ref a))=>a
 |_=>0
noncomputable def dAt(f:Addr):FuncData:=match K.lookup f with
 |some ⟨_,_,.func d,_⟩=>d
 |_=>default
def PT.fs(i:Nat):FS:=pk fs0 p.F i
def PT.ps(i:Nat):MF:=(p.fs i).N.take (p.fs i).k
def PT.ca(c:Nat):Addr:=gAt K (pk "" p.C c)
def PT.xa(c:Nat):Addr:=gAt K (pk "" p.X c)
def PT.fx(x:FS):Addr:=match x.c with
 |none=>gAt K (a_ x.s)
 |some c=>mAt K (p.ca K c) (a_ x.s)
def PT.fa(i:Nat):Addr:=p.fx K (p.fs i)
def lit(x:FS):Obj->Obj
 |⟨oc,od,.func d,sl⟩=>⟨oc,od,.func (fnOf (a_ x.s) x.q (b8 x.s) (ba x.s) (aB x.s) .none d.kwdefaults d.doc d.pyModule d.annotations d.code d.closureTuple),sl⟩
 |o=>o
noncomputable def JB:Option Obj->Bool
 |some ⟨_,_,.func _,_⟩=>true
 |_=>false
def scB(x:FS):Bool:=decide ((aB x.s).kind=.function)&&!(aB x.s).isCoroutine&&!(aB x.s).isGenerator&&decide x.N.Nodup&&decide (x.k<=x.N.length) &&
 (x.N.take x.k).all (λy=>decide ((aB x.s).names.lookup y=some .local \/(aB x.s).names.lookup y=some .cell))&&(aB x.s).names.all (λy=>decide (y.2≠.free))
def PT.chF(x:FS):Bool:=JB (K.lookup (p.fx K x))&&codeIn K (dAt K (p.fx K x)).code x.q&&keepIn K (.ref (p.fx K x))&&(match x.c with|none=>decide (nsIn K mainGlobals (a_ x.s)=some (some (.ref (p.fx K x))))|some _=>true)
def chC(A:MF)(x:Str):Bool:=plainGet K (gAt K x) Str.empty&&hasDictIn K (gAt K x)&&plainOver K (gAt K x)&&decide (findIn K (.ref (gAt K x)) "__setattr__"=some (some (.builtin "object.__setattr__"))) &&
 decide (nsIn K mainGlobals x=some (some (.ref (gAt K x))))&&A.all (λy=>decide (findIn K (.ref (gAt K x)) y=some none))
def PT.chM(x:Nat×Str×Nat):Bool:=decide (findIn K (.ref (p.ca K x.1)) x.2.1=some (some (.ref (p.fa K x.2.2))))&&isFn K (.ref (p.fa K x.2.2))&&keepIn K (.ref (p.fa K x.2.2))
def PT.chK(x:Nat×Nat):Bool:=makesIn K (p.ca K x.1)&&decide (findIn K (.ref (p.ca K x.1)) "__init__"=some (some (.ref (p.fa K x.2))))&&isFn K (.ref (p.fa K x.2))&&keepIn K (.ref (p.ca K x.1))
noncomputable def Ed(f:Addr):Option PySem.W.CFound->Bool
 |some (.val (.ref a))=>decide (a=f)
 |_=>false
def PT.chU(x:Nat×Nat):Bool:=decide (specialIn K (.ref (p.ca K x.1)) "__getattribute__"=some (some (.builtin "type.__getattribute__")))&&readsIn K (p.ca K x.1) (.type "type")&&Ed (p.fa K x.2) (findCls K (.ref (p.ca K x.1)) (.type "type") "__init__")&&keepIn K (.ref (p.fa K x.2))
def tgV(y:Option Nat×String×List Bool):Value:=match y.1 with
 |some x=>.ref (p.xa K x)
 |none=>.type y.2.1
def chX(x:Str):Bool:=decide (nsIn K mainGlobals x=some (some (.ref (gAt K x))))&&Hi K (gAt K x)
noncomputable def chI(x:Str×Int):Bool:=match nsIn K mainGlobals x.1 with
 |some (some (.int i _))=>decide (i=x.2)
 |_=>false
def PT.chT(y:Option Nat×String×List Bool):Bool:=decide (p.X.map (λx=>kitOne K (.ref (gAt K x)) (tgV p K y))=y.2.2.map some)
def PT.chH(y:Nat×List Bool):Bool:=decide (p.X.map (λx=>exmOne K (.ref (gAt K x)) (.ref (p.xa K y.1)))=y.2.map some)
def PT.ch1:Bool:=p.F.all (p.chF K)
def PT.ch2:Bool:=p.C.all (chC K p.A)&&p.Mk.all (p.chK K)&&p.U.all (p.chU K)&&p.X.all (chX K)&&p.B.all (λx=>decide (nsIn K mainGlobals x=some none))&&p.I.all (chI K)&&p.KT.all (p.chT K)&&p.HT.all (p.chH K)
def PT.ch3:Bool:=p.M.all (p.chM K)
def PT.ob:List (Option Obj):=p.F.map λx=>K.lookup (p.fx K x)
def PT.ol:List (Option Obj):=p.F.map λx=>(K.lookup (p.fx K x)).map (lit x)
end
structure Tx(p:PT)(K:Frag)(mg:Mw):Prop where
 fn:∀i,Fun K (a_ (p.fs i).s) (p.fs i).q (p.fs i).s (p.fa K i) (dAt K (p.fa K i))
 sc:∀i,dE (p.fs i).N (p.ps i) (aB (p.fs i).s)
 bn:∀i,eK K (dAt K (p.fa K i)) (p.ps i) []
 gl:∀i,(p.fs i).c=none->mg (a_ (p.fs i).s)=some (.ref (p.fa K i))
 cl:∀c,Cls K (p.ca K c)
 cg:∀c,mg (pk "" p.C c)=some (.ref (p.ca K c))
 cn:∀c,∀x∈p.A,fB K (p.ca K c) x
 me:∀x∈p.M,AV K (p.ca K x.1) x.2.1 (p.fa K x.2.2)
 mm:∀x∈p.Mk,Mk K (p.ca K x.1) (p.fa K x.2)
 su:∀x∈p.U,Sup K (p.ca K x.1) (p.fa K x.2)
 xg:∀c,mg (pk "" p.X c)=some (.ref (p.xa K c))
 xe:∀c,Hi K (p.xa K c)=true
 bi:∀x∈p.B,mg x=none
 ci:∀x∈p.I,∃tk,mg x.1=some (.int x.2 tk)
 kt:∀y∈p.KT,∀c,kitOne K (.ref (p.xa K c)) (tgV p K y)=some (la y.2.2 c)
 ht:∀y∈p.HT,∀c,exmOne K (.ref (p.xa K c)) (.ref (p.xa K y.1))=some (la y.2 c)
def Bnd(x:FS):Prop:=∀(kV doc pm:Value) (an:Option Addr) (cdv ct:Value) (us:MC),us.length=(x.N.take x.k).length->bindArgs (fnOf (a_ x.s) x.q (b8 x.s) (ba x.s) (aB x.s) .none kV doc pm an cdv ct) ⟨us,[]⟩=pure ((x.N.take x.k).zip us)
def A1:List FS->Prop
 | []=>True
 |x::l=>Bnd x/\A1 l
theorem A1.get:∀{l:List FS},A1 l->∀x∈l,Bnd x
 | [],_,_,h=>nomatch h
 |y::l,⟨h1,h2⟩,x,h=>by
  rcases mem_cons.mp h with rfl|h
  .exact h1
  .exact h2.get x h
section
variable{x:FS}
def lsS{us:MC}(h:us.length=n+1):∃a r,us=a::r/\r.length=n:=by
 cases us with
 |nil=>cases h
 |cons a r=>exact⟨a,r,rfl,Nat.succ.inj h⟩
def bn1(h:∀(kV doc pm:Value) (an:Option Addr) (cdv ct u1:Value),bindArgs (fnOf (a_ x.s) x.q (b8 x.s) (ba x.s) (aB x.s) .none kV doc pm an cdv ct) ⟨[u1],[]⟩=pure ((x.N.take x.k).zip [u1]):=by intros;rfl)(hk:(x.N.take x.k).length=1:=by rfl):Bnd x:=λkV doc pm an cdv ct us hl=>by rw[hk]at hl;obtain⟨_,_,rfl,l1⟩:=lsS hl;cases eq_nil_of_length_eq_zero l1;exact h ..
def bn2(h:∀(kV doc pm:Value) (an:Option Addr) (cdv ct u1 u2:Value),bindArgs (fnOf (a_ x.s) x.q (b8 x.s) (ba x.s) (aB x.s) .none kV doc pm an cdv ct) ⟨[u1,u2],[]⟩=pure ((x.N.take x.k).zip [u1,u2]):=by intros;rfl)(hk:(x.N.take x.k).length=2:=by rfl):Bnd x:=λkV doc pm an cdv ct us hl=>by rw[hk]at hl;obtain⟨_,_,rfl,l1⟩:=lsS hl;obtain⟨_,_,rfl,l2⟩:=lsS l1;cases eq_nil_of_length_eq_zero l2;exact h ..
def bn3(h:∀(kV doc pm:Value) (an:Option Addr) (cdv ct u1 u2 u3:Value),bindArgs (fnOf (a_ x.s) x.q (b8 x.s) (ba x.s) (aB x.s) .none kV doc pm an cdv ct) ⟨[u1,u2,u3],[]⟩=pure ((x.N.take x.k).zip [u1,u2,u3]):=by intros;rfl)(hk:(x.N.take x.k).length=3:=by rfl):Bnd x:=λkV doc pm an cdv ct us hl=>by rw[hk]at hl;obtain⟨_,_,rfl,l1⟩:=lsS hl;obtain⟨_,_,rfl,l2⟩:=lsS l1;obtain⟨_,_,rfl,l3⟩:=lsS l2;cases eq_nil_of_length_eq_zero l3;exact h ..
def bn4(h:∀(kV doc pm:Value) (an:Option Addr) (cdv ct u1 u2 u3 u4:Value),bindArgs (fnOf (a_ x.s) x.q (b8 x.s) (ba x.s) (aB x.s) .none kV doc pm an cdv ct) ⟨[u1,u2,u3,u4],[]⟩=pure ((x.N.take x.k).zip [u1,u2,u3,u4]):=by intros;rfl)(hk:(x.N.take x.k).length=4:=by rfl):Bnd x:=λkV doc pm an cdv ct us hl=>by rw[hk]at hl;obtain⟨_,_,rfl,l1⟩:=lsS hl;obtain⟨_,_,rfl,l2⟩:=lsS l1;obtain⟨_,_,rfl,l3⟩:=lsS l2;obtain⟨_,_,rfl,l4⟩:=lsS l3;cases eq_nil_of_length_eq_zero l4;exact h ..
def bn5(h:∀(kV doc pm:Value) (an:Option Addr) (cdv ct u1 u2 u3 u4 u5:Value),bindArgs (fnOf (a_ x.s) x.q (b8 x.s) (ba x.s) (aB x.s) .none kV doc pm an cdv ct) ⟨[u1,u2,u3,u4,u5],[]⟩=pure ((x.N.take x.k).zip [u1,u2,u3,u4,u5]):=by intros;rfl)(hk:(x.N.take x.k).length=5:=by rfl):Bnd x:=λkV doc pm an cdv ct us hl=>by rw[hk]at hl;obtain⟨_,_,rfl,l1⟩:=lsS hl;obtain⟨_,_,rfl,l2⟩:=lsS l1;obtain⟨_,_,rfl,l3⟩:=lsS l2;obtain⟨_,_,rfl,l4⟩:=lsS l3;obtain⟨_,_,rfl,l5⟩:=lsS l4;cases eq_nil_of_length_eq_zero l5;exact h ..
def bn6(h:∀(kV doc pm:Value) (an:Option Addr) (cdv ct u1 u2 u3 u4 u5 u6:Value),bindArgs (fnOf (a_ x.s) x.q (b8 x.s) (ba x.s) (aB x.s) .none kV doc pm an cdv ct) ⟨[u1,u2,u3,u4,u5,u6],[]⟩=pure ((x.N.take x.k).zip [u1,u2,u3,u4,u5,u6]):=by intros;rfl)(hk:(x.N.take x.k).length=6:=by rfl):Bnd x:=λkV doc pm an cdv ct us hl=>by rw[hk]at hl;obtain⟨_,_,rfl,l1⟩:=lsS hl;obtain⟨_,_,rfl,l2⟩:=lsS l1;obtain⟨_,_,rfl,l3⟩:=lsS l2;obtain⟨_,_,rfl,l4⟩:=lsS l3;obtain⟨_,_,rfl,l5⟩:=lsS l4;obtain⟨_,_,rfl,l6⟩:=lsS l5;cases eq_nil_of_length_eq_zero l6;exact h ..
end
def rT{l:MF}{α:Type}{f:Addr->Option Bool}{bs:List Bool}(hl:l≠[])(h:l.map (λx=>f (gAt K x))=bs.map some)(c:Nat):f (gAt K (pk "" l c))=some (la bs c):=by
 have e:gAt K (pk "" l c)=Cc (l.map (gAt K)) c:=by
  unfold pk Cc;cases l with
  |nil=>exact absurd rfl hl
  |cons a l=>rw[getD_eq_getElem?_getD,getD_eq_getElem?_getD,getElem?_map];cases(a::l)[c]?<;>rfl
 rw[e];exact yO (g:=id) (by simpa using hl) (by rw[List.map_map];exact h) c
theorem Tx.of{p:PT}{K:Frag}{h:Heap}{mg:Mw}(X:K.In h)(N:h.Ns mainGlobals mg)(hb:A1 p.F)(hs:p.F.all scB=true)(hF:p.F≠[])(hC:p.C≠[])(hX:p.X≠[])
  (e:p.ob K=p.ol K) (h1:p.ch1 K=true) (h2:p.ch2 K=true) (h3:p.ch3 K=true):Tx p K mg:=by
 simp only[PT.ch2,and_eq_true,all_eq_true,decide_eq_true_eq]at h2;obtain⟨⟨⟨⟨⟨⟨⟨c1,c2⟩,c3⟩,c4⟩,c5⟩,c6⟩,c7⟩,c8⟩:=h2;simp only[PT.ch1,PT.ch3,all_eq_true]at h1 h3 hs;have fnx:∀x∈p.F,Fun K (a_ x.s) x.q x.s (p.fx K x) (dAt K (p.fx K x)):=λx hx=>by
  have q:=h1 x hx;simp only[PT.chF,and_eq_true]at q;obtain⟨⟨⟨q1,q2⟩,q3⟩,_⟩:=q;have e1:K.lookup (p.fx K x)=(K.lookup (p.fx K x)).map (lit x):=List.map_inj_left.mp e x hx;cases eo:K.lookup (p.fx K x)with
  |none=>rw[eo]at q1;cases q1
  |some o=>
   rw[eo]at e1 q1;obtain⟨oc,od,dt,sl⟩:=o;cases dt with
   |func d=>
    have e2:(⟨oc,od,.func d,sl⟩:Obj)=lit x ⟨oc,od,.func d,sl⟩:=Option.some.inj e1;simp only[lit,Obj.mk.injEq,Data.func.injEq,true_and,and_true]at e2;have ed:dAt K (p.fx K x)=d:=by unfold dAt;rw[eo]
    rw[ed]at q2 ⊢;exact⟨⟨oc,od,d.kwdefaults,d.doc,d.pyModule,d.annotations,d.code,d.closureTuple,sl,e2,eo,q2⟩,q3⟩
   |_=>cases q1
 have scx:∀x∈p.F,dE x.N (x.N.take x.k) (aB x.s):=λx hx=>by have q:=hs x hx;simp only[scB,and_eq_true,decide_eq_true_eq,all_eq_true,not_eq_true']at q;obtain⟨⟨⟨⟨⟨⟨q1,q2⟩,q3⟩,q4⟩,q5⟩,q6⟩,q7⟩:=q;exact⟨q1,q2,q3,q4,by simp_all,q6,q7⟩
 have clx:∀x∈p.C,(Cls K (gAt K x)/\mg x=some (.ref (gAt K x)))/\∀y∈p.A,fB K (gAt K x) y:=λx hx=>by have q:=c1 x hx;simp only[chC,and_eq_true,decide_eq_true_eq,all_eq_true]at q;obtain⟨⟨⟨⟨⟨q1,q2⟩,q3⟩,q4⟩,q5⟩,q6⟩:=q;exact⟨⟨⟨q1,q2,q3,q4⟩,mg_of X N q5⟩,q6⟩
 have xx:∀x∈p.X,mg x=some (.ref (gAt K x))/\Hi K (gAt K x)=true:=λx hx=>by have q:=c4 x hx;simp only[chX,and_eq_true,decide_eq_true_eq]at q;exact⟨mg_of X N q.1,q.2⟩
 refine ⟨fN hF fnx,fN hF scx,fN hF λx hx=>(fnx x hx).binds (hb.get x hx),
  fN (p:=λx=>x.c=none->mg (a_ x.s)=some (.ref (p.fx K x))) hF λx hx hc=>?_,fN hC λx hx=>(clx x hx).1.1,fN hC λx hx=>(clx x hx).1.2,
  fN hC λx hx=>(clx x hx).2,λx hx=>?_,λx hx=>?_,λx hx=>?_,fN hX λx hx=>(xx x hx).1,fN hX λx hx=>(xx x hx).2,
  λx hx=>PySem.W.mg_none_of X N (c5 x hx),λx hx=>?_,λy hy c=>?_,λy hy c=>?_⟩
 .have q:=h1 x hx;simp only[PT.chF,and_eq_true]at q;have q:=q.2;rw[hc]at q;exact mg_of X N (of_decide_eq_true q)
 .have q:=h3 x hx;simp only[PT.chM,and_eq_true,decide_eq_true_eq]at q;exact⟨q.1.1,q.1.2,q.2⟩
 .have q:=c2 x hx;simp only[PT.chK,and_eq_true,decide_eq_true_eq]at q;exact⟨q.1.1.1,q.1.1.2,q.1.2,q.2⟩
 .have q:=c3 x hx;simp only[PT.chU,and_eq_true,decide_eq_true_eq]at q;refine⟨q.1.1.1,q.1.1.2,?_,q.2⟩;have q:=q.1.2;unfold Ed at q;split at q
  .lia
  .cases q
 .have q:=c6 x hx;unfold chI at q;split at q
  .rename_i i tk e
   exact⟨tk,by rw[<- of_decide_eq_true q];exact mg_of X N e⟩
  .cases q
 .exact rT (α:=Bool) (f:=λa=>kitOne K (.ref a) (tgV p K y)) hX (of_decide_eq_true (c7 y hy)) c
 .exact rT (α:=Bool) (f:=λa=>exmOne K (.ref a) (.ref (p.xa K y.1))) hX (of_decide_eq_true (c8 y hy)) c
def PT.attOk(p:PT):Prop:=p.A.Nodup/\p.A.all jN=true
noncomputable def PT.gs(p:PT):NFd:=p.G.getD ⟨0,0,"",0,[],[]⟩
def PT.gst(p:PT):Stmt:=(ba (p.fs p.gs.i).s).getD p.gs.j (.Pass ⟨0,0,0,0⟩)
def PT.fi(p:PT):FI:=⟨a_ p.gst,p.gs.q,b8 p.gst,ba p.gst,aB p.gst,p.gs.fr⟩
def PT.gpos(p:PT):Pos:=match p.gst with
 |.FunctionDef _ _ _ _ _ _ _ _ _ pos=>pos
 |_=>⟨0,0,0,0⟩
def PT.gt(p:PT)(K:Frag):Addr×Addr:=(PySem.W.tabIn K (a_ (p.fs p.gs.i).s)).getD (0,0)
@[reducible] def PT.T(p:PT)(h:p.attOk)(K:Frag):Tb where
 K:=K
 nc:=p.C.length
 cls:=p.ca K
 att:=jA p.A
 inj:=xk h.1 h.2
 xcl:=p.xa K
 dk:=λk=>p.D.getD k []
 bx:=λk H a vs=>if k=99 then p.fi.bx H a vs else if 1000<=k then a=k-1000/\∀v∈vs,v=.ref a else ∃o,H a=some (.frz o (.dK (((p.D.getD k []).map Sum.inr).zip vs)))/\(p.D.getD k []).length=vs.length
 bxs:=λk H H' a vs h q=>by
  split at q
  .rw[if_pos ‹_›];exact FI.bxs h q
  .rw[if_neg ‹_›];split at q
   .rw[if_pos ‹_›];exact q
   .rw[if_neg ‹_›];obtain⟨o,z,l⟩:=q;exact⟨o,h _ _ _ z,l⟩
 tb:=λa=>if p.G.isSome=true/\a=(p.gt K).2 then some #[rawInt p.gpos.line,rawInt p.gpos.col,.str p.gs.q 0]else none
section
variable{p:PT}{K:Frag}{mg:Mw}
def Tx.cls(t:Tx p K mg)(n:Nat):∀c<n,Cls K (p.ca K c):=λc _=>t.cl c
def Tx.b(t:Tx p K mg)(j:Nat)(h:p.B[j]?=some x:=by rfl):mg x=none:=t.bi x (List.mem_of_getElem? h)
def Tx.c(t:Tx p K mg)(j:Nat)(h:p.I[j]?=some (x,i):=by rfl):∃tk,mg x=some (.int i tk):=t.ci (x,i) (List.mem_of_getElem? h)
end
open PySem.W (keepIn Frag)
section
variable{P:Program}{w:World}{K:Frag}{mg:Mw}{base:Heap}{p:PT}{hA:p.attOk}
abbrev OkF(p:PT)(hA:p.attOk)(P:Program)(w:World)(K:Frag)(mg:Mw)(base:Heap)(k i:Nat)(m:ML->MM):Prop:=cF P w K mg base (CXP P w) k (p.fa K i) (dAt K (p.fa K i)) (p.ps i) (spM (p.T hA K) (p.ps i).length m)
abbrev OkI(p:PT)(hA:p.attOk)(P:Program)(w:World)(K:Frag)(mg:Mw)(base:Heap)(k i:Nat)(m:ML->MM):Prop:=cF P w K mg base (CXP P w) k (p.fa K i) (dAt K (p.fa K i)) (p.ps i) (spI (p.T hA K) (p.ps i).length m)
def okC(i:Nat)(t:Tx p K mg)(body:∀ (cdv:Value) (A:Around) (outer:List Env) (s:Shared) (H:Hp) (E:XK),Ctx (fE (CXP P w) P w K mg base (p.fs i).N (p.fs i).q (aB (p.fs i).s) (p.fa K i) cdv A outer s H E) (p.T hA K) (WD (p.T hA K) E) k->(p.fs i).N.Nodup ->
  SSs (fE (CXP P w) P w K mg base (p.fs i).N (p.fs i).q (aB (p.fs i).s) (p.fa K i) cdv A outer s H E) (p.T hA K) (WD (p.T hA K) E) (ba (p.fs i).s) m):OkF p hA P w K mg base (k+1) i (aN (p.fs i).N.length m):=
 He (T:=p.T hA K) (t.fn i) (t.sc i) λa b c d e f g=>body a b c d e f g (t.sc i).nd
def okI(i:Nat)(t:Tx p K mg)(body:∀ (cdv:Value) (A:Around) (outer:List Env) (s:Shared) (H:Hp) (E:XK),Ctx (fE (CXP P w) P w K mg base (p.fs i).N (p.fs i).q (aB (p.fs i).s) (p.fa K i) cdv A outer s H E) (p.T hA K) (WD (p.T hA K) E) k->(p.fs i).N.Nodup ->
  SSs (fE (CXP P w) P w K mg base (p.fs i).N (p.fs i).q (aB (p.fs i).s) (p.fa K i) cdv A outer s H E) (p.T hA K) (WD (p.T hA K) E) (ba (p.fs i).s) m):OkI p hA P w K mg base (k+1) i (gT (p.fs i).N.length m):=
 Db (T:=p.T hA K) (t.fn i) (t.sc i) λa b c d e f g=>body a b c d e f g (t.sc i).nd
def dm{X:Cx}{k k2 i c:Nat}{mn:Str}{m m':ML->MM}{ps:MF}(j:Nat)(t:Tx p X.K X.mg)(G:cF X.prog X.w X.K X.mg X.base (CXP X.prog X.w) k (p.fa X.K i) (dAt X.K (p.fa X.K i)) ps (spM (p.T hA X.K) ps.length m))(e:some m=some m')(hj:p.M[j]?=some (c,mn,i):=by rfl)(hp:p.ps i=ps:=by rfl)(hk:k<=k2:=by decide) :
  ∃f fd,AV X.K (p.ca X.K c) mn f/\eK X.K fd ps []/\cF X.prog X.w X.K X.mg X.base (CXP X.prog X.w) k2 f fd ps (spM (p.T hA X.K) ps.length m'):=by
 cases e;exact⟨_,_,t.me _ (List.mem_of_getElem? hj),hp▸t.bn i,G.mono hk⟩
end
def dno{n c:Nat}{q:Prop}(h:c<n)(hc:n<=c:=by exact Nat.le_add_left _ _):q:=absurd h (Nat.not_lt.mpr hc)
section
variable{X:Cx}{W:Nat->St->MK}{p:PT}{hA:p.attOk}
def IS(t:Tx p X.K X.mg)
  (G:cF X.prog X.w X.K X.mg X.base (CXP X.prog X.w) k (p.fa X.K i) (dAt X.K (p.fa X.K i)) (p.ps i) (spM (p.T hA X.K) (p.ps i).length m)) (cx:Ctx X (p.T hA X.K) W kk) (ha:SA X (p.T hA X.K) W (e::es) ms)
  (hk:k<=kk:=by decide) (hx:a_ (p.fs i).s=x:=by rfl) (hc:(p.fs i).c=none:=by rfl) (hg:Gl X x:=by rfl) (hn:hV ms n:=by repeat' first|exact fk|apply d4) (hps:n=(p.ps i).length:=by rfl)
  (hdb:Nd x:=by decide) (he:starEach (e::es) X.env=(false,eval e X.env)::starEach es X.env:=by rfl) (hpl:(backTo pos (starEach es X.env)).any (·.1)=false:=by rfl) :
  SE X (p.T hA X.K) W (.Call (.Name x np) (e::es) [] pos) (af (aq m) ms):=
 p3 G cx hk hg (by subst hx;exact t.gl i hc) (t.fn i).kp (t.bn i) hn hps ha hdb he hpl
def LF(t:Tx p X.K X.mg)
  (D:fC X (p.T hA X.K) k mn ps [] disp) (cx:Ctx X (p.T hA X.K) W kk) (ho:SE X (p.T hA X.K) W o mo) (ha:SA X (p.T hA X.K) W (e::es) ms)
  (hm:∀k,jA p.A k≠mn:=by exact AQ (by decide +kernel) (by decide +kernel)) (hk:k<=kk:=by decide) (hn:hV ms n:=by repeat' first|exact fk|apply d4) (hps:n+1=ps.length:=by rfl)
  (hst:starEach (e::es) X.env=(false,eval e X.env)::starEach es X.env:=by rfl) (hpl:(backTo pos (starEach es X.env)).any (·.1)=false:=by rfl)
  (ht:eval (.Call (.Attribute o mn apos) (e::es) [] pos) X.env=(do
   let ov <- eval o X.env
   standAt apos.atName
   let(f,first) <- holding [ov] (getMethod ov mn pl)
   callWith pos f first (backTo pos (starEach (e::es) X.env)) (backToKw pos (keywordEach [] X.env))):=by rfl) :
  SE X (p.T hA X.K) W (.Call (.Attribute o mn apos) (e::es) [] pos) (bB disp mo ms):=
 Fy cx (t.cls _) hm D hk hn hps ho ha hst hpl ht
def LE(c:Nat)(t:Tx p X.K X.mg)
  (G:cF X.prog X.w X.K X.mg X.base (CXP X.prog X.w) k (p.fa X.K i) (dAt X.K (p.fa X.K i)) (p.ps i) (spI (p.T hA X.K) (p.ps i).length m)) (cx:Ctx X (p.T hA X.K) W kk) (ha:SA X (p.T hA X.K) W (e::es) ms)
  (hM:(c,i)∈ p.Mk:=by decide) (hcn:c<p.C.length:=by decide) (hk:k+1<=kk:=by decide) (hx:pk ("":Str) p.C c=x:=by rfl) (hg:Gl X x:=by rfl) (hn:hV ms n:=by repeat' first|exact fk|apply d4) (hps:n+1=(p.ps i).length:=by rfl)
  (hdb:Nd x:=by decide) (he:starEach (e::es) X.env=(false,eval e X.env)::starEach es X.env:=by rfl) (hpl:(backTo pos (starEach es X.env)).any (·.1)=false:=by rfl) :
  SE X (p.T hA X.K) W (.Call (.Name x np) (e::es) [] pos) (eA c m ms):=
 Ft (t.mm _ hM) hcn G cx hk hg (by subst hx;exact t.cg c) (t.bn i) hn hps ha hdb he hpl
def IT(k:Nat)(t:Tx p X.K X.mg)(cx:Ctx X (p.T hA X.K) W kk)(he:SE X (p.T hA X.K) W e m)(hf:jA p.A k=f:=by rfl)(hm:f∈p.A:=by decide)(hb:attributeBase e f X.env (eval e X.env)=eval e X.env:=by rfl) :
  SE X (p.T hA X.K) W (.Attribute e f pos) (mUn (ap k) m):=BV cx.hK hf (t.cls _) (λc _=>t.cn c f hm) he hb
def LG(ha:SA X T W es ms)(hn:hV ms n:=by repeat' first|exact fk|apply d4)(hs:n<=1000:=by decide):SE X T W (.List es pos) (b_ ms):=FB ha hn hs
def LC{x1}(ha:SA X T W es ms)(hn:hV ms n:=by repeat' first|exact fk|apply d4)(hs:n<=1000:=by decide):SE X T W (.Tuple es x1 pos) (cT ms):=Fk ha hn hs
def LH(cx:Ctx X T W kk)(ha:SE X T W a ma)(hb:SE X T W b mb)(hs:jD b:=by exact λ_ _=>rfl):SE X T W (.Subscript a b pos) (mOp ah ma mb):=FH cx.hK ha hb hs
def LD(hN:X.N.Nodup)(he:SE X T W e m)(hi:X.N[i]?=some x:=by rfl)(hx:Loc X.env.scope x:=by first|exact .inl rfl|exact .inr rfl)(hs:swapsWith e (some (.Name x pos')) pos.line X.env=pure false:=by rfl)
  (hf:Lce X.fn X.env x:=by first|exact .inl rfl|exact .inr rfl|assumption):SS X T W (.Assign [.Name x pos'] e pos) (aw i m):=E2 hN hi hx he hs hf
def sgN(hN:X.N.Nodup)(hi:X.N[i]?=some x:=by rfl)(hx:Loc X.env.scope x:=by first|exact .inl rfl|exact .inr rfl)(hf:Lce X.fn X.env x:=by first|exact .inl rfl|exact .inr rfl|assumption):SG X T (.Name x pos) (tgN i):=BC hN hi hx hf
def Lq(h:k<=i:=by decide):fA (tgN i) k:=xE h
def LJ(cx:Ctx X T W kk)(he:SE X T W e m)(hN:X.N[i]?=some x:=by rfl)(hv:Vis X.env.scope x:=by first|exact Or.inl rfl|exact Or.inr (Or.inl rfl)|exact Or.inr (Or.inr rfl))
  (hs:swapsWith (.Call (.Attribute (.Name x px) "append" apos) [e] [] cpos) none pos.line X.env=pure false:=by rfl) (hst:starEach [e] X.env=[(false,eval e X.env)]:=by rfl)
  (hfew:Fwe X.env cpos [e]:=by rfl)
  (hline:(apos.endLine==cpos.line)=true:=by rfl) (hd:Nd x:=by decide) (hcd:Nc x:=by decide) :
  SS X T W (.Expr (.Call (.Attribute (.Name x px) "append" apos) [e] [] cpos) pos) (bu i m):=vN cx.hK hN hv he hs hst hfew hline hd hcd
def sFld(k:Nat)(t:Tx p X.K X.mg)(cx:Ctx X (p.T hA X.K) W kk)(he:SE X (p.T hA X.K) W e m)(hf:jA p.A k=f:=by rfl)(hm:f∈p.A:=by decide)(hN:X.N[i]?=some x:=by rfl)
  (hv:Vis X.env.scope x:=by first|exact Or.inl rfl|exact Or.inr (Or.inl rfl)|exact Or.inr (Or.inr rfl))
  (hs:swapsWith e (some (.Attribute (.Name x px) f pos')) pos.line X.env=pure false:=by rfl) (hd:Nd x:=by decide) (hcd:Nc x:=by decide) :
  SS X (p.T hA X.K) W (.Assign [.Attribute (.Name x px) f pos'] e pos) (eR i k m):=E8 cx.hK hf (t.cls _) (λc _=>t.cn c f hm) hN hv he hs hd hcd
def FP(c:Nat)(t:Tx p X.K X.mg)
  (G:cF X.prog X.w X.K X.mg X.base (CXP X.prog X.w) k (p.fa X.K i) (dAt X.K (p.fa X.K i)) (p.ps i) (spI (p.T hA X.K) (p.ps i).length m)) (cx:Ctx X (p.T hA X.K) W kk) (ha:SA X (p.T hA X.K) W es ms)
  (hU:(c,i)∈ p.U:=by decide) (hk:k<=kk:=by decide) (hx:pk ("":Str) p.C c=x:=by rfl) (hg:Gl X x:=by rfl) (hN:X.N[0]?=some y:=by rfl) (hv:Vis X.env.scope y:=by first|exact Or.inl rfl|exact Or.inr (Or.inl rfl)|exact Or.inr (Or.inr rfl))
  (hn:hV ms n:=by repeat' first|exact fk|apply d4) (hps:n+1=(p.ps i).length:=by rfl)
  (hdb:Nd x:=by decide) (hdy:Nd y:=by decide) (hcy:Nc y:=by decide)
  (hst:starEach (.Name y px::es) X.env=(false,eval (.Name y px) X.env)::starEach es X.env:=by rfl) (hpl:(backTo pos (starEach es X.env)).any (·.1)=false:=by rfl)
  (ht:eval (.Call (.Attribute (.Name x q) "__init__" apos) (.Name y px::es) [] pos) X.env=(do
   let ov <- eval (.Name x q) X.env
   standAt apos.atName
   let(f,first) <- holding [ov] (getMethod ov "__init__" pl)
   callWith pos f first (backTo pos (starEach (.Name y px::es) X.env)) (backToKw pos (keywordEach [] X.env))):=by rfl)
  (hs:swapsWith (.Call (.Attribute (.Name x q) "__init__" apos) (.Name y px::es) [] pos) none pos'.line X.env=pure false:=by rfl) :
  SS X (p.T hA X.K) W (.Expr (.Call (.Attribute (.Name x q) "__init__" apos) (.Name y px::es) [] pos) pos') (fD m ms):=
 E1 cx (t.su _ hU) G hk hg (by subst hx;exact t.cg c) (t.bn i) hN hv hn hps ha hdb hdy hcy hst hpl ht hs
end
section
variable{X:Cx}{W:Nat->St->MK}{T:Tb}
noncomputable abbrev nmC(X:Cx)(caps:List Nat)(tn:MF):MF:=caps.map (λi=>X.N.getD i "")++ tn
def cOf(h:lU X.env.scope scope X.N caps (nmC X caps tn) tn=true):d6 X scope caps (nmC X caps tn) tn:=DI h rfl rfl
def D3(tn:MF)(cx:Ctx X T W kk)(hi:SIc X T W tg iter mi)(hk:fA g caps.length)
  (hb:∀C s H ex,(nmC X caps tn).Nodup->SG (cxC X scope C (nmC X caps tn) s H ex) T tg g/\STs (cxC X scope C (nmC X caps tn) s H ex) T WF ifs mc/\SE (cxC X scope C (nmC X caps tn) s H ex) T WF elt me)
  (h:lU X.env.scope scope X.N caps (nmC X caps tn) tn=true:=by kernel_rfl) (hs:∀x,foldedSetIterable iter X.env x=pure x:=by intro _;rfl):SE X T W (.ListComp elt [⟨tg,iter,ifs,0⟩] scope pos) (ay caps tn.length mi g mc me):=
 BT (cOf h) cx.calm hi hk (λC s H ex=>hb C s H ex (cOf h).nd) hs
def D2(tn:MF)(cx:Ctx X T W kk)(hN:X.N.Nodup)(hi:SIc X T W tg iter mi)(hk:fA g caps.length)
  (hb:∀C s H ex,(nmC X caps tn).Nodup->SG (cxC X scope C (nmC X caps tn) s H ex) T tg g/\STs (cxC X scope C (nmC X caps tn) s H ex) T WF ifs mc/\SE (cxC X scope C (nmC X caps tn) s H ex) T WF elt me)
  (h:lU X.env.scope scope X.N caps (nmC X caps tn) tn=true:=by kernel_rfl) (hy:X.N[i]?=some y:=by rfl) (hx:Loc X.env.scope y:=by first|exact .inl rfl|exact .inr rfl)
  (hsw:swapsWith (.ListComp elt [⟨tg,iter,ifs,0⟩] scope pos) (some (.Name y py)) spos.line X.env=pure true:=by rfl)
  (hs:∀x,foldedSetIterable iter X.env x=pure x:=by intro _;rfl)
  (hf:X.fn y=true\/X.env.scope.names.lookup y=some .local:=by first|exact .inl rfl|exact .inr rfl|assumption) :
  SS X T W (.Assign [.Name y py] (.ListComp elt [⟨tg,iter,ifs,0⟩] scope pos) spos) (aw i (ay caps tn.length mi g mc me)):=
 Bj (cOf h) cx.calm hN hy hx hi hk (λC s H ex=>hb C s H ex (cOf h).nd) hsw hs hf
end
end
section
open PySem.W (findIn fnOf keepIn nsIn codeIn isFn Frag)
structure PE where
 D:List (FS×Bool)
 G:List (Str×List (Str×Int))
 S:List (Str×Str)
 P:List (Str×MF)
def PE.at(q:PE)(j:Nat):FS×Bool:=q.D.getD j (fs0,false)
def PE.gk(q:PE)(j:Nat):Str×List (Str×Int):=q.G.getD j ("",[])
def PE.gk_mem(q:PE)(h:j<q.G.length):q.gk j∈q.G:=by unfold PE.gk;rw[getD_eq_getElem?_getD,getElem?_eq_getElem h];exact getElem_mem h
noncomputable def PE.sk(q:PE)(j:Nat):Str×Str:=q.S.getD j ("","")
def PE.tk(q:PE)(j:Nat):Str×MF:=q.P.getD j ("",[])
def lA{α:Type}{l:List α}{d:α}{j:Nat}(h:j<l.length):l.getD j d∈l:=by rw[getD_eq_getElem?_getD,getElem?_eq_getElem h];exact getElem_mem h
noncomputable def xI:MC->Option (List (Str×Tok))
 | []=>some []
 |.str z t::l=>(xI l).map ((z,t)::·)
 |_::_=>none
theorem pS:∀{vs:MC}{l:List (Str×Tok)},xI vs=some l->vs=strValues l
 | [],l,h=>by cases h;rfl
 |v::vs,l,h=>by
  cases v with
  |str z t=>obtain⟨m,hm,rfl⟩:=map_eq_some_iff.mp h;rw[pS hm];rfl
  |_=>cases h
def chP(xs:MF):Option Obj->Bool
 | some ⟨.type "tuple", _,.seq a _,_⟩=>(match xI a.toList with
  |some l=>decide (l.map (·.1)=xs)
  |none=>false)
 |_=>false
noncomputable def chS(K:Frag)(x:Str×Str):Bool:=match nsIn K mainGlobals x.1 with
 |some (some (.str z _))=>decide (z=x.2)
 |_=>false
def dfA(K:Frag)(f:Addr):Addr:=match (dAt K f).defaults with
 |.ref a=>a
 |_=>0
def CW(x:FS)(a:Addr):Obj->Obj
 |⟨oc,od,.func d,sl⟩=>⟨oc,od,.func (fnOf (a_ x.s) x.q (b8 x.s) (ba x.s) (aB x.s) (.ref a) d.kwdefaults d.doc d.pyModule d.annotations d.code d.closureTuple),sl⟩
 |o=>o
noncomputable def IK(b:Bool):Option Obj->Bool
 |some ⟨_,_,.seq a _,_⟩=>decide (a.toList=[.bool b])
 |_=>false
noncomputable def tQ(P:Params):List DictEntry->List (Str×Int)->List DictEntry
 |⟨_,.str _ t,.int _ u⟩::es,(k,v)::kvs=>⟨PyData.keyHash P k,.str k t,.int v u⟩::tQ P es kvs
 |_,_=>[]
def Dy:(tQ P es kvs).length=kvs.length->q9 P (tQ P es kvs) kvs:=by
 fun_induction tQ P es kvs with
 |case1=>rename_i ih;exact λe=>⟨⟨_,_,rfl⟩,ih (by simpa using e)⟩
 |case2=>intro e;have e:=eq_nil_of_length_eq_zero e.symm;subst e;trivial
def Jv(P:Params)(kvs:List (Str×Int)):Obj->Obj
 |⟨_,_,.dict es ep,_⟩=>{cls:=.type "dict",dict:=none,data:=.dict (tQ P es.toList kvs).toArray ep,slots:=#[]}
 |o=>o
def okG(P:Params)(kvs:List (Str×Int)):Option Obj->Bool
 |some ⟨_,_,.dict es _,_⟩=>decide ((tQ P es.toList kvs).length=kvs.length)
 |_=>false
structure FD(p:PT)(K:Frag)(mg:Mw)(y:FS×Bool):Prop where
 fn:AX K (a_ y.1.s) y.1.q y.1.s (p.fx K y.1) (dAt K (p.fx K y.1)) (dfA K (p.fx K y.1)) [.bool y.2]
 sc:dE y.1.N (y.1.N.take y.1.k) (aB y.1.s)
 bn:eK K (dAt K (p.fx K y.1)) (y.1.N.take y.1.k) []
 gl:mg (a_ y.1.s)=some (.ref (p.fx K y.1))
structure Ty(p:PT)(q:PE)(w:World)(K:Frag)(mg:Mw):Prop where
 tx:Tx p K mg
 fd:∀y∈q.D,FD p K mg y
 dc:∀y∈q.G,mg y.1=some (.ref (gAt K y.1))/\iE w K (gAt K y.1) y.2
 st:∀y∈q.S,∃t,mg y.1=some (.str y.2 t)
 tp:∀y∈q.P,mg y.1=some (.ref (gAt K y.1))/\HH K (gAt K y.1) y.2
section
variable{p:PT}{q:PE}{w:World}{K:Frag}{mg:Mw}
def Ty.d(t:Ty p q w K mg)(j:Nat)(h:j<q.D.length:=by decide):FD p K mg (q.at j):=t.fd _ (by unfold PE.at;rw[getD_eq_getElem?_getD,getElem?_eq_getElem h];exact getElem_mem h)
def Ty.gm(t:Ty p q w K mg)(j:Nat)(h:j<q.G.length:=by decide):mg (q.gk j).1=some (.ref (gAt K (q.gk j).1)):=(t.dc _ (q.gk_mem h)).1
def Ty.gd(t:Ty p q w K mg)(j:Nat)(h:j<q.G.length:=by decide):iE w K (gAt K (q.gk j).1) (q.gk j).2:=(t.dc _ (q.gk_mem h)).2
def Ty.ss(t:Ty p q w K mg)(j:Nat)(h:j<q.S.length:=by decide):∃tk,mg (q.sk j).1=some (.str (q.sk j).2 tk):=t.st _ (lA h)
def Ty.pm(t:Ty p q w K mg)(j:Nat)(h:j<q.P.length:=by decide):mg (q.tk j).1=some (.ref (gAt K (q.tk j).1)):=(t.tp _ (lA h)).1
def Ty.pd(t:Ty p q w K mg)(j:Nat)(h:j<q.P.length:=by decide):HH K (gAt K (q.tk j).1) (q.tk j).2:=(t.tp _ (lA h)).2
end
def DU(y:FS×Bool):Prop:=∀(dT:Addr) (kV doc pm:Value) (an:Option Addr) (cdv ct:Value) (us:MC),(us++[]).length=(y.1.N.take y.1.k).length ->
 ∃k:Option (MH)->Sem (List (Str×Value)),bindArgs (fnOf (a_ y.1.s) y.1.q (b8 y.1.s) (ba y.1.s) (aB y.1.s) (.ref dT) kV doc pm an cdv ct) ⟨us,[]⟩=seqItems? (.ref dT) >>= k/\k (some [Value.bool y.2].toArray)=pure ((y.1.N.take y.1.k).zip (us++[]))
def bd2(h:∀(dT:Addr) (kV doc pm:Value) (an:Option Addr) (cdv ct u1 u2:Value),∃k:Option (MH)->Sem (List (Str×Value)),bindArgs (fnOf (a_ y.1.s) y.1.q (b8 y.1.s) (ba y.1.s) (aB y.1.s) (.ref dT) kV doc pm an cdv ct) ⟨[u1,u2],[]⟩=seqItems? (.ref dT) >>= k/\k (some [Value.bool y.2].toArray)=pure ((y.1.N.take y.1.k).zip [u1,u2]):=by intros;exact⟨_,rfl,rfl⟩)
  (hk:(y.1.N.take y.1.k).length=2:=by rfl):DU y:=λdT kV doc pm an cdv ct us hl=>by
 rw[hk]at hl;rcases us with _ |⟨_,_ |⟨_,_|_⟩⟩<;>first |(cases hl;done)|exact h ..
def bd3(h:∀(dT:Addr) (kV doc pm:Value) (an:Option Addr) (cdv ct u1 u2 u3:Value),∃k:Option (MH)->Sem (List (Str×Value)),bindArgs (fnOf (a_ y.1.s) y.1.q (b8 y.1.s) (ba y.1.s) (aB y.1.s) (.ref dT) kV doc pm an cdv ct) ⟨[u1,u2,u3],[]⟩=seqItems? (.ref dT) >>= k/\k (some [Value.bool y.2].toArray)=pure ((y.1.N.take y.1.k).zip [u1,u2,u3]):=by intros;exact⟨_,rfl,rfl⟩)
  (hk:(y.1.N.take y.1.k).length=3:=by rfl):DU y:=λdT kV doc pm an cdv ct us hl=>by
 rw[hk]at hl;rcases us with _ |⟨_,_ |⟨_,_ |⟨_,_|_⟩⟩⟩<;>first |(cases hl;done)|exact h ..
def A0:List (FS×Bool)->Prop
 | []=>True
 |x::l=>DU x/\A0 l
theorem A0.get:∀{l:List (FS×Bool)},A0 l->∀x∈l,DU x
 | [],_,_,h=>nomatch h
 |y::l,⟨h1,h2⟩,x,h=>by
  rcases mem_cons.mp h with rfl|h
  .exact h1
  .exact h2.get x h
section
variable(p:PT)(q:PE)(P:Params)(K:Frag)
def PE.ob:List (Option Obj):=q.D.map λy=>K.lookup (p.fx K y.1)
def PE.ol:List (Option Obj):=q.D.map λy=>(K.lookup (p.fx K y.1)).map (CW y.1 (dfA K (p.fx K y.1)))
def PE.ch:Bool:=q.D.all λy=>p.chF K y.1&&y.1.c.isNone&&IK y.2 (K.lookup (dfA K (p.fx K y.1)))
def PE.gb:List (Option Obj):=q.G.map λy=>K.lookup (gAt K y.1)
def PE.gl:List (Option Obj):=q.G.map λy=>(K.lookup (gAt K y.1)).map (Jv P y.2)
def PE.cs:Bool:=q.S.all (chS K)&&q.P.all λy=>decide (nsIn K mainGlobals y.1=some (some (.ref (gAt K y.1))))&&chP y.2 (K.lookup (gAt K y.1))
def PE.cg:Bool:=q.G.all λy=>decide (nsIn K mainGlobals y.1=some (some (.ref (gAt K y.1))))&&!(gAt K y.1==sysModules)&&okG P y.2 (K.lookup (gAt K y.1))
end
def Ty.of(X:K.In h)(N:h.Ns mainGlobals mg)(t:Tx p K mg)(hb:A0 q.D)(hs:q.D.all (λy=>scB y.1)=true)
  (e:q.ob p K=q.ol p K) (h1:q.ch p K=true) (e2:q.gb K=q.gl w.params K) (h2:q.cg w.params K=true) (h3:q.cs K=true):Ty p q w K mg:=by
 simp only[PE.ch,PE.cg,PE.cs,and_eq_true,all_eq_true,decide_eq_true_eq]at h1 h2 h3 hs;refine⟨t,λy hy=>?_,λy hy=>?_,λy hy=>?_,λy hy=>?_⟩
 .obtain⟨⟨a1,a2⟩,a3⟩:=h1 y hy;simp only[PT.chF,and_eq_true]at a1;obtain⟨⟨⟨q1,q2⟩,q3⟩,q4⟩:=a1;have e1:K.lookup (p.fx K y.1)=(K.lookup (p.fx K y.1)).map (CW y.1 (dfA K (p.fx K y.1))):=List.map_inj_left.mp e y hy;have F:AX K (a_ y.1.s) y.1.q y.1.s (p.fx K y.1) (dAt K (p.fx K y.1)) (dfA K (p.fx K y.1)) [.bool y.2]:=by
   have dl:∃(o:Obj) (n:Nat),K.lookup (dfA K (p.fx K y.1))=some o/\o.data=.seq [Value.bool y.2].toArray n:=by
    unfold IK at a3;split at a3
    .rename_i a n _ eo
     exact⟨_,n,eo,by rw[<- of_decide_eq_true a3]⟩
    .cases a3
   generalize dfA K (p.fx K y.1)=dT at e1 dl;cases eo:K.lookup (p.fx K y.1)with
   |none=>rw[eo]at q1;cases q1
   |some o=>
    rw[eo]at e1 q1;obtain⟨oc,od,dt,sl⟩:=o;cases dt with
    |func d=>
     have e2:(⟨oc,od,.func d,sl⟩:Obj)=CW y.1 dT ⟨oc,od,.func d,sl⟩:=Option.some.inj e1;simp only[CW,Obj.mk.injEq,Data.func.injEq,true_and,and_true]at e2;have ed:dAt K (p.fx K y.1)=d:=by unfold dAt;rw[eo]
     rw[ed]at q2 ⊢;exact⟨⟨oc,od,d.kwdefaults,d.doc,d.pyModule,d.annotations,d.code,d.closureTuple,sl,e2,eo,q2⟩,q3,dl⟩
    |_=>cases q1
  have sc:dE y.1.N (y.1.N.take y.1.k) (aB y.1.s):=by have q:=hs y hy;simp only[scB,and_eq_true,decide_eq_true_eq,all_eq_true,not_eq_true']at q;obtain⟨⟨⟨⟨⟨⟨q1,q2⟩,q3⟩,q4⟩,q5⟩,q6⟩,q7⟩:=q;exact⟨q1,q2,q3,q4,by rw[List.length_take,Nat.min_eq_left q5],q6,q7⟩
  refine⟨F,sc,F.binds (hb.get y hy _),?_⟩;rw[Option.isNone_iff_eq_none.mp a2]at q4;exact mg_of X N (of_decide_eq_true q4)
 .obtain⟨⟨a1,a2⟩,a3⟩:=h2 y hy;refine⟨mg_of X N a1,by lia,?_⟩;have e1:K.lookup (gAt K y.1)=(K.lookup (gAt K y.1)).map (Jv w.params y.2):=List.map_inj_left.mp e2 y hy;unfold okG at a3;split at a3
  .rename_i a b es ep sl eo
   rw[eo]at e1;exact⟨tQ w.params es.toList y.2,ep,by rw[eo];exact e1,Dy (of_decide_eq_true a3)⟩
  .cases a3
 .have a:=h3.1 y hy;unfold chS at a;split at a
  .rename_i z tk e
   rw[<- of_decide_eq_true a];exact⟨tk,mg_of X N e⟩
  .cases a
 .obtain⟨a1,a2⟩:=h3.2 y hy;refine⟨mg_of X N a1,?_⟩;unfold chP at a2;split at a2
  .rename_i dd a n sl eo
   split at a2
   .rename_i l el
    have e:=pS el;refine⟨dd,l,n,sl,?_,of_decide_eq_true a2⟩;rw[eo,<- e]
   .cases a2
  .cases a2
section
variable{P:Program}{w:World}{K:Frag}{mg:Mw}{base:Heap}{p:PT}{hA:p.attOk}{q:PE}
abbrev OkD(p:PT)(hA:p.attOk)(P:Program)(w:World)(K:Frag)(mg:Mw)(base:Heap)(k:Nat)(x:FS)(m:ML->MM):Prop:=
 cF P w K mg base (CXP P w) k (p.fx K x) (dAt K (p.fx K x)) (x.N.take x.k) (spM (p.T hA K) (x.N.take x.k).length m)
def okD(F:FD p K mg y)(body:∀ (cdv:Value) (A:Around) (outer:List Env) (s:Shared) (H:Hp) (E:XK),Ctx (fE (CXP P w) P w K mg base y.1.N y.1.q (aB y.1.s) (p.fx K y.1) cdv A outer s H E) (p.T hA K) (WD (p.T hA K) E) k->y.1.N.Nodup ->
  SSs (fE (CXP P w) P w K mg base y.1.N y.1.q (aB y.1.s) (p.fx K y.1) cdv A outer s H E) (p.T hA K) (WD (p.T hA K) E) (ba y.1.s) m):OkD p hA P w K mg base (k+1) y.1 (aN y.1.N.length m):=
 Hc (T:=p.T hA K) F.fn F.sc λa b c d e f g=>body a b c d e f g F.sc.nd
def yr(F:FD p X.K X.mg y)
  (G:OkD p hA X.prog X.w X.K X.mg X.base k y.1 m) (cx:Ctx X (p.T hA X.K) W kk) (ha:SA X (p.T hA X.K) W (e::es) ms)
  (hk:k<=kk:=by decide) (hx:a_ y.1.s=x:=by rfl) (hg:Gl X x:=by rfl) (hn:hV ms n:=by repeat' first|exact fk|apply d4) (hps:n=(y.1.N.take y.1.k).length:=by rfl)
  (hdb:Nd x:=by decide) (he:starEach (e::es) X.env=(false,eval e X.env)::starEach es X.env:=by rfl) (hpl:(backTo pos (starEach es X.env)).any (·.1)=false:=by rfl) :
  SE X (p.T hA X.K) W (.Call (.Name x np) (e::es) [] pos) (af (aq m) ms):=
 p3 G cx hk hg (by subst hx;exact F.gl) F.fn.kp F.bn hn hps ha hdb he hpl
end
section
variable{X:Cx}{T:Tb}{W:Nat->St->MK}{Z:Zn}{F F1 B L:Mz}{H H1:Hp}{Y:St}{env:En}{fp:Nat->MD}{D:Ends}
theorem um:∀{xs:ML}{ws:MJ}{f:MD}{i:Nat}{x:PV},RelL T F B L H xs ws f->xs[i]?=some x->∃w fx,ws[i]?=some w/\Rel T F B L H x w fx/\∀b∈fx,b∈f
 | [],_,_,i,x,_,e=>by simp at e
 |a::xs,ws,f,i,x,h,e=>by
  obtain⟨v,ws',f1,f2,rfl,h1,h2,rfl⟩:=h;cases i with
  |zero=>cases e;exact⟨v,f1,rfl,h1,λb hb=>mem_append_left _ hb⟩
  |succ i=>obtain⟨w,fx,e1,r,s⟩:=um h2 e;exact⟨w,fx,e1,r,λb hb=>mem_append_right _ (s b hb)⟩
end
open PySem.W (fnOf Frag)
def smp:PV->Bool
 |.int _|.bl _|.str _|.non=>true
 |.lst f xs=>decide (f≠.mod)&&(a9 xs).isSome
 |_=>false
def eqD(x:PV)(y:PV):Bool:=PyData.eqv y.data x.data
def ff:PV->PV->MM:=λo x=>match o with
 | .lst _ ys=>if shp x && ys.all shp && ys.all smp && decide (ys.length <= 10000000) then (match ys.findIdx? (eqD x) with
  |some j=>.ok (.int j)
  |none=>.stuck)else .stuck
 |_=>.stuck
def gB:PV->PV->MM:=λo x=>match o with
 |.lst _ ys=>if shp x&&ys.all shp&&ys.all smp then .ok (.int (ys.countP (eqD x)))else .stuck
 |_=>.stuck
section
variable{X:Cx}{T:Tb}{W:Nat->St->MK}{Z:Zn}{F F1 B L:Mz}{H H1:Hp}{Y:St}{env:En}{fp:Nat->MD}{D:Ends}
def Rd.inj{u u':MJ}(h:Rd H a (.lst u))(h':Rd H a (.lst u')):u=u':=by rcases h with h |⟨o,h⟩<;>rcases h' with h' |⟨o',h'⟩<;>rw[h]at h'<;>cases h'<;>rfl
theorem jU:∀{xs:ML}{ns:MB},a9 xs=some ns->xs=ns.map .int
 | [],ns,h=>by cases h;rfl
 |.int i::xs,ns,h=>by
  unfold a9 at h;cases e:a9 xs with
  |none=>rw[e]at h;cases h
  |some ms=>rw[e]at h;cases h;rw[jU e];rfl
 |.non::xs,ns,h|.bl _::xs,ns,h|.str _::xs,ns,h|.lst _ _::xs,ns,h|.tup _::xs,ns,h|.obj _ _ _ _::xs,ns,h|.exc _::xs,ns,h|.box _ _::xs,ns,h=>by cases h
def xW{y y':PV}(s:smp y=true)(s':smp y'=true)(r:Rel T F B L H y u fy)(r':Rel T F B L H y' u fy'):y.data=y'.data:=by
  cases y with
  |lst f xs=>
    obtain⟨a,vs,f',rfl,h1,h2,_⟩:=r;cases y' with
    |lst g zs=>obtain⟨b,ws,g',e,k1,k2,_⟩:=r';cases e;simp only[smp,and_eq_true,decide_eq_true_eq]at s s';obtain⟨ns,en⟩:=isSome_iff_exists.mp s.2;obtain⟨ms,em⟩:=isSome_iff_exists.mp s'.2;have e1:=bT en h2;have e2:=bT em k2;have:=Rd.inj (h1.rd s.1) (k1.rd s'.1);rw[e1,e2]at this;have e3:ns=ms:=List.map_inj_right (λ_ _ h=>V.int.inj h) |>.mp this;rw[jU en,jU em,e3];simp[PV.data]
    |_=>first |(cases s';done) |(unfold Rel at r';cases r'.1;done)
  |_=>
    first
    |(cases s;done)
    | (unfold Rel at r
       obtain⟨rfl,_⟩:=r;cases y' with
       |lst f xs=>unfold Rel at r';obtain⟨a,vs,f',e,_⟩:=r';cases e
       |_=>first |(cases s';done) |(unfold Rel at r';obtain⟨e,_⟩:=r';cases e;rfl) |(unfold Rel at r';obtain⟨e,_⟩:=r';cases e;done))
theorem rK(hK:X.K=T.K)(I:L2.Inv X js Y H s)(hu:A.units+64<cLine)(rx:Rel T F B L H x v fx)(rv:bA v v')(hx:shp x=true){ys:ML}{us:MJ}{fy:MD}{its:MC}(r:RelL T F B L H ys us fy)(rl:aS us its)(hs:ys.all shp=true)(hm:ys.all smp=true) :
  ∃e:Value->Bool,(∀w∈its,SeqAt.EqAt A s w v' (e w))/\its.length=ys.length/\∀(m:Nat) (y:PV) (w:Value),ys[m]?=some y->its[m]?=some w->e w=eqD x y:=by
 classical
 have hlen:its.length=ys.length:=by rw[<- rl.length,<- r.length]
 let e:Value->Bool:=λw=>decide (∃y∈ys,∃u fy,KP w=some u/\Rel T F B L H y u fy/\eqD x y=true)
 have pl:∀(m:Nat) (y:PV) (w:Value),ys[m]?=some y->its[m]?=some w->∃u fy,bA u w/\Rel T F B L H y u fy:=λm y w ey ew=>by obtain⟨u,fx,e1,r1,_⟩:=um r ey;obtain⟨w',e2,r2⟩:=rl.get e1;rw[ew]at e2;cases e2;exact⟨u,fx,r2,r1⟩
 have ev:∀(m:Nat) (y:PV) (w:Value),ys[m]?=some y->its[m]?=some w->e w=eqD x y:=λm y w ey ew=>by
  obtain⟨u,fu,r1,r2⟩:=pl m y w ey ew;have ym:=List.mem_of_getElem? ey;cases q:eqD x y with
  |true=>exact decide_eq_true ⟨y,ym,u,fu,r1.abs,r2,q⟩
  |false=>refine decide_eq_false λhz1=>?_;obtain⟨y',hy',u',fu',a',r',q'⟩:=hz1;rw[r1.abs]at a';cases a';have:=xW (all_eq_true.mp hm y ym) (all_eq_true.mp hm y' hy') r2 r';unfold eqD at q q';rw[this]at q;rw[q]at q';cases q'
 refine⟨e,λw hw=>?_,hlen,ev⟩;obtain⟨m,hmlt,ew⟩:=getElem_of_mem hw;have ew':its[m]?=some w:=by rw[getElem?_eq_getElem hmlt,ew]
 have ey:ys[m]?=some ys[m]:=getElem?_eq_getElem ();obtain⟨u,fu,r1,r2⟩:=pl m _ w ey ew';rw[ev m _ w ey ew'];exact lS hK I hu r2 rx r1 rv (all_eq_true.mp hs _ (List.mem_of_getElem? ey)) hx
def yC(T:Tb)(g:PV->ML->MG):V->MJ->Hp->VK->Prop:=λo vs H Q=>∃x ys a us v F B L fx fy j,o=.ref a/\vs=[v]/\SqL T.K H a us/\Rel T F B L H x v fx/\RelL T F B L H ys us fy/\shp x=true/\ys.all shp=true/\ys.all smp=true/\g x ys=some j/\Q (.int j) H
def gIx(x:PV)(ys:ML):MG:=if ys.length<=10000000 then(ys.findIdx? (eqD x)).map λj:Nat=>(j:Int)else none
def gCt(x:PV)(ys:ML):MG:=some (ys.countP (eqD x))
theorem zh(hK:X.K=T.K)(hu:X.A.units+66<cLine):MtM X "list.index" (yC T gIx):=by
 intro js s Y H o vs v' us' Q I rx rv h;obtain⟨x,ys,a,us,v,F,B,L,fx,fy,j,rfl,rfl,hs,r1,r2,h1,h2,h3,hg,q⟩:=h;cases rx;obtain⟨u,rfl,ru⟩:=rv.one;obtain⟨its,r,pl,_⟩:=I.list (by rw[hK];exact hs);have hu1:X.A.in1.units+64<cLine:=by lia
 obtain⟨e,e1,e2,e3⟩:=rK hK I hu1 r1 ru h1 r2 r h2 h3;unfold gIx at hg;split at hg
 case isFalse=>cases hg
 obtain⟨k,ek,rfl⟩:=map_eq_some_iff.mp hg;obtain⟨kl,k1,k2⟩:=List.findIdx?_eq_some_iff_getElem.mp ek;obtain⟨ob,n,g,c,d,dt⟩:=pl;obtain⟨oc,od,odt,osl⟩:=ob;dsimp only at c d dt;subst c d dt;have ev:∀(m:Nat) (hm:m<its.toArray.size) (hy:m<ys.length),e its.toArray[m]=eqD x ys[m]:=λm hm hy=>e3 m _ _ (getElem?_eq_getElem hy) ();refine call_meets PySem.F.slot_list_index ⟨_,g,rfl⟩ PySem.F.entry_list_index (PySem.F.args_list_index_2 _ _) (SeqAt.list_indexAt a its.toArray n none osl u e k (by simp;lia) () ?_ λm hm hlt=>?_) ⟨g,λw hw=>e1 w (by simp_all),?_⟩
 .rw[ev k (by simp;lia) kl];exact k1
 .rw[ev m hm ()];simpa using k2 m hlt
 .exact⟨.int k,H,I.tok _,⟨_,rfl⟩,q⟩
def zi(hK:X.K=T.K)(hu:X.A.units+66<cLine):MtM X "list.count" (yC T gCt):=by
 intro js s Y H o vs v' us' Q I rx rv h;obtain⟨x,ys,a,us,v,F,B,L,fx,fy,j,rfl,rfl,hs,r1,r2,h1,h2,h3,hg,q⟩:=h;cases rx;obtain⟨u,rfl,ru⟩:=rv.one;obtain⟨its,r,pl,_⟩:=I.list (by rw[hK];exact hs);have hu1:X.A.in1.units+64<cLine:=by lia
 obtain⟨e,e1,e2,e3⟩:=rK hK I hu1 r1 ru h1 r2 r h2 h3;cases hg;obtain⟨ob,n,g,c,d,dt⟩:=pl;obtain⟨oc,od,odt,osl⟩:=ob;dsimp only at c d dt;subst c d dt;have ec:its.countP e=ys.countP (eqD x):=by
  have:∀(is:MC) (zs:ML),is.length=zs.length->(∀(m:Nat) (y:PV) (w:Value),zs[m]?=some y->is[m]?=some w->e w=eqD x y)->is.countP e=zs.countP (eqD x):=by
   intro is
   induction is with
   |nil=>intro zs hl _;cases zs with|nil=>rfl|cons=>simp at hl
   |cons w is ih=>
    intro zs hl hz;cases zs with
    |nil=>simp at hl
    |cons y zs=>rw[List.countP_cons,List.countP_cons,ih zs (by simpa using hl) λm y w a b=>hz (m+1) y w a b,hz 0 y w rfl rfl]
  exact this its ys e2 e3
 refine call_meets PySem.F.slot_list_count ⟨_,g,rfl⟩ PySem.F.entry_list_count (PySem.F.args_list_count_2 _ _) (SeqAt.list_countAt a its.toArray n none osl u e) ⟨g,λw hw=>e1 w (by simp_all),?_⟩;rw[List.toList_toArray,ec];exact⟨.int _,H,I.tok _,⟨_,rfl⟩,q⟩
noncomputable def fX(g:PV->PV->MM)(mo mk:ME):ME:=λenv=>match mo env,mk env with
 |.ok (.lst f ys),.ok x=>g (.lst f ys) x
 |_,_=>.stuck
def ue{nm:Str}{id:String}{g:PV->PV->MM}{gg:PV->ML->MG}{o k:Expr}{mo mk:ME}{apos cpos:Pos}(hK:X.K=T.K)(slot:Slot "list" nm id)(hty:typeOf (.builtin id)=pure (.type "method_descriptor"))(hmt:MtM X id (yC T gg))
  (hr:∀f ys x,g (.lst f ys) x=.stuck\/∃j,g (.lst f ys) x=.ok (.int j)/\shp x=true/\ys.all shp=true/\ys.all smp=true/\gg x ys=some j)
  (ho:SE X T W o mo) (hk:SE X T W k mk) (hbase:attributeBase o nm X.env (eval o X.env)=eval o X.env:=by rfl)
  (hst:starEach [k] X.env=[(false,eval k X.env)]:=by rfl)
  (hfew:Fwe X.env cpos [k]:=by rfl)
  (hline:(apos.endLine==cpos.line)=true:=by rfl):SE X T W (.Call (.Attribute o nm apos) [k] [] cpos) (fX g mo mk):=
 PE.wk (uv PySem.F.plainAttrs_list slot hty hmt ho (bU hk cN hst) hbase hfew hline hst) λY H Q h=>by
  obtain⟨Z,F,env,fp,S,q⟩:=h;unfold fX at q;split at q
  case h_2=>exact q.elim
  rename_i f ys x em ek
  refine⟨Z,F,env,fp,S,?_⟩;rw[em];intro v H1 F1 f1 g1 r1 n1 d1 w1;have r1':=r1;obtain⟨a,us,fp',rfl,hl,_,_⟩:=r1';refine⟨.inl ⟨rfl,us,by rw[hK];exact hl.sq⟩,Z,F1,env,fp,S.grow g1,?_⟩;unfold ab ae;rw[ek];intro vs H2 F2 f2 g2 r2 n2 d2 w2;obtain⟨u,rfl,ru⟩:=r2.one;have r3:=r1.ext g2.ext g2.mono;obtain⟨b,us2,fp2,e,hl2,hr2,_⟩:=r3;cases e;rcases hr f ys x with z |⟨j,e,h1,h2,h3,h4⟩
  .rw[z]at q;exact q.elim
  .rw[e]at q;exact⟨x,ys,a,us2,u,F2,Z.B,Own fp,f2,fp2,j,rfl,rfl,hl2.sq,ru,hr2,h1,h2,h3,h4,q.scal (g1.trans g2) dP⟩
def wp(f:Fl)(ys:ML)(x:PV):ff (.lst f ys) x=.stuck\/∃j,ff (.lst f ys) x=.ok (.int j)/\shp x=true/\ys.all shp=true/\ys.all smp=true/\gIx x ys=some j:=by
 unfold ff;dsimp only;split
 .rename_i h
  simp only[and_eq_true,decide_eq_true_eq]at h;cases e:ys.findIdx? (eqD x)with
  |none=>exact .inl rfl
  |some j=>exact .inr ⟨j,rfl,h.1.1.1,h.1.1.2,h.1.2,by unfold gIx;rw[if_pos h.2,e];rfl⟩
 .exact .inl rfl
def wq(f:Fl)(ys:ML)(x:PV):gB (.lst f ys) x=.stuck\/∃j,gB (.lst f ys) x=.ok (.int j)/\shp x=true/\ys.all shp=true/\ys.all smp=true/\gCt x ys=some j:=by
 unfold gB;dsimp only;split
 .rename_i h
  simp only[and_eq_true]at h;exact .inr ⟨_,rfl,h.1.1,h.1.2,h.2,rfl⟩
 .exact .inl rfl
def yj{o k:Expr}{mo mk:ME}{apos cpos:Pos}(cx:Ctx X T W kk)(hu:X.A.units+66<cLine)(ho:SE X T W o mo)(hk:SE X T W k mk)(hbase:attributeBase o "index" X.env (eval o X.env)=eval o X.env:=by rfl)
  (hst:starEach [k] X.env=[(false,eval k X.env)]:=by rfl)
  (hfew:Fwe X.env cpos [k]:=by rfl)
  (hline:(apos.endLine==cpos.line)=true:=by rfl):SE X T W (.Call (.Attribute o "index" apos) [k] [] cpos) (fX ff mo mk):=
 ue cx.hK PySem.F.slot_list_index PySem.F.type_list_index (zh cx.hK hu) wp ho hk hbase hst hfew hline
def yq{o k:Expr}{mo mk:ME}{apos cpos:Pos}(cx:Ctx X T W kk)(hu:X.A.units+66<cLine)(ho:SE X T W o mo)(hk:SE X T W k mk)(hbase:attributeBase o "count" X.env (eval o X.env)=eval o X.env:=by rfl)
  (hst:starEach [k] X.env=[(false,eval k X.env)]:=by rfl)
  (hfew:Fwe X.env cpos [k]:=by rfl)
  (hline:(apos.endLine==cpos.line)=true:=by rfl):SE X T W (.Call (.Attribute o "count" apos) [k] [] cpos) (fX gB mo mk):=
 ue cx.hK PySem.F.slot_list_count PySem.F.type_list_count (zi cx.hK hu) wq ho hk hbase hst hfew hline
end
noncomputable def lD(z:Str)(j:Nat):MS:=λenv=>match env[j]? with
 |some (some w)=>.ret (.tup [.str z,w])
 |_=>.stuck
section
variable{X:Cx}{T:Tb}{W:Nat->St->MK}
def xQ{x1}{z:Str}(hN2:X.N[j]?=some y)(hv2:Vis X.env.scope y)(hd2:Nd y:=by decide)(hcd2:Nc y:=by decide) :
  SS X T W (.Return (some (.Tuple [.Constant (.str z) jj px,.Name y py] x1 tpos)) pos) (lD z j):=
 PS.wk (oI (pos:=pos) (sA (pos:=tpos) (cy (yS (pos:=px)) (cy (te:=Io j) (gx (pos:=py) hN2 hv2 hd2 hcd2) e_)))) λD Y H hz1=>by
  walk_at "b";unfold lD at q;split at q
  case h_2=>exact q.elim
  rename_i pw ej
  obtain⟨w,e2,r2⟩:=S.rel j pw ej;refine⟨w,e2,ub (),λp hp=>?_⟩;have S2:=S.grow (Gr.same S.hp.ft (Ext.upd (o:=.tup [.str z,w]) hp));obtain⟨w',e2',r2'⟩:=S2.rel j pw ej;rw[e2]at e2';cases e2';refine q F _ (.ref p) (fp j) S2.hp ?_ (S.nd j) (λa ha=>(S2.dis j a ha).1) (S.new j);unfold Rel;refine⟨p,_,rfl,SqT.of bK,?_⟩;unfold RelL;refine⟨.str z,[w],[],fp j,rfl,by unfold Rel;exact⟨rfl,rfl⟩,?_,by simp⟩;unfold RelL;exact⟨w,[],fp j,[],rfl,r2',by unfold RelL;exact⟨rfl,rfl⟩,by simp⟩
end
section
variable{X:Cx}{T:Tb}{W:Nat->St->MK}{Z:Zn}{F:Mz}{H:Hp}{Y:St}{env:En}{fp:Nat->MD}
def lf:PV->MM
 |.str z=>.ok (.str z)
 |x=>cq x
def w8:dr X (.type "str") (λxs H Q=>(∃i,xs=[.int i]/\i.natAbs.log2<1920/\Q (.str (toString i)) H)\/ ∃z,xs=[.str z]/\Q (.str z) H):=by
 intro js s Y H xs us Q I r h;rcases h with h |⟨z,rfl,q⟩
 .exact jy js s Y H xs us Q I r h
 .obtain⟨u,rfl,ru⟩:=aS.one r;obtain⟨t,rfl⟩:=ru;exact PySem.P.str_of_str ⟨.str z,H,I,⟨_,rfl⟩,q⟩
def zn:Mir T W (p1 lf) (λxs H Q=>(∃i,xs=[.int i]/\i.natAbs.log2<1920/\Q (.str (toString i)) H)\/ ∃z,xs=[.str z]/\Q (.str z) H):=by
 intro B F L Y H Q F' H' xs vs fx gr r a b c q;cases xs with
 |nil=>exact q.elim
 |cons x xs=>
  cases xs with
  |cons _ _=>exact q.elim
  |nil=>
   cases x with
   |str z=>obtain⟨v,rfl,rv⟩:=r.one;obtain⟨rfl,_⟩:=rv;exact .inr ⟨z,rfl,GE.scal q gr kr⟩
   |int i=>exact .inl (qm B F L Y H Q F' H' _ vs fx gr r a b c q)
   |_=>exact q.elim
def BG(hg:Gl X "str")(hm:X.mg "str"=none)(ha:SE X T W e m)(he:starEach [e] X.env=[(false,eval e X.env)]:=by rfl):SE X T W (.Call (.Name "str" p) [e] [] pos) (af (p1 lf) (ab m ae)):=
 eV w8 zn hg hm vD (bU ha cN he) (he:=he)
end
end
section
open PySem.W (Frag findIn)
def qe(tab:Nat->Bool):PV->MM
 |.obj _ c _ _=>.ok (.bl (tab c))
 |_=>.stuck
noncomputable def Az(K:Frag)(C:Addr):Bool:=decide (findIn K (.ref C) "__class__"=some (some (.builtin "object.__class__")))&&decide (specialIn K (.builtin "object.__class__") "__get__"=some (some (.builtin "getset_descriptor.__get__")))&&decide (takesIn K (.builtin "object.__class__")=some true)&&decide (mroIn K C (.type "object")=some true)
def PT.chCK(p:PT)(K:Frag)(y:Nat×List Bool):Bool:=decide (p.C.map (λx=>kitOne K (.ref (gAt K x)) (.ref (p.ca K y.1)))=y.2.map some)
def PT.chCs(p:PT)(K:Frag)(q:List (Nat×List Bool)):Bool:=p.C.all (λx=>Az K (gAt K x))&&q.all (p.chCK K)
structure TK(p:PT)(K:Frag)(q:List (Nat×List Bool)):Prop where
 ne:p.C≠[]
 ch:p.chCs K q=true
def TK.at{p:PT}{K:Frag}{q:List (Nat×List Bool)}(h:TK p K q)(j:Nat){y:Nat×List Bool}(hj:q[j]?=some y:=by rfl)(c:Nat):Az K (p.ca K c)=true/\kitOne K (.ref (p.ca K c)) (.ref (p.ca K y.1))=some (la y.2 c):=by have e:=h.ch;simp only[PT.chCs,and_eq_true,all_eq_true]at e;refine⟨fN (p:=λx=>Az K (gAt K x)=true) h.ne e.1 c,?_⟩;have z:=e.2 y (List.mem_of_getElem? hj);simp only[PT.chCK,decide_eq_true_eq]at z;exact rT (α:=Nat) (f:=λC=>kitOne K (.ref C) (.ref (p.ca K y.1))) h.ne z c
section
variable{X:Cx}{T:Tb}{W:Nat->St->MK}
def BR(hK:X.K=T.K)(hx:∀c,Cls T.K (T.cls c))(ht:∀c,Az T.K (T.cls c)=true/\kitOne T.K (.ref (T.cls c)) (.ref D)=some (tab c))
  (hg:Gl X "isinstance") (hm:X.mg "isinstance"=none) (hb:bootBuiltins "isinstance"=some (.builtin "isinstance")) (hgc:Gl X cn) (hmc:X.mg cn=some (.ref D)) (he:SE X T W e m) (hcd:Nd cn:=by decide)
  (hst:starEach [e,.Name cn pc] X.env=[(false,eval e X.env),(false,eval (.Name cn pc) X.env)]:=by rfl)
  (hst2:starEach [.Name cn pc] X.env=[(false,eval (.Name cn pc) X.env)]:=by rfl):SE X T W (.Call (.Name "isinstance" p) [e,.Name cn pc] [] pos) (mUn (qe tab) m):=by
 have hcall:dr X (.builtin "isinstance") (λvs H Q=>∃a c dx fs,vs=[.ref a,.ref D]/\H a=some (.ins (T.cls c) dx fs)/\Q (.bl (tab c)) H):=by
  intro js s Y H vs us Q I rv h;obtain⟨a,c,dx,fs,rfl,ha,q⟩:=h;cases rv with
  |cons r1 r2=>
   cases r2 with
   |cons r3 r4=>cases r4;cases r3;obtain⟨k1,k2⟩:=ht c;simp only[Az,and_eq_true,decide_eq_true_eq]at k1;obtain⟨⟨⟨q1,q2⟩,q3⟩,q4⟩:=k1;have cl:=hx c;rw[<- hK]at cl q1 q2 q3 q4 k2;exact wJ I r1 (.ins ha cl q1 q2 q3 q4) k2 λtk=>⟨.bl _,H,I.tok tk,rfl,q⟩
 have hargs:PA X [e,.Name cn pc] (mR (tE T W m) (mR (tC (.ref D)) Ba)):=cy he (cy (gy (v:=.ref D) hgc hmc rfl hcd) e_ hst2) (by rw[hst,hst2]);refine PE.wk (jb (pos:=pos) (p:=p) hcall hg hm hb hargs (he:=by rw[hst,hst2]) (hpl:=by rw[hst2];rfl)) λY H Q hz1=>?_;walk_at "b";unfold mUn at q;walk_at "a";cases x with
 |obj f c ks xs=>unfold Rel at r1;obtain⟨a,dx,vs,fp',rfl,ha,_⟩:=r1;exact⟨a,c,dx,_,rfl,ha,q.scal g1 fT⟩
 |_=>exact q.elim
end
end
section
open PySem.W (keepIn Frag)
open PySem.W (fnOf)
section
variable{X:Cx}{T:Tb}{W:Nat->St->MK}{Z:Zn}{F:Mz}{H:Hp}{Y:St}{env:En}{fp:Nat->MD}
def fV:PV->MM
 |.str z=>if z.length<=10000 then .ok (.str z)else .stuck
 |x=>cq x
def FJ(he:SE X T W e m):SE X T W (.FormattedValue e (-1) none pos) (mUn fV m):=by
 intro js s Y H Q I ⟨Z,F,env,fp,S,q⟩;unfold mUn at q;have hh:tE T W m Y H λx H1=>(∃i:Int,x=.int i/\i.natAbs.log2<1920/\Q (.str (toString i)) H1)\/ ∃z,x=.str z/\z.length<=sizeLine/\Q (.str z) H1:=by
  walk_at "a";simp at q;cases x with
  |str z=>
   simp only[fV]at q;split at q
   .unfold Rel at r1;obtain⟨rfl,_⟩:=r1;exact .inr ⟨z,rfl,by rw[sizeLine_eq];lia,GE.scal q g1 kr⟩
   .exact q.elim
  |int i=>
   simp only[fV,cq]at q;split at q
   .rename_i hi
    obtain⟨rfl,_⟩:=r1;refine .inl ⟨i,rfl,?_,GE.scal q g1 kr⟩;by_cases h0:i.natAbs=0
    .rw[h0];decide
    .exact Nat.lt_trans ((Nat.log2_lt h0).mpr hi) ()
   .exact q.elim
  |_=>exact q.elim
 refine PyProof.Rows.FormattedValue_plain (thn (he js s Y H _ I hh) λv s1 zz=>?_);obtain⟨x,H1,I1,r1,q1⟩:=zz;rcases q1 with⟨i,rfl,hi,q1⟩ |⟨z,rfl,hz,q1⟩
 .obtain⟨t,rfl⟩:=r1;exact PyProof.Rows.formatField_int_small hi ⟨.str _,H1,I1.tok _,⟨_,rfl⟩,q1⟩
 .obtain⟨t,rfl⟩:=r1;exact PyProof.Rows.formatField_str (λt' tk=>⟨.str _,H1,I1.tok _,⟨_,rfl⟩,q1⟩) hz
def mJ:List ME->Str->ME
 | [],out=>λ_=>.ok (.str out)
 |m::ms,out=>λenv=>(m env).bind λx=>match x with
  |.str y=>if(out++y).length<=10000 then mJ ms (out++y) env else .stuck
  |_=>.stuck
inductive SJ(X:Cx)(T:Tb)(W:Nat->St->MK):List Expr->List ME->Prop
 |nil:SJ X T W [] []
 |cons:SE X T W e m->SJ X T W es ms->SJ X T W (e::es) (m::ms)
def SJ.run(h:SJ X T W es ms):∀(out:Str) (js:My) (s:Shared) (Y:St) (H:Hp) (Q:VK),out.length<=10000->Inv X js Y H s->tE T W (mJ ms out) Y H Q->wpAny (model X.prog X.w) X.A (joinParts out (evalEach es X.env)) (EP X js Y Q) X.xe s:=by
 induction h with
 |nil=>intro out js s Y H Q ho I ⟨Z,F,env,fp,S,q⟩;exact PyProof.Rows.joinParts_nil ⟨.str _,H,I.tok _,⟨_,rfl⟩,GE.scal q (Gr.refl S.hp.ft) kr⟩ (by rw[sizeLine_eq];lia)
 | @cons e m es ms he _ ih=>
  intro out js s Y H Q ho I ⟨Z,F,env,fp,S,q⟩;unfold mJ at q;have hh:tE T W m Y H λx H1=>∃y,x=.str y/\(out++y).length<=10000/\tE T W (mJ ms (out++y)) Y H1 Q:=by
   walk_at "a";simp at q;cases x with
   |str z=>
    dsimp only at q;split at q
    .rename_i hz
     refine⟨z,r1.1,hz,tE.bind (S.grow g1) (λc e H' x=>by rw[e]at q;exact q _ (g1.ext.trans x)) (λe=>by rw[e]at q;exact q) λy u H2 F2 f2 e2 g2 r2 n2 d2 w2=>?_⟩;rw[e2]at q;exact q _ _ _ _ (g1.trans g2) r2 n2 d2 λa ha=>by
      have:=w2 a ha;cases h0:H a with
      |none=>rfl
      |some o=>rw[g1.ext a o h0]at this;cases this
    .exact q.elim
   |_=>exact q.elim
  refine PyProof.Rows.joinParts_cons (thn (he js s Y H _ I hh) λv s1 zz=>?_);obtain⟨x,H1,I1,r1,q1⟩:=zz;obtain⟨y,rfl,hz,q1⟩:=q1;obtain⟨t,rfl⟩:=r1;exact⟨by rw[sizeLine_eq];lia,ih _ js s1 Y H1 Q hz I1 q1⟩
def Fh(h:SJ X T W (a::b::es) ms):SE X T W (.JoinedStr (a::b::es) pos) (mJ ms Str.empty):=λjs s Y H Q I q=>PyProof.Rows.JoinedStr_many (h.run Str.empty js s Y H Q () I q)
end
section
variable{X:Cx}{T:Tb}{W:Nat->St->MK}{e:Expr}{m:ME}{i:Nat}{x:Str}{pos pos':Pos}
def nv(i:Nat)(m:ME):MS:=λenv=>match env[i]? with
 |some (some (.int a))=>match m env with
  |.ok (.int b)=>if aQ i env then .next (env.set i (some (.int (a-b))))else .stuck
  |.ok _=>.stuck
  |.exc c=>.exc c env
  |.stuck=>.stuck
 |_=>.stuck
def Bo(hN:X.N.Nodup)(hi:X.N[i]?=some x)(hx:Loc X.env.scope x)(he:SE X T W e m)
  (hf:Lce X.fn X.env x:=by first|exact .inl rfl|exact .inr rfl|assumption):SS X T W (.AugAssign (.Name x pos') .Sub e pos) (nv i m):=
 PS.wk (Gd hN hi hx he (λjs s Y H x y v u Q I rx ry h=>C5 js s Y H x y v u Q I rx ry h) hf) λD Y H hz1=>by
  walk_at "b";unfold nv at q;split at q
  .rename_i a ea
   obtain⟨v,e1,r⟩:=S.rel i _ ea;refine⟨v,e1,tE.bind S (λc e H' x=>?_) (λe=>by rw[e]at q;exact q) λpv w H1 F1 f e2 g r2 h1 h2 h3=>?_⟩
   .rw[e]at q;exact q F H' Y fp (S.grow (Gr.same S.hp.ft x))
   .rw[e2]at q;cases pv with
    |int b=>
     dsimp only at q;split at q
     .rename_i ho
      refine⟨a,b,r.1,r2.1,?_⟩;exact q F1 H1 _ _ ((S.grow g).put dP nodup_nil (λ_ z=>nomatch z) (λ_ z=>nomatch z) (λ_ z=>nomatch z) ho)
     .exact q.elim
    |_=>exact q.elim
  .exact q.elim
end
def mNo:MS:=λ_=>.stuck
def IH{X:Cx}{T:Tb}{W:Nat->St->MK}{s:Stmt}:SS X T W s mNo:=λ_ _ _ _ _ _ z=>by obtain⟨_,_,_,_,_,q⟩:=z;exact q.elim
section
variable{env e e':En}{v:PV}{i:Nat}{r:Out}
@[simp] def gQ:mC v env=.ok v:=rfl
@[simp] def bG:ae env=.ok []:=rfl
@[simp] def aW:ab a m env=(a env).bind λx=>(m env).bind λxs=>.ok (x::xs):=rfl
@[simp] def JR:mUn f a env=(a env).bind f:=rfl
@[simp] def cH:mOp f a b env=(a env).bind λx=>(b env).bind λy=>f x y:=rfl
@[simp] def b6:af f m env=(m env).bind f:=rfl
@[simp] def j3:b_ m env=(m env).bind λxs=>.ok (.lst .own xs):=rfl
@[simp] def gJ:cT m env=(m env).bind λxs=>.ok (.tup xs):=rfl
@[simp] def Lm:iw a env=(a env).bind λb=>.ok (!b):=rfl
@[simp] def JS:bz a env=(a env).bind oM:=rfl
@[simp] def L4:vJ a c env=(a env).bind (oN c):=rfl
@[simp] def jZ:bV env=.ok none:=rfl
@[simp] def Lk:aH env=.ok true:=rfl
def Jc:Option (Option PV)->MM
 |some (some v)=>.ok (v.MY Fl.MN)
 |_=>.stuck
@[simp] def aU(v:PV):Jc (some (some v))=.ok (v.MY Fl.MN):=rfl
@[simp] def bD:aa i env=Jc env[i]?:=by
 unfold aa;cases env[i]? with
 |none=>rfl
 |some w=>cases w<;>rfl
def pBl:PV->Res Bool
 |.bl b=>.ok b
 |_=>.stuck
@[simp] def Gs(b:Bool):pBl (.bl b)=.ok b:=rfl
@[simp] def jt:ai a env=(a env).bind pBl:=by rfl
noncomputable def Jd:PV->MM
 |.bl b=>.ok (.bl (!b))
 |_=>.stuck
@[simp] def K1(b:Bool):Jd (.bl b)=.ok (.bl (!b)):=rfl
@[simp] def Lo:qw a env=(a env).bind Jd:=by rfl
def Jg(r:MM):PV->MM
 |.bl b=>if b then r else .ok (.bl false)
 |_=>.stuck
@[simp] def K2(r:MM)(b:Bool):Jg r (.bl b)=if b then r else .ok (.bl false):=rfl
@[simp] def Dv:iz a b env=(a env).bind (Jg (b env)):=by
 unfold iz;congr 1;funext x;cases x with
 |bl b=>cases b<;>rfl
 |_=>rfl
@[simp] def JG(g:Int->Int->PV)(i j:Int):lh g (.int i) (.int j)=.ok (g i j):=rfl
def D9:PV->Res (MG)
 |.int i=>.ok (some i)
 |_=>.stuck
@[simp] def jP(i:Int):D9 (.int i)=.ok (some i):=rfl
@[simp] def kM:dy a env=(a env).bind D9:=by rfl
def Jf(l h:MG):PV->MM
 |.lst _ xs=>.ok (.lst .own (gL xs l h))
 |_=>.stuck
@[simp] def lq(l h:MG)(f:Fl)(xs:ML):Jf l h (.lst f xs)=.ok (.lst .own (gL xs l h)):=rfl
@[simp] def ju:cP o lo hi env=(o env).bind λx=>(lo env).bind λl=>(hi env).bind λh=>Jf l h x:=by rfl
def ao(v:PV):MM:=if v.has Fl.MW then .stuck else .ok v
@[simp] def cJ:aq f xs=(f (mapL Fl.MP xs)).bind ao:=by unfold aq;cases f (mapL Fl.MP xs)<;>rfl
def io(disp:Nat->Option (ML->MM))(r:Res (ML)):PV->MM
 |.obj fl c ks vs=>match disp c with
  |some m=>r.bind λxs=>aq m (.obj fl c ks vs::xs)
  |none=>.stuck
 |_=>.stuck
@[simp] def Je(disp:Nat->Option (ML->MM))(r:Res (ML))(fl:Fl)(c:Nat)(ks:List Nat)(vs:ML):io disp r (.obj fl c ks vs)=match disp c with
  |some m=>r.bind λxs=>aq m (.obj fl c ks vs::xs)
  |none=>.stuck:=rfl
@[simp] def Al:bB disp o ms env=(o env).bind (io disp (ms env)):=by unfold bB;congr 1;funext x;cases x<;>rfl
@[simp] def Ll:dF m env=(m env).bind λx=>match x with
 |.lst f xs=>if !f.MV&&eQ xs then .ok xs else .stuck
 |.tup xs=>if eQ xs then .ok xs else .stuck
 |_=>.stuck:=rfl
def ux(x:PV):Res (ML):=match aV x with
 |some xs=>.ok xs
 |none=>.stuck
@[simp] def HU(f:Fl)(xs:ML):ux (.lst f xs)=.ok xs:=rfl
@[simp] def HS(xs:ML):ux (.tup xs)=.ok xs:=rfl
@[simp] def Du:aK m env=(m env).bind ux:=rfl
@[simp] def kN:di a b env=(a env).bind λx=>if x then b env else .ok false:=rfl
@[simp] def L3:gP a b env=(a env).bind λx=>if x then .ok true else b env:=rfl
@[simp] def tP:fY c a b env=(c env).bind λx=>if x then a env else b env:=rfl
@[simp] def Hk:eA c f m env=(m env).bind λxs=>aq f (.obj .own c [] []::xs):=rfl
def ac(h1:a env=.next e)(h2:b e=r):ag a b env=r:=by unfold ag;rw[h1];exact h2
def bp(h1:a env=.ret v):ag a b env=.ret v:=by unfold ag;rw[h1]
def cU(h:c env=.ok true)(h2:a env=r):mBr c a b env=r:=by unfold mBr;rw[h];exact h2
def aM(h:c env=.ok false)(h2:b env=r):mBr c a b env=r:=by unfold mBr;rw[h];exact h2
def Ei(h:c env=.ok x):mBr c a b env=if x then a env else b env:=by unfold mBr;rw[h];cases x<;>rfl
def aj(h:m env=.ok v)(hl:v.MX=true:=by simp)(ho:aQ i env=true:=by rfl):aw i m env=.next (env.set i (some v)):=by unfold aw;rw[h];simp[hl,ho]
def az(h:m env=.ok v)(hl:v.MX=true:=by simp):aL m env=.ret v:=by unfold aL;rw[h];simp[hl]
def cA(h:env[i]?=some (some v)):cY i env=.ret v:=by unfold cY;rw[h]
def cD(h:m env=.ok v):dA m env=.next env:=by unfold dA;rw[h]
def ak:aA env=.next env:=rfl
def cj(h:m env=.ok v)(ho:env[i]?=some (some (.obj .own c ks vs)))(hl:v.MX=true)(hk:ks.contains k=false)(hn:ks.length<900) :
  eR i k m env=.next (env.set i (some (.obj .own c (ks++[k]) (vs++[v])))):=by
 unfold eR;rw[h,ho];simp only[hl,hk];simp[hn]
def cM(h:m env=.ok v)(ho:env[i]?=some (some (.lst .own xs)))(hl:v.MX=true)(hn:xs.length<10000000):bu i m env=.next (env.set i (some (.lst .own (xs++[v])))):=by unfold bu;rw[h,ho];simp[hl,hn]
def p0(h:m env=.ok v)(ho:env[i]?=some (some (.lst .own xs)))(hk:mk env=.ok (.int j))(hj:ixN xs.length j=some n)(hl:v.MX=true) :
  fR i mk m env=.next (env.set i (some (.lst .own (xs.set n v)))):=by
 unfold fR;rw[h,ho,hk];simp[hj,hl]
def bY(h:env[i]?=some (some v)):dz i env=.next (env.set i (some (v.MY Fl.MQ))):=by unfold dz;rw[h]
def am(h:m (args.map some++replicate (n-args.length) none)=.ret v):aN n m args=.ok v:=by unfold aN;rw[h]
def m4(h:m (args.map some++replicate (n-args.length) none)=.next e):aN n m args=.ok .non:=by unfold aN;rw[h]
def c9(h:m (args.map some++replicate (n-args.length) none)=.next e)(ho:e[0]?=some (some v)):gT n m args=.ok v:=by unfold gT;rw[h];simp[ho]
def jm(P:Nat->En->Prop)(h:it env=.ok xs)(h0:P 0 env)
  (step:∀(k:Nat) (x:PV) (e:En),xs[k]?=some x->P k e->∃e1 e2,g x e=some e1/\(body e1=.next e2\/body e1=.cont e2)/\P (k+1) e2):∃e2,bX it g body env=.next e2/\P xs.length e2:=by
 unfold bX;rw[h];have key:∀ (ys pre:ML) (e:En),pre ++ ys=xs->P pre.length e->∃ e2,my (λx e=>match g x e with
  |some e'=>body e'
  |none=>.stuck) ys e=.next e2/\P xs.length e2:=by
  intro ys
  induction ys with
  |nil=>intro pre e hp hP;simp at hp;subst hp;exact⟨e,rfl,hP⟩
  |cons y ys ih=>
   intro pre e hp hP;obtain⟨e1,e2,h1,h2,h3⟩:=step pre.length y e (by rw[<- hp];simp) hP;obtain⟨e3,h4,h5⟩:=ih (pre++[y]) e2 (by rw[<- hp];simp) (by simpa using h3);refine⟨e3,?_,h5⟩;unfold my;simp only[h1];rcases h2 with h2|h2<;>rw[h2]<;>exact h4
 exact key xs [] env rfl h0
def gI(P:Nat->En->Prop)(R:Out->Prop)(h:it env=.ok xs)(h0:P 0 env)
  (step:∀(k:Nat) (x:PV) (e:En),xs[k]?=some x->P k e->∃e1,g x e=some e1/\((∃e2,(body e1=.next e2\/body e1=.cont e2)/\P (k+1) e2)\/(∃e2,body e1=.brk e2/\R (.next e2))\/(∃v,body e1=.ret v/\R (.ret v))\/ ∃c e2,body e1=.exc c e2/\R (.exc c e2)))
  (fin:∀e,P xs.length e->R (.next e)):R (bX it g body env):=by
 unfold bX;rw[h];have key:∀ (ys pre:ML) (e:En),pre ++ ys=xs->P pre.length e->R (my (λx e=>match g x e with
  |some e'=>body e'
  |none=>.stuck) ys e):=by
  intro ys
  induction ys with
  |nil=>intro pre e hp hP;simp at hp;subst hp;exact fin e hP
  |cons y ys ih=>
   intro pre e hp hP;obtain⟨e1,h1,h2⟩:=step pre.length y e (by rw[<- hp];simp) hP;unfold my;simp only[h1];rcases h2 with⟨e2,h2,h3⟩ |⟨e2,h2,h3⟩ |⟨v,h2,h3⟩ |⟨c,e2,h2,h3⟩
   .have:=ih (pre++[y]) e2 (by rw[<- hp];simp) (by simpa using h3);rcases h2 with h2|h2<;>rw[h2]<;>exact this
   .rw[h2];exact h3
   .rw[h2];exact h3
   .rw[h2];exact h3
 exact key xs [] env rfl h0
def aF(h:mi env=.ok xs)(hl:xs.length<=10000000)(hc:dU g mc me (bI caps k env) xs=.ok ys):ay caps k mi g mc me env=.ok (.lst .own ys):=by unfold ay;rw[h];simp only[Res.M0,hl,if_true,hc]
theorem aI{α:Type}{a:α->PV}{f:α->PV}:∀(xs:List α),(∀x∈xs,∃e1,g (a x).MR env=some e1/\me e1=.ok (f x)/\(f x).has Fl.MW=false/\(f x).has Fl.MV=false)->
  dU g aH me env (xs.map a)=.ok (xs.map f)
 | [],_=>rfl
 |x::xs,h=>by obtain⟨e1,h1,h2,h3,h4⟩:=h x mem_cons_self;rw[map_cons,dU,h1];simp only[Res.M0,h2,h3,h4,aI xs λy hy=>h y (mem_cons_of_mem _ hy)];rfl
theorem db{α:Type}{a:α->PV}{f:α->PV}{p:α->Bool}:∀(xs:List α),(∀x∈xs,∃e1,g (a x).MR env=some e1/\mc e1=.ok (p x)/\(p x=true->me e1=.ok (f x)/\(f x).has Fl.MW=false/\(f x).has Fl.MV=false))->
  dU g mc me env (xs.map a)=.ok ((xs.filter p).map f)
 | [],_=>rfl
 |x::xs,h=>by
  obtain⟨e1,h1,h2,h3⟩:=h x mem_cons_self;have ih:=db xs λy hy=>h y (mem_cons_of_mem _ hy);rw[map_cons,dU,h1];cases hp:p x with
  |true=>obtain⟨h4,h5,h6⟩:=h3 hp;simp only[h2,hp,Res.M0,h4,h5,h6,ih];rw[List.filter_cons_of_pos hp];rfl
  |false=>simp only[h2,hp,Res.M0,Bool.false_eq_true,if_false,ih];rw[List.filter_cons_of_neg (by simp[hp])]
end
noncomputable def iL(ns:MB):ML:=ns.map .int
section
variable(ns ms:MB)(g:Fl->Fl)(p:Fl->Bool)
@[simp] def JD:iL []=[]:=rfl
@[simp] def f7(n:Int):iL (n::ns)=.int n::iL ns:=rfl
@[simp] def bL:(iL ns).length=ns.length:=by simp[iL]
@[simp] def JF:iL ns++iL ms=iL (ns++ms):=by simp[iL]
@[simp] def wM(k:Nat):(iL ns).drop k=iL (ns.drop k):=by simp[iL]
@[simp] def Ig(k:Nat):(iL ns).take k=iL (ns.take k):=by simp[iL]
@[simp] def JE(k:Nat):(iL ns)[k]?=(ns[k]?).map .int:=by simp[iL]
@[simp] def JC(k:Nat)(n:Int):(iL ns).set k (.int n)=iL (ns.set k n):=by simp[iL,List.map_set]
@[simp] def d0:mapL g (iL ns)=iL ns:=by
 induction ns with
 |nil=>rfl
 |cons n ns ih=>simp[mapL,PV.MY,ih]
@[simp] def Ih:hasL p (iL ns)=false:=by
 induction ns with
 |nil=>rfl
 |cons n ns ih=>simp[hasL,PV.has,ih]
@[simp] def Ij:PyData.canLayAll0 (dataL (iL ns))=true:=by
 induction ns with
 |nil=>rfl
 |cons n ns ih=>simp only[f7,dataL,PV.data,PyData.canLayAll0,ih];rfl
@[simp] def Ii:PyData.depthAll (dataL (iL ns))=0:=by
 induction ns with
 |nil=>rfl
 |cons n ns ih=>simp only[f7,dataL,PV.data,PyData.depthAll,ih];rfl
@[simp] def iZ(i:Int):shp (.int i)=true:=rfl
@[simp] def LB(b:Bool):shp (.bl b)=true:=rfl
@[simp] def uc:shp .non=true:=rfl
@[simp] def pY(f:Fl):shp (.lst f (iL ns))=true:=by simp[shp,SeqAt.shaped,PV.data,PyData.canLay0,PyData.depth]
@[simp] def mY:(iL ns).all shp=true:=by
 induction ns with
 |nil=>rfl
 |cons n ns ih=>simp only[f7,all_cons,iZ,ih];rfl
mutual
theorem qZ:∀d:PyData,d.canLay0=true->PyData.eqv d d=true
 |.none,_=>rfl
 |.bool b,_|.int b,_|.str b,_=>by simp[PyData.eqv]
 |.list xs,h=>by simp only[PyData.canLay0]at h;simp only[PyData.eqv];exact eqvL_self xs h
 |.tuple xs,h=>by simp only[PyData.canLay0]at h;simp only[PyData.eqv];exact eqvL_self xs h
 |.dict xs,h=>by simp[PyData.canLay0]at h
theorem eqvL_self:∀ds:List PyData,PyData.canLayAll0 ds=true->PyData.eqvAll ds ds=true
 | [],_=>rfl
 |d::ds,h=>by simp only[PyData.canLayAll0,and_eq_true]at h;simp only[PyData.eqvAll,qZ d h.1,eqvL_self ds h.2];rfl
end
def Dw(h:x.data=y.data)(hs:shp x=true):pEq x y=.ok (.bl true):=by
 have hy:shp y=true:=by unfold shp at hs ⊢;rw[<- h];exact hs
 have hc:=SeqAt.canLay_of_shaped hs;unfold pEq;rw[hs,hy,<- h,qZ _ hc];rfl
@[simp] def L5(i j:Int):pEq (.int i) (.int j)=.ok (.bl (decide (i=j))):=by unfold pEq;simp only[iZ,Bool.and_self,if_true,PV.data,PyData.eqv];congr 2
@[simp] def LT(i j:Int):pNe (.int i) (.int j)=.ok (.bl (!decide (i=j))):=by unfold pNe;simp only[iZ,Bool.and_self,if_true,PV.data,PyData.eqv];congr 2
@[simp] def Mu(i j:Bool):pEq (.bl i) (.bl j)=.ok (.bl (decide (i=j))):=by cases i<;>cases j<;>rfl
@[simp] def Mr(i j:Bool):pNe (.bl i) (.bl j)=.ok (.bl (!decide (i=j))):=by cases i<;>cases j<;>rfl
def nY:PyData.eqvAll (dataL (iL ns)) (dataL (iL ms))=decide (ns=ms):=by
 induction ns generalizing ms with
 |nil=>cases ms<;>simp[dataL,PyData.eqvAll]
 |cons n ns ih=>
  cases ms with
  |nil=>simp[dataL,PyData.eqvAll]
  |cons m ms=>simp only[f7,dataL,PV.data,PyData.eqvAll,PyData.eqv,ih];by_cases h:n=m<;>simp[h]
@[simp] def Dx(f f':Fl):pEq (.lst f (iL ns)) (.lst f' (iL ms))=.ok (.bl (decide (ns=ms))):=by unfold pEq;simp only[pY,Bool.and_self,if_true,PV.data,PyData.eqv,nY]
@[simp] def K3(f f':Fl):pNe (.lst f (iL ns)) (.lst f' (iL ms))=.ok (.bl (!decide (ns=ms))):=by unfold pNe;simp only[pY,Bool.and_self,if_true,PV.data,PyData.eqv,nY]
@[simp] def lt_int(i j:Int):pLt (.int i) (.int j)=.ok (.bl (decide (i<j))):=rfl
@[simp] def le_int(i j:Int):pLe (.int i) (.int j)=.ok (.bl (decide (i<=j))):=rfl
@[simp] def gt_int(i j:Int):pGt (.int i) (.int j)=.ok (.bl (decide (j<i))):=rfl
@[simp] def ge_int(i j:Int):pGe (.int i) (.int j)=.ok (.bl (decide (j<=i))):=rfl
@[simp] def ja(i j:Int):aJ (.int i) (.int j)=.ok (.int (i+j)):=rfl
@[simp] def sub_int(i j:Int):iK (.int i) (.int j)=.ok (.int (i-j)):=rfl
@[simp] def neg_int(i:Int):mf (.int i)=.ok (.int (-i)):=rfl
def aR(h:0<j):bQ (.int i) (.int j)=.ok (.int (i%j)):=by simp[bQ,fO,h]
def cQ(h:0<j)(h2:j<1073741824):fg (.int i) (.int j)=.ok (.int (i / j)):=by simp[fg,fO,h,h2]
def cO(h:(-(2 ^ 64)<i/\i<2 ^ 64)\/(-(2 ^ 64)<j/\j<2 ^ 64)):bN (.int i) (.int j)=.ok (.int (i*j)):=by unfold bN fO;dsimp only;rw[if_pos (by simpa using h)]
def yK(h0:0<=j)(h1:j<=1000000)(h2:i.natAbs<2 ^ 64):kx (.int i) (.int j)=.ok (.int (i ^ j.toNat)):=by unfold kx fO;dsimp only;rw[if_pos ()]
@[simp] def I8:kx (.int 10) (.int 60)=.ok (.int (10 ^ 60)):=yK () () ()
@[simp] def K9(f:Fl)(xs:ML):da (.lst f xs)=.ok (.int xs.length):=rfl
@[simp] def K8(xs:ML):da (.tup xs)=.ok (.int xs.length):=rfl
@[simp] def Jw(f:Fl)(xs:ML):dR (.lst f xs)=.ok (.lst .own xs):=rfl
@[simp] def LM(f:PV->MM)(x:PV):p1 f [x]=f x:=by simp only[p1]
@[simp] def Lc(c:String)(i:Int):oN c (.int i)=.ok (.bl (mw "int" c)):=rfl
@[simp] def LX(c:String)(i:Bool):oN c (.bl i)=.ok (.bl (mw "bool" c)):=rfl
@[simp] def La(c:String):oN c .non=.ok (.bl (mw "NoneType" c)):=rfl
@[simp] def Lb(c:String)(f:Fl)(xs:ML):oN c (.lst f xs)=.ok (.bl (mw "list" c)):=rfl
@[simp] def K_(c:String)(xs:ML):oN c (.tup xs)=.ok (.bl (mw "tuple" c)):=rfl
@[simp] def xy(b:Bool):oM (.bl b)=.ok b:=rfl
@[simp] def HQ(i:Int):oM (.int i)=.ok (i != 0):=rfl
@[simp] def fh(i:Int):(PV.int i).MY g=.int i:=by simp[PV.MY]
@[simp] def CO(b:Bool):(PV.bl b).MY g=.bl b:=by simp[PV.MY]
@[simp] def Jo:PV.non.MY g=.non:=by simp[PV.MY]
@[simp] def et(x:Str):(PV.str x).MY g=.str x:=by simp[PV.MY]
@[simp] def Jp(x:Nat):(PV.exc x).MY g=.exc x:=by simp[PV.MY]
@[simp] def aY(f:Fl)(xs:ML):(PV.lst f xs).MY g=.lst (g f) (mapL g xs):=by simp[PV.MY]
@[simp] def lB(xs:ML):(PV.tup xs).MY g=.tup (mapL g xs):=by simp[PV.MY]
@[simp] def Jn(f:Fl)(c:Nat)(ks:List Nat)(xs:ML):(PV.obj f c ks xs).MY g=.obj (g f) c ks (mapL g xs):=by simp[PV.MY]
@[simp] def bS:mapL g []=[]:=by simp[mapL]
@[simp] def bh(x:PV)(xs:ML):mapL g (x::xs)=x.MY g::mapL g xs:=by simp[mapL]
@[simp] def Li(i:Int):(PV.int i).has p=false:=by simp[PV.has]
@[simp] def LY(b:Bool):(PV.bl b).has p=false:=by simp[PV.has]
@[simp] def Lh:PV.non.has p=false:=by simp[PV.has]
@[simp] def C9(x:Str):(PV.str x).has p=false:=by simp[PV.has]
@[simp] def Lj(x:Nat):(PV.exc x).has p=false:=by simp[PV.has]
@[simp] def fI(f:Fl)(xs:ML):(PV.lst f xs).has p=(p f||hasL p xs):=by simp[PV.has]
@[simp] def Lf(xs:ML):(PV.tup xs).has p=hasL p xs:=by simp[PV.has]
@[simp] def Lg(f:Fl)(c:Nat)(ks:List Nat)(xs:ML):(PV.obj f c ks xs).has p=(p f||hasL p xs):=by simp[PV.has]
@[simp] def JL:hasL p []=false:=by simp[hasL]
@[simp] def nD(x:PV)(xs:ML):hasL p (x::xs)=(x.has p||hasL p xs):=by simp[hasL]
@[simp] def fW(x:PV):x.MX=!x.has Fl.MV:=rfl
@[simp] def Ik(x:PV):x.MR=x.MY Fl.MR:=rfl
@[simp] def lI:Fl.own.MN=.lnt:=rfl
@[simp] def dO:Fl.frz.MN=.frz:=rfl
@[simp] def Jy:Fl.bor.MN=.bor:=rfl
@[simp] def Jx:Fl.lnt.MN=.lnt:=rfl
@[simp] def mP:Fl.own.MP=.own:=rfl
@[simp] def fS:Fl.frz.MP=.frz:=rfl
@[simp] def HR:Fl.bor.MP=.bor:=rfl
@[simp] def mQ:Fl.lnt.MP=.bor:=rfl
@[simp] def Ej:Fl.own.MR=.bor:=rfl
@[simp] def Hv:Fl.frz.MR=.frz:=rfl
@[simp] def Hw:Fl.bor.MR=.bor:=rfl
@[simp] def Hu:Fl.lnt.MR=.bor:=rfl
@[simp] def HV:Fl.own.MU=true:=rfl
@[simp] def HX:Fl.frz.MU=false:=rfl
@[simp] def HY:Fl.bor.MU=false:=rfl
@[simp] def HW:Fl.lnt.MU=false:=rfl
@[simp] def HZ:Fl.own.MV=false:=rfl
@[simp] def H_:Fl.frz.MV=false:=rfl
@[simp] def Ia:Fl.bor.MV=false:=rfl
@[simp] def H4:Fl.lnt.MV=true:=rfl
@[simp] def Ib:Fl.own.MW=false:=rfl
@[simp] def Id:Fl.frz.MW=false:=rfl
@[simp] def Ie:Fl.bor.MW=true:=rfl
@[simp] def Ic:Fl.lnt.MW=false:=rfl
@[simp] def gH:Fl.own.MQ=.frz:=rfl
@[simp] def Ha:Fl.frz.MQ=.frz:=rfl
@[simp] def Hb:Fl.bor.MQ=.bor:=rfl
@[simp] def G_:Fl.lnt.MQ=.lnt:=rfl
theorem qG(h0:0<=i)(h:ns[i.toNat]?=some n):ah (.lst f (iL ns)) (.int i)=.ok (.int n):=by have hl:i.toNat<ns.length:=(List.getElem?_eq_some_iff.mp h).1;unfold ah;simp only[aV,atI,ixN,bL,h0,if_true];rw[if_pos ()];simp[h]
end
section
variable{env:En}{r:Out}
def kC(o:Out)(Q:En->Prop):Prop:=∃e,(o=.next e\/o=.cont e)/\Q e
def bt(h1:a env=.next e)(h2:kC (b e) Q):kC (ag a b env) Q:=by obtain⟨e2,h3,h4⟩:=h2;refine⟨e2,?_,h4⟩;unfold ag;rw[h1];exact h3
def bC(h1:o=.next e)(h2:Q e):kC o Q:=⟨e,.inl h1,h2⟩
def wQ(P:Nat->En->Prop)(h:it env=.ok xs)(h0:P 0 env)
  (step:∀(k:Nat) (x:PV) (e:En),xs[k]?=some x->P k e->∃e1,g x e=some e1/\kC (body e1) (P (k+1))) (fin:∀e,P xs.length e->Q e):kC (bX it g body env) Q:=by
 obtain⟨e2,h1,h2⟩:=jm P h h0 λk x e h1 h2=>by obtain⟨e1,h3,e2,h4,h5⟩:=step k x e h1 h2;exact⟨e1,e2,h3,h4,h5⟩
 exact⟨e2,.inl h1,fin e2 h2⟩
def d7{it:MI}{g:TgM}{body bw:MS}{xs:ML}(P:Nat->En->Prop)(h:it env=.ok xs)(h0:P 0 env)
  (step:∀(k:Nat) (x:PV) (e:En),xs[k]?=some x->P k e->∃e1,g x e=some e1/\kC (body e1) (P (k+1))) (fin:∀e,P xs.length e->bw e=r):ag (bX it g body) bw env=r:=by
 obtain⟨e2,h1,h2⟩:=jm P h h0 λk x e h1 h2=>by obtain⟨e1,h3,e2,h4,h5⟩:=step k x e h1 h2;exact⟨e1,e2,h3,h4,h5⟩
 exact ac h1 (fin e2 h2)
theorem tj(h:-1000000<=i/\i<=1000000):inR i=true:=by
 have e:(2:Int) ^ 62=4611686018427387904:=by decide
 unfold inR
 lia
def B0(hi:inR n=true)(h:ms env=.ok [.int n]):bJ ms env=.ok (dY 0 n.toNat):=by unfold bJ;rw[h,Res.M0];dsimp only;rw[if_pos hi]
def yt{n:Nat}(hi:inR (n:Int)=true)(h:ms env=.ok [.int n]):bJ ms env=.ok (dY 0 n):=by have:=B0 hi h;exact this
theorem GQ{n:Nat}(hn:n<=1000000):-1000000 <=(n:Int)/\(n:Int)<= 1000000:=by lia
def bM{n:Nat}(h:ms env=.ok [.int n])(hn:n<=1000000):bJ ms env=.ok (dY 0 n):=yt (tj (GQ hn)) h
def BZ(hh:(inR lo&&inR hi)=true)(h:ms env=.ok [.int lo,.int hi]):lC ms env=.ok (dY lo (hi-lo).toNat):=by unfold lC;rw[h,Res.M0];dsimp only;rw[if_pos hh]
def BY(h:ms env=.ok [.int lo,.int hi])(hl:-1000000<=lo/\lo<=1000000)(hh:-1000000<=hi/\hi<=1000000):lC ms env=.ok (dY lo (hi-lo).toNat):=
 BZ (by rw[tj hl,tj hh];rfl) h
def bm(lo:Int)(n:Nat):(dY lo n).length=n:=by simp[dY]
def dL(h:(dY lo n)[k]?=some x):k<n/\x=.int (lo+k):=by
 have hk:k<n:=by
  have:=(List.getElem?_eq_some_iff.mp h).1
  rwa [bm]at this
 refine⟨hk,?_⟩;simp[dY,hk]at h;exact h.symm
def jX{ns:MB}{k:Nat}{x:PV}(h:(iL ns)[k]?=some x):∃n,ns[k]?=some n/\x=.int n:=by simp at h;obtain⟨n,h1,h2⟩:=h;exact⟨n,h1,h2.symm⟩
def cV(h:aQ i e=true):tgN i v e=some (e.set i (some v)):=by simp[tgN,h]
end
theorem Hq(ns:MB)(lo hi:Nat){l h:Int}(hl:l=lo)(hh:h=hi):gL (iL ns) (some l) (some h)=iL ((ns.take hi).drop lo):=by
 subst hl hh;unfold gL;rw[HT.sIx_nat,HT.sIx_nat];simp;congr 1;rw[List.drop_take];rcases Nat.le_total lo ns.length with h1|h1
 .rw[Nat.min_eq_left h1];rcases Nat.le_total hi ns.length with h2|h2
  .lia
  .rw[Nat.min_eq_right h2,take_of_length_le (),take_of_length_le (by simp;lia)]
 .simp_all
theorem fU(hf:f≠.mod)(hg:g≠.mod)(h:xs.length+ys.length<=10000000):aJ (.lst f xs) (.lst g ys)=.ok (.lst .own (xs++ys)):=by
 unfold aJ
 grind
theorem oW(h:k<n):ixN n (k:Int)=some k:=by unfold ixN;rw[if_pos (),if_pos (),Int.toNat_natCast]
def llL(f:Fl)(xss:List (MB)):ML:=xss.map λxs=>.lst f (iL xs)
section
variable(xss yss:List (MB))(g:Fl->Fl)(p:Fl->Bool)(f:Fl)
@[simp] def K6:llL f []=[]:=rfl
@[simp] def Jt(xs:MB):llL f (xs::xss)=.lst f (iL xs)::llL f xss:=rfl
@[simp] def CU:(llL f xss).length=xss.length:=by simp[llL]
@[simp] def K7:llL f xss++llL f yss=llL f (xss++yss):=by simp[llL]
@[simp] def zH:mapL g (llL f xss)=llL (g f) xss:=by
 induction xss with
 |nil=>rfl
 |cons n ns ih=>simp[ih]
def eD(h:p f=false):hasL p (llL f xss)=false:=by
 induction xss with
 |nil=>rfl
 |cons n ns ih=>simp[ih,h]
def CV{k:Nat}{x:PV}(h:(llL f xss)[k]?=some x):∃xs,xss[k]?=some xs/\x=.lst f (iL xs):=by simp[llL]at h;obtain⟨n,h1,h2⟩:=h;exact⟨n,h1,h2.symm⟩
end
@[simp] def eW(ns:MB):a9 (iL ns)=some ns:=by
 induction ns with
 |nil=>rfl
 |cons n ns ih=>simp[a9,ih]
def ny(h:ns.length<=1000):gz (.lst f (iL ns))=.ok (.int (nZ ns)):=by unfold gz;simp only[eW];rw[if_pos (by simpa using h)]
theorem vB:∀(l acc:MB),(acc++l).Nodup->l.foldl step_dedup acc=acc++l
 | [],acc,_=>by simp
 |x::l,acc,h=>by
  have h':((acc++[x])++ l).Nodup:=by simpa using h
  rw[foldl_cons];have hx:x∉acc:=λhm=>by rw[nodup_append]at h;exact h.2.2 x hm x mem_cons_self rfl
  have:step_dedup acc x=acc++[x]:=by unfold step_dedup;simpa using hx
  rw[this,vB l _ h'];simp
def DG(ns:MB):(range ns.length).map (λi=>ns.getD i 0)=ns:=by
 apply List.ext_getElem?;intro i;by_cases h:i<ns.length
 .simp[h]
 .simp[h]
def rm(h:ns.Nodup):nZ ns=ns.length:=by unfold nZ firstMet;rw[DG,vB ns [] (by simpa using h)];rfl
def uI(i:Int)(ns:MB):inL (.int i) (iL ns)=ns.contains i:=by
 induction ns with
 |nil=>rfl
 |cons n ns ih=>have e:inL (.int i) (iL (n::ns))=(PyData.eqv (PV.int n).data (PV.int i).data||inL (.int i) (iL ns)):=rfl;rw[e,ih,List.contains_cons];congr 1;exact Bool.beq_comm
@[simp] def Mt(i:Int)(ns:MB)(f:Fl):pIn (.int i) (.lst f (iL ns))=.ok (.bl (ns.contains i)):=by unfold pIn;simp only[aV,iZ,mY,Bool.and_self,if_true,uI]
@[simp] def Jj(i:Int)(ns:MB)(f:Fl):bW (.int i) (.lst f (iL ns))=.ok (.bl (!ns.contains i)):=by unfold bW;simp only[aV,iZ,mY,Bool.and_self,if_true,uI]
def Ends(o:Out):Prop:=∃e,o=.next e
section
variable{env e:En}
def c_(h:Ends (m (args.map some++replicate (n-args.length) none))):aN n m args=.ok .non:=by obtain⟨e,h⟩:=h;exact m4 h
def cI(h1:a env=.next e)(h2:Ends (b e)):Ends (ag a b env):=by obtain⟨e2,h2⟩:=h2;exact⟨e2,ac h1 h2⟩
def j4(h:o=.next e):Ends o:=⟨e,h⟩
def An{it:MI}{g:TgM}{body bw:MS}{xs:ML}(P:Nat->En->Prop)(h:it env=.ok xs)(h0:P 0 env)
  (step:∀(k:Nat) (x:PV) (e:En),xs[k]?=some x->P k e->∃e1,g x e=some e1/\kC (body e1) (P (k+1))) (fin:∀e,P xs.length e->Ends (bw e)):Ends (ag (bX it g body) bw env):=by
 obtain⟨e2,h1,h2⟩:=jm P h h0 λk x e h1 h2=>by obtain⟨e1,h3,e2,h4,h5⟩:=step k x e h1 h2;exact⟨e1,e2,h3,h4,h5⟩
 exact cI h1 (fin e2 h2)
end
def cW(h:m env=.ok (.lst f xs))(hf:f.MV=false)(h1:hasL Fl.MU xs=false)(h2:hasL Fl.MV xs=false):dF m env=.ok xs:=by unfold dF;rw[h];simp[hf,eQ,h1,h2]
end
end PR
namespace PR
section
variable{n r s k o:Nat}{adj:Nat->Nat->Prop}{far:MB}
noncomputable def gt(far:MB)(i:Nat):Int:=far.getD i 0
theorem ql:∀{l l':MB},l.Nodup->(∀x∈l,x∈l')->l.length<=l'.length
 | [],_,_,_=>zero_le _
 |x::l,l',nd,sub=>by
  obtain⟨h1,h2⟩:=nodup_cons.mp nd;have hx:=sub x mem_cons_self;have:=ql (l':=l'.erase x) h2 (by grind);rw[List.length_erase_of_mem hx]at this;have:=List.length_pos_of_mem hx;rw[length_cons]
  lia
def fv(h:i<far.length):gt far i∈far:=by simp[gt,h]
end
end PR
namespace PR
open PySem PySem.Spec L2
def prL(ps:Mx):ML:=ps.map prV
section
variable{ps qs:Mx}{x:Int×Int}{f:Fl}{g:Fl->Fl}{p:Fl->Bool}
@[simp] def KY:prL []=[]:=rfl
@[simp] def yJ:prL (x::ps)=prV x::prL ps:=rfl
@[simp] def kF:(prL ps).length=ps.length:=by simp[prL]
@[simp] def K0:prL ps++prL qs=prL (ps++qs):=by simp[prL]
@[simp] def KZ(k:Nat):(prL ps)[k]?=(ps[k]?).map prV:=by simp[prL]
@[simp] def KU:PV.MY g (prV x)=prV x:=rfl
@[simp] def KW:(prV x).has p=false:=rfl
@[simp] def zG:mapL g (prL ps)=prL ps:=by
 induction ps with
 |nil=>rfl
 |cons n ns ih=>simp[mapL,ih]
@[simp] def JK:hasL p (prL ps)=false:=by
 induction ps with
 |nil=>rfl
 |cons n ns ih=>simp[hasL,ih]
@[simp] def r_:shp (prV x)=true:=rfl
@[simp] def pZ:(prL ps).all shp=true:=by
 induction ps with
 |nil=>rfl
 |cons n ns ih=>simp only[yJ,all_cons,r_,ih];rfl
def Hm(x y:Int×Int):PyData.eqv (prV x).data (prV y).data=decide (x=y):=by obtain⟨a,b⟩:=x;obtain⟨c,d⟩:=y;simp only[prV,PV.data,dataL,PyData.eqv,PyData.eqvAll];by_cases h1:a=c<;>by_cases h2:b=d<;>simp[h1,h2]
theorem z6:inL (prV x) (prL ps)=ps.contains x:=by
 induction ps with
 |nil=>rfl
 |cons n ns ih=>
  have e:inL (prV x) (prL (n::ns))=(PyData.eqv (prV n).data (prV x).data||inL (prV x) (prL ns)):=rfl;rw[e,ih,List.contains_cons,Hm];congr 1;by_cases h:n=x
  .subst h;simp
  .lia
@[simp] def Ms:pIn (prV x) (.lst f (prL ps))=.ok (.bl (ps.contains x)):=by unfold pIn;simp only[aV,r_,pZ,Bool.and_self,if_true,z6]
@[simp] def y_:bW (prV x) (.lst f (prL ps))=.ok (.bl (!ps.contains x)):=by unfold bW;simp only[aV,r_,pZ,Bool.and_self,if_true,z6]
@[simp] def Le:ah (prV x) (.int 0)=.ok (.int x.1):=rfl
@[simp] def Ld:ah (prV x) (.int 1)=.ok (.int x.2):=rfl
@[simp] def LU:dh fQ (prV x)=.ok (.int (min x.1 x.2)):=rfl
@[simp] def LV:dh cr (prV x)=.ok (.int (max x.1 x.2)):=rfl
@[simp] def Gq:gW (prL ps)=some ps:=by
 induction ps with
 |nil=>rfl
 |cons n ns ih=>have:lc (prV n)=some n:=rfl;simp[gW,ih,this]
end
def aX{x:PV}{xs:ML}{k:Nat}{y:PV}(hs:aV x=some xs)(h:xs[k]?=some y)(ho:y.has Fl.MU=false):ah x (.int k)=.ok y:=by have hl:k<xs.length:=(List.getElem?_eq_some_iff.mp h).1;unfold ah;simp only[hs,atI];rw[oW hl];simp[h,ho]
def nbL(ps:Mx)(at_:Int):MB:=j9 ((ps.filter λx=>decide (x.2=at_)).map (·.1)++(ps.filter λx=>decide (x.1=at_)).map (·.2))
theorem zd{ps:Mx}{a o:Int}:o∈nbL ps a ↔(o,a)∈ ps \/(a,o)∈ ps:=by
 unfold nbL;rw[(eZ _).mem_iff,mem_append];simp only[mem_map,mem_filter,decide_eq_true_eq];constructor
 .lia
 .simp
noncomputable def mm(w:Int×Int):Int×Int:=(min w.1 w.2,max w.1 w.2)
end PR
namespace PR
structure Tree(n:Nat)(od:MB)(k:Nat)(ws:Mx):Prop where
 rg:∀w∈ws,w.1∈od.take k/\w.2∈od.take k/\w.1≠w.2
 nd:(ws.map mm).Nodup
 ln:ws.length+1=k
 cn:∀S:Int->Prop,(∀w∈ws,(S w.1↔S w.2))->∀a∈od.take k,(S a↔S (od.getD 0 0))
open PySem L2 in
def eJ(o:Out)(Q:PV->Prop):Prop:=∃v,o=.ret v/\Q v
section
open PySem L2
variable{env e:En}{Q:PV->Prop}
def ar{a b:MS}(h1:a env=.next e)(h2:eJ (b e) Q):eJ (ag a b env) Q:=by obtain⟨v,h,q⟩:=h2;exact⟨v,ac h1 h,q⟩
def cG{c:MT}{a b bw:MS}(hc:c env=.ok true)(h:eJ (a env) Q):eJ (ag (mBr c a b) bw env) Q:=by obtain⟨v,h1,h2⟩:=h;exact⟨v,bp (cU hc h1),h2⟩
def aO{o:Out}{v:PV}(h:o=.ret v)(q:Q v):eJ o Q:=⟨v,h,q⟩
def p6{it:MI}{g:TgM}{body bw:MS}{xs:ML}(P:Nat->En->Prop)(h:it env=.ok xs)(h0:P 0 env)
  (step:∀(k:Nat) (x:PV) (e:En),xs[k]?=some x->P k e->∃e1,g x e=some e1/\kC (body e1) (P (k+1))) (fin:∀e,P xs.length e->eJ (bw e) Q):eJ (ag (bX it g body) bw env) Q:=by
 obtain⟨e2,h1,h2⟩:=jm P h h0 λk x e h1 h2=>by obtain⟨e1,h3,e2,h4,h5⟩:=step k x e h1 h2;exact⟨e1,e2,h3,h4,h5⟩
 exact ar h1 (fin e2 h2)
end
end PR
namespace PR
open PySem L2
section
variable{env:En}
def fM(ho:env[0]?=some (some (.obj .own c ks vs)))(ha:ms env=.ok xs)(hl:hasL Fl.MV xs=false)
  (hm:m (.obj .own c ks vs::mapL Fl.MP xs)=.ok (.obj fl c' ks' vs')) (hb:(PV.obj fl c' ks' vs').has Fl.MW=false):fD m ms env=.next (env.set 0 (some (.obj fl c' ks' vs'))):=by
 unfold fD;rw[ho];rw[ha];dsimp only;rw[hl,if_neg (),hm];dsimp only;rw[hb,if_neg ()]
end
def nE(h:c env=.ok true)(h2:kC (a env) Q):kC (mBr c a b env) Q:=by rw[Ei h];exact h2
def nG(h:c env=.ok false)(h2:kC (b env) Q):kC (mBr c a b env) Q:=by rw[Ei h];exact h2
@[simp] def I9:kx (.int 10) (.int 59)=.ok (.int (10 ^ 59)):=yK () () ()
section
variable{env:En}{g:TgM}{me:ME}
def fw(f:Int->Int)(row:MB)(h:∀x∈row,∃e1,g (.int x) env=some e1/\me e1=.ok (.int (f x))):dU g aH me env (iL row)=.ok (iL (row.map f)):=by rw[show iL (row.map f)=row.map λx=>PV.int (f x) by simp[iL]];exact aI row λx hx=>let⟨e1,h1,h2⟩:=h x hx;⟨e1,h1,h2,rfl,rfl⟩
def f_(lo:Int)(f:Nat->Int)(n:Nat)(h:∀k<n,∃e1,g (.int (lo+(k:Int))) env=some e1/\me e1=.ok (.int (f k))):dU g aH me env (dY lo n)=.ok (iL ((range n).map f)):=by rw[show iL ((range n).map f)=(range n).map λk=>PV.int (f k) by simp[iL]];exact aI (range n) λk hk=>let⟨e1,h1,h2⟩:=h k (mem_range.mp hk);⟨e1,h1,h2,rfl,rfl⟩
def iR(p:Nat->Bool)(f:Nat->Int)(n:Nat)(h:∀k<n,∃e1,g (.int (0+(k:Int))) env=some e1/\mc e1=.ok (p k)/\(p k=true->me e1=.ok (.int (f k)))):dU g mc me env (dY 0 n)=.ok (iL (((range n).filter p).map f)):=by rw[show iL (((range n).filter p).map f)=((range n).filter p).map λk=>PV.int (f k) by simp[iL]];exact db (range n) λk hk=>let⟨e1,h1,h2,h3⟩:=h k (mem_range.mp hk);⟨e1,h1,h2,λz=>⟨h3 z,rfl,rfl⟩⟩
end
theorem cB(h0:0<=i)(h:i<cs.length):ah (.lst f (iL cs)) (.int i)=.ok (.int (gt cs i.toNat)):=by
 have:i.toNat<cs.length:=by lia
 exact qG _ h0 (by simp[gt,this])
def cut_to(xs:ML)(k:Nat)(h:k<=xs.length):gL xs none (some (k:Int))=xs.take k:=by unfold gL;rw[HT.sIx_nat,HT.sIx_none];simp[Nat.min_eq_left h]
def g_(xs:ML)(k:Nat)(h:k<=xs.length):gL xs (some (k:Int)) none=xs.drop k:=by unfold gL;rw[HT.sIx_nat,HT.sIx_none];rw[Nat.min_eq_left h,take_of_length_le ()]
def dH(p:Int->Bool)(f:Int->Int)(row:MB)(h:∀x∈row,∃e1,g (.int x) env=some e1/\mc e1=.ok (p x)/\(p x=true->me e1=.ok (.int (f x)))):dU g mc me env (iL row)=.ok (iL ((row.filter p).map f)):=by rw[show iL ((row.filter p).map f)=(row.filter p).map λx=>PV.int (f x) by simp[iL]];exact db row λx hx=>let⟨e1,h1,h2,h3⟩:=h x hx;⟨e1,h1,h2,λz=>⟨h3 z,rfl,rfl⟩⟩
theorem on{Fin:En->Prop}(P:Nat->En->Prop)(step:∀m e,P m e->(c e=.ok false/\Fin e)\/(c e=.ok true/\∃m' e',m'<m/\(b e=.next e'\/b e=.cont e')/\P m' e')) :
  ∀(k m:Nat) (env:En),m<k->P m env->∃e',whL c b k env=.next e'/\Fin e'
 |0,m,_,h,_=>absurd h (Nat.not_lt_zero m)
 |k+1,m,env,h,hP=>by
  unfold whL;rcases step m env hP with⟨h1,h2⟩ |⟨h1,m',e',h2,h3,h4⟩
  .simp_all
  .obtain⟨e2,h5,h6⟩:=on P step k m' e' () h4;rw[h1];rcases h3 with h3|h3<;>rw[h3]<;>exact⟨e2,h5,h6⟩
section
variable{env:En}{r:Out}
def vT{c:MT}{b bw:MS}{Fin:En->Prop}(P:Nat->En->Prop)(m:Nat)(hm:m<100000)(h0:P m env)(step:∀m e,P m e->(c e=.ok false/\Fin e)\/(c e=.ok true/\∃m' e',m'<m/\(b e=.next e'\/b e=.cont e')/\P m' e'))(fin:∀e,Fin e->bw e=r):ag (gD c b) bw env=r:=by obtain⟨e',h1,h2⟩:=on P step 100000 m env hm h0;exact ac h1 (fin e' h2)
def gq{Q:PV->Prop}{c:MT}{b bw:MS}{Fin:En->Prop}(P:Nat->En->Prop)(m:Nat)(hm:m<100000)(h0:P m env)(step:∀m e,P m e->(c e=.ok false/\Fin e)\/(c e=.ok true/\∃m' e',m'<m/\(b e=.next e'\/b e=.cont e')/\P m' e'))(fin:∀e,Fin e->eJ (bw e) Q):eJ (ag (gD c b) bw env) Q:=by obtain⟨e',h1,h2⟩:=on P step 100000 m env hm h0;exact ar h1 (fin e' h2)
end
def j5(cs:MB)(k:Nat)(h:k<=cs.length):gL (iL cs) (some (k:Int)) none=iL (cs.drop k):=by rw[g_ _ k (by rw[bL];exact h),wM]
theorem kf:v∈cs.drop k↔∃i,k<=i/\i<cs.length/\gt cs i=v:=by
 constructor
 .intro h;obtain⟨i,hi,e⟩:=getElem_of_mem h;rw[length_drop]at hi;exact⟨k+i,by lia,by lia,by rw[<- e];simp[gt,show k+i<cs.length by lia]⟩
 .rintro⟨i,h1,h2,e⟩;rw[List.mem_iff_getElem];refine⟨i-k,by rw[length_drop];lia,?_⟩;rw[List.getElem_drop,<- e];simp[gt,h2,show k+(i-k)=i by lia]
def kD(hl:l.length<=1000)(hb:∀x∈l,-1000000<=x/\x<=1000000):iJ (.lst f (iL l))=.ok (.int l.sum):=by
 have:dJ l=true:=by simp only[dJ,all_eq_true,decide_eq_true_eq];exact hb
 simp[iJ,aV,hl,this]
@[simp] def xh(bs:List Bool):eH (bs.map .bl)=some bs:=by
 induction bs with
 |nil=>rfl
 |cons b bs ih=>simp[eH,ih]
end PR
namespace PR
def s0_{α:Type}{a b:α}{l:List α}:(a::l).set 0 b=b::l:=rfl
def s1_{α:Type}{a b:α}{l:List α}{n:Nat}:(a::l).set (n+1) b=a::l.set n b:=rfl
end PR
namespace G
open PySem L2 PR
section
def gE:Nat->Bool:=la [false,false,false,false,false,false,false,false,false,false,true]
abbrev EG:MS:=
 (ag (mBr (ai (mOp pLt (aa 1) (af (p1 da) (ab (aa 0) ae))))
  (aL (mOp ah (aa 0) (aa 1)))
  aA)
 (aL (M1 0)))
def dC:=aN 2 EG
abbrev Kb:MS:=
 (ag (eR 0 0 (aa 1))
 (ag (eR 0 7 (aa 2))
 (eR 0 8 (aa 3))))
def f9:=gT 4 Kb
abbrev KA:MS:=
 (ag (mBr ((gP (ai (mOp pLt (aa 1) (M1 2))) (ai (mOp pGt (aa 1) (M1 20)))))
  (mNo)
  aA)
 (ag (mBr (ai (mOp pLt (aa 2) (aa 1)))
  (mNo)
  aA)
 (fD f9 (ab (aa 1) (ab (aa 2) (ab (mC (.bl false)) ae))))))
def nR:=gT 3 KA
abbrev AM:MS:=
 (ag (aw 3 (b_ ae))
 (ag (bX (bJ (ab (mOp bN (mOp bN (aa 2) (aa 2)) (aa 2)) ae)) (tgN 4)
  (bu 3 (mOp bQ (mOp fg (mOp bQ (mOp bN (mOp bN (mOp aJ (mOp bQ (aa 0) (mOp kx (M1 10) (M1 60))) (M1 1)) (mOp aJ (aa 4) (M1 3))) (M1 48271)) (M1 2147483647)) (M1 11)) (aa 2))))
 (cY 3)))
def qT:=aN 5 AM
abbrev Ku:MS:=
 (ag (mBr (ai (mOp pNe (af (p1 da) (ab (aa 0) ae)) (mOp bN (mOp bN (aa 1) (aa 1)) (aa 1))))
  (mNo)
  aA)
 (bX (dF (aa 0)) (tgN 2)
  (mBr ((gP (ai (mOp pLt (aa 2) (M1 0))) (ai (mOp pGe (aa 2) (aa 1)))))
  (mNo)
  aA)))
def qX:=aN 3 Ku
abbrev EN:MS:=
 (ag (mBr ((gP (ai (mOp pLt (aa 1) (M1 2))) (ai (mOp pGt (aa 1) (M1 8)))))
  (mNo)
  aA)
 (ag (mBr ((gP (ai (mOp pLt (aa 2) (M1 2))) (ai (mOp pGt (aa 2) (M1 4)))))
  (mNo)
  aA)
 (ag (mBr (ai (mUn (jc [("none", (0)),("one", (1))]) (aa 3)))
  (mNo)
  aA)
 (ag (dA (af (aq qX) (ab (aa 4) (ab (aa 2) ae))))
 (ag (dA (af (aq qX) (ab (aa 5) (ab (aa 2) ae))))
 (ag (eR 0 12 (mUn (iq [("none", (0)),("one", (1))]) (aa 3)))
 (ag (eR 0 13 (af (p1 cX) (ab (aa 4) ae)))
 (ag (eR 0 14 (af (p1 cX) (ab (aa 5) ae)))
 (fD f9 (ab (aa 1) (ab (aa 2) (ab (mC (.bl false)) ae))))))))))))
def nX:=gT 6 EN
abbrev AI:MS:=
 (ag (aw 2 (mOp aJ (M1 2) (mOp bQ (mOp fg (aa 1) (M1 7)) (M1 3))))
 (ag (aw 3 (af (aq dC) (ab (aa 0) (ab (M1 3) ae))))
 (ag (mBr (ai (mOp pEq (mOp bQ (aa 1) (M1 7)) (M1 0)))
  (ag (aw 4 (mOp aJ (aa 2) (mOp bQ (aa 3) (M1 6))))
 (aL (cT (ab (eA 9 nR (ab (aa 2) (ab (aa 4) ae))) (ab (mJ [(mC (.str "pass ")),(mUn fV (aa 2)),(mC (.str " ")),(mUn fV (aa 4))] PySem.Str.empty) ae)))))
  aA)
 (ag (aw 2 (af (gA min) (ab (aa 2) (ab (M1 3) ae))))
 (ag (aw 4 (mOp aJ (M1 2) (mOp bQ (aa 3) (M1 2))))
 (ag (aw 5 (mOp ah (b_ (ab (mC (.str "none")) (ab (mC (.str "one")) ae))) (mOp bQ (mOp fg (aa 3) (M1 2)) (M1 2))))
 (ag (aw 6 (af (aq qT) (ab (af (aq dC) (ab (aa 0) (ab (M1 1) ae))) (ab (aa 2) (ab (aa 4) ae)))))
 (ag (aw 7 (af (aq qT) (ab (af (aq dC) (ab (aa 0) (ab (M1 2) ae))) (ab (aa 2) (ab (aa 4) ae)))))
 (ag (dz 6) (ag (dz 7) (ag (aw 8 (eA 10 nX (ab (aa 2) (ab (aa 4) (ab (aa 5) (ab (aa 6) (ab (aa 7) ae)))))))
 (ag (aw 9 (mOp aZ (mOp aZ (mMt ef (mC (.str "")) (ay [] 1 (aK (aa 6)) (tgN 0) aH (af (p1 cq) (ab (aa 0) ae)))) (mC (.str " "))) (mMt ef (mC (.str "")) (ay [] 1 (aK (aa 7)) (tgN 0) aH (af (p1 cq) (ab (aa 0) ae))))))
 (ag (dz 8) (aL (cT (ab (aa 8) (ab (mJ [(mC (.str "table ")),(mUn fV (aa 2)),(mC (.str " ")),(mUn fV (aa 4)),(mC (.str " ")),(mUn fV (aa 5)),(mC (.str " ")),(mUn fV (aa 9))] PySem.Str.empty) ae)))))))))))))))))
def uQ:=aN 10 AI
abbrev Ex:MS:=
 (ag (aw 3 (b_ ae))
 (ag (bX (lC (ab (M1 1) (ab (aa 0) ae))) (tgN 4)
  (ag (bu 3 (cT (ab (mOp bQ (aa 1) (aa 4)) (ab (aa 4) ae))))
 (aw 1 (mOp fg (aa 1) (aa 4)))))
 (ag (bX (bJ (ab (aa 0) ae)) (tgN 4)
  (bX (bJ (ab (aa 4) ae)) (tgN 5)
  (ag (mBr ((di (ai (mOp pEq (mOp bQ (aa 2) (M1 3)) (M1 0))) (ai (mOp bW (cT (ab (aa 5) (ab (aa 4) ae))) (aa 3)))))
  (bu 3 (cT (ab (aa 4) (ab (aa 5) ae))))
  aA)
 (aw 2 (mOp fg (aa 2) (M1 3))))))
 (cY 3))))
def uS:=aN 6 Ex
abbrev JW:MS:=
 (ag (mBr (ai (mOp pGt (af (p1 da) (ab (aa 0) ae)) (M1 9)))
  (mNo)
  aA)
 (bX (sR (aa 0)) (tgT 2 (bj (tgN 1) (bj (tgN 2) eX)))
  (mBr ((gP (ai (mOp pLt (aa 2) (M1 0))) (ai (mOp pGe (aa 2) (aa 1)))))
  (mNo)
  aA)))
def Dh:=aN 3 JW
abbrev KC:MS:=
 (fD f9 (ab (aa 1) (ab (aa 2) (ab (mC (.bl false)) ae))))
def nS:=gT 3 KC
abbrev L7:MS:=
 (ag (dA (af (aq Dh) (ab (aa 1) ae)))
 (ag (eR 0 11 (af (p1 cX) (ab (aa 1) ae)))
 (fD nS (ab (mOp aJ (af (p1 da) (ab (aa 1) ae)) (M1 1)) (ab (mOp aJ (af (p1 da) (ab (aa 1) ae)) (M1 2)) ae)))))
def wT:=gT 2 L7
abbrev Km:MS:=
 (mBr ((gP (ai (mOp pLt (aa 0) (aa 1))) (ai (mOp pGt (aa 0) (M1 10)))))
  (mNo)
  aA)
def Aj:=aN 2 Km
abbrev KH:MS:=
 (ag (aw 2 (b_ ae))
 (ag (bX (dF (aa 1)) (tgN 3)
  (ag (aw 4 (cT (ab (af (p1 (dh fQ)) (ab (aa 3) ae)) (ab (af (p1 (dh cr)) (ab (aa 3) ae)) ae))))
 (ag (mBr ((gP (ai (mOp pLt (mOp ah (aa 4) (M1 0)) (M1 0))) (ai (mOp pGe (mOp ah (aa 4) (M1 1)) (aa 0)))))
  (mNo)
  aA)
 (ag (mBr (ai (mOp pEq (mOp ah (aa 4) (M1 0)) (mOp ah (aa 4) (M1 1))))
  (mNo)
  aA)
 (ag (mBr (ai (mOp pIn (aa 4) (aa 2)))
  (mNo)
  aA)
 (bu 2 (aa 4)))))))
 (aL (af (p1 ig) (ab (aa 2) ae)))))
def Ak:=aN 5 KH
abbrev Kh:MS:=
 (ag (aw 2 (ay [1] 1 (aK (aa 0)) (tgN 1) (ai (mOp pEq (mOp ah (aa 1) (M1 1)) (aa 0))) (mOp ah (aa 1) (M1 0))))
 (ag (aw 3 (ay [1] 1 (aK (aa 0)) (tgN 1) (ai (mOp pEq (mOp ah (aa 1) (M1 0)) (aa 0))) (mOp ah (aa 1) (M1 1))))
 (aL (af (p1 ig) (ab (mOp aJ (aa 2) (aa 3)) ae)))))
def Ai:=aN 4 Kh
abbrev Kj:MS:=
 (aL (af (p1 dR) (ab (mOp ah (mUn (ap 2) (aa 0)) (aa 1)) ae)))
def u9:=aN 2 Kj
def bP:Nat->Option (ML->MM)
 |8=>some u9
 |_=>none
abbrev J5:MS:=
 (ag (aw 2 (ay [0] 1 (bJ (ab (mUn (ap 0) (aa 0)) ae)) (tgN 1) aH (mUn (ap 0) (aa 0))))
 (ag (fR 2 (aa 1) (M1 0))
 (ag (bX (bJ (ab (mUn (ap 0) (aa 0)) ae)) (tgN 3)
  (bX (bJ (ab (mUn (ap 0) (aa 0)) ae)) (tgN 4)
  (mBr (ai (mOp pEq (mOp ah (aa 2) (aa 4)) (aa 3)))
  (bX (dF (bB bP (aa 0) (ab (aa 4) ae))) (tgN 5)
  (fR 2 (aa 5) (af (gA min) (ab (mOp ah (aa 2) (aa 5)) (ab (mOp aJ (aa 3) (M1 1)) ae)))))
  aA)))
 (cY 2))))
def Ah:=aN 6 J5
abbrev J6:MS:=
 (ag (dA (af (aq Aj) (ab (aa 1) (ab (M1 1) ae))))
 (ag (eR 0 0 (aa 1))
 (ag (eR 0 1 (af (p1 cX) (ab (af (aq Ak) (ab (aa 1) (ab (aa 2) ae))) ae)))
 (ag (eR 0 2 (af (p1 cX) (ab (ay [0] 1 (bJ (ab (aa 1) ae)) (tgN 1) aH (af (p1 cX) (ab (af (aq Ai) (ab (mUn (ap 1) (aa 0)) (ab (aa 1) ae))) ae))) ae)))
 (mBr (ai (mOp pEq (af (p1 (dh cr)) (ab (af (aq Ah) (ab (aa 0) (ab (M1 0) ae))) ae)) (aa 1)))
  (mNo)
  aA)))))
def nL:=gT 3 J6
abbrev L6:MS:=
 (ag (dz 1) (ag (eR 0 4 (aa 1))
 (fD nS (ab (mUn (ap 0) (aa 1)) (ab (mUn (ap 0) (aa 1)) ae)))))
def wS:=gT 2 L6
abbrev Ks:MS:=
 (mBr ((gP (ai (mOp pLt (aa 0) (M1 1))) (ai (mOp pGt (aa 0) (M1 10)))))
  (mNo)
  aA)
def qV:=aN 1 Ks
abbrev KB:MS:=
 (ag (mBr (ai (mOp pNe (af (p1 da) (ab (aa 1) ae)) (mUn (ap 0) (aa 0))))
  (mNo)
  aA)
 (bX (dF (aa 1)) (tgN 3)
  (mBr ((di (ai (mOp gX (aa 3) (mC .non))) ((gP (ai (mOp pLt (aa 3) (M1 0))) (ai (mOp pGe (aa 3) (aa 2)))))))
  (mNo)
  aA)))
def vi:=aN 4 KB
abbrev L_:MS:=
 (ag (dA (af (aq qV) (ab (aa 3) ae)))
 (ag (dA (af (aq qV) (ab (aa 4) ae)))
 (ag (eR 0 3 (mOp bN (aa 3) (aa 4)))
 (ag (dA (af (aq vi) (ab (aa 1) (ab (aa 2) (ab (mUn (ap 3) (aa 0)) ae)))))
 (ag (dz 1) (ag (eR 0 4 (aa 1))
 (ag (eR 0 5 (af (p1 cX) (ab (aa 2) ae)))
 (ag (eR 0 6 (aa 3))
 (fD f9 (ab (mUn (ap 0) (aa 1)) (ab (mOp aJ (mUn (ap 3) (aa 0)) (M1 1)) (ab (mC (.bl true)) ae))))))))))))
def Ag:=gT 5 L_
abbrev EI:MS:=
 (ag (mBr ((gP (ai (mOp pLt (aa 2) (M1 0))) (ai (mOp pGe (aa 2) (mUn (ap 0) (aa 1))))))
  (mNo)
  aA)
 (ag (aw 3 (ay [2] 1 (bJ (ab (mUn (ap 0) (aa 1)) ae)) (tgN 1) aH (fY (ai (mOp pEq (aa 1) (aa 0))) (M1 0) (mC .non))))
 (ag (dz 3) (ag (dz 1) (fD Ag (ab (aa 1) (ab (aa 3) (ab (mUn (ap 0) (aa 1)) (ab (M1 1) ae)))))))))
def lR:=gT 4 EI
abbrev Ki:MS:=
 (aL (mMt ef (mC (.str " ")) (ay [] 1 (aK (aa 0)) (tgN 0) aH (af (p1 cq) (ab (aa 0) ae)))))
def kq:=aN 1 Ki
abbrev Kz:MS:=
 (ag (mBr (ai (mOp pNe (af (p1 da) (ab (aa 1) ae)) (mUn (ap 0) (aa 0))))
  (mNo)
  aA)
 (ag (mBr (ai (mOp pNe (mUn gz (aa 1)) (af (p1 da) (ab (aa 1) ae))))
  (mNo)
  aA)
 (bX (dF (aa 1)) (tgN 2)
  (mBr ((gP (ai (mOp pLt (aa 2) (M1 0))) (ai (mOp pGt (aa 2) (M1 9)))))
  (mNo)
  aA))))
def vh:=aN 3 Kz
abbrev KJ:MS:=
 (ag (dz 1) (ag (dA (af (aq vh) (ab (aa 1) (ab (aa 2) ae))))
 (ag (aw 3 (ay [1] 1 (aK (aa 2)) (tgN 1) aH (mOp bN (mOp iK (M1 9) (aa 1)) (mUn (ap 0) (aa 0)))))
 (ag (dz 3) (fD Ag (ab (aa 1) (ab (aa 3) (ab (mUn (ap 0) (aa 1)) (ab (M1 10) ae)))))))))
def nW:=gT 4 KJ
abbrev KF:MS:=
 (ag (dz 1) (ag (eR 0 9 (eA 5 lR (ab (aa 1) (ab (aa 2) ae))))
 (ag (eR 0 4 (aa 1))
 (ag (eR 0 10 (aa 2))
 (fD f9 (ab (mUn (ap 0) (aa 1)) (ab (mOp bN (mOp aJ (mUn (ap 0) (aa 1)) (M1 1)) (mOp aJ (mUn (ap 0) (aa 1)) (M1 1))) (ab (mC (.bl true)) ae))))))))
def nV:=gT 3 KF
abbrev AK:MS:=
 (ag (aw 1 (af (aq dC) (ab (aa 0) (ab (M1 0) ae))))
 (ag (mBr (ai (mOp pLt (mOp bQ (aa 1) (M1 7)) (M1 2)))
  (aL (af (aq uQ) (ab (aa 0) (ab (aa 1) ae))))
  aA)
 (ag (aw 2 (mOp aJ (M1 1) (mOp bQ (mOp fg (aa 1) (M1 7)) (M1 4))))
 (ag (aw 3 (af (aq dC) (ab (aa 0) (ab (M1 3) ae))))
 (ag (aw 4 (af (aq uS) (ab (aa 2) (ab (af (aq dC) (ab (aa 0) (ab (M1 1) ae))) (ab (af (aq dC) (ab (aa 0) (ab (M1 2) ae))) ae)))))
 (ag (dz 4) (ag (mBr (ai (mOp pEq (mOp bQ (aa 1) (M1 7)) (M1 2)))
  (ag (aw 5 (ay [] 1 (aK (cP (aa 4) bV (dy (mOp iK (aa 2) (M1 1))))) (tgN 0) aH (mOp ah (aa 0) (M1 0))))
 (aL (cT (ab (eA 3 wT (ab (af (p1 dR) (ab (aa 5) ae)) ae)) (ab (mMt ef (mC (.str " ")) (mOp aJ (b_ (ab (mC (.str "count")) ae)) (ay [] 1 (aK (aa 5)) (tgN 0) aH (af (p1 cq) (ab (aa 0) ae))))) ae)))))
  aA)
 (ag (aw 6 (eA 8 nL (ab (aa 2) (ab (af (p1 dR) (ab (aa 4) ae)) ae))))
 (ag (dz 6) (ag (aw 7 (mMt ef (mC (.str " ")) (mOp aJ (b_ (ab (mJ [(mC (.str "net ")),(mUn fV (aa 2))] PySem.Str.empty) ae)) (ay [] 1 (aK (aa 4)) (tgN 0) aH (mOp aZ (mOp aZ (af (p1 cq) (ab (mOp ah (aa 0) (M1 0)) ae)) (mC (.str "-"))) (af (p1 cq) (ab (mOp ah (aa 0) (M1 1)) ae)))))))
 (ag (aw 8 (mOp bQ (aa 3) (aa 2)))
 (ag (mBr (ai (mOp pEq (mOp bQ (aa 1) (M1 7)) (M1 3)))
  (aL (cT (ab (eA 2 wS (ab (aa 6) ae)) (ab (mOp aZ (aa 7) (mC (.str "\npaint"))) ae))))
  aA)
 (ag (mBr (ai (mOp pEq (mOp bQ (aa 1) (M1 7)) (M1 4)))
  (aL (cT (ab (eA 5 lR (ab (aa 6) (ab (aa 8) ae))) (ab (mOp aZ (aa 7) (mJ [(mC (.str "\nfar ")),(mUn fV (aa 8))] PySem.Str.empty)) ae))))
  aA)
 (ag (mBr (ai (mOp pEq (mOp bQ (aa 1) (M1 7)) (M1 5)))
  (ag (aw 9 (ay [3] 1 (bJ (ab (aa 2) ae)) (tgN 1) aH (mOp bQ (mOp aJ (mOp bQ (aa 0) (M1 10)) (mOp bN (M1 3) (aa 1))) (M1 10))))
 (aL (cT (ab (eA 6 nW (ab (aa 6) (ab (af (p1 dR) (ab (aa 9) ae)) ae))) (ab (mOp aZ (mOp aZ (aa 7) (mC (.str "\nlead "))) (af (aq kq) (ab (aa 9) ae))) ae)))))
  aA)
 (aL (cT (ab (eA 7 nV (ab (aa 6) (ab (aa 8) ae))) (ab (mOp aZ (aa 7) (mJ [(mC (.str "\ngrow ")),(mUn fV (aa 8))] PySem.Str.empty)) ae))))))))))))))))))
def u8:=aN 10 AK
abbrev J8:MS:=
 (ag (mBr (ai (mOp pNe (af (p1 da) (ab (aa 1) ae)) (mUn (ap 0) (aa 0))))
  (mNo)
  aA)
 (aL (ay [0] 1 (aK (aa 1)) (tgN 1) aH (mOp bQ (aa 1) (mUn (ap 7) (aa 0))))))
def gY:=aN 2 J8
def aD:Nat->Option (ML->MM)
 |2|3|5|6|7|9|10=>some gY
 |_=>none
abbrev Mf:MS:=
 (aL (ay [1] 1 (aK (bB bP (mUn (ap 4) (aa 0)) (ab (aa 1) ae))) (tgN 1) (ai (mOp pLt (aa 1) (aa 0))) (aa 1)))
def Dr:=aN 2 Mf
abbrev Mg:MS:=
 (aL (ay [1] 2 (zJ (mUn (ap 11) (aa 0))) (tgT 2 (bj (tgN 1) (bj (tgN 2) eX))) (ai (mOp pEq (aa 2) (aa 0))) (aa 1)))
def Ds:=aN 2 Mg
def bH:Nat->Option (ML->MM)
 |2=>some Dr
 |3=>some Ds
 |_=>none
abbrev EM:MS:=
 (ag (aw 3 (ay [1] 1 (aK (bB bH (aa 0) (ab (aa 2) ae))) (tgN 1) aH (mOp ah (aa 0) (aa 1))))
 (ag (aw 4 (M1 0))
 (ag (gD (ai (mOp pIn (aa 4) (aa 3)))
  (aw 4 (mOp aJ (aa 4) (M1 1))))
 (cY 4))))
def vp:=aN 5 EM
abbrev AN:MS:=
 (aL (af (gA min) (ab (mUn (ap 0) (aa 0)) (ab (mOp aJ (M1 1) (af (p1 iJ) (ab (ay [1] 1 (aK (bB bH (aa 0) (ab (aa 2) ae))) (tgN 1) aH (mOp ah (aa 0) (aa 1))) ae))) ae))))
def vj:=aN 3 AN
abbrev KN:MS:=
 (aL ((iz (mOp pNe (aa 1) (mUn (ap 3) (aa 0))) (mOp pNe (mOp bQ (mOp aJ (aa 1) (M1 1)) (mUn (ap 6) (aa 0))) (M1 0)))))
def wV:=aN 2 KN
def cR:Nat->Option (ML->MM)
 |5|6=>some wV
 |_=>none
abbrev EL:MS:=
 (ag (aw 3 (ay [1] 1 (aK (bB bP (mUn (ap 4) (aa 0)) (ab (aa 2) ae))) (tgN 1) aH (mOp ah (aa 0) (aa 1))))
 (ag (aw 4 (ay [0] 1 (aK (aa 3)) (tgN 1) (bz (bB cR (aa 0) (ab (aa 1) ae))) (mOp aJ (aa 1) (M1 1))))
 (ag (mBr (ai (mOp gX (mOp ah (mUn (ap 5) (aa 0)) (aa 2)) (mC .non)))
  (bu 4 (mOp ah (mUn (ap 5) (aa 0)) (aa 2)))
  aA)
 (aL (af (p1 (dh fQ)) (ab (mOp aJ (aa 4) (b_ (ab (mUn (ap 3) (aa 0)) ae))) ae))))))
def nU:=aN 5 EL
abbrev KM:MS:=
 (aL (ay [0] 1 (aK (aa 1)) (tgN 1) aH (cT (ab (mOp fg (aa 1) (mOp aJ (mUn (ap 0) (aa 0)) (M1 1))) (ab (mOp bQ (aa 1) (mOp aJ (mUn (ap 0) (aa 0)) (M1 1))) ae)))))
def vt:=aN 2 KM
def dG:Nat->Option (ML->MM)
 |7=>some vt
 |_=>none
abbrev KE:MS:=
 (aL (ay [] 1 (aK (bB dG (aa 0) (ab (aa 1) ae))) (tgN 0) aH (mOp ah (aa 0) (M1 0))))
def vk:=aN 2 KE
def cZ:Nat->Option (ML->MM)
 |7=>some vk
 |_=>none
def ik:Nat->Option (ML->MM)
 |5=>some nU
 |_=>none
abbrev Mb:MS:=
 (aL (ay [] 1 (aK (bB dG (aa 0) (ab (aa 1) ae))) (tgN 0) aH (mOp ah (aa 0) (M1 1))))
def Do:=aN 2 Mb
def b7:Nat->Option (ML->MM)
 |7=>some Do
 |_=>none
abbrev HE:MS:=
 (ag (mBr (ai (mOp pEq (aa 2) (mUn (ap 10) (aa 0))))
  (aL (mC .non))
  aA)
 (ag (aw 3 (ay [1,2] 1 (aK (bB bP (mUn (ap 4) (aa 0)) (ab (aa 2) ae))) (tgN 2) (ai (mOp pEq (mOp ah (aa 0) (aa 2)) (mOp iK (mOp ah (aa 0) (aa 1)) (M1 1)))) (aa 2)))
 (aL (mUn lg (aa 3)))))
def Dl:=aN 4 HE
def fK:Nat->Option (ML->MM)
 |7=>some Dl
 |_=>none
abbrev Ma:MS:=
 (ag (aw 2 (bB cZ (aa 0) (ab (aa 1) ae)))
 (aL (ay [0,2] 1 (bJ (ab (mUn (ap 0) (aa 0)) ae)) (tgN 2) aH (bB fK (aa 0) (ab (aa 1) (ab (aa 2) ae))))))
def Dn:=aN 3 Ma
def eS:Nat->Option (ML->MM)
 |7=>some Dn
 |_=>none
abbrev HF:MS:=
 (ag (aw 3 (ay [2] 2 (iu (ab (bB b7 (aa 0) (ab (aa 1) ae)) (ab (bB eS (aa 0) (ab (aa 1) ae)) ae))) (tgT 2 (bj (tgN 1) (bj (tgN 2) eX))) (ai (mOp pEq (aa 2) (aa 0))) (aa 1)))
 (aL (af (gA min) (ab (mUn (ap 0) (aa 0)) (ab (mOp aJ (M1 1) (af (p1 iJ) (ab (aa 3) ae))) ae)))))
def Dt:=aN 4 HF
def bZ:Nat->Option (ML->MM)
 |7=>some Dt
 |_=>none
abbrev EJ:MS:=
 (ag (aw 3 (bB cZ (aa 0) (ab (aa 1) ae)))
 (ag (aw 4 (bB ik (mUn (ap 9) (aa 0)) (ab (aa 3) (ab (aa 2) ae))))
 (ag (aw 5 (mOp ah (bB b7 (aa 0) (ab (aa 1) ae)) (aa 2)))
 (ag (mBr (ai (mOp pEq (aa 4) (mOp ah (aa 3) (aa 2))))
  (aw 5 (bB bZ (aa 0) (ab (aa 1) (ab (aa 2) ae))))
  aA)
 (aL (mOp aJ (mOp bN (aa 4) (mOp aJ (mUn (ap 0) (aa 0)) (M1 1))) (aa 5)))))))
def vf:=aN 6 EJ
abbrev EH:MS:=
 (ag (mBr (ai (mOp pNe (aa 2) (M1 0)))
  (aL (mOp ah (aa 1) (mOp iK (aa 2) (M1 1))))
  aA)
 (ag (mBr (ai (mOp pEq (mOp ah (aa 1) (M1 0)) (mOp ah (aa 1) (mOp iK (mUn (ap 0) (aa 0)) (M1 1)))))
  (aL (mOp bQ (mOp aJ (mOp ah (aa 1) (M1 0)) (M1 1)) (mUn (ap 7) (aa 0))))
  aA)
 (aL (mOp ah (aa 1) (M1 0)))))
def vd:=aN 3 EH
abbrev KD:MS:=
 (ag (aw 3 (mOp ah (aa 1) (mOp bQ (mOp iK (aa 2) (M1 1)) (mUn (ap 0) (aa 0)))))
 (ag (aw 4 (mOp ah (aa 1) (mOp bQ (mOp aJ (aa 2) (M1 1)) (mUn (ap 0) (aa 0)))))
 (ag (aw 5 (mOp aJ (mOp aJ (mOp bN (mOp bN (mOp ah (aa 1) (aa 2)) (mUn (ap 7) (aa 0))) (mUn (ap 7) (aa 0))) (mOp bN (aa 3) (mUn (ap 7) (aa 0)))) (aa 4)))
 (aL (fY (ai (mOp pEq (aa 2) (M1 0))) (mOp ah (mUn (ap 13) (aa 0)) (aa 5)) (mOp ah (mUn (ap 14) (aa 0)) (aa 5)))))))
def nT:=aN 6 KD
def aC:Nat->Option (ML->MM)
 |2=>some vp
 |3=>some vj
 |5|6=>some nU
 |7=>some vf
 |9=>some vd
 |10=>some nT
 |_=>none
abbrev Kn:MS:=
 (aL (ay [0,1] 1 (bJ (ab (mUn (ap 0) (aa 0)) ae)) (tgN 2) (ai (mOp pNe (bB aC (aa 0) (ab (aa 1) (ab (aa 2) ae))) (mOp ah (aa 1) (aa 2)))) (aa 2)))
def gZ:=aN 2 Kn
def au:Nat->Option (ML->MM)
 |2|3|5|6|7|9|10=>some gZ
 |_=>none
abbrev Kc:MS:=
 (aL (mOp pEq (af (p1 da) (ab (bB au (aa 0) (ab (aa 1) ae)) ae)) (M1 0)))
def jq:=aN 2 Kc
abbrev KG:MS:=
 (aL (mOp pEq (af (p1 da) (ab (bB au (aa 0) (ab (aa 1) ae)) ae)) (M1 1)))
def vn:=aN 2 KG
abbrev L9:MS:=
 (aL (mOp pEq (af (p1 da) (ab (bB au (aa 0) (ab (aa 1) ae)) ae)) (mUn (ap 12) (aa 0))))
def Dm:=aN 2 L9
def av:Nat->Option (ML->MM)
 |2|3|5|6|7=>some jq
 |9=>some vn
 |10=>some Dm
 |_=>none
abbrev J_:MS:=
 (ag (aw 2 (mC (.str "wild")))
 (ag (mBr (bz (bB av (aa 0) (ab (af (p1 dR) (ab (aa 1) ae)) ae)))
  (aw 2 (mC (.str "calm")))
  aA)
 (aL (mOp aZ (mOp aZ (af (aq kq) (ab (aa 1) ae)) (mC (.str " "))) (aa 2)))))
def nO:=aN 3 J_
abbrev KK:MS:=
 (aL (mOp iK (mOp iK (mUn (ap 0) (aa 0)) (M1 1)) (aa 1)))
def vq:=aN 2 KK
abbrev L8:MS:=
 (cY 1)
def Dk:=aN 2 L8
def cC:Nat->Option (ML->MM)
 |2=>some vq
 |3=>some Dk
 |_=>none
abbrev Ep:MS:=
 (ag (aw 2 (M1 1))
 (ag (bX (bJ (ab (aa 1) ae)) (tgN 3)
  (aw 2 (mOp bN (aa 2) (aa 0))))
 (cY 2)))
def nJ:=aN 4 Ep
abbrev Md:MS:=
 (aL (af (p1 iJ) (ab (ay [0] 1 (aK (bB au (aa 0) (ab (aa 1) ae))) (tgN 1) aH (af (aq nJ) (ab (M1 2) (ab (bB cC (aa 0) (ab (aa 1) ae)) ae)))) ae)))
def wU:=aN 2 Md
abbrev JZ:MS:=
 (ag (aw 2 (ay [0,1] 1 (bJ (ab (mUn (ap 0) (aa 0)) ae)) (tgN 2) aH (bB aC (aa 0) (ab (aa 1) (ab (aa 2) ae)))))
 (ag (aw 3 (mOp aJ (mUn (ap 0) (aa 0)) (M1 1)))
 (ag (aw 4 (M1 0))
 (ag (bX (bJ (ab (mUn (ap 3) (aa 0)) ae)) (tgN 5)
  (ag (aw 6 (ay [5] 2 (iu (ab (aa 1) (ab (aa 2) ae))) (tgT 2 (bj (tgN 1) (bj (tgN 2) eX))) ((di (ai (mOp pEq (aa 1) (aa 0))) (ai (mOp pGt (aa 2) (aa 0))))) (aa 1)))
 (ag (aw 7 (ay [5] 2 (iu (ab (aa 1) (ab (aa 2) ae))) (tgT 2 (bj (tgN 1) (bj (tgN 2) eX))) ((di (ai (mOp pGt (aa 1) (aa 0))) (ai (mOp pEq (aa 2) (aa 0))))) (aa 1)))
 (aw 4 (mOp aJ (mOp bN (mOp aJ (mOp bN (aa 4) (aa 3)) (af (p1 da) (ab (aa 6) ae))) (aa 3)) (af (p1 da) (ab (aa 7) ae)))))))
 (cY 4)))))
def qK:=aN 8 JZ
abbrev EF:MS:=
 (ag (aw 2 (ay [0,1] 1 (bJ (ab (af (p1 da) (ab (aa 0) ae)) ae)) (tgN 2) (ai (mOp wo (cT (ab (mOp ah (aa 0) (aa 2)) (ab (aa 2) ae))) (cT (ab (mOp ah (aa 0) (aa 1)) (ab (aa 1) ae))))) (aa 2)))
 (aL (af (p1 da) (ab (aa 2) ae))))
def va:=aN 3 EF
def d8:Nat->Option (ML->MM)
 |5=>some qK
 |_=>none
abbrev Me:MS:=
 (ag (aw 2 (bB cZ (aa 0) (ab (aa 1) ae)))
 (ag (aw 3 (bB b7 (aa 0) (ab (aa 1) ae)))
 (ag (aw 4 (ay [3,0,1] 1 (bJ (ab (mUn (ap 0) (aa 0)) ae)) (tgN 3) (ai (mOp pNe (mOp ah (aa 0) (aa 3)) (bB bZ (aa 1) (ab (aa 2) (ab (aa 3) ae))))) (aa 3)))
 (ag (aw 5 (ay [2] 1 (aK (aa 4)) (tgN 1) aH (af (aq nJ) (ab (M1 2) (ab (af (aq va) (ab (aa 0) (ab (aa 1) ae))) ae)))))
 (aL (mOp aJ (mOp bN (bB d8 (mUn (ap 9) (aa 0)) (ab (aa 2) ae)) (af (aq nJ) (ab (M1 2) (ab (mUn (ap 0) (aa 0)) ae)))) (af (p1 iJ) (ab (aa 5) ae))))))))
def Dq:=aN 6 Me
abbrev EB:MS:=
 (ag (aw 1 (M1 1))
 (ag (gD ((di (ai (mOp pLt (aa 1) (af (p1 da) (ab (aa 0) ae)))) (ai (mOp pEq (mOp ah (aa 0) (aa 1)) (mOp ah (aa 0) (M1 0))))))
  (aw 1 (mOp aJ (aa 1) (M1 1))))
 (cY 1)))
def uV:=aN 2 EB
abbrev JX:MS:=
 (ag (mBr (ai (mOp bW (mOp ah (aa 0) (M1 0)) (cP (aa 0) (dy (af (aq uV) (ab (aa 0) ae))) bV)))
  (aL (M1 0))
  aA)
 (ag (aw 2 (M1 1))
 (ag (gD (ai (mOp pIn (mOp bQ (mOp aJ (mOp ah (aa 0) (M1 0)) (aa 2)) (aa 1)) (cP (aa 0) (dy (M1 1)) bV)))
  (aw 2 (mOp aJ (aa 2) (M1 1))))
 (cY 2))))
def Di:=aN 3 JX
abbrev Mc:MS:=
 (ag (aw 2 (ay [0] 1 (aK (bB au (aa 0) (ab (aa 1) ae))) (tgN 1) (ai (mOp pNe (aa 1) (M1 0))) (mOp iK (mUn (ap 0) (aa 0)) (aa 1))))
 (aL (mOp aJ (mOp bN (mUn (ap 0) (aa 0)) (af (aq Di) (ab (aa 1) (ab (mUn (ap 7) (aa 0)) ae)))) (af (p1 iJ) (ab (aa 2) ae)))))
def Dp:=aN 3 Mc
def aE:Nat->Option (ML->MM)
 |2|3=>some wU
 |5|6=>some qK
 |7=>some Dq
 |9=>some Dp
 |_=>none
abbrev Ke:MS:=
 (ag (aw 1 (M1 1))
 (ag (bX (bJ (ab (mUn (ap 0) (aa 0)) ae)) (tgN 2)
  (aw 1 (mOp bN (aa 1) (mUn (ap 7) (aa 0)))))
 (cY 1)))
def uZ:=aN 3 Ke
abbrev Kq:MS:=
 (mBr ((di (bz (aa 1)) (bz (mUn (ap 8) (aa 0)))))
  (mNo)
  aA)
def qU:=aN 2 Kq
abbrev J9:MS:=
 (ag (aw 1 (M1 1))
 (ag (bX (bJ (ab (mUn (ap 0) (aa 0)) ae)) (tgN 2)
  (ag (aw 1 (mOp bN (aa 1) (mUn (ap 7) (aa 0))))
 (mBr (ai (mOp pGt (aa 1) (M1 256)))
  (mNo)
  aA)))
 (cY 1)))
def nM:=aN 3 J9
abbrev Kw:MS:=
 (ag (mBr (ai (mOp pGt (af (aq nM) (ab (aa 0) ae)) (M1 256)))
  (mNo)
  aA)
 (mBr ((di (bz (aa 1)) (ai (mOp pGt (mUn (ap 0) (aa 0)) (M1 4)))))
  (mNo)
  aA))
def vg:=aN 2 Kw
abbrev Eu:MS:=
 (ag (aw 2 (b_ ae))
 (ag (aw 3 (aa 1))
 (ag (bX (bJ (ab (mUn (ap 0) (aa 0)) ae)) (tgN 4)
  (ag (bu 2 (mOp bQ (aa 3) (mUn (ap 7) (aa 0))))
 (aw 3 (mOp fg (aa 3) (mUn (ap 7) (aa 0))))))
 (aL (mUn fe (aa 2))))))
def jp:=aN 5 Eu
abbrev J3:MS:=
 (ag (aw 1 (b_ (ab (b_ ae) ae)))
 (ag (bX (dF (aa 0)) (tgN 2)
  (ag (dz 1) (aw 1 (mOp aJ (aa 1) (ay [2] 1 (aK (aa 1)) (tgN 1) aH (mOp aJ (aa 1) (b_ (ab (aa 0) ae))))))))
 (ag (dz 1) (aL (cP (aa 1) (dy (M1 1)) bV)))))
def nK:=aN 3 J3
abbrev Kl:MS:=
 (ag (mBr ((di (bz (mUn (ap 8) (aa 0))) (ai (mOp pGt (af (p1 da) (ab (aa 1) ae)) (M1 1)))))
  (mNo)
  aA)
 (ag (bX (dF (aa 1)) (tgN 2)
  (mBr ((gP (ai (mOp pLt (aa 2) (M1 0))) (ai (mOp pGe (aa 2) (mUn (ap 0) (aa 0))))))
  (mNo)
  aA))
 (mBr (ai (mOp pNe (mUn gz (aa 1)) (af (p1 da) (ab (aa 1) ae))))
  (mNo)
  aA)))
def u_:=aN 3 Kl
abbrev Ko:MS:=
 (ag (dA (af (aq u_) (ab (aa 0) (ab (aa 2) ae))))
 (aL (ay [2,0,1] 1 (bJ (ab (mUn (ap 0) (aa 0)) ae)) (tgN 3) aH (fY (ai (mOp pIn (aa 3) (aa 0))) (bB aC (aa 1) (ab (aa 2) (ab (aa 3) ae))) (mOp ah (aa 2) (aa 3))))))
def g7:=aN 3 Ko
def aP:Nat->Option (ML->MM)
 |2|3|5|6|7|9|10=>some g7
 |_=>none
abbrev El:MS:=
 (ag (dA (af (aq qU) (ab (aa 0) (ab (aa 2) ae))))
 (ag (aw 3 (bB au (aa 0) (ab (aa 1) ae)))
 (ag (aw 4 (fY (bz (aa 2)) (af (aq nK) (ab (aa 3) ae)) (ay [] 1 (aK (aa 3)) (tgN 0) aH (b_ (ab (aa 0) ae)))))
 (ag (dz 4) (aL (ay [0,1] 1 (aK (aa 4)) (tgN 2) aH (cT (ab (aa 2) (ab (bB aP (aa 0) (ab (aa 1) (ab (aa 2) ae))) ae)))))))))
def qL:=aN 5 El
abbrev Ka:MS:=
 (ag (aw 2 (M1 0))
 (ag (bX (dF (aa 1)) (tgN 3)
  (aw 2 (mOp aJ (mOp bN (aa 2) (mUn (ap 7) (aa 0))) (aa 3))))
 (cY 2)))
def nP:=aN 4 Ka
abbrev Et:MS:=
 (ag (bX (iy (aa 2)) (tgT 2 (bj (tgN 3) (bj (tgN 4) eX)))
  (bX (dF (aa 4)) (tgT 2 (bj (tgN 5) (bj (tgN 6) eX)))
  (mBr ((di (bz (mOp ah (aa 1) (aa 3))) (iw (bz (mOp ah (aa 1) (af (aq nP) (ab (aa 0) (ab (aa 6) ae))))))))
  (aL (cT (ab (mC (.str "leaves")) (ab (af (aq jp) (ab (aa 0) (ab (aa 3) ae))) (ab (aa 5) ae)))))
  aA)))
 (aL (mC .non)))
def uP:=aN 7 Et
abbrev Em:MS:=
 (ag (bX (iy (aa 2)) (tgT 2 (bj (tgN 3) (bj (tgN 4) eX)))
  (mBr ((di (iw (bz (mOp ah (aa 1) (aa 3)))) (ai (mOp pEq (af (p1 da) (ab (aa 4) ae)) (M1 0)))))
  (aL (cT (ab (mC (.str "stuck")) (ab (af (aq jp) (ab (aa 0) (ab (aa 3) ae))) ae))))
  aA))
 (aL (mC .non)))
def uM:=aN 5 Em
abbrev AL:MS:=
 (ag (aw 2 (ay [] 1 (aK (aa 0)) (tgN 0) aH (fY (bz (aa 0)) (M1 0) (mC .non))))
 (ag (aw 3 (mC (.bl true)))
 (ag (gD (bz (aa 3))
  (ag (aw 3 (mC (.bl false)))
 (bX (iy (aa 1)) (tgT 2 (bj (tgN 4) (bj (tgN 5) eX)))
  (mBr ((di (ai (mOp gO (mOp ah (aa 2) (aa 4)) (mC .non))) (ai (mOp bW (mC .non) (ay [2] 1 (aK (aa 5)) (tgN 1) aH (mOp ah (aa 0) (aa 1)))))))
  (ag (fR 2 (aa 4) (mOp aJ (M1 1) (af (p1 (dh cr)) (ab (ay [2] 1 (aK (aa 5)) (tgN 1) aH (mOp ah (aa 0) (aa 1))) ae))))
 (aw 3 (mC (.bl true))))
  aA))))
 (cY 2))))
def vc:=aN 6 AL
abbrev Ey:MS:=
 (ag (aw 2 (b_ (ab (fX ff (aa 0) (mC .non)) ae)))
 (ag (gD (ai (mOp pEq (fX gB (aa 2) (mOp ah (aa 2) (mUn mf (M1 1)))) (M1 1)))
  (bu 2 (mOp ah (ay [0] 1 (aK (mOp ah (aa 1) (mOp ah (aa 2) (mUn mf (M1 1))))) (tgN 1) (ai (mOp gO (mOp ah (aa 0) (aa 1)) (mC .non))) (aa 1)) (M1 0))))
 (aL (cP (aa 2) (dy (fX ff (aa 2) (mOp ah (aa 2) (mUn mf (M1 1))))) bV))))
def qP:=aN 3 Ey
abbrev JY:MS:=
 (ag (aw 3 (ay [0] 1 (aK (aa 2)) (tgN 1) aH (ay [0] 1 (aK (aa 1)) (tgN 1) aH (af (aq nP) (ab (aa 0) (ab (mOp ah (aa 1) (M1 1)) ae))))))
 (ag (aw 4 (af (aq vc) (ab (aa 1) (ab (aa 3) ae))))
 (ag (mBr (ai (mOp pIn (mC .non) (aa 4)))
  (aL (cT (ab (mC (.str "round")) (ab (ay [0] 1 (aK (af (aq qP) (ab (aa 4) (ab (aa 3) ae)))) (tgN 1) aH (af (aq jp) (ab (aa 0) (ab (aa 1) ae)))) ae))))
  aA)
 (lD "calm" 4))))
def Dj:=aN 5 JY
abbrev AH:MS:=
 (ag (dA (af (aq qU) (ab (aa 0) (ab (aa 1) ae))))
 (ag (dA (af (aq vg) (ab (aa 0) (ab (aa 1) ae))))
 (ag (aw 2 (ay [0] 1 (bJ (ab (af (aq nM) (ab (aa 0) ae)) ae)) (tgN 1) aH (af (aq jp) (ab (aa 0) (ab (aa 1) ae)))))
 (ag (aw 3 (ay [0] 1 (aK (aa 2)) (tgN 1) aH (bB av (aa 0) (ab (aa 1) ae))))
 (ag (aw 4 (ay [0,1] 1 (aK (aa 2)) (tgN 2) aH (af (aq qL) (ab (aa 0) (ab (aa 2) (ab (aa 1) ae))))))
 (ag (dz 4) (ag (aw 5 (af (aq uP) (ab (aa 0) (ab (aa 3) (ab (aa 4) ae)))))
 (ag (mBr (ai (mOp gO (aa 5) (mC .non)))
  (aw 5 (af (aq uM) (ab (aa 0) (ab (aa 3) (ab (aa 4) ae)))))
  aA)
 (ag (mBr (ai (mOp gO (aa 5) (mC .non)))
  (aw 5 (af (aq Dj) (ab (aa 0) (ab (aa 3) (ab (aa 4) ae)))))
  aA)
 (cY 5))))))))))
def nH:=aN 6 AH
abbrev EE:MS:=
 (ag (mBr (ai (mOp pEq (aa 0) (b_ ae)))
  (aL (mC (.str "-")))
  aA)
 (aL (af (aq kq) (ab (aa 0) ae))))
def qR:=aN 1 EE
abbrev AJ:MS:=
 (ag (aw 4 (mOp bQ (aa 2) (M1 3)))
 (ag (mBr ((di (ai (mOp pEq (aa 4) (M1 1))) (iw (bz (mUn (qe gE) (aa 0))))))
  (aL (cT (ab (mC (.str "measure")) (ab (af (p1 cq) (ab (bB aE (aa 0) (ab (af (p1 dR) (ab (aa 1) ae)) ae)) ae)) ae))))
  aA)
 (ag (aw 5 ((iz (qw (mUn (ap 8) (aa 0))) (mOp pEq (mOp bQ (mOp fg (aa 2) (M1 3)) (M1 2)) (M1 0)))))
 (ag (mBr ((di (ai (mOp pEq (aa 4) (M1 2))) (di (ai (mOp pGt (aa 3) (M1 0))) (ai (mOp pLe (af (aq uZ) (ab (aa 0) ae)) (M1 81))))))
  (ag (aw 6 (af (aq nH) (ab (aa 0) (ab (aa 5) ae))))
 (ag (aw 7 (mOp aZ (mC (.str "look")) (mOp iM (mC (.str " many")) (af (p1 iN) (ab (aa 5) ae)))))
 (ag (mBr (ai (mOp pEq (mOp ah (aa 6) (M1 0)) (mC (.str "calm"))))
  (aL (cT (ab (aa 7) (ab (mOp aZ (mC (.str "calm ")) (af (p1 cq) (ab (af (p1 (dh cr)) (ab (mOp ah (aa 6) (M1 1)) ae)) ae))) ae))))
  aA)
 (ag (mBr (ai (mOp pEq (mOp ah (aa 6) (M1 0)) (mC (.str "round"))))
  (aL (cT (ab (aa 7) (ab (mC (.str "round")) ae))))
  aA)
 (aL (cT (ab (aa 7) (ab (mOp aZ (mOp aZ (mOp ah (aa 6) (M1 0)) (mC (.str " "))) (af (aq kq) (ab (mOp ah (aa 6) (M1 1)) ae))) ae))))))))
  aA)
 (aL (cT (ab (mC (.str "may")) (ab (af (aq qR) (ab (bB au (aa 0) (ab (af (p1 dR) (ab (aa 1) ae)) ae)) ae)) ae))))))))
def uX:=aN 8 AJ
abbrev Ez:MS:=
 (ag (aw 2 (b_ (ab (mOp bQ (aa 1) (mUn (ap 0) (aa 0))) ae)))
 (ag (mBr (ai (mOp pEq (mOp bQ (mOp fg (aa 1) (M1 7)) (M1 5)) (M1 0)))
  (aw 2 (b_ ae))
  aA)
 (ag (aw 3 (mOp bQ (mOp fg (aa 1) (M1 35)) (mUn (ap 0) (aa 0))))
 (ag (mBr ((di (iw (bz (mUn (ap 8) (aa 0)))) (di (ai (mOp bW (aa 3) (aa 2))) (ai (mOp pEq (mOp bQ (mOp fg (aa 1) (M1 5)) (M1 2)) (M1 0))))))
  (bu 2 (aa 3))
  aA)
 (cY 2)))))
def uT:=aN 4 Ez
abbrev Kx:MS:=
 (mBr (ai (mOp pNe (af (p1 da) (ab (aa 0) ae)) (aa 1)))
  (mNo)
  aA)
def jr:=aN 2 Kx
abbrev J0:MS:=
 (aL ((iz (mOp pGt (af (p1 (fG (λz=>decide (z.length<=10000)) λz=>.int z.length)) (ab (aa 0) ae)) (M1 0)) (iz (mOp pLe (af (p1 (fG (λz=>decide (z.length<=10000)) λz=>.int z.length)) (ab (aa 0) ae)) (aa 1)) (af (p1 (sD mH)) (ab (ay [] 1 (kh (aa 0)) (tgN 0) aH (mOp yX (aa 0) (mC (.str "0123456789")))) ae))))))
def tL:=aN 2 J0
abbrev Kr:MS:=
 (ag (aw 1 (fY (bz (dN (aa 0) (mC (.str "-")))) (ii (aa 0) (dy (M1 1)) bV) (aa 0)))
 (ag (mBr (iw (bz (af (aq tL) (ab (aa 1) (ab (M1 60) ae)))))
  (mNo)
  aA)
 (ag (mBr ((di (bz (dN (aa 1) (mC (.str "0")))) (ai (mOp pNe (aa 0) (mC (.str "0"))))))
  (mNo)
  aA)
 (aL (af (p1 (fG (λz=>decide (z.length<=640)&&(PySem.intText? z).isSome) λz=>.int ((PySem.intText? z).getD 0))) (ab (aa 0) ae))))))
def iC:=aN 2 Kr
abbrev EK:MS:=
 (aL (ay [] 1 (aK (aa 0)) (tgN 0) aH (af (aq iC) (ab (aa 0) ae))))
def qY:=aN 1 EK
abbrev EA:MS:=
 (ag (aw 1 (mMt eO (aa 0) (mC (.str "-"))))
 (ag (dA (af (aq jr) (ab (aa 1) (ab (M1 2) ae))))
 (aL (cT (ab (af (aq iC) (ab (mOp ah (aa 1) (M1 0)) ae)) (ab (af (aq iC) (ab (mOp ah (aa 1) (M1 1)) ae)) ae))))))
def qQ:=aN 2 EA
abbrev Ew:MS:=
 (ag (mBr (ai (mOp pEq (af (p1 da) (ab (aa 0) ae)) (M1 0)))
  (mNo)
  aA)
 (aL (cT (ab (mC (.str "net")) (ab (af (aq iC) (ab (mOp ah (aa 0) (M1 0)) ae)) (ab (ay [] 1 (aK (cP (aa 0) (dy (M1 1)) bV)) (tgN 0) aH (af (aq qQ) (ab (aa 0) ae))) ae))))))
def uR:=aN 1 Ew
abbrev Kt:MS:=
 (ag (mBr (iw (bz (af (aq tL) (ab (aa 0) (ab (M1 64) ae)))))
  (mNo)
  aA)
 (aL (ay [] 1 (kh (aa 0)) (tgN 0) aH (af (p1 (fG (λz=>decide (z.length<=640)&&(PySem.intText? z).isSome) λz=>.int ((PySem.intText? z).getD 0))) (ab (aa 0) ae)))))
def qW:=aN 1 Kt
abbrev Kf:MS:=
 (ag (dA (af (aq jr) (ab (aa 0) (ab (M1 5) ae))))
 (ag (mBr (ai (mOp bW (mOp ah (aa 0) (M1 2)) (mC (.tup [.str "none", .str "one"]))))
  (mNo)
  aA)
 (ag (aw 1 (af (aq iC) (ab (mOp ah (aa 0) (M1 0)) ae)))
 (ag (aw 2 (af (aq iC) (ab (mOp ah (aa 0) (M1 1)) ae)))
 (aL (cT (ab (mC (.str "table")) (ab (aa 1) (ab (aa 2) (ab (mOp ah (aa 0) (M1 2)) (ab (af (aq qW) (ab (mOp ah (aa 0) (M1 3)) ae)) (ab (af (aq qW) (ab (mOp ah (aa 0) (M1 4)) ae)) ae))))))))))))
def u0:=aN 3 Kf
abbrev ED:MS:=
 (ag (mBr ((di (ai (mOp pNe (aa 0) (b_ ae))) (ai (mOp pNe (aa 0) (b_ (ab (mC (.str "many")) ae))))))
  (mNo)
  aA)
 (aL (cT (ab (mC (.str "look")) (ab (mOp pEq (aa 0) (b_ (ab (mC (.str "many")) ae))) ae)))))
def uY:=aN 1 ED
abbrev J7:MS:=
 (ag (aw 1 (mMt eO (aa 0) (mC (.str " "))))
 (ag (aw 2 (mOp ah (aa 1) (M1 0)))
 (ag (aw 3 (cP (aa 1) (dy (M1 1)) bV))
 (ag (mBr (ai (mUn (m_ [("pass", (2)),("paint", (0)),("far", (1)),("grow", (1)),("spoil", (2)),("may", (0)),("measure", (0))]) (aa 2)))
  (ag (dA (af (aq jr) (ab (aa 3) (ab (mUn (iq [("pass", (2)),("paint", (0)),("far", (1)),("grow", (1)),("spoil", (2)),("may", (0)),("measure", (0))]) (aa 2)) ae))))
 (aL (af (p1 cX) (ab (mOp aJ (b_ (ab (aa 2) ae)) (af (aq qY) (ab (aa 3) ae))) ae))))
  aA)
 (ag (mBr (ai (mOp pIn (aa 2) (mC (.tup [.str "count", .str "lead", .str "state", .str "turn"]))))
  (aL (cT (ab (aa 2) (ab (af (aq qY) (ab (aa 3) ae)) ae))))
  aA)
 (ag (mBr (ai (mOp pEq (aa 2) (mC (.str "net"))))
  (aL (af (aq uR) (ab (aa 3) ae)))
  aA)
 (ag (mBr (ai (mOp pEq (aa 2) (mC (.str "table"))))
  (aL (af (aq u0) (ab (aa 3) ae)))
  aA)
 (ag (mBr (ai (mOp pEq (aa 2) (mC (.str "look"))))
  (aL (af (aq uY) (ab (aa 3) ae)))
  aA)
 (mNo)))))))))
def uU:=aN 4 J7
abbrev EC:MS:=
 (aL (ay [] 1 (aK (mMt eO (aa 0) (mC (.str "\n")))) (tgN 0) aH (af (aq uU) (ab (aa 0) ae))))
def uW:=aN 1 EC
abbrev Ev:MS:=
 (aL (fY (ai (mOp pEq (mOp ah (mOp ah (aa 0) (M1 0)) (M1 0)) (mC (.str "net")))) (M1 2) (M1 1)))
def qO:=aN 1 Ev
abbrev Kv:MS:=
 (ag (aw 1 (ay [] 1 (aK (aa 0)) (tgN 0) aH (mOp ah (aa 0) (M1 0))))
 (ag (aw 2 (af (aq qO) (ab (aa 0) ae)))
 (ag (aw 3 (fY (ai (mOp pEq (mOp ah (aa 1) (M1 0)) (mC (.str "net")))) (mC (.tup [.str "paint", .str "far", .str "lead", .str "grow"])) (mC (.tup [.str "pass", .str "count", .str "table"]))))
 (ag (mBr ((gP (ai (mOp pLe (af (p1 da) (ab (aa 1) ae)) (aa 2))) (ai (mOp pNe (mOp ah (aa 1) (aa 2)) (mC (.str "state"))))))
  (mNo)
  aA)
 (ag (mBr (ai (mOp bW (mOp ah (aa 1) (mOp iK (aa 2) (M1 1))) (aa 3)))
  (mNo)
  aA)
 (bX (dF (cP (aa 1) (dy (mOp aJ (aa 2) (M1 1))) bV)) (tgN 4)
  (mBr (ai (mOp bW (aa 4) (mC (.tup [.str "turn", .str "spoil", .str "may", .str "measure", .str "look"]))))
  (mNo)
  aA)))))))
def ve:=aN 5 Kv
abbrev Kk:MS:=
 (ag (dz 0) (ag (mBr (ai (mOp pEq (mOp ah (aa 1) (M1 0)) (mC (.str "paint"))))
  (aL (eA 2 wS (ab (aa 0) ae)))
  aA)
 (ag (mBr (ai (mOp pEq (mOp ah (aa 1) (M1 0)) (mC (.str "far"))))
  (aL (eA 5 lR (ab (aa 0) (ab (mOp ah (aa 1) (M1 1)) ae))))
  aA)
 (ag (mBr (ai (mOp pEq (mOp ah (aa 1) (M1 0)) (mC (.str "lead"))))
  (aL (eA 6 nW (ab (aa 0) (ab (mOp ah (aa 1) (M1 1)) ae))))
  aA)
 (aL (eA 7 nV (ab (aa 0) (ab (mOp ah (aa 1) (M1 1)) ae))))))))
def qS:=aN 2 Kk
abbrev Es:MS:=
 (ag (aw 1 (mOp ah (aa 0) (mUn mf (M1 1))))
 (ag (mBr (ai (mOp pEq (mOp ah (mOp ah (aa 0) (M1 0)) (M1 0)) (mC (.str "net"))))
  (aL (af (aq qS) (ab (eA 8 nL (ab (mOp ah (mOp ah (aa 0) (M1 0)) (M1 1)) (ab (mOp ah (mOp ah (aa 0) (M1 0)) (M1 2)) ae))) (ab (aa 1) ae))))
  aA)
 (ag (mBr (ai (mOp pEq (mOp ah (aa 1) (M1 0)) (mC (.str "pass"))))
  (aL (eA 9 nR (ab (mOp ah (aa 1) (M1 1)) (ab (mOp ah (aa 1) (M1 2)) ae))))
  aA)
 (ag (mBr (ai (mOp pEq (mOp ah (aa 1) (M1 0)) (mC (.str "count"))))
  (aL (eA 3 wT (ab (mOp ah (aa 1) (M1 1)) ae)))
  aA)
 (aL (eA 10 nX (ab (mOp ah (aa 1) (M1 1)) (ab (mOp ah (aa 1) (M1 2)) (ab (mOp ah (aa 1) (M1 3)) (ab (mOp ah (aa 1) (M1 4)) (ab (mOp ah (aa 1) (M1 5)) ae)))))))))))
def qN:=aN 2 Es
abbrev J2:MS:=
 (aL (mMt ef (mC (.str " ")) (ay [] 1 (aK (aa 0)) (tgN 0) aH (af (p1 lf) (ab (aa 0) ae)))))
def jo:=aN 1 J2
abbrev Eo:MS:=
 (aL (af (aq jo) (ab (mOp aJ (aa 1) (b_ (ab (fY (bz (bB av (aa 0) (ab (aa 1) ae))) (mC (.str "calm")) (mC (.str "wild"))) ae))) ae)))
def lQ:=aN 2 Eo
abbrev Er:MS:=
 (ag (aw 3 (bB aP (aa 0) (ab (aa 1) (ab (aa 2) ae))))
 (ag (aw 4 (ay [2] 1 (aK (bB au (aa 0) (ab (aa 1) ae))) (tgN 1) (ai (mOp pIn (aa 1) (aa 0))) (aa 1)))
 (oS 4 3)))
def uO:=aN 5 Er
abbrev KO:MS:=
 (ag (aw 3 (bB aD (aa 0) (ab (aa 1) ae)))
 (ag (aw 4 (b_ ae))
 (ag (dz 2) (ag (bX (dF (aa 2)) (tgN 5)
  (ag (bu 4 (mFz (af (aq uO) (ab (aa 0) (ab (aa 3) (ab (aa 5) ae))))))
 (aw 3 (mOp ah (mOp ah (aa 4) (mUn mf (M1 1))) (M1 1)))))
 (cY 4)))))
def vv:=aN 6 KO
abbrev J1:MS:=
 (ag (aw 2 (af (p1 dR) (ab (aa 0) ae)))
 (ag (dz 1) (ag (bX (dF (aa 1)) (tgT 2 (bj (tgN 3) (bj (tgN 4) eX)))
  (ag (mBr ((gP (ai (mOp pLt (aa 3) (M1 0))) (ai (mOp pGe (aa 3) (af (p1 da) (ab (aa 2) ae))))))
  (mNo)
  aA)
 (fR 2 (aa 3) (aa 4))))
 (cY 2))))
def uN:=aN 5 J1
abbrev vF:MS:=
 (ag (mBr (ai (mOp pEq (mOp ah (aa 2) (M1 0)) (mC (.str "turn"))))
  (aL (mOp ah (af (aq vv) (ab (aa 0) (ab (aa 1) (ab (b_ (ab (mOp ah (aa 2) (M1 1)) ae)) ae)))) (M1 0)))
  aA)
 (ag (mBr (ai (mOp pEq (mOp ah (aa 2) (M1 0)) (mC (.str "spoil"))))
  (aL (cT (ab (b_ ae) (ab (bB aD (aa 0) (ab (af (aq uN) (ab (aa 1) (ab (b_ (ab (cT (ab (mOp ah (aa 2) (M1 1)) (ab (mOp ah (aa 2) (M1 2)) ae))) ae)) ae))) ae)) ae))))
  aA)
 (aL (cT (ab (b_ ae) (ab (aa 1) ae))))))
def nQ:=aN 3 vF
abbrev JV:MS:=
 (aL (fY (ai (mOp pGt (af (p1 da) (ab (aa 0) ae)) (M1 0))) (af (aq jo) (ab (aa 0) ae)) (mC (.str "-"))))
def Af:=aN 1 JV
abbrev Kg:MS:=
 (ag (mBr (ai (mOp pEq (mOp ah (aa 0) (M1 0)) (mC (.str "calm"))))
  (aL (af (aq jo) (ab (b_ (ab (mC (.str "calm")) (ab (af (p1 (dh cr)) (ab (mOp ah (aa 0) (M1 1)) ae)) ae))) ae)))
  aA)
 (ag (mBr (ai (mOp pEq (mOp ah (aa 0) (M1 0)) (mC (.str "round"))))
  (aL (mC (.str "round")))
  aA)
 (aL (af (aq jo) (ab (mOp aJ (b_ (ab (mOp ah (aa 0) (M1 0)) ae)) (mOp ah (aa 0) (M1 1))) ae)))))
def u7:=aN 1 Kg
abbrev oi:MS:=
 (ag (aw 3 (mOp ah (aa 1) (M1 1)))
 (ag (mBr (ai (mOp pEq (mOp ah (aa 2) (M1 0)) (mC (.str "turn"))))
  (aL (af (aq jo) (ab (b_ (ab (af (aq Af) (ab (mOp ah (aa 1) (M1 0)) ae)) (ab (mC (.str ":")) (ab (af (aq lQ) (ab (aa 0) (ab (aa 3) ae))) ae)))) ae)))
  aA)
 (ag (mBr (ai (mOp pEq (mOp ah (aa 2) (M1 0)) (mC (.str "spoil"))))
  (aL (af (aq lQ) (ab (aa 0) (ab (aa 3) ae))))
  aA)
 (ag (mBr (ai (mOp pEq (mOp ah (aa 2) (M1 0)) (mC (.str "may"))))
  (aL (af (aq Af) (ab (bB au (aa 0) (ab (aa 3) ae)) ae)))
  aA)
 (ag (mBr (ai (mOp pEq (mOp ah (aa 2) (M1 0)) (mC (.str "measure"))))
  (aL (af (p1 cq) (ab (bB aE (aa 0) (ab (aa 3) ae)) ae)))
  aA)
 (aL (af (aq u7) (ab (af (aq nH) (ab (aa 0) (ab (mOp ah (aa 2) (M1 1)) ae))) ae))))))))
def qM:=aN 4 oi
abbrev Ek:MS:=
 (ag (aw 1 (af (aq uW) (ab (aa 0) ae)))
 (ag (dz 1) (ag (dA (af (aq ve) (ab (aa 1) ae)))
 (ag (aw 2 (af (aq qO) (ab (aa 1) ae)))
 (ag (aw 3 (af (aq qN) (ab (cP (aa 1) bV (dy (aa 2))) ae)))
 (ag (dz 3) (ag (aw 4 (bB aD (aa 3) (ab (mOp ah (mOp ah (aa 1) (aa 2)) (M1 1)) ae)))
 (ag (dz 4) (ag (aw 5 (b_ (ab (af (aq lQ) (ab (aa 3) (ab (aa 4) ae))) ae)))
 (ag (bX (dF (cP (aa 1) (dy (mOp aJ (aa 2) (M1 1))) bV)) (tgN 6)
  (ag (aw 7 (af (aq nQ) (ab (aa 3) (ab (aa 4) (ab (aa 6) ae)))))
 (ag (dz 7) (ag (aw 4 (mOp ah (aa 7) (M1 1)))
 (bu 5 (af (aq qM) (ab (aa 3) (ab (aa 7) (ab (aa 6) ae)))))))))
 (cY 5)))))))))))
def uL:=aN 8 Ek
abbrev AO:MS:=
 (ag (aw 1 (af (aq u8) (ab (aa 0) ae)))
 (ag (dz 1) (ag (aw 2 (mOp ah (aa 1) (M1 0)))
 (ag (aw 3 (ay [0] 1 (bJ (ab (mUn (ap 0) (aa 2)) ae)) (tgN 1) aH (mOp iK (mOp bQ (af (aq dC) (ab (aa 0) (ab (mOp aJ (M1 4) (aa 1)) ae))) (mOp bN (M1 2) (mOp kx (M1 10) (M1 59)))) (mOp kx (M1 10) (M1 59)))))
 (ag (aw 4 (bB aD (aa 2) (ab (af (p1 dR) (ab (aa 3) ae)) ae)))
 (ag (aw 5 (b_ (ab (mOp ah (aa 1) (M1 1)) (ab (mOp aZ (mC (.str "state ")) (af (aq kq) (ab (aa 3) ae))) ae))))
 (ag (aw 6 (b_ (ab (af (aq nO) (ab (aa 2) (ab (aa 4) ae))) ae)))
 (ag (aw 7 (M1 2))
 (ag (bX (dF (cP (aa 0) (dy (M1 7)) (dy (M1 47)))) (tgN 8)
  (mBr (ai (mOp pEq (mOp bQ (aa 8) (M1 4)) (M1 0)))
  (ag (aw 9 (mOp bQ (mOp fg (aa 8) (M1 4)) (mUn (ap 0) (aa 2))))
 (ag (aw 10 (mOp iK (mOp bQ (mOp fg (aa 8) (M1 7)) (mOp bN (M1 2) (mOp kx (M1 10) (M1 59)))) (mOp kx (M1 10) (M1 59))))
 (ag (bu 5 (mJ [(mC (.str "spoil ")),(mUn fV (aa 9)),(mC (.str " ")),(mUn fV (aa 10))] PySem.Str.empty))
 (ag (aw 4 (bB aD (aa 2) (ab (ay [9,10,4] 1 (bJ (ab (mUn (ap 0) (aa 2)) ae)) (tgN 3) aH (fY (ai (mOp pEq (aa 3) (aa 0))) (aa 1) (mOp ah (aa 2) (aa 3)))) ae)))
 (bu 6 (af (aq nO) (ab (aa 2) (ab (aa 4) ae))))))))
  (mBr (ai (mOp pEq (mOp bQ (aa 8) (M1 4)) (M1 1)))
  (ag (aw 11 (af (aq uX) (ab (aa 2) (ab (aa 4) (ab (mOp fg (aa 8) (M1 4)) (ab (aa 7) ae))))))
 (ag (nv 7 (af (p1 iN) (ab (dN (mOp ah (aa 11) (M1 0)) (mC (.str "look"))) ae)))
 (ag (bu 5 (mOp ah (aa 11) (M1 0)))
 (bu 6 (mOp ah (aa 11) (M1 1))))))
  (ag (aw 12 (af (aq uT) (ab (aa 2) (ab (mOp fg (aa 8) (M1 4)) ae))))
 (ag (bu 5 (mMt ef (mC (.str " ")) (mOp aJ (b_ (ab (mC (.str "turn")) ae)) (ay [] 1 (aK (aa 12)) (tgN 0) aH (af (p1 cq) (ab (aa 0) ae))))))
 (ag (aw 13 (ay [12] 1 (aK (bB au (aa 2) (ab (af (p1 dR) (ab (aa 4) ae)) ae))) (tgN 1) (ai (mOp pIn (aa 1) (aa 0))) (aa 1)))
 (ag (aw 4 (bB aP (aa 2) (ab (af (p1 dR) (ab (aa 4) ae)) (ab (af (p1 dR) (ab (aa 12) ae)) ae))))
 (bu 6 (mOp aZ (mOp aZ (af (aq qR) (ab (aa 13) ae)) (mC (.str " : "))) (af (aq nO) (ab (aa 2) (ab (aa 4) ae))))))))))))
 (ag (aw 14 (af (aq uL) (ab (mMt ef (mC (.str "\n")) (aa 5)) ae)))
 (aL ((iz (vJ (aa 14) "list") (mOp pEq (aa 14) (aa 6)))))))))))))))
def vw:=aN 15 AO
end
section
noncomputable def top(i:Nat):Stmt:=PySem.Challenge.pw_calmring_k47_play_answers.main.body.getD i (.Pass ⟨0,0,0,0⟩)
def tF(q:Str)(i k:Nat)(N:MF):FS:=⟨q,top i,k,N,none⟩
def tM(c:Nat)(q:Str)(i j k:Nat)(N:MF):FS:=⟨q,C6 (top i) j,k,N,some c⟩
def mE(c:Nat)(n:Str)(i:Nat):Nat×Str×Nat:=(c,n,i)
noncomputable def pt:PT:={
 F:=[tF "_law_cell_at" 111 2 ["_law_script", "_law_k"],
  tM 0 "Rule.__init__" 13 0 4 ["self","size","span","alone"],
  tM 9 "PassRule.__init__" 66 0 3 ["self","size","span"],
  tF "_law_entries" 114 3 ["_law_cell","_law_size","_law_span","_law_row","_law_k"],
  tF "refuse_table" 76 2 ["table","span","number"],
  tM 10 "TableRule.__init__" 75 0 6 ["self","size","span","word","firsts","others"],
  tF "_law_ring" 115 2 ["_law_script","_law_first","_law_size","_law_third","_law_span","_law_word","_law_firsts","_law_others","_law_rule","_law_ends"],
  tF "_law_ways" 112 3 ["_law_size","_law_ties","_law_more","_law_ways_here","_law_at","_law_other"],
  tF "refuse_parents" 20 1 ["parents","kid","parent"],
  tM 1 "DownRule.__init__" 17 0 3 ["self","size","span"],
  tM 3 "CountRule.__init__" 19 0 2 ["self","parents"],
  tF "refuse_size" 60 2 ["size","least"],
  tF "ordered_pairs" 61 2 ["size","ways","pairs","way","pair"],
  tF "neighbours" 62 2 ["pairs","at","lower","higher"],
  tM 8 "Net.beside" 58 1 2 ["self","at"],
  tF "far_from" 59 2 ["net","root","far","steps","at","other"],
  tM 8 "Net.__init__" 58 0 3 ["self","size","ways"],
  tM 2 "PaintRule.__init__" 18 0 2 ["self","net"],
  tF "refuse_part" 33 1 ["part"],
  tF "refuse_starts" 34 3 ["net","starts","top","start"],
  tM 4 "LeastRule.__init__" 30 0 5 ["self","net","starts","stretch","blocks"],
  tM 5 "FarRule.__init__" 31 0 3 ["self","net","root","starts"],
  tF "_law_joined" 113 1 ["_law_numbers"],
  tF "refuse_names" 35 2 ["net","names","name"],
  tM 6 "LeadRule.__init__" 32 0 3 ["self","net","names","starts"],
  tM 7 "GrowRule.__init__" 37 0 3 ["self","net","root"],
  tF "_law_system" 116 1 ["_law_script","_law_first","_law_size","_law_third","_law_ways_here","_law_parents","_law_net","_law_head","_law_root","_law_names"],
  tM 0 "Rule.read" 13 1 2 ["self","registers"],
  tM 2 "PaintRule.hangs_on" 18 1 2 ["self","at"],
  tM 3 "CountRule.hangs_on" 19 1 2 ["self","at"],
  tM 2 "PaintRule.due" 18 3 3 ["self","cells","at","taken","colour"],
  tM 3 "CountRule.due" 19 3 3 ["self","cells","at"],
  tM 4 "LeastRule.has_offer" 30 2 2 ["self","cell"],
  tM 4 "LeastRule.due" 30 1 3 ["self","cells","at","near","offers"],
  tM 7 "GrowRule.parts" 37 1 2 ["self","cells"],
  tM 7 "GrowRule.fars" 37 6 2 ["self","cells"],
  tM 7 "GrowRule.counts" 37 7 2 ["self","cells"],
  tM 7 "GrowRule.elder" 37 8 3 ["self","fars","at","nearer"],
  tM 7 "GrowRule.elders" 37 2 2 ["self","cells","fars"],
  tM 7 "GrowRule.due_count" 37 9 3 ["self","cells","at","kids"],
  tM 7 "GrowRule.due" 37 3 3 ["self","cells","at","fars","due_far","count"],
  tM 9 "PassRule.due" 66 1 3 ["self","cells","at"],
  tM 10 "TableRule.due" 75 1 3 ["self","cells","at","left","right","entry"],
  tM 0 "Rule.movers" 13 3 2 ["self","cells"],
  tM 0 "Rule.calm" 13 4 2 ["self","cells"],
  tM 9 "PassRule.calm" 66 2 2 ["self","cells"],
  tM 10 "TableRule.calm" 75 2 2 ["self","cells"],
  tF "_law_state" 117 2 ["_law_rule","_law_cells","_law_word"],
  tM 2 "PaintRule.rank" 18 2 2 ["self","at"],
  tM 3 "CountRule.rank" 19 2 2 ["self","at"],
  tF "power" 11 2 ["base","exponent","product","step"],
  tM 1 "DownRule.measure" 17 3 2 ["self","cells"],
  tM 4 "LeastRule.measure" 30 3 2 ["self","cells","dues","base","number","mark","rising","falling"],
  tF "rank_by_far" 38 2 ["fars","at","lower"],
  tM 7 "GrowRule.measure" 37 4 2 ["self","cells","fars","counts","wrong","weights"],
  tF "beginning" 68 1 ["cells","length"],
  tF "steps_to_fresh" 67 2 ["cells","span","steps"],
  tM 9 "PassRule.measure" 66 3 2 ["self","cells","weights"],
  tF "_law_states" 120 1 ["_law_rule","_law_states_here","_law_k"],
  tF "refuse_many" 46 2 ["rule","many"],
  tF "states_of" 48 1 ["rule","count","at"],
  tF "refuse_great" 47 2 ["rule","many"],
  tF "cells_of" 43 2 ["rule","number","cells","left","at"],
  tF "sets_of" 49 1 ["movers","sets","at"],
  tF "refuse_turn" 14 2 ["rule","named","at"],
  tM 0 "Rule.turned" 13 5 3 ["self","cells","named"],
  tF "number_of" 42 2 ["rule","cells","number","cell"],
  tF "leaving" 50 3 ["rule","calms","ways","number","pairs","named","behind"],
  tF "stuck" 51 3 ["rule","calms","ways","number","pairs"],
  tF "ranks_found" 53 2 ["calms","follows","ranks","grown","number","behind"],
  tF "round_in" 54 2 ["ranks","follows","way"],
  tF "round_or_ranks" 52 3 ["rule","calms","ways","follows","ranks"],
  tF "_law_stroke" 118 1 ["_law_machines"],
  tF "_law_asked" 121 4 ["_law_rule","_law_cells","_law_cell","_law_looks","_law_way","_law_many","_law_told","_law_said"],
  tF "_law_turn" 119 2 ["_law_rule","_law_cell","_law_named","_law_other"],
  tF "refuse_count" 94 2 ["words","count"],
  tF "has_figures_alone" 93 2 ["word","most"],
  tF "read_number" 84 1 ["word","figures"],
  tF "read_numbers" 87 1 ["words"],
  tF "read_way" 89 1 ["word","ends"],
  tF "read_net" 88 1 ["words"],
  tF "read_entries" 91 1 ["word"],
  tF "read_table" 90 1 ["words","size","span"],
  tF "read_look" 92 1 ["words"],
  tF "read_line" 86 1 ["line","words","first","rest"],
  tF "read_text" 85 1 ["text"],
  tF "state_at" 100 1 ["lines"],
  tF "refuse_order" 101 1 ["lines","kinds","first","rules","kind"],
  tF "rule_on_net" 103 2 ["net","line"],
  tF "rule_of" 102 1 ["lines","line"],
  tF "joined" 109 1 ["things"],
  tF "shown" 106 2 ["rule","cells"],
  tF "row_of" 23 3 ["rule","cells","named","behind","done"],
  tF "run" 22 3 ["rule","registers","turns","cells","rows","named"],
  tF "spoil" 25 2 ["registers","faults","spoiled","at","number"],
  tF "row_behind" 104 3 ["rule","cells","line"],
  tF "machines_shown" 107 1 ["machines"],
  tF "look_shown" 108 1 ["found"],
  tF "answer" 105 3 ["rule","row","line","cells"],
  tF "play" 99 1 ["text","lines","first","rule","cells","answers","line","row"],
  tF "law" 122 1 ["_law_script","_law_told","_law_rule","_law_registers","_law_cells","_law_lines","_law_due","_law_looks","_law_cell","_law_at","_law_number","_law_pair","_law_named","_law_done","_law_found"]]
 C:=["Rule","DownRule","PaintRule","CountRule","LeastRule","FarRule","LeadRule","GrowRule","Net","PassRule","TableRule"]
 X:=["CalmError"]
 A:=["size","pairs","near","top","net","starts","stretch","span","alone","far_rule","root","parents","calm_movers","firsts","others"]
 M:=[mE 8 "beside" 14,mE 2 "read" 27,mE 3 "read" 27,mE 5 "read" 27,mE 6 "read" 27,mE 7 "read" 27,mE 9 "read" 27,mE 10 "read" 27,mE 2 "hangs_on" 28,mE 3 "hangs_on" 29,mE 5 "has_offer" 32,mE 6 "has_offer" 32,mE 7 "parts" 34,mE 7 "fars" 35,mE 5 "due" 33,mE 7 "counts" 36,mE 7 "elder" 37,mE 7 "elders" 38,mE 7 "due_count" 39,mE 2 "due" 30,mE 3 "due" 31,mE 6 "due" 33,mE 7 "due" 40,mE 9 "due" 41,mE 10 "due" 42,mE 2 "movers" 43,mE 3 "movers" 43,mE 5 "movers" 43,mE 6 "movers" 43,mE 7 "movers" 43,mE 9 "movers" 43,mE 10 "movers" 43,mE 2 "calm" 44,mE 3 "calm" 44,mE 5 "calm" 44,mE 6 "calm" 44,mE 7 "calm" 44,mE 9 "calm" 45,mE 10 "calm" 46,mE 2 "rank" 48,mE 3 "rank" 49,mE 5 "measure" 52,mE 2 "measure" 51,mE 3 "measure" 51,mE 6 "measure" 52,mE 7 "measure" 54,mE 9 "measure" 57,mE 2 "turned" 65,mE 3 "turned" 65,mE 5 "turned" 65,mE 6 "turned" 65,mE 7 "turned" 65,mE 9 "turned" 65,mE 10 "turned" 65]
 Mk:=[(3,10),(5,21),(7,25),(6,24),(8,16),(2,17),(9,2),(10,5)]
 U:=[(1,9),(4,20),(0,1)]
 B:=["len","min","range","tuple","str","list","enumerate","max","sorted","set","sum","zip","isinstance","reversed","int","all"]
 I:=[("LEAST_RING_passing",2),("GREATEST_RING_passing",20),("LEAST_RING_tables",2),("GREATEST_RING_tables",8),("LEAST_SPAN",2),("GREATEST_SPAN",4),("MOST_PARENTS",9),("GREATEST_NET",10),("LEAST_NET",1),("GREATEST_PART",10),("GREATEST_NAME",9),("LEAD_BLOCKS",10),("MOST_STATES",256),("MOST_AT_ONCE",4),("MOST_FIGURES",60),("MOST_ENTRIES",64)]
 KT:=[]
 HT:=[]}
def pe:PE:=⟨[(tF "nexts" 44 3 ["rule","cells","many","movers","turns"],false),(tF "look" 45 2 ["rule","many","states","calms","ways","found"],false)],[("CALM_MOVERS",[("none",(0)),("one",(1))]),("NUMBERS",[("pass",(2)),("paint",(0)),("far",(1)),("grow",(1)),("spoil",(2)),("may",(0)),("measure",(0))])],[("FIGURES","0123456789")],[("TABLE_WORDS",["none","one"]),("ROWS",["count","lead","state","turn"]),("NET_RULES",["paint","far","lead","grow"]),("BARE_RULES",["pass","count","table"]),("DOINGS",["turn","spoil","may","measure","look"])]⟩
noncomputable def kc:List (Nat×List Bool):=[(10,[false,false,false,false,false,false,false,false,false,false,true])]
theorem hA:pt.attOk:=⟨by decide +kernel,by decide +kernel⟩
abbrev T(K:PySem.W.Frag):Tb:=pt.T hA K
def hb:A1 pt.F:=⟨bn2,bn4,bn3,bn3,bn2,bn6,bn2,bn3,bn1,bn3,bn2,bn2,bn2,bn2,bn2,bn2,bn3,bn2,bn1,bn3,bn5,bn3,bn1,bn2,bn3,bn3,bn1,bn2,bn2,bn2,bn3,bn3,bn2,bn3,bn2,bn2,bn2,bn3,bn2,bn3,bn3,bn3,bn3,bn2,bn2,bn2,bn2,bn2,bn2,bn2,bn2,bn2,bn2,bn2,bn2,bn1,bn2,bn2,bn1,bn2,bn1,bn2,bn2,bn1,bn2,bn3,bn2,bn3,bn3,bn2,bn2,bn3,bn1,bn4,bn2,bn2,bn2,bn1,bn1,bn1,bn1,bn1,bn1,bn1,bn1,bn1,bn1,bn1,bn2,bn1,bn1,bn2,bn3,bn3,bn2,bn3,bn1,bn1,bn3,bn1,bn1,trivial⟩
def hd:A0 pe.D:=⟨bd3,bd2,trivial⟩
def hds:pe.D.all (λy=>scB y.1)=true:=by decide +kernel
theorem hs:pt.F.all scB=true:=by decide +kernel
theorem Qt{w:World}{mg:Str->Option Value}{h:Heap}(X:(Qd.heap_1 w.params).In h)(Z:h.Ns mainGlobals mg):Ty pt pe w (Qd.heap_1 w.params) mg/\TK pt (Qd.heap_1 w.params) kc:=by
 refine' ⟨_root_.PR.Ty.of X Z (_root_.PR.Tx.of X Z hb hs ?a ?b ?c ?d ?e ?f ?g) hd hds ?h ?i ?j ?k ?l,?y,?z⟩<;>first|exact fun z=>nomatch z|kernel_rfl
def dq{X:Cx}{k k2 i c:Nat}{mn:Str}{m m':ML->MM}{ps:MF}(t:Tx pt X.K X.mg)(g:OkF pt hA X.prog X.w X.K X.mg X.base k i m)(e:some m=some m')(hj:(c,mn,i)∈ pt.M:=by decide)(hp:pt.ps i=ps:=by rfl)(hk:k<=k2:=by decide):∃f fd,AV X.K (pt.ca X.K c) mn f/\eK X.K fd ps []/\cF X.prog X.w X.K X.mg X.base (CXP X.prog X.w) k2 f fd ps (spM (T X.K) ps.length m'):=
 let⟨j,h⟩:=List.getElem?_of_mem hj
 dm j t (hp▸g) e h hp hk
section
variable{P:Program}{w:World}{K:PySem.W.Frag}{mg:Mw}{base:Heap}(t:Ty pt pe w K mg)(tk:TK pt K kc)
include t tk
open Lean in
set_option hygiene false in
def Qr(s:String):MacroM Term:=do
 let r<-(s.splitOn " ").foldlM (init:=[(#[]:Array Term)]) λst w=>do
  match w,st with
  |"(",_=>return #[]::st
  |")",a::b::c=>return b.push (Syntax.mkApp a[0]! (a.drop 1))::c
  |"",_=>return st
  |_,a::c=>
   let x<-match w with
    |"_"=>`(_)
    |"-"=>`(by walk_at "D")
    |"+"=>`(by walk_at "K")
    |"!"=>`(by decide +kernel)
    |"~"=>`(fun _ _=>rfl)
    |"^"=>`(fun _ _ _ _ nd=>⟨by walk_at "D",by walk_at "D",by walk_at "D"⟩)
    |"<"=>`([_])
    |">"=>`([_,_])
    |"$"=>`(fun _ _ _ _ _ _ cx nd=>by walk_at "D")
    |"&"=>`(_::_::_)
    |"%"=>`(_::_)
    |"@"=>`((_,_))
    |_=>
     let u:=(w.drop 1).toString
     pure (if w.isNat then Syntax.mkNumLit w else if w.front=='.'then ⟨mkNode ``Parser.Term.dotIdent #[mkAtom ".",mkIdent u.toName]⟩else if w.front=='\''then Syntax.mkStrLit u else mkIdent w.toName)
   return a.push x::c
  |_,_=>return st
 let a:=r.headD #[]
 return Syntax.mkApp a[0]! (a.drop 1)
set_option hygiene false in
local macro_rules|`(tactic|walk_at "K")=>`(tactic|first|exists ",cF _ _ _ _ _ _,spM _ _ , t tk|dC,NS|qT,Ou|qX,NM|uQ,OI|uS,OG|Dh,Nj|Aj,N7|Ak,OS|Ai,NW|u9,N3|Ah,Oq|qV,Np|vi,Nq|kq,Nh|vh,OQ|u8,NC|gY,Ob|Dr,Na|Ds,M8|vp,Ov|vj,Og|wV,M9|nU,NY|vt,ON|vk,ND|Do,N1|Dl,On|Dn,Nb|Dt,M7|vf,Om|vd,OD|nT,OV|gZ,OR|jq,NH|vn,NZ|Dm,Oj|nO,Oo|vq,N6|Dk,Nf|nJ,NG|wU,OH|qK,NJ|va,N5|Dq,OT|uV,OE|Di,Nu|Dp,Ng|uZ,NQ|qU,Ot|nM,OU|vg,NI|jp,Nx|nK,NT|u_,Oz|g7,Ox|qL,NO|nP,OF|uP,Ol|uM,No|vc,Od|qP,N4|Dj,Nz|nH,Oy|qR,Nv|uX,OJ|uT,NK|jr,NP|tL,Ny|iC,OK|qY,Ni|qQ,OC|uR,Os|qW,Nn|u0,NE|uY,OB|uU,Nl|uW,OP|qO,NL|ve,NB|qS,N2|qN,N8|jo,Oa|lQ,OL|uO,NU|vv,ok_run|uN,N9|nQ,Oh|Af,NA|u7,OO|qM,NF|uL,Oc|vw,ok_law"|exists ",cF _ _ _ _ _ _,spI _ _ , t tk|f9,Oe|nR,OA|nX,Op|nS,Nk|wT,NR|nL,OM|wS,Of|Ag,NN|lR,NV|nW,Nr|nV,Oi"|exists ",fC _ _,, t tk t tk|bP,ok_dsp_beside_8|aD,ok_dsp_read_2_3_5_6_7_9_10|bH,ok_dsp_hangs_on_2_3|cR,ok_dsp_has_offer_5_6|dG,ok_dsp_parts_7|cZ,ok_dsp_fars_7|ik,ok_dsp_due_5|b7,ok_dsp_counts_7|fK,ok_dsp_elder_7|eS,ok_dsp_elders_7|bZ,ok_dsp_due_count_7|aC,ok_dsp_due_2_3_5_6_7_9_10|au,ok_dsp_movers_2_3_5_6_7_9_10|av,ok_dsp_calm_2_3_5_6_7_9_10|cC,ok_dsp_rank_2_3|d8,ok_dsp_measure_5|aE,ok_dsp_measure_2_3_5_6_7_9|aP,ok_dsp_turned_2_3_5_6_7_9_10")
set_option hygiene false in
local macro_rules|`(tactic|walk_at "D")=>`(tactic|first|exists ",SA,,|ab _ _,bU - -|ae,cN"|exists "SE _ _ _ _ _,SE,,|aa _,sv _|,SE _ _ _ ( .Name _ _ ) ( mC ( .int _ ) ),yp rfl ( t.tx.ci @ ! )|,TABLE_WORDS,0,|,ROWS,1,|,NET_RULES,2,|,BARE_RULES,3,|,DOINGS,4,|,SE _ _ _ ( .Name 'FIGURES _ ) ( mC ( .str _ ) ),yn rfl ( t.ss 0 )|,SE _ _ _ ( .BoolOp _ < _ ) _,Fq -|mC ( .int _ ),FF|af ( aq _ ) _,IS t.tx + - -|af ( aq _ ) _,yr ( t.d 0 ) + - -|af ( aq _ ) _,yr ( t.d 1 ) + - -|mOp ah _ _,LH - - - ~|mC ( .str _ ),Fo|mUn ( ap _ ) _,IT _ t.tx - -|mOp aJ _ _,FN - -|bB _ _ _,LF t.tx + - - -|mOp bQ _ _,Fx - -|ay _ 1 _ _ _ _,D3 < - - - ^|ay _ 2 _ _ _ _,D3 > - - - ^|b_ _,LG -|cT _,LC -|af ( p1 da ) _,FC - rfl - -|mOp bN _ _,Fv - -|mOp aZ _ _,BW - -|eA _ _ _,LE _ t.tx + - -|mOp fg _ _,FK - -|mC .non,Fs|af ( p1 dR ) _,BO - rfl - pH -|mOp iK _ _,Fn - -|mUn fV _,FJ -|fY _ _ _,yk - - -|cP _ _ _,yg - - - -|af ( p1 cq ) _,BH rfl - -|mC ( .bl _ ),IR|af ( p1 cX ) _,ye - rfl - AD -|mMt ef _ _,BQ - - -|mJ _ _,Fh -|mOp pEq _ _,IQ - - - -|mOp kx _ _,Fp - -|af ( p1 ( dh cr ) ) _,BM - - rfl - -|af ( p1 iJ ) _,Fm - - rfl - -|iz _ _,FL - -|mUn mf _,Fu -|af ( gA min ) _,BJ - rfl - -|dN _ _,vU - -|mMt eO _ _,yf - -|,SE _ _ _ ( .Subscript ( .Name 'CALM_MOVERS _ ) _ _ ) ( mUn ( iq _ ) _ ),uf rfl ( t.gm 0 ) ( t.gd 0 ) - ~|,SE _ _ _ ( .Subscript ( .Name 'NUMBERS _ ) _ _ ) ( mUn ( iq _ ) _ ),uf rfl ( t.gm 1 ) ( t.gd 1 ) - ~|af ( p1 ( dh fQ ) ) _,BK - - rfl - -|af ( p1 ig ) _,vV - rfl - -|mUn gz _,vX - - rfl - rfl - -|mOp pNe _ _,IL - - - -|fX ff _ _,yj - - - -|af ( p1 iN ) _,yi rfl - -|,SE _ _ _ ( .Call ( .Name 'len _ ) _ _ _ ) ( af ( p1 ( fG _ _ ) ) _ ),BP rfl - -|,SE _ _ _ ( .Call ( .Name 'int _ ) _ _ _ ) ( af ( p1 ( fG _ _ ) ) _ ),BS rfl - -|mUn lg _,BI - - rfl - -|mUn fe _,si - - rfl - rfl - -|fX gB _ _,yq - - - -|mUn ( qe _ ) _,BR - t.tx.cl ( tk.at 0 ) rfl - iD rfl ( t.tx.cg 10 ) -|qw _,Fr -|mOp iM _ _,yh - -|mOp pGt _ _,IO - -|mOp pLe _ _,IM - -|af ( p1 ( sD mH ) ) _,FM - - rfl - -|mOp yX _ _,FG - -|ii _ _ _,vW - - -|af ( p1 lf ) _,BG rfl - -|mFz _,IP -|vJ _ _,FE - zR rfl - iD rfl - pH -"|exists "SSs _ _ _ _ _,SSs,,|ag ( dz _ ) _,E6 -|ag _ _,Bm - -|aA,E5|E4 -"|exists "SS _ _ _ _ _,SS,,|aw _ ( ay _ 1 _ _ _ _ ),D2 < - - - - ^|aw _ ( ay _ 2 _ _ _ _ ),D2 > - - - - ^|aw _ _,LD - -|aL _,E3 -|mBr _ _ _,II - - -|mNo,IH|bX _ _ _,E7 - - - - -|eR _ _ _,sFld _ t.tx - -|cY _,Bk rfl -|bu _ _,LJ - -|dA _,Bl -|fD _ _,FP 0 t.tx + - -|fD _ _,FP 1 t.tx + - -|fD _ _,FP 4 t.tx + - -|gD _ _,xN - - -|fR _ _ _,xO rfl - - -|lD _ _,xQ rfl -|oS _ _,xP rfl - rfl -|nv _ _,Bo - rfl - -"|exists "ST _ _ _ _ _,ST,,|ai ( mOp pEq _ _ ),IG - - - -|bz _,xK - -|ai ( mOp pLt _ _ ),IB - -|ai ( mOp pGt _ _ ),IE - -|ai ( mOp pNe _ _ ),IA - - - -|ai ( mOp pIn _ _ ),ID - - - -|ai ( mOp pGe _ _ ),IF - -|ai ( mOp bW _ _ ),xL - - - -|iw _,EY -|ai ( mOp gO _ _ ),E0 - -|ai ( mOp gX _ _ ),Bf - -|ai ( mOp pLe _ _ ),IC - -|ai ( mUn ( jc _ ) _ ),vM rfl ( t.gm 0 ) ( t.gd 0 ) -|ai ( mOp wo _ _ ),EZ - - - -|ai ( mUn ( m_ _ ) _ ),Bg rfl ( t.gm 1 ) ( t.gd 1 ) -|SW.st -"|exists "SW _ _ _ _ _,,,|,SW _ _ _ ( .BoolOp .And & _ ) _,EW - -|,SW _ _ _ ( .BoolOp .Or & _ ) _,Iz - -|,SW _ _ _ ( .BoolOp .And < _ ) _,Bc -|,SW _ _ _ ( .BoolOp .Or < _ ) _,EV -"|exists "SIc _ _ _ _ _ _,SIc _,,|aK _,Bz - -|bJ _,r9 rfl - -|zJ _,xX - rfl - -|iu _,Bx - rfl - -|kh _,By -"|exists "SG _ _ _ _,,,|,SG _ _ _ ( tgN _ ),sgN -|,SG _ _ _ ( tgT _ _ ),Fd - - -"|exists "STs _ _ _ _ _,STs,,|aH,Be|Bd -"|exists "fA _ _,,,|,fA ( tgN _ ) _,Lq|A8 -"|exists "SI _ _ _ _ _ _,SI _,,|bJ _,vR rfl - -|dF _,Fa - -|lC _,vQ rfl - -|sR _,BA - rfl - -|iy _,xY - rfl - -"|exists ",SO,,|bV,Bt|dy _,Br -"|exists "SGs _ _ _ _,,,|,SGs _ _ % _,ya - rfl - -|BB"|exists "jB _ _,,,|xD|vH - -"|exists "SJ _ _ _ _ _,,,|SJ.nil|SJ.cons - -"|exists ",,,|cx.hK|cx|nd|cx.hu|cx.hu2|cx.calm|cx.po|cx.comp|cx.comp.hK|cx.comp.hu|cx.comp.hu2|cx.comp.calm|cx.comp.po|t.tx.bi _ !|Or.inl rfl|Or.inr ( Or.inl rfl )|Or.inr ( Or.inr rfl )|Or.inr rfl|cx.comp.comp|cx.comp.comp.hK|cx.comp.comp.hu|cx.comp.comp.hu2|cx.comp.comp.calm|cx.comp.comp.po|,OkI _ _ _ _ _ _ _ _ _ _,okI _ t.tx $|,OkF _ _ _ _ _ _ _ _ _ _,okC _ t.tx $"|(intro _ t tk c _ h e;rcases c with _|_|_|_|_|_|_|_|_|_|_|c<;>first|exact dq t.tx (by walk_at "K") e|exact dno (n:=11) h|cases e))
set_option hygiene false in
local macro_rules|`(tactic|exists $g)=>`(tactic|with_reducible show $g)
set_option hygiene false in
local macro_rules|`(tactic|exists $s:str)=>do
 let h::l:=s.getString.splitOn "|"|Lean.Macro.throwUnsupported
 let [g,k,m,e]:=h.splitOn ","|Lean.Macro.throwUnsupported
 let y<-l.toArray.mapM λz=>do
  match z.splitOn "," with
  |[a,b]=>`(tactic|((with_reducible show $(<-Qr (k++" _ _ _ _ ( "++m++a++" )")));exact $(<-Qr (b++e))))
  |[_,a,b]=>`(tactic|((with_reducible show $(<-Qr a));exact $(<-Qr b)))
  |[_,a,b,_]=>let j:=Lean.Syntax.mkNumLit b;`(tactic|((with_reducible show SE _ _ _ (.Name $(Lean.Syntax.mkStrLit a) _) (mC (.tup _)));exact gS (xs:=(pe.tk $j).2) .d rfl (t.pm $j) (t.pd $j) ()))
  |_=>`(tactic|exact $(<-Qr z))
 let z<-`(tactic|first $[|$y:tactic]*)
 if g=="" then return z
 `(tactic|((with_reducible show $(<-Qr g));$z:tactic))
set_option hygiene false in
local macro_rules|`(.d)=>`(by walk_at "D")|`(term|($a,$b,$c))=>`(OkF pt hA P w K mg base $a $b $c)|`(term|($a,$b,$c,0))=>`(OkI pt hA P w K mg base $a $b $c)|`(term|($a,$b,$c,1))=>`(OkD pt hA P w K mg base $a (pe.at $b).1 $c)|`(term|($a,$b,$c,$d,2))=>`(∀{X:Cx}(t:Ty pt pe X.w X.K X.mg)(tk:TK pt X.K kc),fC X (T X.K) $a $b $c [] $d)
theorem NS:(1,0,dC):=.d
theorem Oe:(1,1,f9,0):=.d
theorem OA:(3,2,nR,0):=.d
theorem Ou:(1,3,qT):=.d
theorem NM:(1,4,qX):=.d
theorem Op:(3,5,nX,0):=.d
theorem OI:(5,6,uQ):=.d
theorem OG:(1,7,uS):=.d
theorem Nj:(1,8,Dh):=.d
theorem Nk:(3,9,nS,0):=.d
theorem NR:(5,10,wT,0):=.d
theorem N7:(1,11,Aj):=.d
theorem OS:(1,12,Ak):=.d
theorem NW:(1,13,Ai):=.d
theorem N3:(1,14,u9):=.d
theorem ok_dsp_beside_8:(1,"beside",["self","at"],bP,2):=.d
theorem Oq:(2,15,Ah):=.d
theorem OM:(3,16,nL,0):=.d
theorem Of:(5,17,wS,0):=.d
theorem Np:(1,18,qV):=.d
theorem Nq:(1,19,vi):=.d
theorem NN:(3,20,Ag,0):=.d
theorem NV:(5,21,lR,0):=.d
theorem Nh:(1,22,kq):=.d
theorem OQ:(1,23,vh):=.d
theorem Nr:(5,24,nW,0):=.d
theorem Oi:(7,25,nV,0):=.d
theorem NC:(9,26,u8):=.d
theorem Ob:(1,27,gY):=.d
theorem ok_dsp_read_2_3_5_6_7_9_10:(1,"read",["self","registers"],aD,2):=.d
theorem Na:(2,28,Dr):=.d
theorem M8:(1,29,Ds):=.d
theorem ok_dsp_hangs_on_2_3:(2,"hangs_on",["self","at"],bH,2):=.d
theorem Ov:(3,30,vp):=.d
theorem Og:(3,31,vj):=.d
theorem M9:(1,32,wV):=.d
theorem ok_dsp_has_offer_5_6:(1,"has_offer",["self","cell"],cR,2):=.d
theorem NY:(2,33,nU):=.d
theorem ON:(1,34,vt):=.d
theorem ok_dsp_parts_7:(1,"parts",["self","cells"],dG,2):=.d
theorem ND:(2,35,vk):=.d
theorem ok_dsp_fars_7:(2,"fars",["self","cells"],cZ,2):=.d
theorem ok_dsp_due_5:(2,"due",["self","cells","at"],ik,2):=.d
theorem N1:(2,36,Do):=.d
theorem ok_dsp_counts_7:(2,"counts",["self","cells"],b7,2):=.d
theorem On:(2,37,Dl):=.d
theorem ok_dsp_elder_7:(2,"elder",["self","fars","at"],fK,2):=.d
theorem Nb:(3,38,Dn):=.d
theorem ok_dsp_elders_7:(3,"elders",["self","cells"],eS,2):=.d
theorem M7:(4,39,Dt):=.d
theorem ok_dsp_due_count_7:(4,"due_count",["self","cells","at"],bZ,2):=.d
theorem Om:(5,40,vf):=.d
theorem OD:(1,41,vd):=.d
theorem OV:(1,42,nT):=.d
theorem ok_dsp_due_2_3_5_6_7_9_10:(5,"due",["self","cells","at"],aC,2):=.d
theorem OR:(6,43,gZ):=.d
theorem ok_dsp_movers_2_3_5_6_7_9_10:(6,"movers",["self","cells"],au,2):=.d
theorem NH:(7,44,jq):=.d
theorem NZ:(7,45,vn):=.d
theorem Oj:(7,46,Dm):=.d
theorem ok_dsp_calm_2_3_5_6_7_9_10:(7,"calm",["self","cells"],av,2):=.d
theorem Oo:(8,47,nO):=.d
theorem N6:(1,48,vq):=.d
theorem Nf:(1,49,Dk):=.d
theorem ok_dsp_rank_2_3:(1,"rank",["self","at"],cC,2):=.d
theorem NG:(1,50,nJ):=.d
theorem OH:(7,51,wU):=.d
theorem NJ:(6,52,qK):=.d
theorem N5:(1,53,va):=.d
theorem ok_dsp_measure_5:(6,"measure",["self","cells"],d8,2):=.d
theorem OT:(7,54,Dq):=.d
theorem OE:(1,55,uV):=.d
theorem Nu:(2,56,Di):=.d
theorem Ng:(7,57,Dp):=.d
theorem ok_dsp_measure_2_3_5_6_7_9:(7,"measure",["self","cells"],aE,2):=.d
theorem NQ:(1,58,uZ):=.d
theorem Ot:(1,59,qU):=.d
theorem OU:(1,60,nM):=.d
theorem NI:(2,61,vg):=.d
theorem Nx:(1,62,jp):=.d
theorem NT:(1,63,nK):=.d
theorem Oz:(1,64,u_):=.d
theorem Ox:(6,65,g7):=.d
theorem ok_dsp_turned_2_3_5_6_7_9_10:(6,"turned",["self","cells","named"],aP,2):=.d
theorem NO:(7,0,qL,1):=okD (t.d 0) λ_ _ _ _ _ _ cx nd=>.d
theorem OF:(1,66,nP):=.d
theorem Ol:(2,67,uP):=.d
theorem No:(2,68,uM):=.d
theorem Od:(1,69,vc):=.d
theorem N4:(1,70,qP):=.d
theorem Nz:(2,71,Dj):=.d
theorem Oy:(8,1,nH,1):=okD (t.d 1) λ_ _ _ _ _ _ cx nd=>.d
theorem Nv:(2,72,qR):=.d
theorem OJ:(9,73,uX):=.d
theorem NK:(1,74,uT):=.d
theorem NP:(1,75,jr):=.d
theorem Ny:(1,76,tL):=.d
theorem OK:(2,77,iC):=.d
theorem Ni:(3,78,qY):=.d
theorem OC:(3,79,qQ):=.d
theorem Os:(4,80,uR):=.d
theorem Nn:(2,81,qW):=.d
theorem NE:(3,82,u0):=.d
theorem OB:(1,83,uY):=.d
theorem Nl:(5,84,uU):=.d
theorem OP:(6,85,uW):=.d
theorem NL:(1,86,qO):=.d
theorem NB:(2,87,ve):=.d
theorem N2:(9,88,qS):=.d
theorem N8:(10,89,qN):=.d
theorem Oa:(1,90,jo):=.d
theorem OL:(8,91,lQ):=.d
theorem NU:(7,92,uO):=.d
theorem ok_run:(8,93,vv):=.d
theorem N9:(1,94,uN):=.d
theorem Oh:(9,95,nQ):=.d
theorem NA:(2,96,Af):=.d
theorem OO:(2,97,u7):=.d
theorem NF:(9,98,qM):=.d
theorem Oc:(11,99,uL):=.d
theorem ok_law:(12,100,vw):=.d
end
end
section
variable{n i r c cc k T:Nat}{f fc fl:Fl}{ps:Mx}{cs l ns ms:MB}{z y:Str}{env:En}{os:List (MG)}{m:ME}{sp st a s x tp b at_ wi:Int}{g:Fl->Fl}{zs:MF}{v o:PV}{xs:ML}{p:Fl->Bool}{Fw:List (MB)}{it:MI}{body:MS}
abbrev M2(l:List Int):=PV.lst .own (iL l)
abbrev M3(f:Fl)(l:List Int):=PV.lst f (iL l)
abbrev M4(n:Int):=some (PV.int n)
abbrev M5(l:List Int):=some (PV.lst .own (iL l))
abbrev M6(f:Fl)(l:List Int):=some (PV.lst f (iL l))
noncomputable def sg(z:Str):List Nat:=z.cps.toList
def bO(z:Str):z.length=(sg z).length:=by simp[sg,Str.length]
def IJ(l:List Nat):sg ⟨l.toArray⟩=l:=by simp[sg]
def bv(x y:Str):sg (x++y)=sg x++sg y:=by show(x.cps++y.cps).toList=_;unfold sg;simp
def dX{x:Str}(h:sg x=sg y):x=y:=by cases x;cases y;congr 1;exact Array.toList_inj.mp h
def kO(x y:Str):(x++y).length=x.length+y.length:=by rw[bO,bv,length_append,<- bO,<- bO]
noncomputable def pos(c:Nat):List Nat->Nat->List Nat
 | [],_=>[]
 |a::r,k=>if a=c then k::pos c r (k+1)else pos c r (k+1)
noncomputable def spl(c:Nat):List Nat->List Nat->List (List Nat)
 |acc,[]=>[acc]
 |acc,d::r=>if d=c then acc::spl c [] r else spl c (acc++[d]) r
def vL(z:Str)(c k:Nat):Builtin.Str.subAt z ⟨#[c]⟩ k=decide (((sg z).drop k).take 1=[c]):=by
 have e:(z.cps.extract k (k+1)).toList=((sg z).drop k).take 1:=by have:=StrLaws.strSub_toList z k (k+1);rw[show k+1-k=1 by lia]at this;exact this
 show(z.cps.extract k (k+1)== #[c])=_;rw[Bool.eq_iff_iff,decide_eq_true_iff,beq_iff_eq];constructor
 .intro h;rw[<- e,h]
 .grind
theorem kG(z:Str)(c:Nat):∀(n k:Nat) (st:Array Nat×Nat),k+n=z.length+1->st.fst.size<=k->st.snd<=k ->
  (forIn (List.range' k n) st (StrLaws.occBody z ⟨#[c]⟩ z.length (z.length+1))).run.fst.toList=st.fst.toList++pos c ((sg z).drop k) k
 |0,k,st,h,_,_=>by have:(sg z).drop k=[]:=List.drop_eq_nil_iff.mpr (by rw[<- bO];lia);rw[this];simp[pos]
 |n+1,k,st,h,h1,h2=>by
  rw[List.range'_succ,List.forIn_cons];unfold StrLaws.occBody;have hs:=vL z c k;by_cases hk:k<z.length
  .have hk':k <(sg z).length:=by rw[<- bO];exact hk
   have hd:(sg z).drop k=(sg z)[k]::(sg z).drop (k+1):=List.drop_eq_getElem_cons hk';have ht:((sg z).drop k).take 1=[(sg z)[k]]:=by rw[hd];rfl
   rw[ht]at hs;by_cases e:(sg z)[k]=c
   .rw[if_pos ⟨⟨⟨by lia,h2⟩,by show k+1<=_;lia⟩,by lia⟩];refine(kG z c n (k+1) (st.fst.push k,k+1) () (by simp;lia) (Nat.le_refl _)).trans ?_;rw[hd];simp[pos,e]
   .rw[if_neg ()];refine(kG z c n (k+1) (st.fst,st.snd) () () ()).trans ?_;rw[hd];simp[pos,e]
  .rw[if_neg (λq=>by have:k+1<=z.length:=q.1.2;lia)];refine(kG z c n (k+1) (st.fst,st.snd) () () ()).trans ?_;have e1:(sg z).drop k=[]:=List.drop_eq_nil_iff.mpr (by rw[<- bO];lia);have e2:(sg z).drop (k+1)=[]:=List.drop_eq_nil_iff.mpr (by rw[<- bO];lia);rw[e1,e2];simp[pos]
theorem jO(z:Str)(c:Nat):∀(r:List Nat) (a k:Nat),a<=k->r=(sg z).drop k->(StrLaws.partsFrom z 1 a (pos c r k)).map sg=spl c (((sg z).drop a).take (k-a)) r
 | [],a,k,h,e=>by have hk:(sg z).length<=k:=List.drop_eq_nil_iff.mp e.symm;have e1:sg (Builtin.Str.strSub z a z.length)=((sg z).drop a).take (z.length-a):=StrLaws.strSub_toList z a z.length;show [sg (Builtin.Str.strSub z a z.length)]=[_];rw[e1,take_of_length_le (by rw[length_drop,<- bO];lia),take_of_length_le (by grind)]
 |d::r,a,k,h,e=>by
  have hr:r=(sg z).drop (k+1):=by rw[<- List.tail_drop,<- e];rfl
  by_cases q:d=c
  .have e1:sg (Builtin.Str.strSub z a k)=((sg z).drop a).take (k-a):=StrLaws.strSub_toList z a k;simp only[pos,spl,if_pos q];show sg (Builtin.Str.strSub z a k)::(StrLaws.partsFrom z 1 (k+1) (pos c r (k+1))).map sg=_;rw[jO z c r (k+1) (k+1) (Nat.le_refl _) hr,Nat.sub_self,List.take_zero,e1]
  .simp only[pos,spl,if_neg q];rw[jO z c r a (k+1) () hr];have hg:((sg z).drop a)[k-a]?=some d:=by rw[List.getElem?_drop,show a+(k-a)=k by lia];have:=congrArg List.head? e;rw[List.head?_drop]at this;exact this.symm
   rw[show k+1-a=(k-a)+1 by lia,List.take_add_one,hg];rfl
def vP(z:Str)(c:Nat)(hc:c<256):(PySem.Txt.split z ⟨#[c]⟩).map sg=spl c [] (sg z):=by
 have ho:Builtin.Str.occurrences z ⟨#[c]⟩ 0 z.length (z.length+1)=pos c (sg z) 0:=by rw[StrLaws.occ_eq];have:=kG z c (z.length+1) 0 (#[],0) () (Nat.le_refl _) (Nat.le_refl _);simpa using this
 have kz:¬Builtin.Str.strKind z<Builtin.Str.strKind ⟨#[c]⟩:=by
  have:Builtin.Str.strKind ⟨#[c]⟩=1:=by simp[Builtin.Str.strKind,hc]
  rw[this];unfold Builtin.Str.strKind;split
  .decide
  .split<;>decide
 have p:=jO z c (sg z) 0 0 (Nat.le_refl _) rfl;have l1:(⟨#[c]⟩:Str).length=1:=rfl;unfold PySem.Txt.split;rw[l1];by_cases h0:z.length<1
 .rw[if_pos (by simp[h0])];have:sg z=[]:=List.length_eq_zero_iff.mp (by rw[<- bO];lia);simp[this,spl]
 .rw[if_neg (),ho];by_cases he:pos c (sg z) 0=[]
  .rw[if_pos (by simp[he])];rw[he]at p;have w:=StrLaws.sub_whole z;have p':[sg (Builtin.Str.strSub z 0 z.length)]=spl c [] (sg z):=p;rw[w]at p';exact p'
  .rw[if_neg (by simp[he]),StrLaws.partsBetween_eq];exact p
theorem pV:∀(m acc:List Nat),(∀d∈m,d≠c)->spl c acc m=[acc++m]
 | [],acc,_=>by simp[spl]
 |d::m,acc,h=>by rw[spl,if_neg (h d ()),pV m _ λx hx=>h x (by simp[hx])];simp
theorem pU:∀(m acc bw:List Nat),(∀d∈m,d≠c)->spl c acc (m++c::bw)=(acc++m)::spl c [] bw
 | [],acc,bw,_=>by simp[spl]
 |d::m,acc,bw,h=>by rw[List.cons_append,spl,if_neg (h d ()),pU m _ bw λx hx=>h x (by simp[hx])];simp
theorem pW(c:Nat):∀(ls:MF),ls≠[]->(∀z∈ls,∀d∈sg z,d≠c)->spl c [] (sg (Str.join ⟨#[c]⟩ ls))=ls.map sg
 | [],h,_=>absurd rfl h
 | [z],_,h=>by show spl c [] (sg z)=[sg z];rw[pV _ _ (h z ())];rfl
 |z::y::r,_,h=>by have ih:=pW c (y::r) () λx hx=>h x (by grind);show spl c [] (sg (z ++⟨#[c]⟩++ Str.join ⟨#[c]⟩ (y::r)))=_;rw[bv,bv,List.append_assoc,show sg (⟨#[c]⟩:Str)++ sg (Str.join ⟨#[c]⟩ (y::r))=c::sg (Str.join ⟨#[c]⟩ (y::r))from rfl,pU _ _ _ (h z ()),ih];rfl
def rX(c:Nat)(hc:c<256)(ls:MF)(h0:ls≠[])(h:∀z∈ls,∀d∈sg z,d≠c):PySem.Txt.split (PySem.Txt.join ⟨#[c]⟩ ls) ⟨#[c]⟩=ls:=by have e:PySem.Txt.join ⟨#[c]⟩ ls=Str.join ⟨#[c]⟩ ls:=StrLaws.glued_eq_join _ _;have:=vP (PySem.Txt.join ⟨#[c]⟩ ls) c hc;rw[e,pW c ls h0 h]at this;rw[e];exact(List.map_inj_right λ_ _ q=>dX q).mp this
theorem f6(c:Nat)(n:Nat):∀(ls:MF),(∀z∈ls,z.length<=n)->(Str.join ⟨#[c]⟩ ls).length<=ls.length*(n+1)
 | [],_=>by simp[Str.join,Str.length,Str.empty]
 | [z],h=>by
  show z.length<=1*(n+1);have:=h z ()
  lia
 |z::y::r,h=>by
  have ih:=f6 c n (y::r) λx hx=>h x (by grind);show(z ++⟨#[c]⟩++ Str.join ⟨#[c]⟩ (y::r)).length <=(r.length+1+1)*(n+1);have l1:(⟨#[c]⟩:Str).length=1:=rfl;rw[kO,kO,l1];have:=h z ();have e:(y::r).length=r.length+1:=rfl;rw[e]at ih;have e2:(r.length+1+1)*(n+1)=(r.length+1)*(n+1)+(n+1):=Nat.succ_mul _ _
  lia
def sL(zs:MF):ML:=zs.map .str
@[simp] def FQ(zs:MF):(sL zs).length=zs.length:=by simp[sL]
@[simp] theorem kW(g:Fl->Fl):∀zs:MF,mapL g (sL zs)=sL zs
 | []=>by simp[sL]
 |z::zs=>by show mapL g (.str z::sL zs)=.str z::sL zs;rw[bh,kW g zs,et]
@[simp] theorem FR(p:Fl->Bool):∀zs:MF,hasL p (sL zs)=false
 | []=>by simp[sL]
 |z::zs=>by show hasL p (.str z::sL zs)=false;rw[nD,FR p zs,C9];rfl
theorem ug:∀zs:MF,jG (sL zs)=some zs
 | []=>rfl
 |z::zs=>by show(jG (sL zs)).map (z::·)=_;rw[ug zs];rfl
def dB{i:Int}(h0:0<=i)(h:zs[i.toNat]?=some z):ah (.lst f (sL zs)) (.int i)=.ok (.str z):=by have hl:i.toNat<zs.length:=(List.getElem?_eq_some_iff.mp h).1;unfold ah;simp only[aV,atI,ixN,FQ,h0,if_true];rw[if_pos ()];simp[sL,h]
noncomputable def isD(c:Nat):Bool:=decide (48<=c/\c<=57)
def G7:∀c,c<128->inS ⟨#[c]⟩ "0123456789"=isD c:=by decide +kernel
def kR(z:Str)(k:Nat)(y:Str)(hy:sg y=[k]):PySem.Txt.startswith z y=decide ((sg z).head?=some k):=by
 have ey:y=⟨#[k]⟩:=dX hy;subst ey;unfold PySem.Txt.startswith Builtin.Str.subAt;cases e:sg z with
 |nil=>
  have h0:z.cps.size=0:=by
   have:z.length=0:=by rw[bO,e];rfl
   exact this
  simp[Str.length,h0]
 |cons c r=>have hz:z=⟨(c::r).toArray⟩:=dX (by exact e);subst hz;simp[Str.length];rw[Bool.eq_iff_iff];simp
def Bu{r:List Nat}(h:sg z=c::r):sg (PySem.Txt.slice z (some 1) none)=r:=by
 have hl:z.length=r.length+1:=by rw[bO,h];rfl
 rw[PyProof.Rows.slice_from_eq () () rfl,IJ];have:z.cps.toList=c::r:=h;rw[this,hl];simp
noncomputable def fig(l:List Nat):List Nat:=if l.head?=some 45 then l.tail else l
def okF(M:Nat)(l:List Nat):Bool:=decide (0<l.length)&&(decide (l.length<=M)&&l.all isD)
def bad(l:List Nat):Bool:=!okF 60 (fig l) ||(decide ((fig l).head?=some 48)&&decide (l≠[48]))
def AS(h:∀c∈sg z,c<128):asc z=true:=by unfold asc;rw[<- all_toList,all_eq_true];intro c hc;exact decide_eq_true (h c hc)
def z_(M:Nat)(hl:z.length<=10000)(ha:∀c∈sg z,c<128):tL [.str z,.int M]=.ok (.bl (okF M (sg z))):=by
 refine am ?_;show J0 [some (.str z),M4 M]=_;have hc:ay [] 1 (kh (aa 0)) (tgN 0) aH (mOp yX (aa 0) (mC (.str "0123456789"))) [some (.str z),M4 M]=.ok (.lst .own ((sg z).map λc=>.bl (isD c))):=by
  refine aF (xs:=PR.j_ z) ?_ (by
   have:=bO z;show(z.cps.toList.map _).length<=_;rw[length_map];unfold sg at this
   lia) ?_
  .unfold kh;simp[AS ha]
  .refine aI (sg z) λc hc=>⟨[some (.str ⟨#[c]⟩)],?_,?_,by simp,by simp⟩
   .rfl
   .have:=G7 c (ha c hc);simp[yX,m9,this]
 have hz:fG (λz=>decide (z.length<=10000)) (λz=>.int z.length) (.str z)=.ok (.int (sg z).length):=by rw[<- bO];simp[fG,hl]
 refine az ?_ ();unfold okF;by_cases h1:0 <(sg z).length
 .by_cases h2:(sg z).length<=M
  .have e:((sg z).map λc=>PV.bl (isD c))=((sg z).map isD).map .bl:=by simp
   have hb:sD mH (.lst .own ((sg z).map λc=>PV.bl (isD c)))=.ok (.bl ((sg z).all isD)):=by rw[e];unfold sD;dsimp only;rw[xh];simp[mH]
   simp only[Dv,b6,aW,hc];simp[hz,h1,h2,hb]
  .simp[hz,h2]
 .simp[hz,h1]
def mV(h:env[i]?=some (some (.str z))):dN (aa i) (mC (.str y)) env=.ok (.bl (PySem.Txt.startswith z y)):=by unfold dN;simp only[bD,h];simp
def GO(z w:Str)(hz:∀c∈sg z,c<128)(hw:PyData.strOk w=true):pNe (.str z) (.str w)=.ok (.bl (decide (sg z≠sg w))):=by
 have e:PyData.eqv (PV.str z).data (PV.str w).data=decide (sg z=sg w):=by
  rw[Bool.eq_iff_iff,decide_eq_true_iff];constructor
  .intro h;have:z=w:=by simpa[PV.data,PyData.eqv]using h
   rw[this]
  .intro h;rw[dX h];simp[PV.data,PyData.eqv]
 have ok:PyData.strOk z=true:=by unfold PyData.strOk;rw[<- all_toList,all_eq_true];intro c hc;exact decide_eq_true (Nat.lt_trans (hz c hc) ())
 unfold pNe;rw[e];simp[shp,SeqAt.shaped,PV.data,PyData.canLay0,PyData.depth,ok,hw]
def Df{l:List Nat}(h:c∈fig l):c∈l:=by
 unfold fig at h;split at h
 .exact List.mem_of_mem_tail h
 .exact h
def Dg(l:List Nat):(fig l).length<=l.length:=by unfold fig;split<;>simp
def De(hl:z.length<=10000):∃y:Str,sg y=fig (sg z)/\fY (bz (dN (aa 0) (mC (.str "-")))) (ii (aa 0) (dy (M1 1)) bV) (aa 0) [some (.str z),none]=.ok (.str y):=by
 have hs:=mV (env:=[some (.str z),none]) (i:=0) (y:="-") rfl;rw[kR z 45 "-" ()]at hs;by_cases h:(sg z).head?=some 45
 .obtain⟨r,hr⟩:∃r,sg z=45::r:=by
   cases e:sg z with
   |nil=>rw[e]at h;cases h
   |cons c r=>rw[e]at h;simp at h;exact⟨r,by rw[h]⟩
  refine⟨PySem.Txt.slice z (some 1) none,by rw[Bu hr];unfold fig;rw[if_pos h,hr];rfl,?_⟩;unfold fY bz ii;simp[hs,h,hl]
 .refine⟨z,by unfold fig;rw[if_neg h],?_⟩;simp[hs,h]
def v_{n:Int}(hl:z.length<=640)(ha:∀c∈sg z,c<128)(hb:bad (sg z)=false)(hi:PySem.intText? z=some n):iC [.str z]=.ok (.int n):=by
 obtain⟨y,hy,hf⟩:=De (z:=z) ();have yl:y.length<=640:=by
  have:=Dg (sg z);rw[bO,hy];rw[bO]at hl
  lia
 have ho:=z_ (z:=y) 60 () λc hc=>ha c (Df ());rw[hy]at ho;have h0:∀e:En,e[1]?=some (some (.str y))->dN (aa 1) (mC (.str "0")) e=.ok (.bl (decide ((fig (sg z)).head?=some 48))):=λe he=>by rw[mV he,kR y 48 "0" (),hy]
 have hne:pNe (.str z) (.str "0")=.ok (.bl (decide (sg z≠[48]))):=by rw[GO z "0" ha (by decide +kernel)];rfl
 have h1:okF 60 (fig (sg z))=true:=by
  unfold bad at hb;cases q:okF 60 (fig (sg z))with
  |true=>rfl
  |false=>rw[q]at hb;simp at hb
 have h2:¬((fig (sg z)).head?=some 48/\sg z≠[48]):=λq=>by
  have:bad (sg z)=true:=by simp[bad,q]
  rw[this]at hb;cases hb
 rw[h1]at ho;have ho':tL [.str y,.int 60]=.ok (.bl true):=ho;refine am ?_;refine ac (aj hf) ?_;refine ac (aM (by simp[ho',ao]) ak) ?_;refine ac (aM ?_ ak) ?_
 .simp only[kN];unfold bz;rw[h0 _ rfl];by_cases q:(fig (sg z)).head?=some 48
  .have:sg z=[48]:=Classical.byContradiction λw=>h2 ⟨q,w⟩;simp[hne,this]
  .simp[q]
 .exact az (by simp[fG,hl,hi]) ()
def dg(m:Nat):List Nat:=(toDigits 10 m).map Char.toNat
def jw:∀m,m<10->dg m=[48+m]:=by decide
def vA{m:Nat}(h:¬m<10):dg m=dg (m / 10)++ [48+m%10]:=by have hm:m%10<10:=Nat.mod_lt m ();have t:toDigits 10 (m / 10)++ toDigits 10 (m%10)=toDigits 10 (10*(m / 10)+m%10):=Nat.toDigits_append_toDigits () () hm;rw[Nat.div_add_mod]at t;unfold dg;rw[<- t,map_append];have:=jw (m%10) hm;unfold dg at this;rw[this]
structure Mn(m:Nat):Prop where
 ne:dg m≠[]
 all:∀c∈dg m,48<=c/\c<=57
 hd:(dg m).head?=some 48->m=0
def Au(m:Nat):Mn m:=by
 induction m using Nat.strongRecOn with
 |_ m ih=>
  by_cases h:m<10
  .refine⟨?_,?_,?_⟩<;>rw[jw m h]
   .simp
   .grind
   .simp
  .obtain⟨h1,h2,h3⟩:=ih (m / 10) ();refine⟨?_,?_,?_⟩<;>rw[vA h]
   .simp
   .grind
   .intro e;cases q:dg (m / 10)with
    |nil=>exact absurd q h1
    |cons a r=>
     have:=h3 (by simp_all)
     lia
theorem Av:∀(k m:Nat),1<=k->m<10 ^ k->(dg m).length<=k
 |0,_,h,_=>absurd h ()
 |k+1,m,_,h=>by
  by_cases q:m<10
  .rw[jw m q];simp
  .rw[vA q,length_append];have:m / 10<10 ^ k:=by lia
   by_cases k0:k=0
   .lia
   .have:=Av k (m / 10) () this;simp
    lia
def WdN(l:List Nat):Prop:=∃d:List Nat,d≠[]/\(∀c∈d,48<=c/\c<=57)/\d.length<=60/\(d.head?=some 48->d=[48])/\(l=d \/(l=45::d/\d≠[48]))
def se(m:Nat):sg (PySem.Str.ofString (toString ((m:Nat):Int)))=dg m:=PySem.W.KIN.signs_num m
def Fe{m:Nat}(h:0<m):sg (PySem.Str.ofString (toString (-(m:Int))))=45::dg m:=by
 obtain⟨k,rfl⟩:∃k,m=k+1:=⟨m-1,by lia⟩
 unfold sg;rw[PyProof.Rows.signs_ofString];show("-"++Nat.repr (k+1)).toList.map Char.toNat=_;rw[String.toList_append,Nat.toList_repr,map_append];rfl
def JU{m:Nat}(h:m<10 ^ 60):dg m≠[]/\(∀c∈dg m,48<=c/\c<=57)/\(dg m).length<=60/\((dg m).head?=some 48->dg m=[48]):=by have o:=Au m;exact⟨o.ne,o.all,Av 60 m () h,λe=>by rw[o.hd e];rfl⟩
def qg{n:Int}(h:n.natAbs<10 ^ 60):WdN (sg (PySem.Str.ofString (toString n)))/\PySem.intText? (PySem.Str.ofString (toString n))=some n:=by
 obtain⟨w1,w2,w3,w4⟩:=JU h;by_cases q:0<=n
 .obtain⟨m,rfl⟩:=Int.eq_ofNat_of_zero_le q;have e:=se m;have e0:(m:Int).natAbs=m:=rfl;rw[e0]at w1 w2 w3 w4;refine⟨⟨dg m,w1,w2,w3,w4,.inl e⟩,?_⟩;have:=PySem.intText_digits (by show PySem.NumText.AllDigits (sg _);rw[e];exact w2) (by show sg _≠[];rw[e];exact w1) (by rw[bO,e];lia);rw[this];have v:PySem.NumText.digitsVal (sg (PySem.Str.ofString (toString ((m:Nat):Int))))=m:=by rw[e];exact PySem.W.KIN.val_back m
  unfold sg at v;rw[v]
 .obtain⟨m,rfl,m0⟩:∃m:Nat,n=-(m:Int)/\0<m:=⟨n.natAbs,by lia,by lia⟩
  have e:=Fe m0;have e0:(-(m:Int)).natAbs=m:=by lia
  rw[e0]at w1 w2 w3 w4;have n0:dg m≠[48]:=λz=>by
   have:=(Au m).hd (by rw[z];rfl)
   lia
  refine⟨⟨dg m,w1,w2,w3,w4,.inr ⟨e,n0⟩⟩,?_⟩;have:=PySem.intText_neg e w2 w1 (by rw[bO,e];simp;lia);rw[this];have v:PySem.NumText.digitsVal (dg m)=m:=PySem.W.KIN.val_back m;rw[v]
def zX(h:48<=c/\c<=57):isD c=true:=decide_eq_true h
def G9{l:List Nat}(h:WdN l):bad l=false:=by
 obtain⟨d,h1,h2,h3,h4,h5⟩:=h;have hd:d.head?≠some 45:=λe=>by
  cases d with
  |nil=>cases e
  |cons a r=>simp at e;have:=h2 a ();lia
 have ok:okF 60 d=true:=by have:0<d.length:=List.length_pos_iff.mpr h1;have al:d.all isD=true:=all_eq_true.mpr λc hc=>zX (h2 c hc);simp[okF,this,h3,al]
 rcases h5 with rfl |⟨rfl,h6⟩
 .have e:fig l=l:=by unfold fig;rw[if_neg hd]
  unfold bad;rw[e,ok];by_cases q:l.head?=some 48
  .simp[h4 q]
  .simp[q]
 .have e:fig (45::d)=d:=by unfold fig;simp
  unfold bad;rw[e,ok];by_cases q:d.head?=some 48
  .exact absurd (h4 q) h6
  .simp[q]
noncomputable def tn(n:Int):Str:=PySem.Str.ofString (toString n)
def Nm(n:Int):Prop:=n.natAbs<10 ^ 60
structure Nt(n:Int):Prop where
 len:(tn n).length<=61
 sgs:∀c∈sg (tn n),c=45 \/(48<=c/\c<=57)
 rd:iC [.str (tn n)]=.ok (.int n)
 st:cq (.int n)=.ok (.str (tn n))
def nt{n:Int}(h:Nm n):Nt n:=by
 obtain⟨w,i⟩:=qg h;have b:=G9 w;obtain⟨d,h1,h2,h3,h4,h5⟩:=w;have sgs:∀c∈sg (tn n),c=45 \/(48<=c/\c<=57):=λc hc=>by
  unfold tn at hc;rcases h5 with e |⟨e,_⟩<;>rw[e]at hc
  .exact .inr (h2 c hc)
  .rcases mem_cons.mp hc with q|q
   .exact .inl q
   .exact .inr (h2 c q)
 have len:(tn n).length<=61:=by
  rw[bO];unfold tn;rcases h5 with e |⟨e,_⟩<;>rw[e]
  .lia
  .simp;lia
 refine⟨len,sgs,v_ () (λc hc=>by have:=sgs c hc;lia) b i,?_⟩;have big:n.natAbs<2 ^ 1000:=Nat.lt_trans h ();unfold cq;dsimp only;rw[if_pos big];rfl
def y9{n:Int}(h:Nm n)(h0:0<=n):(∀c∈sg (tn n),48<=c/\c<=57):=by obtain⟨m,rfl⟩:=Int.eq_ofNat_of_zero_le h0;have e:sg (tn ((m:Nat):Int))=dg m:=se m;rw[e];exact(Au m).all
def wy(p:Int×Int):Str:=tn p.1++"-"++tn p.2
def pX:(" ":Str)=⟨#[32]⟩:=by decide +kernel
def Jk:("\n":Str)=⟨#[10]⟩:=by rfl
def Jm:("-":Str)=⟨#[45]⟩:=by rfl
def Jl{g:Str->PV->MM}(h:env[i]?=some (some (.str z))):mMt g (aa i) (mC v) env=g z v:=by unfold mMt;rw[bD,h];simp
def kS(hc:c<256){ls:MF}(h0:ls≠[])(hl:ls.length<=150)(hn:∀z∈ls,(∀d∈sg z,d≠c)/\z.length<=6000):eO (PySem.Txt.join ⟨#[c]⟩ ls) (.str ⟨#[c]⟩)=.ok (.lst .own (sL ls)):=by have hb:=f6 c 6000 ls λz hz=>(hn z hz).2;have e:PySem.Txt.join ⟨#[c]⟩ ls=Str.join ⟨#[c]⟩ ls:=StrLaws.glued_eq_join _ _;have hs:=rX c hc ls h0 λz hz=>(hn z hz).1;unfold eO;dsimp only;rw[if_pos ⟨rfl,by rw[e];lia⟩,hs];rfl
def oE{k:Int}(h:(xs.length:Int)=k):jr [.lst f xs,.int k]=.ok .non:=by
 refine m4 (e:=[some (.lst f xs),M4 k]) ?_;refine aM ?_ ak;have:(mapL Fl.MN xs).length=xs.length:=by
  clear h
  induction xs with
  |nil=>simp
  |cons x l ih=>simp[ih]
 simp[this,h]
def EQ{p:Int×Int}(h1:Nm p.1)(h2:Nm p.2)(p1':0<=p.1)(p2':0<=p.2):qQ [.str (wy p)]=.ok (prV p):=by
 have n1:=nt h1;have n2:=nt h2;have ej:wy p=PySem.Txt.join ⟨#[45]⟩ [tn p.1,tn p.2]:=by have:PySem.Txt.join ⟨#[45]⟩ [tn p.1,tn p.2]=Str.join ⟨#[45]⟩ [tn p.1,tn p.2]:=StrLaws.glued_eq_join _ _;unfold wy;rfl
 have hs:eO (wy p) (.str "-")=.ok (.lst .own (sL [tn p.1,tn p.2])):=by
  rw[ej,Jm];refine kS () () () λz hz=>?_;rcases mem_cons.mp hz with rfl|hz
  .exact⟨λd hd=>by have:=y9 h1 p1' d hd;lia,by have:=n1.len;lia⟩
  .rw[mem_singleton.mp hz];exact⟨λd hd=>by have:=y9 h2 p2' d hd;lia,by have:=n2.len;lia⟩
 refine am ?_;show EA [some (.str (wy p)),none]=_;refine ac (aj (by exact hs)) ?_;have rc:jr [.lst .bor (sL [tn p.1,tn p.2]),.int 2]=.ok .non:=oE rfl;refine ac (cD (v:=.non) (by simp[rc,ao])) ?_;have i0:ah (.lst .lnt (sL [tn p.1,tn p.2])) (.int 0)=.ok (.str (tn p.1)):=rfl;have i1:ah (.lst .lnt (sL [tn p.1,tn p.2])) (.int 1)=.ok (.str (tn p.2)):=rfl;exact az (by simp[i0,i1,n1.rd,n2.rd];rfl) ()
def dgt(f:MB):Str:=PySem.Txt.join "" (f.map tn)
def Fg(f:MB):Prop:=1<=f.length/\f.length<=64/\∀d∈f,0<=d/\d<=9
def xA{d:Int}(h0:0<=d)(h9:d<=9):sg (tn d)=[48+d.toNat]:=by obtain⟨m,rfl⟩:=Int.eq_ofNat_of_zero_le h0;have e:sg (tn ((m:Nat):Int))=dg m:=se m;rw[e,jw m ()];rfl
def yc:∀{f:MB},(∀d∈f,0<=d/\d<=9)->sg (dgt f)=f.map λd=>48+d.toNat:=by
 intro f;have e:dgt f=Str.join "" (f.map tn):=StrLaws.glued_eq_join _ _;rw[e];clear e;have e0:sg ("":Str)=[]:=by rfl
 induction f with
 |nil=>intro _;exact e0
 |cons d f ih=>
  intro h;have hd:=xA (h d ()).1 (h d ()).2;cases f with
  |nil=>show sg (tn d)=_;rw[hd];rfl
  |cons d' f=>have ih':=ih λx hx=>h x (by grind);show sg (tn d++""++Str.join "" ((d'::f).map tn))=_;rw[bv,bv,hd,e0,ih'];rfl
def lT{f:MB}(h:Fg f):qW [.str (dgt f)]=.ok (M2 f):=by
 obtain⟨l1,l64,hf⟩:=h;have e:=yc hf;have lz:(dgt f).length=f.length:=by rw[bO,e];simp
 have asc:∀c∈sg (dgt f),c<128:=λc hc=>by grind
 have ho:=z_ 64 () asc;have ok:okF 64 (sg (dgt f))=true:=by
  unfold okF;have al:(sg (dgt f)).all isD=true:=by rw[e,all_eq_true];intro c hc;obtain⟨d,hd,rfl⟩:=mem_map.mp hc;have:=hf d hd;exact zX ()
  rw[al,<- bO,lz];simp
  lia
 rw[ok]at ho;have ho':tL [.str (dgt f),.int 64]=.ok (.bl true):=ho;refine am ?_;refine ac (aM (by simp[ho',ao]) ak) (az ?_);have hsg:PR.j_ (dgt f)=f.map λd=>PV.str (tn d):=by unfold PR.j_;have e':(dgt f).cps.toList=f.map λd=>48+d.toNat:=e;rw[e',List.map_map];refine List.map_congr_left λd hd=>?_;have:=xA (hf d hd).1 (hf d hd).2;show PV.str _=PV.str _;congr 1;refine(dX ?_).symm;rw[this];rfl
 refine aF (xs:=PR.j_ (dgt f)) ?_ (by grind) ?_
 .unfold kh;simp[AS asc]
 .rw[hsg];refine aI f λd hd=>⟨[some (.str (tn d))],?_,?_,by simp,by simp⟩
  .rfl
  .have hN:Nm d:=by
    have h9:d.natAbs<=9:=by grind
    exact Nat.lt_of_le_of_lt h9 ()
   have hi:=(qg hN).2;have hl:=(nt hN).len;have hl':(tn d).length<=640:=by lia
   have hi':PySem.intText? (tn d)=some d:=hi;simp[fG,hl',hi']
inductive Sd
 |row (h:Str) (ns:MB)
 |net (n:Int) (ps:Mx)
 |num (h:Str) (ns:MB)
 |tab (a b:Int) (w:Str) (f o:MB)
 |lk (b:Bool)
def uh:MF:=["count","lead","state","turn"]
noncomputable def jd:List (Str×Nat):=[("pass",2),("paint",0),("far",1),("grow",1),("spoil",2),("may",0),("measure",0)]
def SOk:Sd->Prop
 |.row h ns=>h∈uh/\ns.length<=9/\∀n∈ns,Nm n
 |.net n ps=>Nm n/\ps.length<=9/\∀p∈ps,(Nm p.1/\0<=p.1)/\Nm p.2/\0<=p.2
 |.num h ns=>(h,ns.length)∈ jd/\∀n∈ns,Nm n
 |.tab a b w f o=>Nm a/\Nm b/\(w="none"\/w="one")/\Fg f/\Fg o
 |.lk _=>True
def pvS(g:Fl):Sd->PV
 |.row h ns=>.tup [.str h,.lst g (iL ns)]
 |.net n ps=>.tup [.str "net",.int n,.lst g (prL ps)]
 |.num h ns=>.tup (.str h::iL ns)
 |.tab a b w f o=>.tup [.str "table",.int a,.int b,.str w,.lst g (iL f),.lst g (iL o)]
 |.lk b=>.tup [.str "look",.bl b]
def cz:Sd->MF
 |.row h ns=>h::ns.map tn
 |.net n ps=>"net" :: tn n::ps.map wy
 |.num h ns=>h::ns.map tn
 |.tab a b w f o=>["table",tn a,tn b,w,dgt f,dgt o]
 |.lk b=>"look" :: if b then ["many"]else []
def line(s:Sd):Str:=PySem.Txt.join ⟨#[32]⟩ (cz s)
def Wc(z:Str):Prop:=(∀c∈sg z,c≠32/\c≠10)/\z.length<=130
def wcB(z:Str):Bool:=(sg z).all (λc=>decide (c≠32)&&decide (c≠10))&&decide (z.length<=130)
def kP(h:wcB z=true):Wc z:=by simp only[wcB,and_eq_true,all_eq_true,decide_eq_true_eq]at h;exact h
def pP{n:Int}(h:Nm n):Wc (tn n):=by have t:=nt h;exact⟨λc hc=>by have:=t.sgs c hc;lia,by have:=t.len;lia⟩
def DZ{p:Int×Int}(h1:Nm p.1)(h2:Nm p.2):Wc (wy p):=by
 have t1:=nt h1;have t2:=nt h2;have l1:("-":Str).length=1:=by decide +kernel
 have s1:sg ("-":Str)=[45]:=by decide +kernel
 refine⟨λc hc=>?_,?_⟩
 .unfold wy at hc;rw[bv,bv,s1]at hc;simp only[mem_append,mem_singleton]at hc;rcases hc with(hc|hc)|hc
  .have:=t1.sgs c hc;lia
  .lia
  .have:=t2.sgs c hc;lia
 .unfold wy;rw[kO,kO,l1];have:=t1.len;have:=t2.len
  lia
def oq{f:MB}(h:Fg f):Wc (dgt f):=by
 have e:=yc h.2.2;refine⟨λc hc=>?_,by rw[bO,e];simp;have:=h.2.1;lia⟩;rw[e]at hc;obtain⟨d,hd,rfl⟩:=mem_map.mp hc
 lia
def A4:uh.all wcB=true:=by rfl
def A5:(jd.map (·.1)).all wcB=true:=by rfl
def d9{s:Sd}(h:SOk s):(cz s≠[]/\(cz s).length<=11)/\∀z∈cz s,Wc z:=by
 cases s with
 |row hd ns=>
  obtain⟨h1,h2,h3⟩:=h;refine⟨⟨by simp[cz],by simp[cz];lia⟩,λz hz=>?_⟩;rcases mem_cons.mp hz with rfl|hz
  .exact kP (all_eq_true.mp A4 _ h1)
  .obtain⟨n,hn,rfl⟩:=mem_map.mp hz;exact pP (h3 n hn)
 |net n ps=>
  obtain⟨h1,h2,h3⟩:=h;refine⟨⟨by simp[cz],by simp[cz];lia⟩,λz hz=>?_⟩;rcases mem_cons.mp hz with rfl|hz
  .exact kP (by decide +kernel)
  .rcases mem_cons.mp hz with rfl|hz
   .exact pP h1
   .obtain⟨p,hp,rfl⟩:=mem_map.mp hz;exact DZ (h3 p hp).1.1 (h3 p hp).2.1
 |num hd ns=>
  obtain⟨h1,h3⟩:=h;have l2:ns.length<=2:=by
   have:(jd.all λq=>decide (q.2<=2))=true:=by decide +kernel
   exact of_decide_eq_true (all_eq_true.mp this _ h1)
  refine⟨⟨by simp[cz],by simp[cz];lia⟩,λz hz=>?_⟩;rcases mem_cons.mp hz with rfl|hz
  .exact kP (all_eq_true.mp A5 _ (mem_map.mpr ⟨_,h1,rfl⟩))
  .obtain⟨n,hn,rfl⟩:=mem_map.mp hz;exact pP (h3 n hn)
 |tab a b w f o=>
  obtain⟨h1,h2,h3,h4,h5⟩:=h;refine⟨⟨by simp[cz],by simp[cz]⟩,λz hz=>?_⟩;simp only[cz,mem_cons,not_mem_nil,or_false]at hz;rcases hz with rfl|rfl|rfl|rfl|rfl|rfl
  .exact kP (by decide +kernel)
  .exact pP h1
  .exact pP h2
  .rcases h3 with rfl|rfl<;>exact kP (by decide +kernel)
  .exact oq h4
  .exact oq h5
 |lk b=>
  refine⟨⟨by simp[cz],by cases b<;>simp[cz]⟩,λz hz=>?_⟩;cases b with
  |true=>
   simp only[cz,if_true,mem_cons,not_mem_nil,or_false]at hz;rcases hz with rfl|rfl<;>exact kP (by decide +kernel)
  |false=>simp only[cz,Bool.false_eq_true,if_false,mem_cons,not_mem_nil,or_false]at hz;rw[hz];exact kP (by decide +kernel)
theorem lJ(k:Nat):∀(ls:MF) (c:Nat),c∈sg (Str.join ⟨#[k]⟩ ls)->c=k\/∃z∈ls,c∈sg z
 | [],c,h=>by cases h
 | [z],c,h=>.inr ⟨z,by simp,h⟩
 |z::y::r,c,h=>by
  have e:sg (Str.join ⟨#[k]⟩ (z::y::r))=sg z ++([k]++ sg (Str.join ⟨#[k]⟩ (y::r))):=by show sg (z ++⟨#[k]⟩++ Str.join ⟨#[k]⟩ (y::r))=_;rw[bv,bv,List.append_assoc];rfl
  rw[e]at h;rcases mem_append.mp h with h|h
  .grind
  .rcases mem_append.mp h with h|h
   .grind
   .rcases lJ k (y::r) c h with q |⟨x,hx,q⟩
    .exact .inl q
    .grind
def oU{s:Sd}(h:SOk s):(∀c∈sg (line s),c≠10)/\(line s).length<=6000:=by
 obtain⟨⟨w0,w6⟩,wz⟩:=d9 h;have e:line s=Str.join ⟨#[32]⟩ (cz s):=StrLaws.glued_eq_join _ _;refine⟨λc hc=>?_,?_⟩
 .rw[e]at hc;rcases lJ 32 _ c hc with q |⟨z,hz,q⟩
  .lia
  .exact((wz z hz).1 c q).2
 .rw[e];have:=f6 32 130 (cz s) λz hz=>(wz z hz).2
  lia
def sT{s:Sd}(h:SOk s):eO (line s) (.str " ")=.ok (.lst .own (sL (cz s))):=by obtain⟨⟨w0,w6⟩,wz⟩:=d9 h;exact kS () w0 () λz hz=>⟨λd hd=>((wz z hz).1 d hd).1,by have:=(wz z hz).2;lia⟩
noncomputable def isB(x:MM)(r:Bool):Bool:=match x with
 |.ok (.bl b)=>b==r
 |_=>false
def aG{x:MM}{r:Bool}(h:isB x r=true):x=.ok (.bl r):=by
 unfold isB at h;split at h
 .rw[eq_of_beq h]
 .cases h
def isS(x:MM)(z:Str):Bool:=match x with
 |.ok (.str y)=>y==z
 |_=>false
def oX{x:MM}(h:isS x z=true):x=.ok (.str z):=by
 unfold isS at h;split at h
 .rw[eq_of_beq h]
 .cases h
def gF{sep:Str}{ls:MF}(hs:sep.length<=10)(hl:ls.length<=100)(hn:∀z∈ls,z.length<=6000)(hm:m env=.ok (.lst f (sL ls))):mMt ef (mC (.str sep)) m env=.ok (.str (PySem.Txt.join sep ls)):=by
 unfold mMt;rw[gQ,hm];simp;unfold ef;dsimp only;rw[ug];dsimp only;unfold JoinOk;rw [StrLaws.joinFits hn (by
  have:ls.length*sep.length<=100*10:=Nat.mul_le_mul hl hs
  lia)]
 rfl
def ie(hN:∀n∈ns,Nm n)(hl:ns.length<=1000)(hm:(m env).bind ux=.ok (iL ns)):ay [] 1 (aK m) (tgN 0) aH (af (p1 cq) (ab (aa 0) ae)) env=.ok (.lst .own (sL (ns.map tn))):=by
 refine aF (by exact hm) (by simp;lia) ?_;have e:sL (ns.map tn)=ns.map λn=>PV.str (tn n):=by simp[sL]
 rw[e];refine aI ns λn hn=>⟨[M4 n],by rfl,?_,by simp,by simp⟩
 have t:=(nt (hN n hn)).st;simp[t]
def jM{g:Fl}{ys:MF}(hf:f≠.mod)(hg:g≠.mod)(h:zs.length+ys.length<=1000):aJ (.lst f (sL zs)) (.lst g (sL ys))=.ok (.lst .own (sL (zs++ys))):=by rw[fU hf hg (by simp;lia)];simp[sL]
def lx(hN:∀n∈ns,Nm n)(hl:ns.length<=1000):qY [.lst f (sL (ns.map tn))]=.ok (M2 ns):=by
 refine am ?_;show EK [some (.lst f (sL (ns.map tn)))]=_;refine az ?_ ();unfold ay;have e:sL (ns.map tn)=ns.map λn=>PV.str (tn n):=by simp[sL]
 have i:aK (aa 0) [some (.lst f (sL (ns.map tn)))]=.ok (ns.map λn=>PV.str (tn n)):=by rw[<- e];simp
 rw[i];simp;rw[if_pos (),aI (f:=λn=>PV.int n) ns λn hn=>⟨[some (.str (tn n))],by rfl,?_,by simp,by simp⟩]
 .rfl
 .have t:=(nt (hN n hn)).rd;simp[t,ao]
def GM{n:Int}(h:SOk (.net n ps)):uR [.lst f (sL (tn n::ps.map wy))]=.ok (pvS .own (.net n ps)):=by
 obtain⟨h1,h2,h3⟩:=h;refine am ?_;show Ew [some (.lst f (sL (tn n::ps.map wy)))]=_;refine ac (aM (by simp;lia) ak) (az ?_ (by simp[pvS]));have i0:ah (.lst f.MN (sL (tn n::ps.map wy))) (.int 0)=.ok (.str (tn n)):=dB () rfl;have t:=(nt h1).rd;have c:gL (sL (tn n::ps.map wy)) (some 1) none=sL (ps.map wy):=g_ _ 1 ();have e:sL (ps.map wy)=ps.map λp=>PV.str (wy p):=by simp[sL]
 have w:ay [] 1 (aK (cP (aa 0) (dy (M1 1)) bV)) (tgN 0) (aH) (af (aq qQ) (ab (aa 0) ae)) [some (.lst f (sL (tn n::ps.map wy)))]=.ok (.lst .own (prL ps)):=by
  unfold ay;have i:aK (cP (aa 0) (dy (M1 1)) bV) [some (.lst f (sL (tn n::ps.map wy)))]=.ok (ps.map λp=>PV.str (wy p)):=by rw[<- e,<- c];simp
  rw[i];simp;rw[if_pos (),aI (f:=prV) ps λp hp=>⟨[some (.str (wy p))],by rfl,?_,by simp,by simp⟩]
  .rfl
  .have t:=EQ (h3 p hp).1.1 (h3 p hp).2.1 (h3 p hp).1.2 (h3 p hp).2.2;simp[t,ao]
 simp only[gJ,aW,w];simp[i0,t,ao,pvS]
def xG{w:Str}{u o:MB}(h:SOk (.tab a b w u o)):u0 [.lst f (sL [tn a,tn b,w,dgt u,dgt o])]=.ok (pvS .own (.tab a b w u o)):=by
 obtain⟨h1,h2,h3,h4,h5⟩:=h;generalize hL:sL [tn a,tn b,w,dgt u,dgt o]=l;have lm:∀g:Fl->Fl,mapL g l=l:=λg=>by rw[<- hL];simp
 have ll:l.length=5:=by rw[<- hL];rfl
 have i0:ah (.lst f.MN l) (.int 0)=.ok (.str (tn a)):=by rw[<- hL];exact dB () rfl
 have i1:ah (.lst f.MN l) (.int 1)=.ok (.str (tn b)):=by rw[<- hL];exact dB () rfl
 have i2:ah (.lst f.MN l) (.int 2)=.ok (.str w):=by rw[<- hL];exact dB () rfl
 have i3:ah (.lst f.MN l) (.int 3)=.ok (.str (dgt u)):=by rw[<- hL];exact dB () rfl
 have i4:ah (.lst f.MN l) (.int 4)=.ok (.str (dgt o)):=by rw[<- hL];exact dB () rfl
 have rc:jr [.lst f.MN.MP l,.int 5]=.ok .non:=oE (by rw[ll];rfl);have nn:bW (.str w) (.tup [.str "none",.str "one"])=.ok (.bl false):=by rcases h3 with rfl|rfl<;>exact aG (by decide +kernel)
 have ta:=(nt h1).rd;have tb:=(nt h2).rd;have e1:=lT h4;have e2:=lT h5;refine am ?_;refine ac (cD (v:=.non) (by simp[lm,rc,ao])) ?_;refine ac (aM (by simp[lm,i2,nn]) ak) ?_;refine ac (aj (v:=.int a) (by simp[lm,i0,ta,ao])) ?_;refine ac (aj (v:=.int b) (by simp[lm,i1,tb,ao])) ?_;exact az (by simp[lm,i2,i3,i4,e1,e2,ao,pvS]) (by simp[pvS])
def Ju(b:Bool):uY [.lst f (sL (if b then ["many"]else []))]=.ok (pvS .own (.lk b)):=by
 refine am ?_;show ED [some (.lst f (sL (if b then ["many"]else [])))]=_;have d:∀g:Fl,(PV.lst g (sL (if b then ["many"]else []))).data=(PV.lst .own (sL (if b then ["many"]else []))).data:=λg=>by simp[PV.data]
 have sh:∀g:Fl,shp (.lst g (sL (if b then ["many"]else [])))=true:=λg=>by unfold shp;rw[d g];cases b<;>decide +kernel
 have eq1:∀(g:Fl) (zs:MF),shp (.lst .own (sL zs))=true->pNe (.lst g (sL (if b then ["many"]else []))) (.lst .own (sL zs))=.ok (.bl (!PyData.eqv (PV.lst .own (sL (if b then ["many"]else []))).data (PV.lst .own (sL zs)).data)):=λg zs hz=>by unfold pNe;rw[sh g,hz,d g];rfl
 have eq2:∀(g:Fl) (zs:MF),shp (.lst .own (sL zs))=true->pEq (.lst g (sL (if b then ["many"]else []))) (.lst .own (sL zs))=.ok (.bl (PyData.eqv (PV.lst .own (sL (if b then ["many"]else []))).data (PV.lst .own (sL zs)).data)):=λg zs hz=>by unfold pEq;rw[sh g,hz,d g];rfl
 have n1:∀g,pNe (.lst g (sL (if b then ["many"]else []))) (.lst .own [])=.ok (.bl b):=λg=>by rw[show([]:ML)=sL []from rfl,eq1 g [] (by decide +kernel)];cases b<;>congr 2<;>decide +kernel
 have n2:∀g,pNe (.lst g (sL (if b then ["many"]else []))) (.lst .own [.str "many"])=.ok (.bl !b):=λg=>by rw[show [PV.str "many"]=sL ["many"]from rfl,eq1 g ["many"] (by decide +kernel)];cases b<;>congr 2<;>decide +kernel
 have n3:∀g,pEq (.lst g (sL (if b then ["many"]else []))) (.lst .own [.str "many"])=.ok (.bl b):=λg=>by rw[show [PV.str "many"]=sL ["many"]from rfl,eq2 g ["many"] (by decide +kernel)];cases b<;>congr 2<;>decide +kernel
 refine ac (aM ?_ ak) (az ?_ (by simp[pvS]))
 .simp only[kN,jt,cH,bD,j3,bG,aW,gQ,getElem?_cons_zero,aU,aY,kW,Res.M0,n1,n2,Gs];cases b<;>rfl
 .simp only[gJ,aW,bG,cH,bD,j3,gQ,getElem?_cons_zero,aU,aY,kW,Res.M0,n3,pvS]
noncomputable abbrev KV:List (Str×Int):=[("pass",(2)),("paint",(0)),("far",(1)),("grow",(1)),("spoil",(2)),("may",(0)),("measure",(0))]
def GY:jd.all (λq=>PR.look KV q.1==some (q.2:Int))=true:=by rfl
def GX:uh.all (λh=>(PR.look KV h).isNone&&isB (pIn (.str h) (.tup [.str "count",.str "lead",.str "state",.str "turn"])) true)=true:=by decide +kernel
def wI{s:Sd}(h:SOk s):uU [.str (line s)]=.ok (pvS .own s):=by
 have hs:=sT h;obtain⟨⟨w0,w6⟩,wz⟩:=d9 h;obtain⟨hd,tl,hw⟩:∃hd tl,cz s=hd::tl:=by
  cases e:cz s with
  |nil=>exact absurd e w0
  |cons a b=>exact⟨a,b,rfl⟩
 rw[hw]at hs;have tl5:tl.length+1<=11:=by grind
 have i0:ah (.lst .lnt (sL (hd::tl))) (.int 0)=.ok (.str hd):=dB () rfl;have c:gL (sL (hd::tl)) (some 1) none=sL tl:=g_ _ 1 ();refine am ?_;refine ac (aj (by exact hs)) ?_;refine ac (aj (v:=.str hd) (by simp[i0])) ?_;refine ac (aj (v:=.lst .own (sL tl)) (by simp[c])) ?_;simp;have kin:∀{r:Bool}{env:En},env[2]?=some (some (.str hd))->(PR.look KV hd).isSome=r->ai (mUn (m_ KV) (aa 2)) env=.ok r:=λ{r env} he hr=>by simp only[jt,JR,bD,he,aU,et,Res.M0];unfold m_;dsimp only;rw[hr];rfl
 cases s with
 |num h' ns=>
  obtain⟨rfl,rfl⟩:h'=hd/\ns.map tn=tl:=by have:h'::ns.map tn=hd::tl:=hw;exact⟨List.cons.inj this |>.1,List.cons.inj this |>.2⟩
  obtain⟨h1,h3⟩:=h;have kv:=eq_of_beq (all_eq_true.mp GY _ h1);have kv':PR.look KV h'=some (ns.length:Int):=kv;refine bp (cU (kin rfl (by rw[kv'];rfl)) ?_);have gd:iq KV (.str h')=.ok (.int ns.length):=by unfold iq;dsimp only;rw[kv']
  have rc:jr [.lst .bor (sL (ns.map tn)),.int ns.length]=.ok .non:=oE ();have rn:=lx (f:=.bor) h3 (by grind);refine ac (cD (v:=.non) (by simp[gd,rc,ao])) (az ?_ (by simp[pvS]));have pl:aJ (.lst .own [.str h']) (M2 ns)=.ok (.lst .own (.str h'::iL ns)):=by rw[fU () () (by simp at tl5 ⊢;lia)];rfl
  simp[rn,ao,pl,cX,aV,pvS]
 |row h' ns=>
  obtain⟨rfl,rfl⟩:h'=hd/\ns.map tn=tl:=by have:h'::ns.map tn=hd::tl:=hw;exact⟨List.cons.inj this |>.1,List.cons.inj this |>.2⟩
  obtain⟨h1,h2,h3⟩:=h;have kv:=all_eq_true.mp GX _ h1;simp at kv;have q:=aG kv.2;refine ac (aM (kin rfl (by grind)) ak) ?_;have rn:=lx (f:=.bor) h3 ();refine bp (cU (by simp[q]) (az ?_ (by simp[pvS])));simp[rn,ao,pvS]
 |net n ps=>
  obtain⟨rfl,rfl⟩:(("net":Str))=hd/\tn n::ps.map wy=tl:=by have:("net":Str)::tn n::ps.map wy=hd::tl:=hw;exact⟨List.cons.inj this |>.1,List.cons.inj this |>.2⟩
  have q2:pIn (.str "net") (.tup [.str "count",.str "lead",.str "state",.str "turn"])=.ok (.bl false):=aG (by decide +kernel);have q3:pEq (.str "net") (.str "net")=.ok (.bl true):=aG (by decide +kernel);have rn:=GM (f:=.bor) h;have nb:(pvS .own (.net n ps)).has Fl.MW=false:=by simp[pvS]
  refine ac (aM (kin rfl (by rfl)) ak) (ac (aM (by simp[q2]) ak) (bp (cU (by simp[q3]) (az ?_ (by simp[pvS])))));simp[rn,ao,nb]
 |tab a b w f o=>
  obtain⟨rfl,rfl⟩:(("table":Str))=hd/\[tn a,tn b,w,dgt f,dgt o]=tl:=by have:("table":Str)::[tn a,tn b,w,dgt f,dgt o]=hd::tl:=hw;exact⟨List.cons.inj this |>.1,List.cons.inj this |>.2⟩
  have q2:pIn (.str "table") (.tup [.str "count",.str "lead",.str "state",.str "turn"])=.ok (.bl false):=aG (by decide +kernel);have q3:pEq (.str "table") (.str "net")=.ok (.bl false):=aG (by decide +kernel);have q4:pEq (.str "table") (.str "table")=.ok (.bl true):=aG (by decide +kernel);have rn:=xG (f:=.bor) h;have nb:(pvS .own (.tab a b w f o)).has Fl.MW=false:=by simp[pvS]
  refine ac (aM (kin rfl (by rfl)) ak) (ac (aM (by simp[q2]) ak) (ac (aM (by simp[q3]) ak) (bp (cU (by simp[q4]) (az ?_ (by simp[pvS]))))));simp[rn,ao,nb]
 |lk b=>
  obtain⟨rfl,rfl⟩:(("look":Str))=hd/\(if b then(["many"]:MF)else [])=tl:=by have:("look":Str)::(if b then(["many"]:MF)else [])=hd::tl:=hw;exact⟨List.cons.inj this |>.1,List.cons.inj this |>.2⟩
  have q2:pIn (.str "look") (.tup [.str "count",.str "lead",.str "state",.str "turn"])=.ok (.bl false):=aG (by decide +kernel);have q3:pEq (.str "look") (.str "net")=.ok (.bl false):=aG (by decide +kernel);have q4:pEq (.str "look") (.str "table")=.ok (.bl false):=aG (by decide +kernel);have q5:pEq (.str "look") (.str "look")=.ok (.bl true):=aG (by decide +kernel);have rn:=Ju (f:=.bor) b;have nb:(pvS .own (.lk b)).has Fl.MW=false:=by simp[pvS]
  refine ac (aM (kin rfl (by rfl)) ak) (ac (aM (by simp[q2]) ak) (ac (aM (by simp[q3]) ak) (ac (aM (by simp[q4]) ak) (bp (cU (by simp[q5]) (az ?_ (by simp[pvS])))))));simp only[b6,aW,bG,bD,getElem?_cons_zero,getElem?_cons_succ,aU,aY,kW,lI,Res.M0,cJ,bh,bS,mQ,rn];simp[ao,nb]
def gu(g:Fl->Fl)(f:Fl)(s:Sd):(pvS f s).MY g=pvS (g f) s:=by cases s<;>simp[pvS]
theorem qv{α:Type}{a b:α->PV}:∀(l:List α),(∀x∈l,(a x).MY g=b x)->mapL g (l.map a)=l.map b
 | [],_=>by simp
 |x::l,h=>by rw[map_cons,bh,h x (),qv l λy hy=>h y (by simp[hy])];rfl
theorem qH:∀(l:ML),(∀x∈l,x.has p=false)->hasL p l=false
 | [],_=>by simp
 |x::l,h=>by rw[nD,h x (),qH l λy hy=>h y (by simp[hy])];rfl
def q_(g:Fl->Fl)(f:Fl)(ss:List Sd):mapL g (ss.map (pvS f))=ss.map (pvS (g f)):=qv ss λs _=>gu g f s
def gv(p:Fl->Bool)(f:Fl)(hp:p f=false)(s:Sd):(pvS f s).has p=false:=by cases s<;>simp[pvS,hp]
def g8(p:Fl->Bool)(f:Fl)(hp:p f=false)(ss:List Sd):hasL p (ss.map (pvS f))=false:=qH _ λx hx=>by obtain⟨s,_,rfl⟩:=mem_map.mp hx;exact gv p f hp s
def yx{ss:List Sd}(h0:ss≠[])(hl:ss.length<=100)(h:∀s∈ss,SOk s):uW [.str (PySem.Txt.join ⟨#[10]⟩ (ss.map line))]=.ok (.lst .own (ss.map (pvS .own))):=by
 refine am ?_;show EC [some (.str (PySem.Txt.join ⟨#[10]⟩ (ss.map line)))]=_;have nl:=g8 Fl.MV .own rfl ss;refine az ?_ (by simp[nl]);unfold ay;have hs:eO (PySem.Txt.join ⟨#[10]⟩ (ss.map line)) (.str "\n")=.ok (.lst .own (sL (ss.map line))):=by refine kS () (by simp[h0]) (by simp;lia) λz hz=>?_;obtain⟨s,hs,rfl⟩:=mem_map.mp hz;exact oU (h s hs)
 have i:aK (mMt eO (aa 0) (mC (.str "\n"))) [some (.str (PySem.Txt.join ⟨#[10]⟩ (ss.map line)))]=.ok (ss.map λs=>PV.str (line s)):=by rw[Du,Jl rfl,hs];simp[sL]
 rw[i];simp;rw[if_pos (),aI (f:=pvS .own) ss λs hs=>⟨[some (.str (line s))],by rfl,?_,gv _ _ rfl s,gv _ _ rfl s⟩]
 .have t:=wI (h s hs);have nb:=gv Fl.MW .own rfl s;simp[t,ao,nb]
noncomputable def kd:Sd->Str
 |.row h _=>h
 |.net _ _=>"net"
 |.num h _=>h
 |.tab _ _ _ _ _=>"table"
 |.lk _=>"look"
def xZ:uh.all (λz=>shp (.str z))=true:=by decide +kernel
def x_:jd.all (λq=>shp (.str q.1))=true:=by decide +kernel
def sd:shp (.str "table")=true/\shp (.str "look")=true/\shp (.str "net")=true:=by decide +kernel
def sW{s:Sd}(h:SOk s):shp (.str (kd s))=true:=by
 cases s with
 |row hd ns=>exact all_eq_true.mp xZ _ h.1
 |num hd ns=>exact all_eq_true.mp x_ _ h.1
 |tab _ _ _ _ _=>exact sd.1
 |lk _=>exact sd.2.1
 |net _ _=>exact sd.2.2
def yE(g:Fl)(s:Sd):ah (pvS g s) (.int 0)=.ok (.str (kd s)):=by cases s<;>exact aX rfl rfl rfl
def FO{a b:Str}(ha:shp (.str a)=true)(hb:shp (.str b)=true):pEq (.str a) (.str b)=.ok (.bl (decide (a=b)))/\pNe (.str a) (.str b)=.ok (.bl (!decide (a=b))):=by
 have:PyData.eqv (PV.str a).data (PV.str b).data=decide (a=b):=by rfl
 constructor
 .unfold pEq;rw[ha,hb,this];rfl
 .unfold pNe;rw[ha,hb,this];rfl
def Ef{a:Str}(ha:shp (.str a)=true)(h:∀z∈zs,shp (.str z)=true)(hm:a∈zs):bW (.str a) (.tup (sL zs))=.ok (.bl false):=by
 unfold bW;simp only[aV];have h1:(sL zs).all shp=true:=all_eq_true.mpr λv hv=>by obtain⟨z,hz,rfl⟩:=mem_map.mp hv;exact h z hz
 have h2:inL (.str a) (sL zs)=true:=by unfold inL sL;rw[List.any_map,any_eq_true];exact⟨a,hm,by simp[PV.data,PyData.eqv]⟩
 rw[ha,h1,h2];rfl
noncomputable def sI:MF:=["paint","far","lead","grow"]
noncomputable def AG:MF:=["pass","count","table"]
noncomputable def doi:MF:=["turn","spoil","may","measure","look"]
def GP:(sI++AG++doi ++(["net","state"]:MF)).all (λz=>shp (.str z))=true:=by decide +kernel
def nh(h:z∈sI++AG++doi ++(["net","state"]:MF)):shp (.str z)=true:=all_eq_true.mp GP z h
def rsN(k:Str):MF:=if k="net" then sI else AG
structure Tx(A:List Sd)(s:Sd)(r:List Sd):Prop where
 ok:∀y∈A++s::r,SOk y
 len:(A++s::r).length<=100
 fst:∃a A' A2 b,A=a::A'/\A.length=(if kd a="net" then 2 else 1)/\A=A2++[b]/\kd b∈rsN (kd a)
 st:kd s="state"
 dos:∀y∈r,kd y∈doi
def Fz(o:PV):Prop:=o.MY Fl.MN=o/\o.MY Fl.MP=o/\o.MY Fl.MQ=o
def Nw(f:Fl):Prop:=f.MQ=.frz/\f.MV=false/\f.MW=false
def Stp(o:PV)(cs:MB)(y:Sd)(cs':MB)(z:Str):Prop:=∃(f g:Fl) (dn:MB),Nw f/\Nw g/\nQ [o,M3 .frz cs,pvS .frz y]=.ok (.tup [M3 f dn,M3 g cs'])/\qM [o,.tup [M3 .frz dn,M3 .frz cs'],pvS .frz y]=.ok (.str z)
inductive jC(o:PV):MB->List Sd->MF->Prop
 |nil {a:MB}:jC o a [] []
 |cons {a b:MB}{l:List Sd}{y:Sd}{z:Str}{t:MF}:Stp o a y b z->jC o b l t->jC o a (y::l) (z::t)
section
variable{A r:List Sd}{s:Sd}
abbrev ftx(A r:List Sd)(s:Sd):ML:=(A++s::r).map (pvS .frz)
def jY(h:g .frz=.frz)(ss:List Sd):mapL g (ss.map (pvS .frz))=ss.map (pvS .frz):=by rw[q_,h]
def yF{ss:List Sd}{z:Sd}(hz:ss[i]?=some z)(f:Fl):ah (.lst f (ss.map (pvS .frz))) (.int i)=.ok (pvS .frz z):=
 aX rfl (by simp[hz]) (gv _ _ rfl z)
def pT(X:Tx A s r):qO [.lst .frz (ftx A r s)]=.ok (.int A.length):=by
 obtain⟨a,A',_,_,e,hn,_⟩:=X.fst;have hz:=X.ok a (by simp[e]);refine am ?_;show Ev [some (.lst .frz (ftx A r s))]=_;refine az ?_ ();have i0:=yF (ss:=A++s::r) (i:=0) (z:=a) (by simp[e]) .frz;have e1:=(FO (sW hz) (nh (z:="net") (by grind))).1;have m1:mapL Fl.MN (ftx A r s)=ftx A r s:=jY rfl _;have ee:(mOp pEq (mOp ah (mOp ah (aa 0) (M1 0)) (M1 0)) (mC (.str "net"))) [some (.lst .frz (ftx A r s))]=.ok (.bl (decide (kd a="net"))):=by simp only[cH,bD,gQ,getElem?_cons_zero,aU,aY,dO,m1,Res.M0];rw[show(0:Int)=((0:Nat):Int)from rfl,i0];simp only[Res.M0];rw[show((0:Nat):Int)=0 from rfl,yE];simp only[Res.M0,e1]
 simp only[tP,jt,ee];rw[hn];by_cases q:kd a="net"
 .simp[q]
 .simp[q]
def yY(X:Tx A s r):ve [.lst .frz (ftx A r s)]=.ok .non:=by
 have sa:=pT X;obtain⟨a,A',A2,b,ea,hn,eb,hb⟩:=X.fst;obtain⟨rs,hrs⟩:∃rs,rs=rsN (kd a):=⟨_,rfl⟩
 rw[<- hrs]at hb;have rsh:∀ k ∈ rs,shp (.str k)=true:=λk hk=>nh (by
  rw[hrs]at hk;unfold rsN at hk;split at hk<;>simp[hk])
 have hl:=X.len;obtain⟨ss,hss⟩:∃ss,A++s::r=ss:=⟨_,rfl⟩
 have ok:=X.ok;have m1:mapL Fl.MN (ss.map (pvS .frz))=ss.map (pvS .frz):=jY rfl ss;have m2:mapL Fl.MP (ss.map (pvS .frz))=ss.map (pvS .frz):=jY rfl ss;unfold ftx at sa ⊢;rw[hss]at sa hl ok ⊢;obtain⟨K,hK⟩:∃K,ss.map kd=K:=⟨_,rfl⟩
 have n0:1<=A.length:=by rw[eb];simp
 have hKl:K.length=ss.length:=by rw[<- hK];simp
 have kL:A.length<K.length:=by rw[hKl,<- hss];simp
 have k0:K[0]?=some (kd a):=by rw[<- hK,<- hss,ea];simp
 have k1:K[A.length]?=some ("state":Str):=by rw[<- hK,<- hss,<- X.st];simp
 have k2:K[A.length-1]?=some (kd b):=by rw[<- hK,<- hss,eb];simp
 have kd':∀y∈K.drop (A.length+1),y∈doi:=λy hy=>by rw[<- hK,<- hss,map_append,map_cons,show A.map kd++kd s::r.map kd=(A.map kd++[kd s])++ r.map kd by simp,List.drop_left' ()]at hy;obtain⟨z,hz,rfl⟩:=mem_map.mp hy;exact X.dos z hz
 have ks:shp (.str "state")=true:=nh ();refine c_ ?_;have c1:ay [] 1 (aK (aa 0)) (tgN 0) aH (mOp ah (aa 0) (M1 0)) [some (.lst .frz (ss.map (pvS .frz))),none,none,none,none]=.ok (.lst .own (sL K)):=by
  refine aF (xs:=ss.map (pvS .frz)) (by simp[m1]) (by simp;lia) ?_;rw[show sL K=ss.map λy=>PV.str (kd y) by rw[<- hK];simp[sL]];refine aI ss λy hy=>⟨[some (pvS .frz y)],?_,?_,by simp,by simp⟩
  .have:(pvS .frz y).MR=pvS .frz y:=gu Fl.MR .frz y;rw[this];cases y<;>rfl
  .simp;rw[gu,dO,yE]
 refine cI (aj c1) ?_;refine cI (aj (v:=.int A.length) (by simp[m1,m2,sa,ao])) ?_;have i0:∀f,ah (.lst f (sL K)) (.int 0)=.ok (.str (kd a)):=λf=>dB () k0;have i1:∀f,ah (.lst f (sL K)) (.int A.length)=.ok (.str "state"):=λf=>dB () k1;have i2:∀f,ah (.lst f (sL K)) (.int ((A.length:Int)-1))=.ok (.str (kd b)):=λf=>dB () (by rw[show((A.length:Int)-1).toNat=A.length-1 by lia];exact k2);have e1:=(FO (sW (ok a (by rw[<- hss,ea];simp))) (nh (z:="net") ())).1;have e2:=(FO ks ks).2;have e3:=Ef (sW (ok b (by rw[<- hss,eb];simp))) rsh hb;refine cI (aj (v:=.tup (sL rs)) ?_) ?_
 .rw[hrs];unfold rsN;by_cases q:kd a="net"
  .rw[decide_eq_true q]at e1;rw[if_pos q];simp[i0,e1];rfl
  .rw[decide_eq_false q]at e1;rw[if_neg q];simp[i0,e1];rfl
 simp;refine cI (aM (by simp[i1,e2];lia) ak) ?_;refine cI (aM (by simp[i2,e3]) ak) ?_;have cu:gL (sL K) (some ((A.length:Int)+1)) none=sL (K.drop (A.length+1)):=by have:=g_ (sL K) (A.length+1) (by simp;lia);rw[show((A.length+1:Nat):Int)=(A.length:Int)+1 by lia]at this;rw[this];simp[sL]
 refine gI (λ_ e=>∃x4,e=[some (.lst .frz (ss.map (pvS .frz))),some (.lst .own (sL K)),M4 A.length,some (.tup (sL rs)),x4]) (λo=>∃e,o=.next e) (xs:=sL (K.drop (A.length+1))) ?_ ⟨none,rfl⟩ (λk x e hx hP=>?_) (λe hP=>⟨e,rfl⟩)
 .refine cW (f:=.own) ?_ rfl () ();simp only[ju,cH,kM,jZ,bD,gQ,getElem?_cons_zero,getElem?_cons_succ,aU,aY,kW,fh,Res.M0,jP,lq,ja,cu]
 .obtain⟨x4,rfl⟩:=hP;unfold sL at hx;rw[getElem?_map]at hx;obtain⟨y,hy,rfl⟩:=map_eq_some_iff.mp hx;have hm:=kd' y (List.mem_of_getElem? hy);have e4:bW (.str y) (.tup [.str "turn",.str "spoil",.str "may",.str "measure",.str "look"])=.ok (.bl false):=Ef (nh (by simp[hm])) (λk hk=>nh (by simp[hk])) hm;exact⟨_,cV rfl,.inl ⟨_,.inl (aM (by simp[e4]) ak),_,rfl⟩⟩
def cut_to(xs:ML)(k:Nat)(h:k<=xs.length):gL xs none (some (k:Int))=xs.take k:=by unfold gL;rw[HT.sIx_nat,HT.sIx_none];simp
def lpB:MS:=(ag (aw 7 (af (aq nQ) (ab (aa 3) (ab (aa 4) (ab (aa 6) ae)))))
 (ag (dz 7) (ag (aw 4 (mOp ah (aa 7) (M1 1)))
 (bu 5 (af (aq qM) (ab (aa 3) (ab (aa 7) (ab (aa 6) ae))))))))
def Js{x0:Option PV}{L:PV}{n:Int}{cs':MB}{y:Sd}{an:MF}{x7:Option PV}(fz:Fz o)(h:Stp o cs y cs' z)(hl:an.length<=200):∃v,lpB [x0,some L,M4 n,some o,M6 .frz cs,some (.lst .own (sL an)),some (pvS .frz y),x7]=.next [x0,some L,M4 n,some o,M6 .frz cs',some (.lst .own (sL (an++[z]))),some (pvS .frz y),some v]:=by
 obtain⟨f,g,dn,⟨f1,f2,f3⟩,⟨g1,g2,g3⟩,e1,e2⟩:=h;refine⟨.tup [M3 .frz dn,M3 .frz cs'],?_⟩;have i1:ah (.tup [M3 .frz dn,M3 .frz cs']) (.int 1)=.ok (M3 .frz cs'):=aX rfl rfl ();refine ac (aj (v:=.tup [M3 f dn,M3 g cs']) ?_ (by simp[f2,g2]) rfl) ?_
 .simp only[b6,aW,bG,bD,getElem?_cons_zero,getElem?_cons_succ,aU,Res.M0,cJ,bh,bS,gu,aY,d0,dO,fS];rw[fz.1,fz.2.1,e1];simp[ao,f3,g3]
 refine ac (bY rfl) ?_;simp only[lB,bh,bS,aY,d0,f1,g1];refine ac (aj (v:=M3 .frz cs') (by simp[i1]) () (by simp[aQ])) ?_;simp;refine(cM (v:=.str z) ?_ rfl () (by simp;lia)).trans (by simp[sL]);simp only[b6,aW,bG,bD,getElem?_cons_zero,getElem?_cons_succ,aU,Res.M0,cJ,bh,bS,lB,aY,dO,fS,gu,d0];rw[fz.1,fz.2.1,e2];simp[ao]
def Cb{R:PV}{regs:MB}{z0:Str}(X:Tx A s r)(hs:s=.row "state" regs)(hR:qN [.lst .own (A.map (pvS .frz))]=.ok R)(rb:R.has Fl.MW=false)(rl:R.has Fl.MV=false)(ro:R.MY Fl.MQ=o)(fz:Fz o)
  (hC:io aD (.ok [M3 .frz regs]) o=.ok (M2 cs)) (h0:lQ [o,M3 .frz cs]=.ok (.str z0)) (hP:jC o cs r zs):uL [.str (PySem.Txt.join ⟨#[10]⟩ ((A++s::r).map line))]=.ok (.lst .own (sL (z0::zs))):=by
 have hl:=X.len;have rt:=yx () hl X.ok;have oo:=yY X;have so:=pT X;have m1:mapL Fl.MN ((A++s::r).map (pvS .frz))=(A++s::r).map (pvS .frz):=jY rfl _;have m2:mapL Fl.MP ((A++s::r).map (pvS .frz))=(A++s::r).map (pvS .frz):=jY rfl _;refine am ?_;show Ek [some (.str (PySem.Txt.join ⟨#[10]⟩ ((A++s::r).map line))),none,none,none,none,none,none,none]=_;refine ac (aj (v:=.lst .own ((A++s::r).map (pvS .own))) ?_ (by simp only[fW,fI];rw[g8 _ _ rfl];rfl) rfl) ?_
 .simp only[b6,aW,bG,bD,getElem?_cons_zero,aU,et,Res.M0,cJ,bh,bS,rt];unfold ao;rw[fI,g8 _ _ rfl];rfl
 refine ac (bY rfl) ?_;simp only[s0_,s1_,aY,q_,gH];refine ac (cD (v:=.non) (by simp only[b6,aW,bG,bD,getElem?_cons_zero,getElem?_cons_succ,aU,aY,dO,fS,m1,m2,Res.M0,cJ,bh,bS,oo];simp[ao])) ?_;refine ac (aj (v:=.int A.length) (by simp only[b6,aW,bG,bD,getElem?_cons_zero,getElem?_cons_succ,aU,aY,dO,fS,m1,m2,Res.M0,cJ,bh,bS,so];simp[ao])) ?_;simp only[s0_,s1_];have cu:=cut_to ((A++s::r).map (pvS .frz)) A.length ();rw[map_append,List.take_left' ()]at cu;rw[<- map_append]at cu;have mA:mapL Fl.MP (A.map (pvS .frz))=A.map (pvS .frz):=jY rfl A;refine ac (aj (v:=R) ?_ (by simp[rl]) rfl) ?_
 .simp only[b6,aW,bG,ju,jZ,kM,bD,getElem?_cons_zero,getElem?_cons_succ,aU,aY,fh,m1,Res.M0,jP,lq,cu,cJ,bh,bS,mP,mA,hR];simp[ao,rb]
 refine ac (bY rfl) ?_;simp only[s0_,s1_,ro];have ix:ah (.lst .frz ((A++s::r).map (pvS .frz))) (.int A.length)=.ok (pvS .frz s):=yF () .frz;have ix1:ah (pvS .frz s) (.int 1)=.ok (M3 .frz regs):=by rw[hs];exact aX rfl rfl ()
 refine ac (aj (v:=M2 cs) ?_ () (by simp[aQ])) ?_
 .rw[<- hC,Al];simp only[bD,aW,cH,gQ,bG,getElem?_cons_zero,getElem?_cons_succ,aU,aY,dO,m1,fh,Res.M0,ix,ix1,fz.1]
 refine ac (bY rfl) ?_;simp only[s0_,s1_,aY,d0,gH];refine ac (aj (v:=.lst .own (sL [z0])) ?_ () (by simp[aQ])) ?_
 .simp;rw[fz.1,fz.2.1,h0];rfl
 simp only[s1_];have cf:=g_ ((A++s::r).map (pvS .frz)) (A.length+1) ();rw[show(A++s::r).map (pvS .frz)=((A++[s]).map (pvS .frz))++ r.map (pvS .frz) by simp,List.drop_left' (),show((A.length+1:Nat):Int)=(A.length:Int)+1 by lia]at cf;rw[show((A++[s]).map (pvS .frz))++ r.map (pvS .frz)=(A++s::r).map (pvS .frz) by simp]at cf;refine d7 (xs:=r.map (pvS .frz)) (λk e=>∃cs an zs' x6 x7,e=[some (.str (PySem.Txt.join ⟨#[10]⟩ ((A++s::r).map line))),some (.lst .frz ((A++s::r).map (pvS .frz))),M4 A.length,some o,M6 .frz cs,some (.lst .own (sL an)),x6,x7]/\jC o cs (r.drop k) zs'/\an++zs'=z0::zs/\an.length=k+1) ?_ ⟨cs,[z0],zs,none,none,rfl,hP,rfl,rfl⟩ (λk x e hx hP=>?_) (λe hP=>?_)
 .refine cW (f:=.own) ?_ rfl (g8 _ _ rfl r) (g8 _ _ rfl r);simp only[ju,cH,kM,jZ,bD,gQ,getElem?_cons_zero,getElem?_cons_succ,aU,aY,m1,fh,Res.M0,jP,lq,ja,cf]
 .obtain⟨cs,an,zs',x6,x7,rfl,hP,ez,el⟩:=hP;rw[getElem?_map]at hx;obtain⟨y,hy,rfl⟩:=map_eq_some_iff.mp hx;have kl:=(List.getElem?_eq_some_iff.mp hy).1;rw[List.drop_eq_getElem_cons kl]at hP;have ey:r[k]=y:=by simp_all
  rw[ey]at hP;cases hP with
  |cons h1 h2=>simp at hl;obtain⟨v,e⟩:=Js (an:=an) fz h1 ();refine⟨_,by cases y<;>rfl,bC e ⟨_,_,_,_,_,rfl,h2,by simpa using ez,by simp[el]⟩⟩
 .obtain⟨cs,an,zs',x6,x7,rfl,hP,ez,el⟩:=hP;rw[length_map,List.drop_length]at hP;cases hP;rw[append_nil]at ez;subst ez;exact cA rfl
end
def sj(ls:MF):Str:=PySem.Txt.join ⟨#[32]⟩ ls
def tx:PV->Str
 |.int n=>tn n
 |.str z=>z
 |_=>""
def Th(x:PV):Prop:=(∃n,x=.int n/\Nm n)\/ ∃z:Str,x=.str z/\z.length<=6000
theorem xC(g:Fl->Fl):∀{xs:ML},(∀x∈xs,Th x)->mapL g xs=xs
 | [],_=>by simp
 |x::xs,h=>by rw[bh,xC g λy hy=>h y (mem_cons_of_mem _ hy)];rcases h x mem_cons_self with⟨n,rfl,_⟩ |⟨z,rfl,_⟩<;>simp
def fZ(h:∀x∈xs,Th x)(hl:xs.length<=100):jo [.lst f xs]=.ok (.str (sj (xs.map tx))):=by
 refine am ?_;refine az ?_ ();refine gF (f:=.own) (by decide +kernel) (by grind) (λz hz=>?_) ?_
 .obtain⟨x,hx,rfl⟩:=mem_map.mp hz;rcases h x hx with⟨n,rfl,hn⟩ |⟨z,rfl,hz'⟩
  .have:=(nt hn).len;show(tn n).length<=6000
   lia
  .exact hz'
 .refine aF (xs:=xs) (by simp[xC _ h]) () ?_;rw[show sL (xs.map tx)=xs.map λx=>PV.str (tx x) by simp[sL]];have:=aI (g:=tgN 0) (me:=af (p1 lf) (ab (aa 0) ae)) (env:=[none]) (a:=λx:PV=>x) (f:=λx=>PV.str (tx x)) xs λx hx=>⟨[some x],by rcases h x hx with ⟨n,rfl,hn⟩ | ⟨z,rfl,hz⟩ <;> simp [tgN,aQ,d5],by
   rcases h x hx with⟨n,rfl,hn⟩ |⟨z,rfl,hz⟩
   .simp[lf,(nt hn).st,tx]
   .simp[lf,tx],by simp,by simp⟩
  simpa[bI]using this
def ou(l:MB):(iL l).map tx=l.map tn:=by simp[iL,tx]
def bE(h0:0<=a)(h:a<1000):Nm a:=by
 have:a.natAbs<1000:=by lia
 exact Nat.lt_trans this ()
def md(l:MB):Str:=if l=[]then "-" else sj (l.map tn)
def Sml(l:MB):Prop:=l.length<=90/\∀a∈l,0<=a/\a<1000
def Sml.th(h:Sml l):∀x∈iL l,Th x:=λx hx=>by obtain⟨a,ha,rfl⟩:=mem_map.mp hx;exact .inl ⟨a,rfl,bE (h.2 a ha).1 (h.2 a ha).2⟩
def kg(h:Sml l):Af [M3 f l]=.ok (.str (md l)):=by
 refine am ?_;show JV [M6 f l]=_;have j:=fZ (f:=f.MN.MP) h.th (by simpa using Nat.le_trans h.1 ());rw[ou]at j;refine az ?_ ();unfold md;cases l with
 |nil=>simp
 |cons a l=>rw[tP];simp only[cH,b6,aW,bG,bD,getElem?_cons_zero,aU,aY,d0,Res.M0,cJ,bh,bS,j];simp[ao]
def cw(b:Bool):Str:=if b then "calm" else "wild"
def tR(b:Bool):(cw b).length=4:=by cases b<;>decide +kernel
abbrev net(fl:Fl)(n:Nat)(ps:Mx):PV:=.obj fl 8 [0,1,2] [.int n,.tup (prL ps),.tup ((range n).map λk:Nat=>.tup (iL (nbL ps k)))]
@[simp] def K5:hasL p ((range n).map λk:Nat=>PV.tup (iL (nbL ps k)))=false:=by
 induction range n with
 |nil=>rfl
 |cons a l ih=>simp[ih]
@[simp] def K4:mapL g ((range n).map λk:Nat=>PV.tup (iL (nbL ps k)))=(range n).map λk:Nat=>PV.tup (iL (nbL ps k)):=by
 induction range n with
 |nil=>rfl
 |cons a l ih=>simp[ih]
def cell(ns:MB)(k:Nat):Int:=ns.getD k 0
def pq(ns:MB)(k:Nat)(h:Scr fl):dC [M3 fl ns,.int k]=.ok (.int (cell ns k)):=by
 refine am ?_;unfold EG cell;by_cases hk:k<ns.length
 .refine bp (cU (by simp[h.MN,hk]) (az ?_));simp;rw[qG ns () (n:=ns.getD k 0) (by simp[hk])];simp
 .refine ac (aM (by simp[h.MN,hk]) ak) (az (by simp[List.getElem?_eq_none (Nat.le_of_not_lt hk)]))
noncomputable def oV:MG->PV
 |none=>.non
 |some s=>.int s
def oL(os:List (MG)):ML:=os.map oV
@[simp] def LO(os:List (MG)):(oL os).length=os.length:=by simp[oL]
@[simp] def LQ:hasL p (oL os)=false:=by
 induction os with
 |nil=>rfl
 |cons o os ih=>cases o<;>simpa[oL,oV]using ih
@[simp] def LN:mapL g (oL os)=oL os:=by
 induction os with
 |nil=>rfl
 |cons o os ih=>cases o<;>simpa[oL,oV]using ih
@[simp] def LS:PyData.canLayAll0 (dataL (oL os))=true:=by
 induction os with
 |nil=>rfl
 |cons o os ih=>cases o <;>(simp only[oL,map_cons,dataL,PyData.canLayAll0]at ih ⊢;rw[ih];rfl)
@[simp] def LR:PyData.depthAll (dataL (oL os))=0:=by
 induction os with
 |nil=>rfl
 |cons o os ih=>cases o <;>(simp only[oL,map_cons,dataL,PyData.depthAll]at ih ⊢;rw[ih];rfl)
def OkS(tp:Int)(os:List (MG)):Prop:=∀s,some s∈os->0<=s/\s<tp
def Fc(f:Fl):Prop:=f=.bor\/f=.frz
def Fc.le(h:Fc f):f.MN=f:=by rcases h with rfl|rfl<;>rfl
def Fc.tb(h:Fc f):f.MP=f:=by rcases h with rfl|rfl<;>rfl
def Fc.bo(h:Fc f):f.MR=f:=by rcases h with rfl|rfl<;>rfl
def Fc.nl(h:Fc f):f.MV=false:=by rcases h with rfl|rfl<;>rfl
def Fc.of(h:Fc f\/f=.own):Fc f.MR:=by
 rcases h with(rfl|rfl)|rfl
 .exact .inl rfl
 .exact .inr rfl
 .exact .inl rfl
def Fc.call(h:Fc f\/f=.own):Fc f.MN.MP:=by
 rcases h with(rfl|rfl)|rfl
 .exact .inl rfl
 .exact .inr rfl
 .exact .inl rfl
def iU(hk:k<n):u9 [net .frz n ps,.int k]=.ok (M2 (nbL ps k)):=by
 refine am ?_;refine az ?_ ();have e:ah (.tup ((range n).map λk:Nat=>PV.tup (iL (nbL ps k)))) (.int k)=.ok (.tup (iL (nbL ps k))):=by
  have hk':((range n).map λk:Nat=>PV.tup (iL (nbL ps k)))[k]?=some (.tup (iL (nbL ps k))):=by simp[hk]
  exact aX rfl hk' ()
 simp[ap,bF,dR,e,aV]
abbrev pnt(fl:Fl)(n:Nat)(ps:Mx):PV:=.obj fl 2 [4,0,7,8] [net .frz n ps,.int n,.int n,.bl false]
def v4:f9 [.obj .own 2 [4] [net .frz n ps],.int n,.int n,.bl false]=.ok (pnt .own n ps):=by rfl
def wY:nS [.obj .own 2 [4] [net .frz n ps],.int n,.int n]=.ok (pnt .own n ps):=by refine c9 (e:=[some (pnt .own n ps),M4 n,M4 n]) ?_ rfl;exact fM (xs:=[.int n,.int n,.bl false]) rfl () () (by simpa using v4) (by simp[PV.has])
def m6:wS [.obj .own 2 [] [],net .frz n ps]=.ok (pnt .own n ps):=by refine c9 (e:=[some (pnt .own n ps),some (net .frz n ps)]) ?_ rfl;refine ac (bY rfl) ?_;refine ac (cj (v:=net .frz n ps) () rfl () rfl ()) ?_;have:=fM (env:=[some (.obj .own 2 [4] [net .frz n ps]),some (net .frz n ps)]) (ms:=ab (mUn (ap 0) (aa 1)) (ab (mUn (ap 0) (aa 1)) ae)) (xs:=[.int n,.int n]) rfl (by rfl) () (by simpa using wY) ();simpa using this
def oT(ps:Mx)(i:Nat):MB:=(nbL ps i).filter λx=>decide (x <(i:Int))
theorem Aa(hi:i<n)(hl:(nbL ps i).length<=1000):Dr [pnt .frz n ps,.int i]=.ok (M2 (oT ps i)):=by
 refine am ?_;have be:=iU (ps:=ps) hi;refine az ?_ ();have:=dH (env:=bI [1] 1 [some (pnt .frz n ps),M4 i]) (g:=tgN 1) (mc:=ai (mOp pLt (aa 1) (aa 0))) (me:=aa 1) (λx=>decide (x <(i:Int))) (λx=>x) (nbL ps i) λx hx=>⟨[M4 i,M4 x],by rfl,by simp,λ_=>by simp⟩
 rw[map_id']at this;exact aF (by simp[ap,bF,bP,be,ao]) (by rw[bL];lia) this
noncomputable def ky(l:MB):Nat:=((range (l.length+1)).find? λj:Nat=>!l.contains (j:Int)).getD 0
theorem qq(l:MB):((ky l:Nat):Int)∉ l/\∀j,j<ky l->(j:Int)∈ l:=by
 have ex:∃j,j<l.length+1/\(j:Int)∉ l:=by
  apply Classical.byContradiction;intro no;have h:=ql (l':=l) (Pairwise.map _ (λa b h e=>h ()) nodup_range) λx hx=>by obtain⟨k,hk,rfl⟩:=mem_map.mp hx;exact Classical.byContradiction λz=>no ⟨k,mem_range.mp hk,z⟩
  simp at h
  lia
 unfold ky;cases e:(range (l.length+1)).find? λj:Nat=>!l.contains (j:Int)with
 |none=>exfalso;obtain⟨j,h1,h2⟩:=ex;have:=List.find?_eq_none.mp e j (mem_range.mpr h1);simp at this;exact h2 this
 |some m=>have h1:=List.find?_some e;refine⟨by grind,λj hj=>?_⟩;have h2:=(List.find?_range_eq_some.mp e).2.2 j hj;simpa using h2
def zB{L':MB}(h:∀x∈l,x∈L'):ky l<=L'.length:=by
 have:=ql (l':=L') (Pairwise.map _ (λa b h e=>h ()) nodup_range) λx hx=>by obtain⟨k,hk,rfl⟩:=mem_map.mp hx;exact h _ ((qq l).2 k (mem_range.mp hk))
 simpa using this
def wX(ps:Mx)(cs:MB)(i:Nat):Int:=ky ((oT ps i).map λo=>gt cs o.toNat)
def uD(rg:∀x∈ps,0<=x.1/\x.1<n/\0<=x.2/\x.2<n/\x.1≠x.2){o:Int}(h:o∈oT ps i):0<=o/\o<n/\o<i/\((o,(i:Int))∈ ps \/((i:Int),o)∈ ps):=by
 obtain⟨h1,h2⟩:=mem_filter.mp h;have h3:=zd.mp h1;simp at h2;rcases h3 with z|z
 .grind
 .grind
theorem DA(rg:∀x∈ps,0<=x.1/\x.1<n/\0<=x.2/\x.2<n/\x.1≠x.2)(hi:i<n):0<=wX ps cs i/\wX ps cs i<n:=by
 unfold wX;have:=zB (l:=(oT ps i).map λo=>gt cs o.toNat) (L':=(range i).map λk=>gt cs k) λx hx=>by obtain⟨o,ho,rfl⟩:=mem_map.mp hx;have:=uD rg ho;exact mem_map.mpr ⟨o.toNat,mem_range.mpr (),rfl⟩
 simp at this
 lia
theorem A9(rg:∀x∈ps,0<=x.1/\x.1<n/\0<=x.2/\x.2<n/\x.1≠x.2)(hfc:Fc fc)(hl:∀i,(nbL ps i).length<=1000)(hn:cs.length=n)(hi:i<n):vp [pnt .frz n ps,M3 fc cs,.int i]=.ok (.int (wX ps cs i)):=by
 refine am ?_;unfold EM wX;have ha:=Aa hi (hl i);have ll:(oT ps i).length<=1000:=Nat.le_trans (length_filter_le _ _) (hl i);refine ac (aj (v:=M2 ((oT ps i).map λo=>gt cs o.toNat)) ?_) ?_
 .refine aF (by simp[bH,ha,ao]) (by rw[bL];lia) (fw (λo=>gt cs o.toNat) (oT ps i) λo ho=>⟨[M6 fc cs,M4 o],by simp[tgN,aQ,bI,hfc.bo],?_⟩);have:=uD rg ho;simp[cB (cs:=cs) this.1 ()]
 have tkl:((oT ps i).map λo=>gt cs o.toNat).length<=1000:=by grind
 generalize(oT ps i).map (λo=>gt cs o.toNat)=tk at *;obtain⟨m1,m2⟩:=qq tk;refine ac (aj (v:=.int 0) ()) ?_;have mb:ky tk<100000:=by
  have:=zB (L':=tk) λx hx=>hx
  lia
 refine vT (Fin:=λe=>e=[some (pnt .frz n ps),M6 fc cs,M4 i,M5 tk,M4 (ky tk)]) (λm e=>∃c:Nat,e=[some (pnt .frz n ps),M6 fc cs,M4 i,M5 tk,M4 c]/\m=ky tk-c/\c<=ky tk) (ky tk) mb ⟨0,rfl,by lia,by lia⟩ (λm e hP=>?_) λe hF=>?_
 .obtain⟨c,rfl,rfl,hc⟩:=hP;by_cases q:c=ky tk
  .subst q;exact .inl ⟨by simp;exact m1,rfl⟩
  .have:=m2 c ();exact .inr ⟨by simp;exact this,ky tk-(c+1),[some (pnt .frz n ps),M6 fc cs,M4 i,M5 tk,M4 (c+1:Nat)],by lia,.inl (aj ()),c+1,rfl,rfl,by lia⟩
 .subst hF;exact cA rfl
abbrev lea(fl:Fl)(c:Nat)(n:Nat)(ps:Mx)(os:List (MG))(st tp:Int):PV:=.obj fl c [3,4,5,6,0,7,8] [.int tp,net .frz n ps,.tup (oL os),.int st,.int n,.int (tp+1),.bl true]
theorem uw(h1:1<=x)(h2:x<=10):qV [.int x]=.ok .non:=by refine c_ ⟨[M4 x],?_⟩;exact aM (by simp[show ¬x<1 by lia,show ¬10<x by lia]) ak
theorem sr{gf:Fl}(hg:gf=.bor\/gf=.frz)(hf:f=.bor\/f=.frz)(hn:os.length=n)(ho:OkS tp os):vi [net gf n ps,.lst f (oL os),.int tp]=.ok .non:=by
 have hf1:f.MN=f:=by rcases hf with rfl|rfl<;>rfl
 have hf2:f.MV=false:=by rcases hf with rfl|rfl<;>rfl
 have hg1:gf.MN=gf:=by rcases hg with rfl|rfl<;>rfl
 refine c_ ?_;refine cI (aM (by simp[hg1,ap,bF,hn]) ak) ?_;refine gI (λ_ e=>∃x,e=[some (net gf n ps),some (.lst f (oL os)),M4 tp,x]) (λr=>∃e,r=.next e) (xs:=oL os) (cW (by simp[hf1]) hf2 () ()) ⟨_,rfl⟩ (λk x e hx hP=>?_) (λe hP=>⟨e,rfl⟩);obtain⟨y,rfl⟩:=hP;simp only[oL,getElem?_map]at hx;obtain⟨o,ho1,rfl⟩:=map_eq_some_iff.mp hx;refine⟨_,cV rfl,.inl ⟨_,.inl (aM ?_ ak),_,rfl⟩⟩;cases o with
 |none=>simp[oV,gX,PV.isNon]
 |some s=>have:=ho s (List.mem_of_getElem? ho1);simp[oV,gX,show ¬s<0 by lia,show ¬tp<=s by lia]
def v5:f9 [.obj .own cc [3,4,5,6] [.int tp,net .frz n ps,.tup (oL os),.int st],.int n,.int (tp+1),.bl true]=.ok (lea .own cc n ps os st tp):=by refine c9 (e:=[some (lea .own cc n ps os st tp),M4 n,M4 (tp+1),some (.bl true)]) ?_ rfl;refine ac (cj (v:=.int n) () rfl () rfl ()) ?_;refine ac (cj (v:=.int (tp+1)) () rfl () rfl ()) ?_;exact cj (ks:=[3,4,5,6,0,7]) (vs:=[.int tp,net .frz n ps,.tup (oL os),.int st,.int n,.int (tp+1)]) () rfl () rfl ()
theorem qy{bk:Int}(hf:f.MN.MP=.bor\/f.MN.MP=.frz)(h1:1<=st)(h2:st<=10)(h3:1<=bk)(h4:bk<=10)(hn:os.length=n)(ho:OkS (st*bk) os):Ag [.obj .own cc [] [],net .frz n ps,.lst f (oL os),.int st,.int bk]=.ok (lea .own cc n ps os st (st*bk)):=by refine c9 (e:=[some (lea .own cc n ps os st (st*bk)),some (net .frz n ps),some (.lst f (oL os)),M4 st,M4 bk]) ?_ rfl;have r1:=uw h1 h2;have r2:=uw h3 h4;have r3:=sr (ps:=ps) (.inr rfl) hf hn ho;have mu:bN (.int st) (.int bk)=.ok (.int (st*bk)):=cO (.inl ⟨by lia,by lia⟩);generalize st*bk=tp at *;refine ac (cD (v:=.non) (by simp[r1,ao])) ?_;refine ac (cD (v:=.non) (by simp[r2,ao])) ?_;refine ac (cj (v:=.int tp) (by simp[mu]) rfl () rfl ()) ?_;refine ac (cD (v:=.non) (by simp[ap,bF,r3,ao])) ?_;refine ac (bY rfl) ?_;refine ac (cj (v:=net .frz n ps) () rfl () rfl ()) ?_;refine ac (cj (v:=.tup (oL os)) (by simp[cX,aV]) rfl () rfl ()) ?_;refine ac (cj (v:=.int st) () rfl () rfl ()) ?_;have:=fM (env:=[some (.obj .own cc [3,4,5,6] [.int tp,net .frz n ps,.tup (oL os),.int st]),some (net .frz n ps),some (.lst f (oL os)),M4 st,M4 bk]) (ms:=ab (mUn (ap 0) (aa 1)) (ab (mOp aJ (mUn (ap 3) (aa 0)) (M1 1)) (ab (mC (.bl true)) ae))) (xs:=[.int n,.int (tp+1),.bl true]) rfl (by rfl) () (by simpa using v5) (by simp[PV.has]);simpa using this
noncomputable def uz(st tp c:Int):Bool:=decide (c≠tp)&&decide ((c+1)%st≠0)
def oP(ps:Mx)(st tp:Int)(cs:MB)(i:Nat):MB:=(((nbL ps i).map λo=>gt cs o.toNat).filter (uz st tp)).map (· + 1)
def jv(ps:Mx)(os:List (MG))(st tp:Int)(cs:MB)(i:Nat):Int:=fQ (oP ps st tp cs i ++(os.getD i none).toList++[tp])
def uq(h:l≠[]):dh fQ (M3 f l)=.ok (.int (fQ l)):=by unfold dh;simp only[aV,eW];rw[if_neg (by simpa using h)]
def y6{c:Int}(hs:0<st):wV [lea .frz cc n ps os st tp,.int c]=.ok (.bl (uz st tp c)):=by
 refine am ?_;unfold KN uz;refine az ?_ ();by_cases h:c=tp
 .simp[ap,bF,h]
 .simp[ap,bF,h,aR hs]
theorem qA(hfc:Fc fc)(hcc:cR cc=some wV)(hnb:∀x∈nbL ps i,0<=x/\x<n)(hl:(nbL ps i).length<=1000)(hs:0<st)(hn:cs.length=n)(ho:os.length=n)(hi:i<n):nU [lea .frz cc n ps os st tp,M3 fc cs,.int i]=.ok (.int (jv ps os st tp cs i)):=by
 refine am ?_;show EL [some (lea .frz cc n ps os st tp),M6 fc cs,M4 i,none,none]=_;have e3:=hfc.bo;have be:=iU (ps:=ps) hi;have l1:((nbL ps i).map λo=>gt cs o.toNat).length<=1000:=by grind
 refine ac (aj (v:=M2 ((nbL ps i).map λo=>gt cs o.toNat)) ?_) ?_
 .refine aF (by simp[ap,bF,bP,be,ao]) (by rw[bL];lia) (fw (λo=>gt cs o.toNat) _ λx hx=>⟨[M6 fc cs,M4 x],by simp[tgN,aQ,bI,e3],?_⟩);obtain⟨h1,h2⟩:=hnb x hx;simp[cB (cs:=cs) (i:=x) () ()]
 have l2:(oP ps st tp cs i).length<=1000:=by unfold oP;rw[length_map];exact Nat.le_trans (length_filter_le _ _) l1
 refine ac (aj (v:=M2 (oP ps st tp cs i)) ?_) ?_
 .unfold oP;exact aF () (by rw[bL];lia) (dH (uz st tp) (· + 1) _ λx hx=>⟨[some (lea .frz cc n ps os st tp),M4 x],by simp[tgN,aQ,bI],by simp[hcc,y6 hs,ao],λ_=>by simp⟩)
 have hio:i<os.length:=by lia
 have ix:ah (.tup (oL os)) (.int (i:Int))=.ok (oV os[i]):=aX rfl (by simp[oL,hio]) (by cases os[i]<;>rfl);have eg:os.getD i none=os[i]:=by simp[hio]
 unfold jv;rw[eg];generalize os[i]=o at *;generalize oP ps st tp cs i=of at *;cases o with
 |none=>
  refine ac (aM (by simp[ap,bF,ix,oV,gX,PV.isNon]) ak) (az ?_);have pl:aJ (M3 .lnt of) (.lst .own [.int tp])=.ok (M2 (of++[tp])):=by rw[fU () () (by simp;lia)];simp[iL]
  simp[ap,bF,pl,uq (l:=of++[tp]) ()]
 |some s=>
  refine ac (cU (by simp[ap,bF,ix,oV,gX,PV.isNon]) (cM (v:=.int s) (by simp[ap,bF,ix,oV]) rfl () (by rw[bL];lia))) ?_;rw[show iL of++[PV.int s]=iL (of++[s]) by simp[iL]];refine az ?_ ();have pl:aJ (M3 .lnt (of++[s])) (.lst .own [.int tp])=.ok (M2 (of++[s]++ [tp])):=by rw[fU () () (by simp;lia)];simp[iL]
  have pm:=uq (f:=.own) (l:=of++[s]++ [tp]) ();show _=Res.ok (PV.int (fQ (of++[s]++ [tp])));generalize of++[s]=of2 at *;simp[ap,bF,pl];exact pm
def fs(n r:Nat):List (MG):=(range n).map λi=>if i=r then some 0 else none
def JN:oL (fs n r)=(range n).map λi=>oV (if i=r then some 0 else none):=by simp[oL,fs]
theorem lN(hf:f=.frz\/f=.own)(n1:1<=n)(n10:n<=10)(hr:r<n):lR [.obj .own 5 [] [],net f n ps,.int r]=.ok (lea .own 5 n ps (fs n r) n n):=by
 refine c9 (e:=[some (lea .own 5 n ps (fs n r) n n),some (net .frz n ps),M4 r,some (.lst .frz (oL (fs n r)))]) ?_ rfl;show EI [some (.obj .own 5 [] []),some (net f n ps),M4 r,none]=_;refine ac (aM (by simp[ap,bF,show ¬(n:Int)<= r by lia]) ak) ?_;refine ac (aj (v:=.lst .own (oL (fs n r))) ?_) ?_
 .refine aF (xs:=dY 0 n) (bM (n:=n) (by simp[ap,bF]) ()) (by rw[bm];lia) ?_;rw[JN];refine aI (range n) λk hk=>⟨[M4 r,M4 (0+k)],by simp[tgN,aQ,bI],?_,?_,?_⟩
  .by_cases e:k=r
   .simp[e,oV]
   .simp[e,oV,show ¬(k:Int)=r by lia]
  .by_cases e:k=r<;>simp[e,oV,PV.has]
  .by_cases e:k=r<;>simp[e,oV,PV.has]
 refine ac (bY rfl) ?_;refine ac (bY (v:=net f n ps) rfl) ?_;have efz:(net f n ps).MY Fl.MQ=net .frz n ps:=by rcases hf with rfl|rfl<;>simp[PV.MY,Fl.MQ]
 simp only[s1_,efz];have li:=qy (cc:=5) (n:=n) (ps:=ps) (os:=fs n r) (st:=n) (bk:=1) (f:=.frz) (.inr rfl) () () () () (by simp [fs]) (λs hs=>by
  simp only[fs,mem_map,mem_range]at hs;obtain⟨i,_,e⟩:=hs;split at e
  .cases e;lia
  .cases e)
 have:=fM (env:=[some (.obj .own 5 [] []),some (net .frz n ps),M4 r,some (.lst .frz (oL (fs n r)))]) (ms:=ab (aa 1) (ab (aa 3) (ab (mUn (ap 0) (aa 1)) (ab (M1 1) ae)))) (xs:=[net .frz n ps,.lst .frz (oL (fs n r)),.int n,.int 1]) rfl (by simp[ap,bF,Fl.MN]) (by simp[PV.has]) (by simpa[Fl.MP]using li) (by simp[PV.has]);simpa[PV.MY,Fl.MQ]using this
structure OkM(n:Nat)(ms:MB):Prop where
 ml:ms.length=n
 nd:ms.Nodup
 mr:∀x∈ms,0<=x/\x<=9
def ls(n:Nat)(ms:MB):List (MG):=ms.map λx=>some ((9-x)*n)
theorem ze(hf:Fc f)(N:OkM n ms)(n10:n<=10):vh [net .frz n ps,M3 f ms]=.ok .non:=by have lu:=N.ml;refine c_ ?_;refine cI (aM (by simp[p1,ap,bF,lu]) ak) ?_;refine cI (aM (by simp[p1,ny (show ms.length<=1000 by lia),rm N.nd]) ak) ?_;refine gI (λ_ e=>∃x,e=[some (net .frz n ps),M6 f ms,x]) (λr=>∃e,r=.next e) (xs:=iL ms) (cW (by simp[hf.le]) hf.nl () ()) ⟨_,rfl⟩ (λk x e hx hP=>?_) (λe hP=>⟨e,rfl⟩);obtain⟨y,rfl⟩:=hP;obtain⟨z,hz,rfl⟩:=jX hx;have:=N.mr z (List.mem_of_getElem? hz);refine⟨_,cV rfl,.inl ⟨_,.inl (aM ?_ ak),_,rfl⟩⟩;simp[show ¬z<0 by lia,show ¬(9:Int)<z by lia]
theorem zL(N:OkM n ms)(n1:1<=n):OkS (10*(n:Int)) (ls n ms):=λs hs=>by
 simp only[ls,mem_map]at hs;obtain⟨x,hx,e⟩:=hs;have:=N.mr x hx;cases e;have h1:0 <=(9-x)*(n:Int):=Int.mul_nonneg () ();have h2:(9-x)*(n:Int)<= 9*n:=Int.mul_le_mul_of_nonneg_right () ()
 lia
theorem nB(hf:Fc f\/f=.own)(N:OkM n ms)(n1:1<=n)(n10:n<=10):nW [.obj .own 6 [] [],net .frz n ps,M3 f ms]=.ok (lea .own 6 n ps (ls n ms) n (10*n)):=by
 refine c9 (e:=[some (lea .own 6 n ps (ls n ms) n (10*n)),some (net .frz n ps),M6 f ms,some (.lst .frz (oL (ls n ms)))]) ?_ rfl;have rn:=ze (ps:=ps) (Fc.call hf) N n10;refine ac (bY rfl) ?_;simp;refine ac (cD (v:=.non) (by simp[rn,ao,PV.MY])) ?_;have eL:oL (ls n ms)=iL (ms.map λx=>(9-x)*n):=by simp[oL,ls,iL,oV]
 refine ac (aj (v:=.lst .own (oL (ls n ms))) ?_) ?_
 .rw[eL];refine aF () (by rw[bL,N.ml];lia) (fw (λx=>(9-x)*n) ms λx hx=>⟨[some (net .frz n ps),M4 x],by simp[tgN,aQ,bI],?_⟩);have m:bN (.int (9-x)) (.int (n:Int))=.ok (.int ((9-x)*n)):=cO (.inr ⟨by lia,by lia⟩);simp[ap,bF,m]
 refine ac (bY rfl) ?_;have li:=qy (cc:=6) (n:=n) (ps:=ps) (os:=ls n ms) (st:=n) (bk:=10) (f:=.frz) (.inr rfl) () () () () (by simp[ls,N.ml]) (by rw[Int.mul_comm];exact zL N n1);rw[Int.mul_comm (n:Int) 10]at li;have:=fM (env:=[some (.obj .own 6 [] []),some (net .frz n ps),M6 f ms,some (.lst .frz (oL (ls n ms)))]) (ms:=ab (aa 1) (ab (aa 3) (ab (mUn (ap 0) (aa 1)) (ab (M1 10) ae)))) (xs:=[net .frz n ps,.lst .frz (oL (ls n ms)),.int n,.int 10]) rfl (by simp[ap,bF]) () (by simpa using li) (by simp[PV.has]);simpa using this
abbrev gro(fl:Fl)(n:Nat)(ps:Mx)(r:Nat):PV:=.obj fl 7 [9,4,10,0,7,8] [lea fl 5 n ps (fs n r) n n,net .frz n ps,.int r,.int n,.int (((n:Int)+1)*((n:Int)+1)),.bl true]
def v6:f9 [.obj .own 7 [9,4,10] [lea .own 5 n ps (fs n r) n n,net .frz n ps,.int r],.int n,.int (((n:Int)+1)*((n:Int)+1)),.bl true]=.ok (gro .own n ps r):=by rfl
theorem qI(hf:f=.frz\/f=.own)(n1:1<=n)(n10:n<=10)(hr:r<n):nV [.obj .own 7 [] [],net f n ps,.int r]=.ok (gro .own n ps r):=by
 refine c9 (e:=[some (gro .own n ps r),some (net .frz n ps),M4 r]) ?_ rfl;have fi:=lN (ps:=ps) (.inl rfl) n1 n10 hr;have mu:bN (.int ((n:Int)+1)) (.int ((n:Int)+1))=.ok (.int (((n:Int)+1)*((n:Int)+1))):=cO (.inl ⟨by lia,by lia⟩);have ri:=v6 (n:=n) (ps:=ps) (r:=r);generalize((n:Int)+1)*((n:Int)+1)=sq at mu ri;refine ac (bY rfl) ?_;have efz:(net f n ps).MY Fl.MQ=net .frz n ps:=by rcases hf with rfl|rfl<;>simp
 simp only[efz];refine ac (cj (v:=lea .own 5 n ps (fs n r) n n) (by simp[fi,ao,PV.has]) rfl () rfl ()) ?_;refine ac (cj (v:=net .frz n ps) () rfl () rfl ()) ?_;refine ac (cj (v:=.int r) () rfl () rfl ()) ?_;have:=fM (env:=[some (.obj .own 7 [9,4,10] [lea .own 5 n ps (fs n r) n n,net .frz n ps,.int r]),some (net .frz n ps),M4 r]) (ms:=ab (mUn (ap 0) (aa 1)) (ab (mOp bN (mOp aJ (mUn (ap 0) (aa 1)) (M1 1)) (mOp aJ (mUn (ap 0) (aa 1)) (M1 1))) (ab (mC (.bl true)) ae))) (xs:=[.int n,.int sq,.bl true]) rfl (by simp[ap,bF,mu]) () (by simpa using ri) (by simp[PV.has]);simpa using this
def PT(n:Nat)(cs:MB):Mx:=cs.map λc=>(c / ((n:Int)+1),c%((n:Int)+1))
def FA(n:Nat)(cs:MB):MB:=cs.map (· / ((n:Int)+1))
def CN(n:Nat)(cs:MB):MB:=cs.map (· % ((n:Int)+1))
@[simp] def Ml:(FA n cs).length=cs.length:=by simp[FA]
@[simp] def HN:(CN n cs).length=cs.length:=by simp[CN]
def nea(ps:Mx)(fa:MB)(i:Nat):MB:=(nbL ps i).filter λo=>decide (gt fa o.toNat=gt fa i-1)
def eld(ps:Mx)(r:Nat)(fa:MB)(i:Nat):MG:=if i=r then none else if(nea ps fa i).isEmpty then none else some (fQ (nea ps fa i))
def mq(n:Nat)(ps:Mx)(r:Nat)(cs:MB)(i:Nat):MB:=((range n).filter λj=>decide (eld ps r (FA n cs) j=some (i:Int))).map (gt (CN n cs))
def dcn(n:Nat)(ps:Mx)(r:Nat)(cs:MB)(i:Nat):Int:=min (n:Int) (1+(mq n ps r cs i).sum)
def rh(n:Nat)(ps:Mx)(r:Nat)(cs:MB)(i:Nat):Int:=
 jv ps (fs n r) n n (FA n cs) i*((n:Int)+1)+(if jv ps (fs n r) n n (FA n cs) i=gt (FA n cs) i then dcn n ps r cs i else gt (CN n cs) i)
theorem qb(hfc:Fc fc)(n10:n<=10)(hn:cs.length=n):vt [gro .frz n ps r,M3 fc cs]=.ok (.lst .own (prL (PT n cs))):=by
 refine am ?_;refine az ?_ ();rw[show prL (PT n cs)=cs.map λc=>prV (c / ((n:Int)+1),c%((n:Int)+1)) by simp[prL,PT]];refine aF (xs:=iL cs) () (by rw[bL];lia) (aI cs λc _=>⟨[some (gro .frz n ps r),M4 c],by simp[tgN,aQ,bI,PV.MY],?_,by simp,by simp⟩);have np:(0:Int) <(n:Int)+1:=by lia
 simp[ap,bF,aR np,cQ np (show(n:Int)+1<1073741824 by lia),prV]
def o7(hfc:Fc fc)(n10:n<=10)(hn:cs.length=n):vk [gro .frz n ps r,M3 fc cs]=.ok (.lst .own (iL (FA n cs))):=by refine am ?_;refine az ?_ ();have pt:=qb (ps:=ps) (r:=r) hfc n10 hn;rw[show iL (FA n cs)=(PT n cs).map λx=>PV.int x.1 by simp[iL,FA,PT]];refine aF (xs:=prL (PT n cs)) (by rcases hfc with rfl|rfl<;>simp[dG,pt,ao,PV.MY]) (by simp[PT];lia) (aI (PT n cs) λx _=>⟨[some (prV x)],by rfl,?_,by simp,by simp⟩);simp
def j6(hfc:Fc fc)(n10:n<=10)(hn:cs.length=n):Do [gro .frz n ps r,M3 fc cs]=.ok (.lst .own (iL (CN n cs))):=by refine am ?_;refine az ?_ ();have pt:=qb (ps:=ps) (r:=r) hfc n10 hn;rw[show iL (CN n cs)=(PT n cs).map λx=>PV.int x.2 by simp[iL,CN,PT]];refine aF (xs:=prL (PT n cs)) (by rcases hfc with rfl|rfl<;>simp[dG,pt,ao,PV.MY]) (by simp[PT];lia) (aI (PT n cs) λx _=>⟨[some (prV x)],by rfl,?_,by simp,by simp⟩);simp
def CJ:lg (M3 f l)=.ok (if l.isEmpty then .non else .int (fQ l)):=by unfold lg;simp only[aV,eW]
theorem Ap{fa:MB}(hnb:∀x∈nbL ps i,0<=x/\x<n)(hl:(nbL ps i).length<=1000)(hn:fa.length=n)(hi:i<n):Dl [gro .frz n ps r,M3 .bor fa,.int i]=.ok (oV (eld ps r fa i)):=by
 refine am ?_;show HE [some (gro .frz n ps r),M6 .bor fa,M4 i,none]=_;unfold HE eld;by_cases q:i=r
 .rw[if_pos q];exact bp (cU (by simp[ap,bF,q]) (az (by simp[oV]) (by simp[oV])))
 rw[if_neg q];refine ac (aM (by simp[ap,bF,show ¬(i:Int)=r by lia]) ak) ?_;have be:=iU (ps:=ps) hi;refine ac (aj (v:=M2 (nea ps fa i)) ?_) ?_
 .have hz:nea ps fa i=((nbL ps i).filter λo=>decide (gt fa o.toNat=gt fa i-1)).map id:=by simp[nea]
  rw[hz];refine aF (by simp[ap,bF,bP,be,ao]) (by rw[bL];lia) (dH (λo=>decide (gt fa o.toNat=gt fa i-1)) id _ λx hx=>⟨[M6 .bor fa,M4 i,M4 x],by simp[tgN,aQ,bI],?_,λ_=>by simp⟩);obtain⟨h1,h2⟩:=hnb x hx;simp[cB (cs:=fa) (i:=x) () (),cB (cs:=fa) (i:=i) () ()]
 simp;generalize nea ps fa i=l;refine az ?_ (by cases l<;>simp[oV]);simp;rw[CJ];cases l<;>simp[oV]
abbrev ELs(n:Nat)(ps:Mx)(r:Nat)(fa:MB):List (MG):=(range n).map (eld ps r fa)
def wW(hfc:Fc fc)(n10:n<=10)(hnb:∀i:Nat,∀x∈nbL ps i,0<=x/\x<n)(hl:∀i:Nat,(nbL ps i).length<=1000)(hn:cs.length=n):Dn [gro .frz n ps r,M3 fc cs]=.ok (.lst .own (oL (ELs n ps r (FA n cs)))):=by
 refine am ?_;have fo:=o7 (ps:=ps) (r:=r) hfc n10 hn;refine ac (aj (v:=M2 (FA n cs)) (by rcases hfc with rfl|rfl<;>simp[cZ,fo,ao,PV.MY])) ?_;refine az ?_ ();rw[show oL (ELs n ps r (FA n cs))=(range n).map λi=>oV (eld ps r (FA n cs) i) by simp[oL]];refine aF (bM (by rfl) ()) (by rw[bm];lia) (aI (range n) λk hk=>⟨[some (gro .frz n ps r),M6 .bor (FA n cs),M4 (0+k)],by simp[tgN,aQ,bI,PV.MY],?_,?_,?_⟩)
 .have el:=Ap (r:=r) (hnb k) (hl k) (show(FA n cs).length=n by simpa using hn) (mem_range.mp hk);simp[fK,el,ao,PV.MY];cases eld ps r (FA n cs) k<;>simp[oV]
 .cases eld ps r (FA n cs) k<;>simp[oV]
 .cases eld ps r (FA n cs) k<;>simp[oV]
theorem pO(f:Nat->Int)(g:Nat->MG):∀l:List Nat,iF (iL (l.map f)) (oL (l.map g))=l.map λi=>PV.tup [.int (f i),oV (g i)]
 | []=>rfl
 |i::l=>by have:=pO f g l;simp only[iL,oL,map_cons,iF]at this ⊢;rw[this]
def eqO(o:MG)(i:Int):pEq (oV o) (.int i)=.ok (.bl (decide (o=some i))):=by
 cases o with
 |none=>simp;rfl
 |some s=>simp[oV]
def gtR(l:MB):(range l.length).map (gt l)=l:=by apply List.ext_getElem ();intro i h1 h2;simp[gt,h2]
theorem AY(hn:cs.length=n):∀i,i<n->0<=gt (CN n cs) i/\gt (CN n cs) i<=n:=λi hi=>by
 have hm:=fv (far:=CN n cs) (by simpa using hn▸hi);obtain⟨c,_,e⟩:=mem_map.mp hm;have:=emod_nonneg c (show(n:Int)+1≠0 by lia);have:=emod_lt_of_pos c (show(0:Int) <(n:Int)+1 by lia)
 lia
def qC(hn:cs.length=n)(hx:x∈mq n ps r cs i):0<=x/\x<=n:=by obtain⟨j,hj,rfl⟩:=mem_map.mp hx;exact AY hn j (mem_range.mp (mem_filter.mp hj).1)
def zS:(mq n ps r cs i).length<=n:=by have:=length_filter_le (λj=>decide (eld ps r (FA n cs) j=some (i:Int))) (range n);simpa[mq]using this
theorem Aw(hfc:Fc fc)(n10:n<=10)(hnb:∀i:Nat,∀x∈nbL ps i,0<=x/\x<n)(hl:∀i:Nat,(nbL ps i).length<=1000)(hn:cs.length=n):Dt [gro .frz n ps r,M3 fc cs,.int i]=.ok (.int (dcn n ps r cs i)):=by
 refine am ?_;show HF [some (gro .frz n ps r),M6 fc cs,M4 i,none]=_;unfold HF;have co:=j6 (ps:=ps) (r:=r) hfc n10 hn;have eo:=wW (ps:=ps) (r:=r) hfc n10 hnb hl hn;have zp:iF (iL (CN n cs)) (oL (ELs n ps r (FA n cs)))=(range n).map λj=>PV.tup [.int (gt (CN n cs) j),oV (eld ps r (FA n cs) j)]:=by
  have:=pO (gt (CN n cs)) (eld ps r (FA n cs)) (range n)
  rwa [show(range n).map (gt (CN n cs))=CN n cs by have:=gtR (CN n cs);rw[HN,hn]at this;exact this]at this
 refine ac (aj (v:=.lst .own (iL (mq n ps r cs i))) ?_) ?_
 .rw[show iL (mq n ps r cs i)=((range n).filter λj=>decide (eld ps r (FA n cs) j=some (i:Int))).map λj=>PV.int (gt (CN n cs) j) by simp[iL,mq]];refine aF (xs:=(range n).map λj=>PV.tup [.int (gt (CN n cs) j),oV (eld ps r (FA n cs) j)]) ?_ (by simp;lia) (db (a:=λj=>PV.tup [.int (gt (CN n cs) j),oV (eld ps r (FA n cs) j)]) (f:=λj=>.int (gt (CN n cs) j)) (p:=λj=>decide (eld ps r (FA n cs) j=some (i:Int))) (range n) λj hj=>⟨[M4 i,M4 (gt (CN n cs) j),some (oV (eld ps r (FA n cs) j))],?_,?_,λ_=>⟨by simp,rfl,rfl⟩⟩)
  .unfold iu;rcases hfc with rfl|rfl<;>simp[b7,eS,co,eo,ao,PV.has,Fl.MN,Fl.MP,PV.MY,eQ,zp]
  .cases eld ps r (FA n cs) j<;>rfl
  .have ob:∀o:MG,PV.MY Fl.MN (oV o)=oV o:=λo=>by cases o<;>rfl
   simp[ob,eqO]
 simp only[s0_,s1_];have sm:iJ (.lst .lnt (iL (mq n ps r cs i)))=.ok (.int (mq n ps r cs i).sum):=kD (by have:=zS (n:=n) (ps:=ps) (r:=r) (cs:=cs) (i:=i);lia) λx hx=>by have:=qC hn hx;lia
 refine az ?_ ();simp[ap,bF,p1,sm,dcn,gA]
theorem DC(hfc:Fc fc)(n1:1<=n)(n10:n<=10)(hnb:∀i:Nat,∀x∈nbL ps i,0<=x/\x<n)(hl:∀i:Nat,(nbL ps i).length<=1000)(hn:cs.length=n)(hi:i<n):vf [gro .frz n ps r,M3 fc cs,.int i]=.ok (.int (rh n ps r cs i)):=by
 refine am ?_;show EJ [some (gro .frz n ps r),M6 fc cs,M4 i,none,none,none]=_;have fo:=o7 (ps:=ps) (r:=r) hfc n10 hn;have co:=j6 (ps:=ps) (r:=r) hfc n10 hn;have dc:=Aw (r:=r) (i:=i) hfc n10 hnb hl hn;have fl:(FA n cs).length=n:=by simpa using hn
 have cl:(CN n cs).length=n:=by simpa using hn
 have ld:=qA (.inl rfl) (cc:=5) (os:=fs n r) (st:=n) (tp:=n) rfl (hnb i) (hl i) () fl (by simp[fs]) hi;refine ac (aj (v:=M2 (FA n cs)) (by rcases hfc with rfl|rfl<;>simp[cZ,fo,ao,PV.MY])) ?_;unfold rh;generalize jv ps (fs n r) n n (FA n cs) i=df at *;refine ac (aj (v:=.int df) (by simp[ap,bF,ik,ld,ao,PV.has,PV.MY])) ?_;have ic:∀f,ah (M3 f (CN n cs)) (.int (i:Int))=.ok (.int (gt (CN n cs) i)):=λf=>by simpa using cB (i:=i) () ()
 have ia:∀f,ah (M3 f (FA n cs)) (.int (i:Int))=.ok (.int (gt (FA n cs) i)):=λf=>by simpa using cB (i:=i) () ()
 refine ac (aj (v:=.int (gt (CN n cs) i)) (by rcases hfc with rfl|rfl<;>simp[b7,co,ic,ao,PV.MY])) ?_;have mu:bN (.int df) (.int ((n:Int)+1))=.ok (.int (df*((n:Int)+1))):=cO (.inr ⟨by lia,by lia⟩);by_cases q:df=gt (FA n cs) i
 .rw[if_pos q];refine ac (cU (by simp[ia,q]) (aj (v:=.int (dcn n ps r cs i)) (by rcases hfc with rfl|rfl<;>simp[bZ,dc,ao,PV.MY]))) ?_;exact az (by simp[ap,bF,mu]) ()
 .rw[if_neg q];refine ac (aM (by simp[ia,q]) ak) ?_;exact az (by simp[ap,bF,mu]) ()
noncomputable def eC(at_:Int):Int->MB->MB
 |_,[]=>[]
 |k,p::ps=>if p=at_ then k::eC at_ (k+1) ps else eC at_ (k+1) ps
theorem ji:∀{k:Int}{ps:MB}{x:Int},x∈eC at_ k ps->k<=x/\x<k+ps.length/\ps[(x-k).toNat]?=some at_
 |_,[],x,h=>by simp[eC]at h
 |k,p::ps,x,h=>by
  have key:x∈eC at_ (k+1) ps->k<=x/\x<k+(p::ps).length/\(p::ps)[(x-k).toNat]?=some at_:=λh=>by obtain⟨h1,h2,h3⟩:=ji h;refine⟨by lia,by simp;lia,?_⟩;rw[show(x-k).toNat=(x-(k+1)).toNat+1 by lia,getElem?_cons_succ];exact h3
  unfold eC at h;split at h
  .grind
  .exact key h
theorem qB{at_:Int}:∀{k:Int}{ps:MB},(eC at_ k ps).length<=ps.length
 |_,[]=>by simp[eC]
 |k,p::ps=>by have:=qB (at_:=at_) (k:=k+1) (ps:=ps);unfold eC;split<;>simp<;>lia
def pR(cs l:MB):Int:=(l.map λk=>gt cs k.toNat).sum
def DE(n:Nat)(ps cs:MB)(i:Nat):Int:=min (n:Int) (1+pR cs (eC i 1 ps))
theorem pQ{cs:MB}:∀{l:MB},(∀k∈l,0<=gt cs k.toNat)->0<=pR cs l
 | [],_=>by simp[pR]
 |k::l,h=>by
  have:=pQ λx hx=>h x (mem_cons_of_mem _ hx);have h2:=h k mem_cons_self;simp only[pR,map_cons,List.sum_cons]at this ⊢
  lia
def Tree(ps:MB):Prop:=∀i (h:i<ps.length),0<=ps[i]/\ps[i]<= i
abbrev cnt(fl:Fl)(ps:MB):PV:=.obj fl 3 [11,0,7,8] [.tup (iL ps),.int (ps.length+1),.int (ps.length+2),.bl false]
def v7{ps:MB}:f9 [.obj .own 3 [11] [.tup (iL ps)],.int (ps.length+1),.int (ps.length+2),.bl false]=.ok (cnt .own ps):=by rfl
def wZ{ps:MB}:nS [.obj .own 3 [11] [.tup (iL ps)],.int (ps.length+1),.int (ps.length+2)]=.ok (cnt .own ps):=by refine c9 (e:=[some (cnt .own ps),M4 (ps.length+1),M4 (ps.length+2)]) ?_ rfl;exact fM (xs:=[.int (ps.length+1),.int (ps.length+2),.bl false]) rfl () () (by simpa using v7) ()
def Ho{ps:MB}(h:m env=.ok (M3 f ps))(hf:f.MV=false):sR m env=.ok (enP 1 (iL ps)):=by unfold sR;rw[h];simp[hf,eQ]
theorem sx{ps:MB}(T:Tree ps)(hl:ps.length<=9)(hf:f=.bor\/f=.frz):Dh [M3 f ps]=.ok .non:=by
 have hf1:f.MN=f:=by rcases hf with rfl|rfl<;>rfl
 have hf2:f.MV=false:=by rcases hf with rfl|rfl<;>rfl
 have key:∃e,JW [M6 f ps,none,none]=.next e:=by
  have s1:∀a:MS,mBr (ai (mOp pGt (af (p1 da) (ab (aa 0) ae)) (M1 9))) a aA [M6 f ps,none,none]=.next [M6 f ps,none,none]:=λa=>aM (by simp[p1];lia) ak
  suffices hh:∃e,bX (sR (aa 0)) (tgT 2 (bj (tgN 1) (bj (tgN 2) eX))) (mBr ((gP (ai (mOp pLt (aa 2) (M1 0))) (ai (mOp pGe (aa 2) (aa 1))))) mNo aA) [M6 f ps,none,none]=.next e by obtain⟨e,h⟩:=hh;exact⟨e,ac (s1 _) h⟩
  refine gI (λ_ e=>∃a b,e=[M6 f ps,a,b]) (λr=>∃e,r=.next e) (xs:=enP 1 (iL ps)) (Ho (by simp[hf1]) hf2) ⟨_,_,rfl⟩ (λk x e hx hP=>?_) (λe hP=>⟨e,rfl⟩);obtain⟨a,b,rfl⟩:=hP;rw[fJ]at hx;obtain⟨y,hy,rfl⟩:=map_eq_some_iff.mp hx;obtain⟨v,hv,rfl⟩:=jX hy;obtain⟨hk,ev⟩:=List.getElem?_eq_some_iff.mp hv;have:=T k hk;refine⟨[M6 f ps,M4 (1+k),M4 v],rfl,.inl ⟨_,.inl (aM ?_ ak),_,_,rfl⟩⟩;simp[show ¬v<0 by lia,show ¬1+(k:Int)<= v by lia]
 obtain⟨e,h⟩:=key;exact c_ ⟨e,h⟩
def rz{ps:MB}(T:Tree ps)(hl:ps.length<=9)(hf:f.MN.MP=.bor\/f.MN.MP=.frz):wT [.obj .own 3 [] [],M3 f ps]=.ok (cnt .own ps):=by refine c9 (e:=[some (cnt .own ps),M6 f ps]) ?_ rfl;have rf:=sx T hl hf;refine ac (cD (v:=.non) (by simp[rf,ao])) ?_;refine ac (cj (v:=.tup (iL ps)) (by simp[cX,aV]) rfl () rfl ()) ?_;have:=fM (env:=[some (.obj .own 3 [11] [.tup (iL ps)]),M6 f ps]) (ms:=ab (mOp aJ (af (p1 da) (ab (aa 1) ae)) (M1 1)) (ab (mOp aJ (af (p1 da) (ab (aa 1) ae)) (M1 2)) ae)) (xs:=[.int (ps.length+1),.int (ps.length+2)]) rfl () () (by simpa using wZ) ();exact this
theorem rq{env:En}{g:TgM}{mc:MT}{me:ME}{at_:Int}:∀(ps:MB) (k:Int),(∀j v:Int,v∈ps->∃e1,g (.tup [.int j,.int v]) env=some e1/\mc e1=.ok (decide (v=at_))/\me e1=.ok (.int j))->dU g mc me env (enP k (iL ps))=.ok (iL (eC at_ k ps))
 | [],_,_=>rfl
 |p::ps,k,h=>by
  obtain⟨e1,h1,h2,h3⟩:=h k p mem_cons_self;have ih:=rq ps (k+1) λj v hv=>h j v (mem_cons_of_mem _ hv);simp only[f7,enP,dU];have b:(PV.tup [.int k,.int p]).MR=.tup [.int k,.int p]:=by simp
  rw[b,h1];simp only[h2];unfold eC;by_cases hc:p=at_
  .simp[hc,h3,ih]
  .simp[hc,ih]
theorem wO{ps:MB}{i:Int}(hl:ps.length<=1000):Ds [cnt .frz ps,.int i]=.ok (M2 (eC i 1 ps)):=by refine am ?_;refine az (aF ?_ (by rw[gK,bL];lia) (rq ps 1 λj v _=>⟨[M4 i,M4 j,M4 v],by rfl,by simp,by simp⟩)) ();unfold zJ;simp[ap,bF,aV]
def Sm(cs:MB):Prop:=∀c∈cs,0<=c/\c<=1000
theorem DJ{ps:MB}(hfc:Fc fc)(hl:ps.length<=9)(hs:Sm cs)(hn:cs.length=ps.length+1):vj [cnt .frz ps,M3 fc cs,.int i]=.ok (.int (DE (ps.length+1) ps cs i)):=by
 refine am ?_;show AN [some (cnt .frz ps),M6 fc cs,M4 i]=_;unfold AN DE pR;have ho:=wO (ps:=ps) (i:=(i:Int)) ();have kl:=qB (at_:=(i:Int)) (k:=1) (ps:=ps);have hc:ay [1] 1 (aK (bB bH (aa 0) (ab (aa 2) ae))) (tgN 1) aH (mOp ah (aa 0) (aa 1)) [some (cnt .frz ps),M6 fc cs,M4 i]=.ok (M2 ((eC i 1 ps).map λk=>gt cs k.toNat)):=by refine aF (by simp[bH,ho,ao]) (by rw[bL];lia) (fw (λk=>gt cs k.toNat) _ λx hx=>⟨[M6 fc cs,M4 x],by simp[tgN,aQ,bI,hfc.bo],?_⟩);obtain⟨h1,h2,_⟩:=ji hx;simp[hfc.le,cB (cs:=cs) (i:=x) () ()]
 have sm:iJ (M2 ((eC i 1 ps).map λk=>gt cs k.toNat))=.ok (.int ((eC i 1 ps).map λk=>gt cs k.toNat).sum):=kD (by simp;lia) λx hx=>by
  obtain⟨k,hk,rfl⟩:=mem_map.mp hx;obtain⟨h1,h2,_⟩:=ji hk;have:=hs _ (fv (i:=k.toNat) ())
  lia
 refine az ?_ ();simp only[b6,aW,cH,hc];simp[ap,bF,sm,gA]
def InS(sp:Int)(cs:MB):Prop:=∀c∈cs,0<=c/\c<sp
structure Rl(o:PV)(n:Nat)(sp:Int)(al:Bool)(D:MB->Nat->Int):Prop where
 le:o.MY Fl.MN=o:=by simp
 tb:o.MY Fl.MP=o:=by simp
 bo:o.MY Fl.MR=o:=by simp
 a0:ap 0 o=.ok (.int n):=by simp[ap,bF]
 a7:ap 7 o=.ok (.int sp):=by simp[ap,bF]
 a8:ap 8 o=.ok (.bl al):=by simp[ap,bF]
 s0:0<sp:=by lia
 n1:1<=n:=by lia
 n20:n<=20:=by lia
 due:∀fc cs k,Fc fc->cs.length=n->InS sp cs->k<n->io aC (.ok [M3 fc cs,.int k]) o=.ok (.int (D cs k))/\0<=D cs k/\D cs k<sp
 rd:∀r,io aD r o=r.bind λxs=>aq gY (o::xs):=by intro r;simp[aD]
 mv:∀r,io au r o=r.bind λxs=>aq gZ (o::xs):=by intro r;simp[au]
 tu:∀r,io aP r o=r.bind λxs=>aq g7 (o::xs):=by intro r;simp[aP]
def mvR(n:Nat)(D:MB->Nat->Int)(cs:MB):MB:=((range n).filter λi=>decide (D cs i≠gt cs i)).map λi:Nat=>(i:Int)
def stR(n:Nat)(D:MB->Nat->Int)(cs nm:MB):MB:=(range n).map λi:Nat=>if nm.contains (i:Int)then D cs i else gt cs i
def h_(n:Nat)(al:Bool)(nm:MB):Prop:=nm.Nodup/\(∀x∈nm,0<=x/\x<n)/\(al=true->nm.length<=1)/\nm.length<=1000
section
variable{o:PV}{n:Nat}{sp:Int}{al:Bool}{D:MB->Nat->Int}{cs nm:MB}{f fn:Fl}
theorem rW(r:Rl o n sp al D)(hn:cs.length=n)(hc:InS sp cs)(nm:MB):(stR n D cs nm).length=n/\InS sp (stR n D cs nm):=by
 refine⟨by simp[stR],λc hc'=>?_⟩;obtain⟨i,hi,rfl⟩:=mem_map.mp hc';have hi:=mem_range.mp hi;split
 .exact(r.due .bor cs i (.inl rfl) hn hc hi).2
 .exact hc _ (fv ())
def fH:(mvR n D cs).length<=n:=by
 unfold mvR;rw[length_map];have:=length_filter_le (λi=>decide (D cs i≠gt cs i)) (range n)
 rwa [List.length_range]at this
theorem cL(r:Rl o n sp al D)(hf:Fc f\/f=.own)(hn:cs.length=n)(hc:InS sp cs):gZ [o,M3 f cs]=.ok (M2 (mvR n D cs)):=by
 have n20:=r.n20;have fb:=Fc.of hf;refine am ?_;refine az ?_ ();refine aF (bM (by simp[r.le,r.a0]) ()) (by rw[bm];lia) (iR (λk=>decide (D cs k≠gt cs k)) (λk=>(k:Int)) n λk hk=>⟨[some o,M6 f.MR cs,M4 (0+k)],by simp[tgN,aQ,bI,r.bo],?_,λ_=>by simp⟩);generalize f.MR=fc at *;have gk:ah (M3 fc cs) (.int (k:Int))=.ok (.int (gt cs k)):=by simpa using cB (i:=k) () ()
 simp[r.le,fb.le,(r.due fc cs k fb hn hc hk).1,gk]
theorem v9(r:Rl o n sp al D)(hf:Fc fn)(hg:h_ n al nm):u_ [o,M3 fn nm]=.ok .non:=by
 obtain⟨hd,hr,ha,hl⟩:=hg;refine c_ ?_;refine cI (aM ?_ ak) ?_
 .cases al with
  |false=>simp[r.le,r.a8]
  |true=>
   have:=ha rfl;simp[r.le,r.a8]
   lia
 refine An (λ_ e=>∃x,e=[some o,M6 fn nm,x]) (xs:=iL nm) (cW (by simp[hf.le]) hf.nl () ()) ⟨_,rfl⟩ (λk x e hx hP=>?_) (λe hP=>?_)
 .obtain⟨y,rfl⟩:=hP;obtain⟨m,hm,rfl⟩:=jX hx;obtain⟨h1,h2⟩:=hr m (List.mem_of_getElem? hm);refine⟨_,cV rfl,bC (aM ?_ ak) ⟨_,rfl⟩⟩;simp[r.le,r.a0,show ¬m<0 by lia,show ¬(n:Int)<= m by lia]
 .obtain⟨y,rfl⟩:=hP;exact j4 (aM (by simp[ny hl,rm hd]) ak)
def jF(r:Rl o n sp al D)(hf:Fc f\/f=.own)(hfn:Fc fn\/fn=.own)(hn:cs.length=n)(hc:InS sp cs)(hg:h_ n al nm):g7 [o,M3 f cs,M3 fn nm]=.ok (M2 (stR n D cs nm)):=by
 have n20:=r.n20;have fb:=Fc.of hf;refine am ?_;refine ac (cD (v:=.non) (by simp[r.le,r.tb,v9 r (Fc.call hfn) hg,ao])) (az ?_);refine aF (bM (by simp[r.le,r.a0]) ()) (by rw[bm];lia) (f_ 0 (λi:Nat=>if nm.contains (i:Int)then D cs i else gt cs i) n λk hk=>⟨[M6 fn.MR nm,some o,M6 f.MR cs,M4 (0+k)],by simp[tgN,aQ,bI,r.bo],?_⟩);generalize f.MR=fc at *;have gk:∀f,ah (M3 f cs) (.int (k:Int))=.ok (.int (gt cs k)):=λf=>by simpa using cB (i:=k) () ()
 have dk:=(r.due fc cs k fb hn hc hk).1;by_cases q:nm.contains (k:Int)=true
 .simp;simp at q;simp[q,r.le,fb.le,dk]
 .simp only[q];simp at q;simp[q,gk]
def dnR(n:Nat)(D:MB->Nat->Int)(cs nm:MB):MB:=(mvR n D cs).filter λa=>nm.contains a
theorem vZ(r:Rl o n sp al D)(hf:Fc f)(hfn:Fc fn)(hn:cs.length=n)(hc:InS sp cs)(hg:h_ n al nm):uO [o,M3 f cs,M3 fn nm]=.ok (.tup [M2 (dnR n D cs nm),M2 (stR n D cs nm)]):=by
 have n20:=r.n20;have ml:=fH (n:=n) (D:=D) (cs:=cs);refine am ?_;show Er [some o,M6 f cs,M6 fn nm,none,none]=_;refine ac (aj (v:=M2 (stR n D cs nm)) (by simp[r.le,r.tb,r.tu,hf.le,hf.tb,hfn.le,hfn.tb,jF r (.inl hf) (.inl hfn) hn hc hg,ao])) ?_;refine ac (aj (v:=M2 (dnR n D cs nm)) ?_) ?_
 .refine aF (xs:=iL (mvR n D cs)) (by simp[r.le,r.tb,r.mv,hf.le,hf.tb,cL r (.inl hf) hn hc,ao]) (by simp;lia) ?_;have:=dH (env:=bI [2] 1 [some o,M6 f cs,M6 fn nm,M5 (stR n D cs nm),none]) (g:=tgN 1) (mc:=ai (mOp pIn (aa 1) (aa 0))) (me:=aa 1) (λa=>nm.contains a) (λa=>a) (mvR n D cs) λx hx=>⟨[M6 fn nm,M4 x],by simp[tgN,aQ,bI,hfn.bo],by simp,λ_=>by simp⟩
  rw[map_id']at this;exact this
 .simp;rfl
def v3(f:Fl)(p:MB×MB):PV:=.tup [M3 f p.1,M3 f p.2]
@[simp] def IU(ps:List (MB×MB)):mapL g (ps.map (v3 f))=ps.map (v3 (g f)):=by
 induction ps with
 |nil=>simp
 |cons a l ih=>simp[ih,v3]
theorem i_{rs:MB}(r:Rl o n sp al D)(hn:rs.length=n):gY [o,M3 f rs]=.ok (M2 (rs.map (· % sp))):=by have n20:=r.n20;refine am ?_;refine ac (aM (by simp[r.le,r.a0,hn]) ak) (az ?_);refine aF (xs:=iL rs) () (by simp;lia) ?_;exact fw (· % sp) rs λx hx=>⟨[some o,M4 x],by simp[tgN,aQ,bI,r.bo],by simp[r.le,r.a7,aR r.s0]⟩
def sK{rs:MB}(r:Rl o n sp al D):InS sp (rs.map (· % sp)):=λc hc=>by obtain⟨x,_,rfl⟩:=mem_map.mp hc;have:=r.s0;exact⟨emod_nonneg _ (),emod_lt_of_pos _ r.s0⟩
end
noncomputable abbrev kX(f:Fl)(size span:Int):PV:=.obj f 9 [0,7,8] [.int size,.int span,.bl false]
theorem yN{size span:Int}(h1:2<=size)(h2:size<=20)(h3:size<=span):nR [.obj .own 9 [] [],.int size,.int span]=.ok (kX .own size span):=by
 refine c9 (e:=[some (kX .own size span),M4 size,M4 span]) ?_ rfl;refine ac (aM (by simp[show ¬size<2 by lia,show ¬20<size by lia]) ak) ?_;refine ac (aM (by simp[show ¬span<size by lia]) ak) ?_;have ri:f9 [.obj .own 9 [] [],.int size,.int span,.bl false]=.ok (kX .own size span):=by refine c9 (e:=[some (kX .own size span),M4 size,M4 span,some (.bl false)]) ?_ rfl;refine ac (cj (v:=.int size) () rfl () rfl ()) ?_;refine ac (cj (v:=.int span) () rfl () rfl ()) ?_;exact cj (ks:=[0,7]) (vs:=[.int size,.int span]) () rfl () rfl ()
 have:=fM (env:=[some (.obj .own 9 [] []),M4 size,M4 span]) (ms:=ab (aa 1) (ab (aa 2) (ab (mC (.bl false)) ae))) (xs:=[.int size,.int span,.bl false]) rfl () () (by simpa using ri) ();simpa using this
def o8(sp:Int)(cs:MB)(i:Nat):Int:=if i=0 then(if gt cs 0=gt cs (cs.length-1)then(gt cs 0+1)%sp else gt cs 0)else gt cs (i-1)
theorem Ci(hfc:Fc fc)(hn:cs.length=n)(hi:i<n)(hs:0<sp):vd [kX .frz n sp,M3 fc cs,.int i]=.ok (.int (o8 sp cs i)):=by
 refine am ?_;unfold EH o8;by_cases h0:i=0
 .subst h0;have g0:ah (M3 fc cs) (.int 0)=.ok (.int (gt cs 0)):=cB () ();have gl:ah (M3 fc cs) (.int ((n:Int)-1))=.ok (.int (gt cs (cs.length-1))):=by
   rw[cB () ()];congr 3
   lia
  refine ac (aM () ak) ?_;by_cases hc:gt cs 0=gt cs (cs.length-1)
  .rw[if_pos hc];exact bp (cU (by simp[ap,bF,hfc.le,g0,gl,<- hc]) (az (by simp[ap,bF,hfc.le,g0,aR hs])))
  .rw[if_neg hc];exact ac (aM (by simp[ap,bF,hfc.le,g0,gl,hc]) ak) (az (by simp[hfc.le,g0]))
 .rw[if_neg h0];have gl:ah (M3 fc cs) (.int ((i:Int)-1))=.ok (.int (gt cs (i-1))):=by
   rw[cB () ()];congr 3
   lia
  exact bp (cU (by simp;lia) (az (by simp[hfc.le,gl])))
theorem DB(hn:cs.length=n)(hc:InS sp cs)(hi:i<n)(hs:0<sp):0<=o8 sp cs i/\o8 sp cs i<sp:=by
 unfold o8;split
 .split
  .exact⟨emod_nonneg _ (),emod_lt_of_pos _ hs⟩
  .exact hc _ (fv ())
 .exact hc _ (fv ())
def uk(h1:1<=n)(h20:n<=20)(hs:0<sp):Rl (kX .frz n sp) n sp false (o8 sp) where
 due:=λfc cs k hfc hn hc hk=>⟨by simp[aC,hfc.tb,Ci hfc hn hk hs,ao],DB hn hc hk hs⟩
def yv(h1:1<=n)(h20:n<=20)(rg:∀x∈ps,0<=x.1/\x.1<n/\0<=x.2/\x.2<n/\x.1≠x.2)(hl:∀i,(nbL ps i).length<=1000):Rl (pnt .frz n ps) n n false (wX ps) where
 due:=λfc cs k hfc hn hc hk=>⟨by simp[aC,hfc.tb,A9 rg hfc hl hn hk,ao],DA rg hk⟩
theorem yw{ps:MB}(hl:ps.length<=9):Rl (cnt .frz ps) (ps.length+1) ((ps.length:Int)+2) false (DE (ps.length+1) ps) where
 due:=λfc cs k hfc hn hc hk=>by
  have sm:Sm cs:=λc hc'=>by have:=hc c hc';lia
  refine⟨by simp[aC,hfc.tb,DJ hfc hl sm hn,ao],?_⟩;have nn:=pQ (l:=eC k 1 ps) λj hj=>by obtain⟨h1,h2,_⟩:=ji hj;exact(hc _ (fv ())).1
  unfold DE
  lia
theorem vz(ht:0<=tp)(ho:OkS tp os)(hn:cs.length=n)(hnb:∀x∈nbL ps i,0<=x/\x<n)(hc:∀c∈cs,0<=c):0<=jv ps os st tp cs i/\jv ps os st tp cs i<=tp:=by
 unfold jv;obtain⟨m1,m2⟩:=ly (l:=oP ps st tp cs i ++(os.getD i none).toList++[tp]) ();have h2:=m2 tp ();generalize fQ (oP ps st tp cs i ++(os.getD i none).toList++[tp])=M at *;refine⟨?_,h2⟩;rcases mem_append.mp m1 with q|q
 .rcases mem_append.mp q with q|q
  .unfold oP at q;obtain⟨c,hc1,rfl⟩:=mem_map.mp q;obtain⟨o,ho1,rfl⟩:=mem_map.mp (mem_filter.mp hc1).1;have:=hnb o ho1;have:=hc _ (fv (i:=o.toNat) ())
   lia
  .have e:os.getD i none=some M:=by
    cases eo:os.getD i none with
    |none=>rw[eo]at q;cases q
    |some s=>rw[eo]at q;exact congrArg some (mem_singleton.mp q).symm
   have hm:some M∈os:=by
    rw[getD_eq_getElem?_getD]at e;cases e2:os[i]? with
    |none=>rw[e2]at e;cases e
    |some x=>rw[e2]at e;rw[<- show x=some M from e];exact List.mem_of_getElem? e2
   exact(ho M hm).1
 .simp_all
theorem p5(hcc:cc=5\/cc=6)(h1:1<=n)(h20:n<=20)(hst:0<st)(ht:0<=tp)(ho:OkS tp os)(hol:os.length=n)(hnb:∀i:Nat,∀x∈nbL ps i,0<=x/\x<n)(hl:∀i,(nbL ps i).length<=1000):Rl (lea .frz cc n ps os st tp) n (tp+1) true (jv ps os st tp) where
 due:=λfc cs k hfc hn hc hk=>by have d:=qA (cc:=cc) (tp:=tp) hfc (by rcases hcc with rfl|rfl<;>rfl) (hnb k) (hl k) hst hn hol hk;have b:=vz (st:=st) ht ho hn (hnb k) λc hc'=>(hc c hc').1;refine⟨?_,b.1,by lia⟩;rcases hcc with rfl|rfl<;>simp[aC,hfc.tb,d,ao]
 rd:=λr=>by rcases hcc with rfl|rfl<;>simp[aD]
 mv:=λr=>by rcases hcc with rfl|rfl<;>simp[au]
 tu:=λr=>by rcases hcc with rfl|rfl<;>simp[aP]
theorem tH(h:1<=n):OkS n (fs n r):=λs hs=>by
 simp only[fs,mem_map]at hs;obtain⟨i,_,e⟩:=hs;split at e
 .cases e;lia
 .cases e
theorem DD(h1:1<=n)(hn:cs.length=n)(hi:i<n)(hnb:∀i:Nat,∀x∈nbL ps i,0<=x/\x<n)(hc:InS (((n:Int)+1)*((n:Int)+1)) cs):0<=rh n ps r cs i/\rh n ps r cs i <((n:Int)+1)*((n:Int)+1):=by
 have hfa:∀c∈FA n cs,0<=c:=λc hc'=>by obtain⟨x,hx,rfl⟩:=mem_map.mp hc';exact Int.ediv_nonneg (hc x hx).1 ()
 obtain⟨b1,b2⟩:=vz () (tH h1) (show(FA n cs).length=n by simpa using hn) (hnb i) hfa;have c1:=AY hn i hi;have sn:0 <=(mq n ps r cs i).sum:=by
  have:∀l:MB,(∀x∈l,0<=x)->0<=l.sum:=λl=>by
   induction l with
   |nil=>simp
   |cons a l ih=>
    intro h;have:=ih λx hx=>h x (mem_cons_of_mem _ hx);have:=h a mem_cons_self;simp
    lia
  exact this _ λx hx=>(qC hn hx).1
 unfold rh dcn;generalize jv ps (fs n r) n n (FA n cs) i=d at *;have m1:0<=d*((n:Int)+1):=Int.mul_nonneg b1 ();have m2:d*((n:Int)+1)<= n*((n:Int)+1):=Int.mul_le_mul_of_nonneg_right b2 ();have m3:((n:Int)+1)*((n:Int)+1)=n*((n:Int)+1)+((n:Int)+1):=by lia
 split<;>lia
theorem B1(h1:1<=n)(h10:n<=10)(hnb:∀i:Nat,∀x∈nbL ps i,0<=x/\x<n)(hl:∀i:Nat,(nbL ps i).length<=1000):Rl (gro .frz n ps r) n (((n:Int)+1)*((n:Int)+1)) true (rh n ps r) where
 s0:=Int.mul_pos () ()
 due:=λfc cs k hfc hn hc hk=>⟨by simp[aC,hfc.tb,DC hfc h1 h10 hnb hl hn hk,ao],DD h1 hn hk hnb hc⟩
def Fc.tb2(h:Fc f\/f=.own):Fc f.MP\/f.MP=.own:=by
 rcases h with(rfl|rfl)|rfl
 .exact .inl (.inl rfl)
 .exact .inl (.inr rfl)
 .exact .inr rfl
theorem jL{e:Nat}(h1:0<b)(h2:b<=1000)(he:e<=1000):nJ [.int b,.int e]=.ok (.int (b ^ e)):=by
 refine am ?_;show Ep [M4 b,M4 e,none,none]=_;refine ac (aj (v:=.int 1) ()) ?_;refine d7 (λk en=>∃x,en=[M4 b,M4 e,M4 (b ^ k),x]) (bM (n:=e) () ()) ⟨none,by simp⟩ (λk x en hx hP=>?_) (λen hP=>?_)
 .obtain⟨y,rfl⟩:=hP;obtain⟨hk,rfl⟩:=dL hx;have m1:bN (.int (b ^ k)) (.int b)=.ok (.int (b ^ k*b)):=cO (.inr ⟨by lia,by lia⟩);exact⟨_,cV rfl,bC (aj (by simp[m1,Int.pow_succ])) ⟨_,rfl⟩⟩
 .obtain⟨y,rfl⟩:=hP;rw[bm];exact cA rfl
theorem rQ(h:n<=10):(0:Int)<2 ^ n/\(2:Int) ^ n<=1024:=by
 refine⟨Int.pow_pos (),?_⟩;rcases Nat.lt_or_ge n 10 with q|q
 .exact Int.le_of_lt (Int.pow_lt_pow_of_lt () q)
 .lia
section
variable{n:Nat}{D:MB->Nat->Int}{cs nm:MB}{i:Nat}
noncomputable def Wl(rk:Nat->Nat)(n:Nat)(p:Nat->Bool):Int:=(((range n).filter p).map λi=>(2:Int) ^ rk i).sum
variable{rk:Nat->Nat}{p p':Nat->Bool}
theorem xq(n10:n<=10)(hr:∀i,i<n->rk i<n):iJ (M3 f (((range n).filter p).map λi=>(2:Int) ^ rk i))=.ok (.int (Wl rk n p)):=by
 refine kD ?_ λx hx=>?_
 .rw[length_map];exact Nat.le_trans (length_filter_le _ _) (by simp;lia)
 .obtain⟨i,hi,rfl⟩:=mem_map.mp hx;have:=hr i (mem_range.mp (mem_filter.mp hi).1);have:=rQ (n:=rk i) ()
  lia
abbrev mvB(D:MB->Nat->Int)(cs:MB)(i:Nat):Bool:=decide (D cs i≠gt cs i)
theorem At{al:Bool}(r:Rl o n sp al D)(n10:n<=10)(hr:∀i:Nat,i<n->io cC (.ok [.int i]) o=.ok (.int (rk i))/\rk i<n)(hf:Fc f\/f=.own)(hn:cs.length=n)(hc:InS sp cs):wU [o,.lst f (iL cs)]=.ok (.int (Wl rk n (mvB D cs))):=by
 refine am ?_;have mo:=cL r (.inl (Fc.call hf)) hn hc;have ml:=fH (n:=n) (D:=D) (cs:=cs);refine az ?_ ();simp;rw[aF (xs:=iL (mvR n D cs)) (ys:=iL (((range n).filter (mvB D cs)).map λi=>(2:Int) ^ rk i)) (by simp[r.le,r.tb,r.mv,mo,ao]) (by rw[bL];lia) ?_]
 .simp[xq n10 λi hi=>(hr i hi).2]
 .unfold mvR;rw[show ∀l:List Nat,iL (l.map λi:Nat=>(i:Int))=l.map λi:Nat=>PV.int i from λl=>by simp[iL],show ∀l:List Nat,iL (l.map λi=>(2:Int) ^ rk i)=l.map λi=>PV.int (2 ^ rk i)from λl=>by simp[iL]];refine aI _ λx hx=>⟨[some o,some (.int x)],by simp[tgN,aQ,bI,r.bo],?_,by simp,by simp⟩
  have hx:=hr x (mem_range.mp (mem_filter.mp hx).1);have pw:=jL (e:=rk x) (b:=2) () () ();simp[r.le,hx.1,pw,ao]
end
noncomputable def num(b:Int)(r f:Nat->Nat):Nat->Int
 |0=>0
 |m+1=>(num b r f m*b+r m)*b+f m
def sw(n:Nat)(A x:Nat->Int)(m:Nat):Nat:=((range n).filter λi=>decide (x i=m)&&decide ((m:Int)<A i)).length
def tK(n:Nat)(A x:Nat->Int)(m:Nat):Nat:=((range n).filter λi=>decide ((m:Int)<x i)&&decide (A i=m)).length
def lP{p:Nat->Bool}:((range n).filter p).length<=n:=by grind
def mL(n T:Nat)(A x:Nat->Int):Int:=num ((n:Int)+1) (sw n A x) (tK n A x) T
theorem pK(f g:Nat->Int):∀l:List Nat,iF (iL (l.map f)) (iL (l.map g))=l.map λi=>prV (f i,g i)
 | []=>rfl
 |i::l=>by have:=pK f g l;simp only[iL,map_cons,iF]at this ⊢;rw[this];rfl
theorem qx{D:Nat->Int}(hf:Fc fc\/fc=.own)(hd:∀f k,Fc f->k<n->io aC (.ok [M3 f cs,.int k]) (lea .frz cc n ps os st T)=.ok (.int (D k)))(hn:cs.length=n)(n10:n<=10)(hT:T<=1000) :
  qK [lea .frz cc n ps os st T,M3 fc cs]=.ok (.int (mL n T D (gt cs))):=by
 have fb:=Fc.of hf;refine am ?_;show JZ [some (lea .frz cc n ps os st T),M6 fc cs,none,none,none,none,none,none]=_;refine ac (aj (v:=M2 ((range n).map D)) ?_) ?_
 .refine aF (bM (by simp[ap,bF]) ()) (by rw[bm];lia) (f_ 0 D n λk hk=>⟨[some (lea .frz cc n ps os st T),M6 fc.MR cs,M4 (0+k)],by simp[tgN,aQ,bI],?_⟩);have:=hd _ k fb hk;simp[fb.le,this]
 refine ac (aj (v:=.int ((n:Int)+1)) (by simp[ap,bF])) ?_;refine ac (aj (v:=.int 0) ()) ?_;have zp:iF (iL cs) (iL ((range n).map D))=(range n).map λi=>prV (gt cs i,D i):=by have:=pK (gt cs) D (range n);rw[<- hn,gtR]at this;rw[<- hn];exact this
 refine d7 (λk e=>∃x5 x6 x7,e=[some (lea .frz cc n ps os st T),M6 fc cs,M5 ((range n).map D),M4 ((n:Int)+1),M4 (num ((n:Int)+1) (sw n D (gt cs)) (tK n D (gt cs)) k),x5,x6,x7]) (bM (n:=T) (by simp[ap,bF]) ()) ⟨_,_,_,rfl⟩ (λk x e hx hP=>?_) (λe hP=>?_)
 .obtain⟨x5,x6,x7,rfl⟩:=hP;obtain⟨hk,rfl⟩:=dL hx;generalize hN:num ((n:Int)+1) (sw n D (gt cs)) (tK n D (gt cs)) k=N;have mz:∀x6 x7,iu (ab (aa 1) (ab (aa 2) ae)) [some (lea .frz cc n ps os st T),M6 fc cs,M5 ((range n).map D),M4 ((n:Int)+1),M4 N,M4 k,x6,x7]=.ok ((range n).map λi=>prV (gt cs i,D i)):=λx6 x7=>by unfold iu;simp[eQ,zp]
  have row:∀(p:Nat->Bool) (mc:MT) (x6 x7:Option PV),(∀i,mc [M4 k,M4 (gt cs i),M4 (D i)]=.ok (p i))->ay [5] 2 (iu (ab (aa 1) (ab (aa 2) ae))) (tgT 2 (bj (tgN 1) (bj (tgN 2) eX))) mc (aa 1) [some (lea .frz cc n ps os st T),M6 fc cs,M5 ((range n).map D),M4 ((n:Int)+1),M4 N,M4 k,x6,x7]=.ok (.lst .own (iL (((range n).filter p).map (gt cs)))):=λp mc x6 x7 hp=>by rw[show iL (((range n).filter p).map (gt cs))=((range n).filter p).map λi=>PV.int (gt cs i) by simp[iL]];exact aF (mz _ _) (by simp;lia) (db (range n) λi hi=>⟨[M4 k,M4 (gt cs i),M4 (D i)],rfl,hp i,λ_=>⟨by simp,rfl,rfl⟩⟩)
  refine⟨_,cV rfl,?_⟩;simp;refine bt (aj (v:=M2 (((range n).filter λi=>decide (gt cs i=k)&&decide ((k:Int)<D i)).map (gt cs))) (row _ _ _ _ λi=>by by_cases q:gt cs i=k<;>simp[q])) ?_;refine bt (aj (v:=M2 (((range n).filter λi=>decide ((k:Int)<gt cs i)&&decide (D i=k)).map (gt cs))) (row _ _ _ _ λi=>by by_cases q:(k:Int)<gt cs i<;>simp[q])) ?_;have m1:∀x:Int,bN (.int x) (.int ((n:Int)+1))=.ok (.int (x*((n:Int)+1))):=λx=>cO (.inr ⟨by lia,by lia⟩);exact bC (aj (v:=.int ((N*((n:Int)+1)+sw n D (gt cs) k)*((n:Int)+1)+tK n D (gt cs) k)) (by simp[m1,aV,sw,tK])) ⟨_,_,_,by subst hN;rfl⟩
 .obtain⟨x5,x6,x7,rfl⟩:=hP;rw[bm];exact cA rfl
abbrev mT(n:Nat)(ps:Mx)(os:List (MG))(st:Int)(T:Nat)(cs:MB):Int:=mL n T (jv ps os st T cs) (gt cs)
theorem ko{p q:Nat->Bool}:∀(l:List Nat) (i:Nat),i∈l->(∀j∈l,q j=true->p j=true)->p i=true->q i=false->(l.filter q).length <(l.filter p).length
 | [],_,h,_,_,_=>nomatch h
 |a::l,i,h,hs,hp,hq=>by
  have le:∀l:List Nat,(∀j∈l,q j=true->p j=true)->(l.filter q).length <=(l.filter p).length:=λl hl=>by
   induction l with
   |nil=>simp
   |cons b l ih=>cases e1:q b<;>cases e2:p b<;>simp_all<;>lia
  rw[List.filter_cons,List.filter_cons];rcases mem_cons.mp h with rfl|h
  .grind
  .have ih:=ko l i h (λj hj=>hs j (mem_cons_of_mem _ hj)) hp hq;cases e1:q a<;>cases e2:p a<;>simp_all<;>lia
def ltF(fa:MB)(j i:Nat):Bool:=decide (gt fa j<gt fa i) ||(decide (gt fa j=gt fa i)&&decide (j<i))
def rnk(n:Nat)(fa:MB)(i:Nat):Nat:=((range n).filter λj=>ltF fa j i).length
section
variable{n:Nat}{ps:Mx}{r:Nat}{cs fa:MB}{i j:Nat}{fc:Fl}
theorem B3(hn:fa.length=n)(n10:n<=10)(hi:i<n):va [M3 .bor fa,.int i]=.ok (.int (rnk n fa i)):=by
 refine am ?_;show EF [M6 .bor fa,M4 i,none]=_;refine ac (aj (v:=M2 (((range n).filter λj=>ltF fa j i).map λj:Nat=>(j:Int))) ?_) ?_
 .refine aF (bM (by simp[p1,aV,hn]) ()) (by rw[bm];lia) (iR (λj=>ltF fa j i) (λj:Nat=>(j:Int)) n λk hk=>⟨[M6 .bor fa,M4 i,M4 (0+k)],by simp[tgN,aQ,bI],?_,λ_=>by simp⟩);have a1:∀(f:Fl) (k:Nat),k<n->ah (M3 f fa) (.int (k:Int))=.ok (.int (gt fa k)):=λf k hk=>by simpa using cB (i:=k) () ()
  have e:HT.lexLt [gt fa k,(k:Int)] [gt fa i,(i:Int)]=ltF fa k i:=by
   simp only[HT.lexLt,ltF];by_cases h:gt fa k=gt fa i
   .lia
   .lia
  rw[<- e];simp[a1 _ k hk,a1 _ i hi,wo,a9]
 exact az (by simp[p1,aV,rnk]) ()
def oB(hi:i<n):rnk n fa i<n:=by
 have:=ko (q:=λj=>ltF fa j i) (range n) i (mem_range.mpr hi) (λ_ _ _=>rfl) rfl (by simp[ltF])
 rwa [List.filter_eq_self.mpr (λ_ _=>rfl),List.length_range]at this
abbrev wrg(n:Nat)(ps:Mx)(r:Nat)(cs:MB)(i:Nat):Bool:=decide (gt (CN n cs) i≠dcn n ps r cs i)
theorem Ab{M:Int}(hf:Fc fc\/fc=.own)(n10:n<=10)(hnb:∀i:Nat,∀x∈nbL ps i,0<=x/\x<n)(hl:∀i:Nat,(nbL ps i).length<=1000)(hn:cs.length=n)
  (hM:qK [lea .frz 5 n ps (fs n r) n n,.lst .bor (iL (FA n cs))]=.ok (.int M)):Dq [gro .frz n ps r,.lst fc (iL cs)]=.ok (.int (M*2 ^ n+Wl (rnk n (FA n cs)) n (wrg n ps r cs))):=by
 refine am ?_;have fo:=o7 (ps:=ps) (r:=r) (Fc.call hf) n10 hn;have co:=j6 (ps:=ps) (r:=r) (Fc.call hf) n10 hn;have fb:=Fc.of hf;have fl:(FA n cs).length=n:=by simpa using hn
 refine ac (aj (v:=.lst .own (iL (FA n cs))) (by simp[cZ,fo,ao])) ?_;refine ac (aj (v:=.lst .own (iL (CN n cs))) (by simp[b7,co,ao])) ?_;refine ac (aj (v:=.lst .own (iL (((range n).filter (wrg n ps r cs)).map λj:Nat=>(j:Int)))) ?_) ?_
 .refine aF (bM (by rfl) ()) (by rw[bm];lia) (iR (wrg n ps r cs) (λj:Nat=>(j:Int)) n λk hk=>⟨[some (.lst .bor (iL (CN n cs))),some (gro .frz n ps r),some (.lst fc.MR (iL cs)),some (.int (0+k))],by simp[tgN,aQ,bI],?_,λ_=>by simp⟩);have a1:∀f,ah (.lst f (iL (CN n cs))) (.int (k:Int))=.ok (.int (gt (CN n cs) k)):=λf=>by simpa using cB (i:=k) () (by simp;lia)
  have dc:=Aw (r:=r) (i:=k) fb n10 hnb hl hn;simp[a1,bZ,fb.le,fb.tb,dc,ao]
 refine ac (aj (v:=.lst .own (iL (((range n).filter (wrg n ps r cs)).map λi=>(2:Int) ^ rnk n (FA n cs) i))) ?_) ?_
 .rw[show ∀l:List Nat,iL (l.map λi=>(2:Int) ^ rnk n (FA n cs) i)=l.map λi=>PV.int (2 ^ rnk n (FA n cs) i)from λl=>by simp[iL]];have hx:∀l:List Nat,iL (l.map λj:Nat=>(j:Int))=l.map λj:Nat=>PV.int (j:Int):=λl=>by simp[iL]
  refine aF (by rw[<- hx];simp) (by grind) (aI _ λk hk=>⟨[some (.lst .bor (iL (FA n cs))),some (.int k)],by simp[tgN,aQ,bI],?_,by simp,by simp⟩);have hk:=mem_range.mp (mem_filter.mp hk).1;have rl:=oB (fa:=FA n cs) hk;have pw:=jL (e:=rnk n (FA n cs) k) (b:=2) () () ();simp[B3 fl n10 hk,pw,ao]
 have pn:=jL (e:=n) (b:=2) () () ();have p2:=rQ n10;have mu:bN (.int M) (.int (2 ^ n))=.ok (.int (M*2 ^ n)):=cO (.inr ⟨by lia,by lia⟩);have sm:=λf=>xq (f:=f) (p:=wrg n ps r cs) n10 λi hi=>oB (fa:=FA n cs) hi;exact az (by simp[ap,bF,d8,hM,pn,mu,sm,ao]) ()
end
def oj(cs:MB):Prop:=∃j i,j<i/\i<cs.length/\gt cs j≠gt cs 0/\gt cs i=gt cs 0
def IsJ(sp:Int)(cs:MB)(J:Nat):Prop:=(¬oj cs/\J=0)\/(oj cs/\1<=J/\J<cs.length/\(gt cs 0+J)%sp∉cs.drop 1/\∀s:Nat,1<=s->s<J->(gt cs 0+s)%sp∈cs.drop 1)
theorem Ao{c:Int}{a b:Nat}(h:(c+a)%sp=(c+b)%sp)(ha:(a:Int)<sp)(hb:(b:Int)<sp):a=b:=by
 have h1:((c+a)-(c+b))%sp=0:=Int.emod_eq_emod_iff_emod_sub_eq_zero.mp h;obtain⟨k,hk⟩:=Int.dvd_of_emod_eq_zero h1;rcases Int.lt_trichotomy k 0 with q|q|q
 .have:sp*k<=sp*(-1):=Int.mul_le_mul_of_nonneg_left () ()
  lia
 .subst q;lia
 .have:sp*1<=sp*k:=Int.mul_le_mul_of_nonneg_left () ()
  lia
section
variable{sp:Int}{cs nm:MB}{n:Nat}
theorem Ad(hs:(cs.length:Int)<= sp)(hc:0<=gt cs 0/\gt cs 0<sp)(h:oj cs):∃s:Nat,1<=s/\s<cs.length/\(gt cs 0+s)%sp∉cs.drop 1:=by
 apply Classical.byContradiction;intro no;obtain⟨j,i,h1,h2,h3,e⟩:=h;have nd:((range cs.length).map λs:Nat=>(gt cs 0+s)%sp).Nodup:=by rw[List.Nodup,List.pairwise_map];refine Pairwise.imp_of_mem (λ{a b} ha hb hab z=>?_) (nodup_range);have ha':=mem_range.mp ha;have hb':=mem_range.mp hb;exact hab (Ao z () ())
 have le:=ql (l':=cs.drop 1) nd λx hx=>by
  obtain⟨s,hs',rfl⟩:=mem_map.mp hx;have hs2:=mem_range.mp hs';by_cases q:s=0
  .subst q;refine kf.mpr ⟨i,by lia,h2,?_⟩;rw[e,show gt cs 0+((0:Nat):Int)=gt cs 0 by lia,Int.emod_eq_of_lt hc.1 hc.2]
  .exact Classical.byContradiction λz=>no ⟨s,by lia,hs2,z⟩
 simp at le
 lia
theorem xJ(hfc:Fc fc)(h1:1<=cs.length)(h2:cs.length<=1000)(hs:(cs.length:Int)<= sp)(hc:0<=gt cs 0/\gt cs 0<sp):∃J:Nat,Di [M3 fc cs,.int sp]=.ok (.int J)/\IsJ sp cs J:=by
 have g0:ah (M3 fc cs) (.int 0)=.ok (.int (gt cs 0)):=cB () ();have bg:∃b:Nat,uV [M3 fc cs]=.ok (.int b)/\b<=cs.length/\(gt cs 0∈cs.drop b↔oj cs):=by
  suffices hh:eJ (EB [M6 fc cs,none]) (λv=>∃b:Nat,v=.int b/\b<=cs.length/\(gt cs 0∈cs.drop b↔oj cs)) by obtain⟨v,h3,b,rfl,h4⟩:=hh;exact⟨b,am h3,h4⟩
  refine ar (aj (v:=.int 1) ()) ?_;refine gq (Fin:=λe=>∃b:Nat,e=[M6 fc cs,M4 b]/\b<=cs.length/\(∀i,i<b->gt cs i=gt cs 0)/\(b<cs.length->gt cs b≠gt cs 0)) (λm e=>∃b:Nat,e=[M6 fc cs,M4 b]/\m=cs.length-b/\b<=cs.length/\∀i,i<b->gt cs i=gt cs 0) (cs.length-1) () ⟨1,rfl,rfl,h1,λi hi=>by lia⟩ (λm e hP=>?_) λe hF=>?_
  .obtain⟨b,rfl,rfl,b2,al⟩:=hP;by_cases q:b<cs.length
   .have gb:ah (M3 fc cs) (.int (b:Int))=.ok (.int (gt cs b)):=by simpa using cB (i:=b) () ()
    by_cases q2:gt cs b=gt cs 0
    .refine .inr ⟨by simp[p1,hfc.le,g0,gb,q2];lia,cs.length-(b+1),[M6 fc cs,M4 (b+1:Nat)],by lia,.inl (aj ()),b+1,rfl,rfl,by lia,λi hi=>?_⟩;by_cases z:i=b
     .rw[z];exact q2
     .exact al i ()
    .exact .inl ⟨by simp[p1,hfc.le,g0,gb,q2],b,rfl,b2,al,λ_=>q2⟩
   .exact .inl ⟨by simp[p1];lia,b,rfl,b2,al,λz=>absurd z q⟩
  .obtain⟨b,rfl,hb,al,nx⟩:=hF;refine aO (cA rfl) ⟨b,rfl,hb,?_⟩;rw[kf];constructor
   .rintro⟨i,h1,h2,e⟩;have hb:=nx ();refine⟨b,i,?_,h2,hb,e⟩;rcases Nat.lt_or_eq_of_le h1 with q|q
    .exact q
    .lia
   .rintro⟨j,i,h1,h2,h3,e⟩;have:¬j<b:=λz=>h3 (al j z);exact⟨i,by lia,h2,e⟩
 obtain⟨b,e1,bl,B⟩:=bg
 suffices hh:eJ (JX [M6 fc cs,M4 sp,none]) (λv=>∃J:Nat,v=.int J/\IsJ sp cs J) by obtain⟨v,h3,J,rfl,h4⟩:=hh;exact⟨J,am h3,h4⟩
 have cb:gL (iL cs) (some (b:Int)) none=iL (cs.drop b):=j5 cs b bl;have c1:gL (iL cs) (some 1) none=iL (cs.drop 1):=j5 cs 1 h1;have sp0:0<sp:=by lia
 by_cases st:oj cs
 .have hm:=B.mpr st;refine ar (aM (by simp[hfc.le,hfc.tb,g0,e1,ao,cb];exact hm) ak) ?_;refine ar (aj (v:=.int 1) ()) ?_;obtain⟨s0,f1,f2,f3⟩:=Ad hs hc st;refine gq (Fin:=λe=>∃J:Nat,e=[M6 fc cs,M4 sp,M4 J]/\IsJ sp cs J) (λm e=>∃s:Nat,e=[M6 fc cs,M4 sp,M4 s]/\m=s0-s/\1<=s/\s<=s0/\∀t:Nat,1<=t->t<s->(gt cs 0+t)%sp∈cs.drop 1) (s0-1) () ⟨1,rfl,rfl,by lia,f1,λt a b=>by lia⟩ (λm e hP=>?_) λe hF=>?_
  .obtain⟨s,rfl,rfl,b1,b2,al⟩:=hP;have tst:ai (mOp pIn (mOp bQ (mOp aJ (mOp ah (aa 0) (M1 0)) (aa 2)) (aa 1)) (cP (aa 0) (dy (M1 1)) bV)) [M6 fc cs,M4 sp,M4 s]=.ok (decide ((gt cs 0+s)%sp∈cs.drop 1)):=by simp[hfc.le,g0,c1,aR sp0]
   by_cases q:(gt cs 0+s)%sp∈cs.drop 1
   .have ns:s≠s0:=λz=>f3 ();refine .inr ⟨by lia,s0-(s+1),[M6 fc cs,M4 sp,M4 (s+1:Nat)],by lia,.inl (aj ()),s+1,rfl,rfl,by lia,by lia,λt t1 t2=>?_⟩;by_cases z:t=s
    .rw[z];exact q
    .grind
   .exact .inl ⟨by lia,s,rfl,.inr ⟨st,b1,by lia,q,al⟩⟩
  .obtain⟨J,rfl,hJ⟩:=hF;exact aO (cA rfl) ⟨J,rfl,hJ⟩
 .have hm:gt cs 0∉cs.drop b:=λz=>st (B.mp z);exact cG (by simp[hfc.le,hfc.tb,g0,e1,ao,cb];exact hm) (aO (az ()) ⟨0,rfl,.inl ⟨st,rfl⟩⟩)
def HL{J J':Nat}(h:IsJ sp cs J)(h':IsJ sp cs J'):J=J':=by
 rcases h with⟨s,rfl⟩ |⟨s,a1,a2,a3,a4⟩<;>rcases h' with⟨s',rfl⟩ |⟨s',b1,b2,b3,b4⟩
 .rfl
 .exact absurd s' s
 .exact absurd s s'
 .rcases Nat.lt_trichotomy J J' with q|q|q
  .exact absurd (b4 J a1 q) a3
  .exact q
  .exact absurd (a4 J' b1 q) b3
end
noncomputable def qt(s x:Int):Nat->Int
 |0=>x
 |k+1=>qt s x k / s
def dgs(s x:Int):Nat->MB
 |0=>[]
 |k+1=>qt s x k%s::dgs s x k
@[simp] theorem DF(s x:Int):∀k,(dgs s x k).length=k
 |0=>rfl
 |k+1=>by simp[dgs,DF s x k]
theorem o9(hs:0<s):∀k,InS s (dgs s x k)
 |0,_,h=>nomatch h
 |k+1,c,h=>by
  rcases mem_cons.mp h with rfl|h
  .exact⟨emod_nonneg _ (),emod_lt_of_pos _ hs⟩
  .exact o9 hs k c h
def nmb(s:Int)(cs:MB):Int:=cs.foldl (λa c=>a*s+c) 0
def qj(s c:Int)(l:MB):nmb s (l++[c])=nmb s l*s+c:=by simp[nmb]
theorem uA(hs:0<s)(h:InS s cs):∀k,k<=cs.length->0<=nmb s (cs.take k)/\nmb s (cs.take k)<s ^ k
 |0,_=>by simp[nmb]
 |k+1,hk=>by
  obtain⟨h1,h2⟩:=uA hs h k ();have c:=h _ (fv (i:=k) ());rw[List.take_succ,getElem?_eq_getElem (),toList_some,qj,Int.pow_succ];rw[show gt cs k=cs[k] by simp[gt,show k<cs.length by lia]]at c;have p:(nmb s (cs.take k)+1)*s<=s ^ k*s:=Int.mul_le_mul_of_nonneg_right () ();have q:0<=nmb s (cs.take k)*s:=Int.mul_nonneg h1 ();rw[Int.add_mul]at p
  lia
def Ce(n:Nat)(s:Int)(cs:MB):Prop:=cs.length=n/\InS s cs
noncomputable def EX:List (MB):=[0,1,2,3].foldr (λa S=>S++S.map (a::·)) [[]]
def zf{p:Nat->Bool}(hn:n<=4):((range n).filter p).map (λi:Nat=>(i:Int))∈ EX:=by
 have:n=0\/n=1\/n=2\/n=3\/n=4:=by lia
 rcases this with rfl|rfl|rfl|rfl|rfl<;>simp only[range,range.loop,List.filter]<;>cases p 0<;>cases p 1<;>cases p 2<;>cases p 3<;>decide
def sF(l:MB):List (MB):=(l.foldl (λS a=>S++S.map (·++[a])) [[]]).drop 1
def Ff:∀l∈EX,nK [M3 .bor l]=.ok (.lst .own (llL .frz (sF l))):=by
 repeat (refine List.forall_mem_cons.2 ⟨by kernel_rfl,?_⟩)
 exact λ_ h=>nomatch h
def vS:∀l∈EX,(sF l).length<=16/\∀nm∈sF l,nm.Nodup/\(∀a∈nm,a∈l)/\nm.length<=4:=by decide +kernel
def tr(n:Nat)(D:MB->Nat->Int)(many:Bool)(cs:MB):List (MB):=if many then sF (mvR n D cs)else(mvR n D cs).map λa=>[a]
def nxV(f:Fl)(n:Nat)(D:MB->Nat->Int)(many:Bool)(cs:MB):ML:=(tr n D many cs).map λnm=>.tup [M3 .frz nm,M3 f (stR n D cs nm)]
section
variable{o:PV}{n:Nat}{s:Int}{al many:Bool}{D:MB->Nat->Int}{cs:MB}{fc:Fl}{c:MB->Bool}
structure Ky(o:PV)(n:Nat)(s:Int)(al many:Bool)(D:MB->Nat->Int)(c:MB->Bool):Prop where
 r:Rl o n s al D
 n4:n<=4
 big:s ^ n<=81
 ma:many=true->al=false
 ca:∀f cs,Fc f->Ce n s cs->io av (.ok [M3 f cs]) o=.ok (.bl (c cs))
theorem oZ(h:1<=s){a:Nat}:∀d,1<=s ^ a/\s ^ a<=s ^ (a+d)
 |0=>by
  refine⟨?_,Int.le_refl _⟩;have:0<s ^ a:=Int.pow_pos ()
  lia
 |d+1=>by
  obtain⟨h1,h2⟩:=oZ h d;refine⟨h1,?_⟩;rw[<- Nat.add_assoc,Int.pow_succ];have:s ^ (a+d)*1<=s ^ (a+d)*s:=Int.mul_le_mul_of_nonneg_left h ()
  lia
def Ky.s81(K:Ky o n s al many D c):1<=s/\s<=81:=by have:=K.r.s0;have n1:=K.r.n1;have h:=(oZ (s:=s) () (a:=1) (n-1)).2;rw[show 1+(n-1)=n by lia,Int.pow_one]at h;exact⟨by lia,Int.le_trans h K.big⟩
def ow(K:Ky o n s al many D c):(tr n D many cs).length<=16/\∀nm∈tr n D many cs,h_ n al nm:=by
 have ml:=fH (n:=n) (D:=D) (cs:=cs);have n4:=K.n4;have rg:∀a∈mvR n D cs,0<=a/\a<n:=λa ha=>by
  obtain⟨i,hi,rfl⟩:=mem_map.mp ha;have:=mem_range.mp (mem_filter.mp hi).1
  lia
 unfold tr;cases many with
 |true=>obtain⟨h1,h2⟩:=vS _ (zf n4);refine⟨h1,λnm hm=>?_⟩;obtain⟨a,b,d⟩:=h2 nm hm;exact⟨a,λx hx=>rg x (b x hx),λe=>absurd (e.symm.trans (K.ma rfl)) (),by lia⟩
 |false=>refine⟨by simp;lia,λnm hm=>?_⟩;obtain⟨a,ha,rfl⟩:=mem_map.mp hm;exact⟨by simp,λx hx=>by simp_all,λ_=>by simp,by simp⟩
def iO(h1:p .frz=false)(h2:p f=false):hasL p (nxV f n D many cs)=false:=by
 unfold nxV
 induction tr n D many cs with
 |nil=>simp
 |cons a l ih=>simp[ih,h1,h2]
def lw(h1:g .frz=.frz):mapL g (nxV f n D many cs)=nxV (g f) n D many cs:=by
 unfold nxV
 induction tr n D many cs with
 |nil=>simp
 |cons a l ih=>simp[ih,h1]
def gU(K:Ky o n s al many D c):qU [o,.bl many]=.ok .non:=by refine c_ ?_;have:=K.ma;exact j4 (aM (by cases many<;>simp_all [K.r.le,K.r.a8]) ak)
def zc(hB:Fc fc)(K:Ky o n s al many D c)(C:Ce n s cs):qL [o,M3 fc cs,.bl many]=.ok (.lst .own (nxV .own n D many cs)):=by
 have n4:=K.n4;have r:=K.r;have ml:=fH (n:=n) (D:=D) (cs:=cs);obtain⟨tl,tg⟩:=ow (cs:=cs) K;refine am ?_;show El [some o,M6 fc cs,some (.bl many),none,none]=_;refine ac (cD (v:=.non) (by simp[r.le,r.tb,gU K,ao])) ?_;refine ac (aj (v:=M2 (mvR n D cs)) (by simp[hB.le,hB.tb,r.le,r.tb,r.mv,cL r (.inl hB) C.1 C.2,ao])) ?_;obtain⟨f,hf,hl,e⟩:∃f:Fl,f.MQ=.frz/\f.MV=false/\(fY (bz (aa 2)) (af (aq nK) (ab (aa 3) ae)) (ay [] 1 (aK (aa 3)) (tgN 0) aH (b_ (ab (aa 0) ae)))) [some o,M6 fc cs,some (.bl many),M5 (mvR n D cs),none]=.ok (.lst .own (llL f (tr n D many cs))):=by
  cases many with
  |true=>refine⟨.frz,rfl,rfl,?_⟩;have:nK [.lst .bor (iL (mvR n D cs))]=_:=Ff _ (zf n4);have hb:hasL Fl.MW (llL .frz (sF (mvR n D cs)))=false:=eD _ _ _ rfl;simp;simp only[getElem?_cons_succ,Res.M0,this];unfold ao;rw[fI,hb];rfl
  |false=>
   refine⟨.own,rfl,rfl,?_⟩;have:=aI (env:=bI [] 1 [some o,M6 fc cs,some (.bl false),M5 (mvR n D cs),none]) (g:=tgN 0) (me:=b_ (ab (aa 0) ae)) (a:=PV.int) (f:=λa=>M2 [a]) (mvR n D cs) λa ha=>⟨[M4 a],by rfl,by simp,by simp,by simp⟩
   have c:=aF (mi:=aK (aa 3)) (xs:=iL (mvR n D cs)) () (by simp;lia) this;simp;simp only[getElem?_cons_zero,getElem?_cons_succ,aU,CO,Res.M0,xy,c];simp[tr,llL]
 refine ac (aj e (by simp only[fW,fI];rw[eD _ _ _ hl];rfl) rfl) ?_;refine ac (bY rfl) ?_;simp only[aY,zH,hf];refine az ?_ (by simp only[fW,fI];rw[iO rfl rfl];rfl);refine aF (xs:=llL .frz (tr n D many cs)) () (by simp;lia) ?_;exact aI (tr n D many cs) λnm hm=>⟨[some o,M6 fc cs,M6 .frz nm],by simp[tgN,aQ,bI,hB.bo,r.bo],by simp[hB.le,hB.tb,r.le,r.tb,r.tu,jF r (.inl hB) (.inl (.inr rfl)) C.1 C.2 (tg nm hm),ao],by simp,by simp⟩
def jf(hB:Fc fc)(K:Ky o n s al many D c):nP [o,M3 fc cs]=.ok (.int (nmb s cs)):=by
 obtain⟨s1,s2⟩:=K.s81;have r:=K.r;refine am ?_;refine ac (aj (v:=.int 0) ()) ?_;refine d7 (λk e=>∃x3,e=[some o,M6 fc cs,M4 (nmb s (cs.take k)),x3]) (xs:=iL cs) (cW (by simp[hB.le]) hB.nl () ()) ⟨none,rfl⟩ (λk y e hy hP=>?_) (λe hP=>?_)
 .obtain⟨x3,rfl⟩:=hP;obtain⟨z,hz,rfl⟩:=jX hy;refine⟨_,cV rfl,?_⟩;have mm:bN (.int (nmb s (cs.take k))) (.int s)=.ok (.int (nmb s (cs.take k)*s)):=cO (.inr ⟨by lia,by lia⟩);refine bC (aj ?_) ⟨_,rfl⟩;rw[List.take_succ,hz,toList_some,qj];simp[r.le,r.a7,mm]
 .obtain⟨x3,rfl⟩:=hP;rw[bL,List.take_length];exact cA rfl
def fL(K:Ky o n s al many D c)(x:Int):jp [o,.int x]=.ok (M2 (dgs s x n)):=by
 obtain⟨s1,s2⟩:=K.s81;have r:=K.r;have n4:=K.n4;have hs:0<s:=by lia
 refine am ?_;show Eu [some o,M4 x,none,none,none]=_;refine ac (aj (v:=.lst .own []) ()) ?_;refine ac (aj (v:=.int x) ()) ?_;refine d7 (λk e=>∃x4,e=[some o,M4 x,some (.lst .own (iL (dgs s x k).reverse)),M4 (qt s x k),x4]) (bM (n:=n) (by simp[r.le,r.a0]) ()) ⟨none,rfl⟩ (λk y e hy hP=>?_) (λe hP=>?_)
 .obtain⟨x4,rfl⟩:=hP;obtain⟨hk,rfl⟩:=dL hy;refine⟨_,cV rfl,?_⟩;refine bt (cM (v:=.int (qt s x k%s)) (by simp[r.le,r.a7,aR hs]) rfl () (by simp;lia)) ?_;refine bC (aj (v:=.int (qt s x (k+1))) (by simp[r.le,r.a7,cQ hs (show s<1073741824 by lia),qt])) ⟨M4 (0+(k:Int)),?_⟩;simp[dgs,iL]
 .obtain⟨x4,rfl⟩:=hP;rw[bm];refine az ?_ ();have lr:∀f:Fl,fe (.lst f (iL (dgs s x n).reverse))=.ok (M2 (dgs s x n)):=λf=>by unfold fe;dsimp only;rw[eW];dsimp only;rw[if_pos (by simp;lia),List.reverse_reverse];rfl
  simp[lr]
def iW(K:Ky o n s al many D c):nM [o]=.ok (.int (s ^ n)):=by
 obtain⟨s1,s2⟩:=K.s81;have r:=K.r;have n4:=K.n4;have big:=K.big;refine am ?_;refine ac (aj (v:=.int 1) ()) ?_;simp;refine d7 (λk e=>∃x2,e=[some o,M4 (s ^ k),x2]) (bM (n:=n) (by simp[r.le,r.a0]) ()) ⟨none,by lia⟩ (λk y e hy hP=>?_) (λe hP=>?_)
 .obtain⟨x4,rfl⟩:=hP;obtain⟨hk,rfl⟩:=dL hy;have h1:=(oZ (s:=s) () (a:=k+1) (n-(k+1))).2;rw[show k+1+(n-(k+1))=n by lia]at h1;refine⟨_,cV rfl,?_⟩;have mm:bN (.int (s ^ k)) (.int s)=.ok (.int (s ^ (k+1))):=by rw[Int.pow_succ];exact cO (.inr ⟨by lia,by lia⟩)
  refine bt (aj (v:=.int (s ^ (k+1))) (by simp[r.le,r.a7,mm])) ?_;refine bC (aM ?_ ak) ⟨_,rfl⟩;generalize s ^ (k+1)=u at *;simp[show ¬256<u by lia]
 .obtain⟨x4,rfl⟩:=hP;rw[bm];exact cA rfl
def ku(K:Ky o n s al many D c):vg [o,.bl many]=.ok .non:=by
 have big:=K.big;have r:=K.r;have n4:=K.n4;refine c_ ?_;have st:=iW K;generalize s ^ n=u at *;refine cI (aM (by simp[r.le,r.tb,st,ao,show ¬256<u by lia]) ak) ?_;refine j4 (aM ?_ ak);cases many<;>simp[r.le,r.a0]
 lia
end
theorem im(g:Fl->Fl):∀l:List Bool,mapL g (l.map .bl)=l.map .bl
 | []=>by simp
 |b::l=>by simp[im g l]
theorem vC(p:Fl->Bool):∀l:List Bool,hasL p (l.map .bl)=false
 | []=>by simp
 |b::l=>by simp[vC p l]
def tz{l:List Bool}{b:Bool}(h:l[k]?=some b)(f:Fl):ah (.lst f (l.map .bl)) (.int k)=.ok (.bl b):=aX rfl (by simp[h]) ()
def BE{g:TgM}{bw:MS}{R:Out->Prop}(P:Nat->En->Prop)(h:it env=.ok xs)(h0:P 0 env)
  (step:∀(k:Nat) (x:PV) (e:En),xs[k]?=some x->P k e->∃e1,g x e=some e1/\((∃e2,body e1=.next e2/\P (k+1) e2)\/ ∃v,body e1=.ret v/\R (.ret v)))
  (fin:∀e,P xs.length e->R (bw e)):R (ag (bX it g body) bw env):=by
 have:=gI P (λo=>R (match o with | .next e=>bw e | o=>o)) h h0 (λk x e hx hP=>by
  obtain⟨e1,h1,h2⟩:=step k x e hx hP;refine⟨e1,h1,?_⟩;rcases h2 with⟨e2,h2,h3⟩ |⟨v,h2,h3⟩
  .exact .inl ⟨e2,.inl h2,h3⟩
  .exact .inr (.inr (.inl ⟨v,h2,h3⟩))) fin
 exact this
def kY{g:TgM}{bw:MS}{Q:PV->Prop}(P:Nat->En->Prop)(h:it env=.ok xs)(h0:P 0 env)
  (step:∀(k:Nat) (x:PV) (e:En),xs[k]?=some x->P k e->∃e1,g x e=some e1/\((∃e2,body e1=.next e2/\P (k+1) e2)\/ ∃v,body e1=.ret v/\Q v))
  (fin:∀e,P xs.length e->eJ (bw e) Q):eJ (ag (bX it g body) bw env) Q:=
 BE (R:=λo=>eJ o Q) P h h0 (λk x e hx hP=>by
  obtain⟨e1,h1,h2⟩:=step k x e hx hP;exact⟨e1,h1,h2.imp id λ⟨v,a,b⟩=>⟨v,a,v,rfl,b⟩⟩) fin
def Cj{g:TgM}{A:En->Prop}{B:PV->Prop}(P:Nat->En->Prop)(h:it env=.ok xs)(h0:P 0 env)
  (step:∀(k:Nat) (x:PV) (e:En),xs[k]?=some x->P k e->∃e1,g x e=some e1/\((∃e2,body e1=.next e2/\P (k+1) e2)\/ ∃v,body e1=.ret v/\B v))
  (fin:∀e,P xs.length e->A e):(∃e2,bX it g body env=.next e2/\A e2)\/ ∃v,bX it g body env=.ret v/\B v:=
 gI P (λo=>(∃ e2,o=.next e2/\A e2) \/ ∃ v,o=.ret v/\B v) h h0 (λk x e hx hP=>by
  obtain⟨e1,h1,h2⟩:=step k x e hx hP;refine⟨e1,h1,?_⟩;rcases h2 with⟨e2,h2,h3⟩ |⟨v,h2,h3⟩
  .exact .inl ⟨e2,.inl h2,h3⟩
  .exact .inr (.inr (.inl ⟨v,h2,.inr ⟨v,rfl,h3⟩⟩))) λe hP=>.inl ⟨e,rfl,fin e hP⟩
noncomputable def rO:MG->PV
 |some v=>.int v
 |none=>.non
def rL(r:List (MG)):ML:=r.map rO
def FX(g:Fl->Fl)(o:MG):(rO o).MY g=rO o:=by cases o<;>simp[rO]
def jK(p:Fl->Bool)(o:MG):(rO o).has p=false:=by cases o<;>simp[rO]
theorem eM(g:Fl->Fl):∀r,mapL g (rL r)=rL r
 | []=>by simp[rL]
 |o::r=>by have:=eM g r;unfold rL at *;simp[this,FX]
theorem oG(p:Fl->Bool):∀r,hasL p (rL r)=false
 | []=>by simp[rL]
 |o::r=>by have:=oG p r;unfold rL at *;simp[this,jK]
theorem kE:∀r,(rL r).all shp=true
 | []=>rfl
 |o::r=>by have:=kE r;unfold rL at *;rw[map_cons,all_cons,this];cases o<;>rfl
theorem tq:∀r,inL .non (rL r)=r.any isNone
 | []=>rfl
 |o::r=>by have:=tq r;unfold rL inL at *;rw[map_cons,List.any_cons,this,List.any_cons];cases o<;>rfl
def qh(r:List (MG))(f:Fl):bW .non (.lst f (rL r))=.ok (.bl (!r.any isNone)):=by unfold bW;simp only[aV,uc,kE,Bool.and_self,if_true,tq]
def JH(r:List (MG))(f:Fl):pIn .non (.lst f (rL r))=.ok (.bl (r.any isNone)):=by unfold pIn;simp only[aV,uc,kE,Bool.and_self,if_true,tq]
def tw{r:List (MG)}{o:MG}(h:r[k]?=some o)(f:Fl):ah (.lst f (rL r)) (.int k)=.ok (rO o):=
 aX rfl (by simp[rL,h]) (jK _ _)
def oY(o:MG):gO (rO o) .non=.ok (.bl o.isNone):=by cases o<;>rfl
theorem kH:∀l:MB,l≠[]->cr l∈l/\∀x∈l,x<=cr l
 | [],h=>absurd rfl h
 | [a],_=>by simp[cr]
 |a::b::l,_=>by
  obtain⟨h1,h2⟩:=kH (b::l) ();simp only[cr];refine⟨?_,λx hx=>?_⟩
  .grind
  .grind
def og(r:List (MG))(y:Int):MG:=r.getD y.toNat none
def qf{r:List (MG)}{y:Int}(h:y.toNat<r.length):r[y.toNat]?=some (og r y):=by simp[og,h]
def nns(r:List (MG)):Nat:=(r.filter isNone).length
theorem oQ:∀{r:List (MG)}{k:Nat} (v:Int),r[k]?=some none->nns (r.set k (some v))+1=nns r
 | [],k,v,h=>by simp at h
 |o::r,0,v,h=>by simp at h;subst h;simp[nns]
 |o::r,k+1,v,h=>by have:=oQ v (by simpa using h);unfold nns at *;cases o<;>simp<;>lia
def oF(l:MB):rL (l.map some)=iL l:=by simp[rL,iL,rO]
def FY(r:List (MG))(k:Nat)(v:Int):(rL r).set k (.int v)=rL (r.set k (some v)):=by simp[rL,rO]
theorem l0:∀{l:List (MG)},l.any isNone=false->l=(l.map λo=>o.getD 0).map some
 | [],_=>rfl
 |none::l,h=>by simp at h
 |some v::l,h=>by have:=l0 (by simpa using h);simp only[map_cons,Option.getD_some];rw[<- this]
structure DT(Fw:List (MB))(cs:List Bool):Prop where
 rng:∀k<Fw.length,∀y∈Fw.getD k [],0<=y/\y.toNat<Fw.length
 ne:∀k:Nat,cs[k]?=some false->Fw.getD k []≠ []
 len:cs.length=Fw.length
structure Rk(Fw:List (MB))(cs:List Bool)(r:List (MG)):Prop where
 len:r.length=Fw.length
 no:∀k:Nat,r[k]?=some none->cs[k]?=some false
 bd:∀(k:Nat) (v:Int),r[k]?=some (some v)->0<=v/\v+nns r<=Fw.length
def Rk.step{cs:List Bool}{r:List (MG)}(h:Rk Fw cs r)(hk:r[k]?=some none)(ne:l≠[])(hl:(Fw.getD k []).map (og r)=l.map some):Rk Fw cs (r.set k (some (1+cr l))):=by
 have kl:k<r.length:=(List.getElem?_eq_some_iff.mp hk).1;have ns:=oQ (1+cr l) hk;have st:∀j,(r.set k (some (1+cr l)))[j]?=if j=k then some (some (1+cr l))else r[j]?:=λj=>by grind
 have mx:0<=cr l/\cr l+nns r<=Fw.length:=by
  have:some (cr l)∈(Fw.getD k []).map (og r):=by rw[hl];exact mem_map.mpr ⟨_,(kH l ne).1,rfl⟩
  obtain⟨y,_,e⟩:=mem_map.mp this;refine h.bd y.toNat _ ?_;unfold og at e;rw[getD_eq_getElem?_getD]at e;cases q:r[y.toNat]? with
  |none=>rw[q]at e;cases e
  |some v=>rw[q]at e;rw[<- e];rfl
 refine⟨by simpa using h.len,λj hj=>?_,λj v hj=>?_⟩
 .rw[st]at hj;by_cases e:j=k
  .lia
  .rw[if_neg e]at hj;exact h.no j hj
 .rw[st]at hj;by_cases e:j=k
  .lia
  .rw[if_neg e]at hj;have:=h.bd j v hj
   lia
def Cl(Fw:List (MB))(r:List (MG)):Prop:=∀k,r[k]?=some none->∃y∈Fw.getD k [],r[y.toNat]?=some none
def sy{cs:List Bool}{r:List (MG)}{F:MB}{x0 x1 x3 x4:Option PV}(hr:Rk Fw cs r)(W:DT Fw cs)(hk:Fw[k]?=some F)(hF:F.length<=1000):ay [2] 1 (aK (aa 5)) (tgN 1) aH (mOp ah (aa 0) (aa 1)) [x0,x1,some (.lst .own (rL r)),x3,x4,M6 .bor F]=.ok (.lst .own (rL (F.map (og r)))):=by
 have kl:k<Fw.length:=(List.getElem?_eq_some_iff.mp hk).1;have eF:Fw.getD k []=F:=by simp[hk]
 refine aF (xs:=iL F) () (by simp;lia) ?_;rw[show rL (F.map (og r))=F.map λy=>rO (og r y) by simp[rL]];refine aI F λy hy=>⟨[some (.lst .bor (rL r)),M4 y],by simp[tgN,aQ,bI,eM],?_,jK _ _,jK _ _⟩
 obtain⟨y0,y1⟩:=W.rng k kl y ();have:=tw (qf (by rw[hr.len];exact y1)) .bor;rw[Int.toNat_of_nonneg y0]at this;simp[eM,this]
def yA{calms:List Bool}(W:DT Fw calms)(hl:Fw.length<=1000)(hF:∀F∈Fw,F.length<=1000) :
  ∃r,vc [.lst .bor (calms.map .bl),.lst .bor (llL .bor Fw)]=.ok (.lst .own (rL r))/\Rk Fw calms r/\Cl Fw r:=by
 have bmap:∀(g:Fl->Fl),mapL g (calms.map .bl)=calms.map .bl:=λg=>im g _;have hc:=W.len
 suffices hh:eJ (AL [some (.lst .bor (calms.map .bl)),some (.lst .bor (llL .bor Fw)),none,none,none,none]) (λx=>∃r,x=.lst .own (rL r)/\Rk Fw calms r/\Cl Fw r) by obtain⟨x,e,r,rfl,hr,cl⟩:=hh;exact⟨r,am e,hr,cl⟩
 unfold AL;have c0:ay [] 1 (aK (aa 0)) (tgN 0) aH (fY (bz (aa 0)) (M1 0) (mC .non)) [some (.lst .bor (calms.map .bl)),some (.lst .bor (llL .bor Fw)),none,none,none,none]=.ok (.lst .own (rL (calms.map λb=>if b then some 0 else none))):=by refine aF (xs:=calms.map .bl) (by simp[bmap]) (by simp;lia) ?_;rw[show rL (calms.map λb=>if b then some (0:Int)else none)=calms.map λb=>rO (if b then some 0 else none) by simp[rL]];exact aI (a:=PV.bl) calms λb hb=>⟨[some (.bl b)],by simp[tgN,aQ,d5,bI],by cases b<;>simp[rO],jK _ _,jK _ _⟩
 refine ar (aj c0 (by simp[oG]) rfl) ?_;refine ar (aj (v:=.bl true) ()) ?_;have R0:Rk Fw calms (calms.map λb=>if b then some 0 else none):=by
  refine⟨by simpa using W.len,λk hk=>?_,λk v hk=>?_⟩
  .simp_all
  .rw[getElem?_map]at hk;obtain⟨b,hb,e⟩:=map_eq_some_iff.mp hk;have:=length_filter_le isNone (calms.map λb=>if b then some (0:Int)else none);rw[length_map]at this;cases b with
   |false=>simp at e
   |true=>
    simp at e;unfold nns
    lia
 generalize(calms.map λb=>if b then some (0:Int)else none)=r0 at *;have ns0:nns r0<=1000:=by
  have:=length_filter_le isNone r0;unfold nns;have:=R0.len
  lia
 refine gq (Fin:=λe=>∃r x3 x4 x5,e=[some (.lst .bor (calms.map .bl)),some (.lst .bor (llL .bor Fw)),some (.lst .own (rL r)),x3,x4,x5]/\Rk Fw calms r/\Cl Fw r) (λm e=>∃r g x4 x5,e=[some (.lst .bor (calms.map .bl)),some (.lst .bor (llL .bor Fw)),some (.lst .own (rL r)),some (.bl g),x4,x5]/\Rk Fw calms r/\(g=true->m=nns r+1)/\(g=false->m=0/\Cl Fw r)) (nns r0+1) () ⟨r0,true,_,_,rfl,R0,λ_=>rfl,λh=>by cases h⟩ (λm e hP=>?_) (λe hP=>?_)
 .obtain⟨r,g,x4,x5,rfl,hr,hg1,hg2⟩:=hP;cases g with
  |false=>exact .inl ⟨by simp,r,_,_,_,rfl,hr,(hg2 rfl).2⟩
  |true=>
   refine .inr ⟨by simp,?_⟩;have it:iy (aa 1) [some (.lst .bor (calms.map .bl)),some (.lst .bor (llL .bor Fw)),some (.lst .own (rL r)),some (.bl false),x4,x5]=.ok (enP 0 (llL .bor Fw)):=by unfold iy;simp[eQ,eD Fw Fl.MU .bor rfl,eD Fw Fl.MV .bor rfl]
   refine Exists.elim (jm (g:=tgT 2 (bj (tgN 4) (bj (tgN 5) eX))) (body:=mBr ((di (ai (mOp gO (mOp ah (aa 2) (aa 4)) (mC .non))) (ai (mOp bW (mC .non) (ay [2] 1 (aK (aa 5)) (tgN 1) aH (mOp ah (aa 0) (aa 1)))))))
  (ag (fR 2 (aa 4) (mOp aJ (M1 1) (af (p1 (dh cr)) (ab (ay [2] 1 (aK (aa 5)) (tgN 1) aH (mOp ah (aa 0) (aa 1))) ae))))
 (aw 3 (mC (.bl true))))
  aA) (λk e=>∃r' g x4 x5,e=[some (.lst .bor (calms.map .bl)),some (.lst .bor (llL .bor Fw)),some (.lst .own (rL r')),some (.bl g),x4,x5]/\Rk Fw calms r'/\nns r'<=nns r/\(g=true->nns r'<nns r)/\(g=false->r'=r/\∀j<k,r[j]?=some none->∃y∈Fw.getD j [],r[y.toNat]?=some none)) it ⟨r,false,_,_,rfl,hr,Nat.le_refl _,nofun,λ_=>⟨rfl,λj hj=>absurd hj (Nat.not_lt_zero _)⟩⟩ (λk x e hx hP=>?_)) (λe2 b=>?_)
   rotate_left
   .obtain⟨b1,b2⟩:=b;rw[gK,CU]at b2;obtain⟨r',g,y4,y5,rfl,hr',_,g1,g2⟩:=b2;have eb:=ac (a:=aw 3 (mC (.bl false))) (env:=[some (.lst .bor (calms.map .bl)),some (.lst .bor (llL .bor Fw)),some (.lst .own (rL r)),some (.bl true),x4,x5]) (aj (v:=.bl false) ()) b1;cases g with
    |true=>exact⟨nns r'+1,_,by grind,.inl eb,r',true,_,_,rfl,hr',λ_=>rfl,λh=>by cases h⟩
    |false=>obtain⟨e3,cl⟩:=g2 rfl;subst e3;refine⟨0,_,by have:=hg1 rfl;lia,.inl eb,r',false,_,_,rfl,hr',nofun,λ_=>⟨rfl,λk hk=>cl k ?_ hk⟩⟩;rw[<- hr.len];exact(List.getElem?_eq_some_iff.mp hk).1
   .obtain⟨r',g,x4,x5,rfl,hr',q0,q1,q2⟩:=hP;rw[fJ]at hx;obtain⟨z,hz,rfl⟩:=map_eq_some_iff.mp hx;obtain⟨F,hkF,rfl⟩:=CV _ _ hz;have kl:k<Fw.length:=(List.getElem?_eq_some_iff.mp hkF).1;have eF:Fw.getD k []=F:=by grind
    have cm:=sy (x0:=some (.lst .bor (calms.map .bl))) (x1:=some (.lst .bor (llL .bor Fw))) (x3:=some (.bl g)) (x4:=M4 k) hr' W hkF (hF F (List.mem_of_getElem? hkF));obtain⟨o,ho⟩:∃o,r'[k]?=some o:=⟨_,getElem?_eq_getElem (by rw[hr'.len];exact kl)⟩
    have ix:∀f,ah (.lst f (rL r')) (.int k)=.ok (rO o):=tw ho;refine⟨[some (.lst .bor (calms.map .bl)),some (.lst .bor (llL .bor Fw)),some (.lst .own (rL r')),some (.bl g),M4 k,M6 .bor F],?_⟩;rw[Int.zero_add];cases o with
    |some v=>
     refine⟨_,rfl,.inl (aM (by simp[eM,ix,oY]) ak),r',g,_,_,rfl,hr',q0,q1,λh=>?_⟩;obtain⟨e3,cl⟩:=q2 h;refine⟨e3,λj hj hn=>?_⟩;by_cases e4:j=k
     .lia
     .exact cl j () hn
    |none=>
     cases an:(F.map (og r')).any isNone with
     |true=>
      refine⟨_,rfl,.inl (aM (by simp only[kN,jt,cH,gQ,cm];simp[eM,ix,oY,qh,an,-List.any_map]) ak),r',g,_,_,rfl,hr',q0,q1,λh=>?_⟩;obtain⟨e3,cl⟩:=q2 h;refine⟨e3,λj hj hn=>?_⟩;by_cases e4:j=k
      .rw[e4,eF];obtain⟨o,h1,h2⟩:=any_eq_true.mp an;obtain⟨y,hy,rfl⟩:=mem_map.mp h1;obtain⟨y0,y1⟩:=W.rng k kl y (by rw[eF];exact hy);refine⟨y,hy,?_⟩;rw[<- e3,qf (by rw[hr'.len];exact y1)];cases h:og r' y with
       |none=>rfl
       |some v=>rw[h]at h2;simp at h2
      .exact cl j () hn
     |false=>
      have e5:=l0 an;generalize(F.map (og r')).map (λo=>o.getD 0)=l at e5;have ne:l≠[]:=λe=>by rw[e]at e5;exact W.ne k (hr'.no k ho) (by rw[eF];exact map_eq_nil_iff.mp e5)
      have mx:dh cr (M2 l)=.ok (.int (cr l)):=by unfold dh;simp only[aV,eW];rw[if_neg (by cases l<;>simp_all)]
      have st:=oQ (1+cr l) ho;have ni:bW .non (PV.lst .own (iL <|l))=.ok (.bl true):=by rw[<- oF,qh];simp
      rw[e5,oF]at cm;refine⟨_,rfl,.inl (cU (by simp only[kN,jt,cH,gQ,cm];simp[eM,ix,oY,ni]) (ac (p0 (v:=.int (1+cr l)) (xs:=rL r') (j:=k) (n:=k) (by simp only[cH,gQ,b6,aW,bG,cm];simp[mx]) rfl () (oW (by simp[rL,hr'.len];exact kl)) ()) (aj (v:=.bl true) ()))),?_⟩;simp only[s0_,s1_,FY];exact⟨_,true,_,_,rfl,hr'.step ho ne (by rw[eF];exact e5),by lia,λ_=>by lia,λh=>by cases h⟩
 .obtain⟨r,x3,x4,x5,rfl,hr,cl⟩:=hP;exact aO (cA rfl) ⟨r,rfl,hr,cl⟩
theorem ua:∀r,(rL r).all smp=true
 | []=>rfl
 |o::r=>by have:=ua r;unfold rL at *;rw[map_cons,all_cons,this];cases o<;>rfl
theorem lO:∀r:List (MG),(rL r).findIdx? (eqD .non)=r.findIdx? isNone
 | []=>rfl
 |o::r=>by have:=lO r;unfold rL at *;rw[map_cons,findIdx?_cons,findIdx?_cons,this];cases o<;>rfl
def zZ{r:List (MG)}(hl:r.length<=1000)(h:r.any isNone=true)(f:Fl):∃j:Nat,ff (.lst f (rL r)) .non=.ok (.int j)/\r[j]?=some none:=by
 unfold ff;simp only[kE,ua];rw[if_pos (by simp[rL];lia),lO];cases e:r.findIdx? isNone with
 |none=>rw[List.findIdx?_eq_none_iff]at e;obtain⟨o,h1,h2⟩:=any_eq_true.mp h;rw[e o h1]at h2;cases h2
 |some j=>
  refine⟨j,rfl,?_⟩;obtain⟨h1,h2,_⟩:=List.findIdx?_eq_some_iff_getElem.mp e;rw[getElem?_eq_getElem h1];cases h3:r[j]with
  |none=>rfl
  |some v=>rw[h3]at h2;cases h2
def ud:∀l:MB,(iL l).all shp=true
 | []=>rfl
 |a::l=>by simp
theorem oz:∀l:MB,(iL l).all smp=true
 | []=>rfl
 |a::l=>by have:=oz l;unfold iL at *;rw[map_cons,all_cons,this];rfl
def vx(a b:Int):eqD (.int a) (.int b)=(b==a):=rfl
def Ay(l:MB)(a:Int)(f:Fl):gB (M3 f l) (.int a)=.ok (.int (l.count a)):=by
 have:∀l:MB,(iL l).countP (eqD (.int a))=l.count a:=λl=>by
  induction l with
  |nil=>rfl
  |cons b l ih=>have e:iL (b::l)=.int b::iL l:=rfl;rw[e,List.countP_cons,ih,vx,List.count_cons]
 unfold gB;simp only[ud,oz,this];rfl
theorem z5(hl:l.length<=1000)(h:a∈l)(f:Fl):∃j:Nat,ff (M3 f l) (.int a)=.ok (.int j)/\j<l.length:=by
 have fi:∀l:MB,(iL l).findIdx? (eqD (.int a))=l.findIdx? (·==a):=λl=>by
  induction l with
  |nil=>rfl
  |cons b l ih=>have e:iL (b::l)=.int b::iL l:=rfl;rw[e,findIdx?_cons,findIdx?_cons,ih,vx]
 unfold ff;simp only[ud,oz,Bool.and_true,and_eq_true];rw[if_pos ⟨rfl,by simp;lia⟩,fi];cases e:l.findIdx? (·==a)with
 |none=>rw[List.findIdx?_eq_none_iff]at e;have:=e a h;simp at this
 |some j=>exact⟨j,rfl,(List.findIdx?_eq_some_iff_getElem.mp e).1⟩
def z7(h:l≠[])(f:Fl):ah (M3 f l) (.int (-1))=.ok (.int (l.getLast h)):=by
 have hl:0<l.length:=List.length_pos_iff.mpr h;have hn:ixN (iL l).length (-1)=some (l.length-1):=by
  unfold ixN;simp
  lia
 have h1:(iL l)[l.length-1]?=M4 (l.getLast h):=by rw[List.getLast_eq_getElem];simp[iL]
 have:atI (iL l) (-1)=M4 (l.getLast h):=by unfold atI;rw[hn];exact h1
 unfold ah;simp only[aV];rw[this];simp
structure Wk(r:List (MG))(l:MB):Prop where
 ne:l≠[]
 un:∀y∈l,0<=y/\r[y.toNat]?=some none
 nd:l.dropLast.Nodup
def tU(h:l≠[]):l.count (l.getLast h)=l.dropLast.count (l.getLast h)+1:=by have e:=List.dropLast_concat_getLast h;generalize l.getLast h=a at *;rw[<- e,List.count_append];simp
def Ar(h:l≠[])(hd:l.dropLast.Nodup)(hc:l.count (l.getLast h)=1):l.Nodup:=by
 have e:=List.dropLast_concat_getLast h;rw[<- e,nodup_append];refine⟨hd,by simp,λa ha b hb q=>?_⟩;rw[mem_singleton.mp hb]at q;have:=tU h;have h2:0<l.dropLast.count (l.getLast h):=List.count_pos_iff.mpr ()
 lia
def p4{cs:List Bool}{r:List (MG)}(W:DT Fw cs)(hr:Rk Fw cs r)(cl:Cl Fw r)(hl:Fw.length<=256)(hF:∀F∈Fw,F.length<=1000)(hn:r.any isNone=true) :
  ∃wl:MB,qP [.lst .bor (rL r),.lst .bor (llL .bor Fw)]=.ok (M2 wl)/\wl.length<=257:=by
 have rl:=hr.len;have wlen:∀{l:MB},Wk r l->l.length<=257:=λ{l} h=>by
  have:=ql (l':=(range Fw.length).map λk:Nat=>(k:Int)) h.nd λx hx=>by obtain⟨h1,h2⟩:=h.un x ((List.dropLast_sublist l).subset hx);have:=(List.getElem?_eq_some_iff.mp h2).1;exact mem_map.mpr ⟨x.toNat,mem_range.mpr (),by lia⟩
  rw[List.length_dropLast,length_map,List.length_range]at this
  lia
 suffices hh:eJ (Ey [some (.lst .bor (rL r)),some (.lst .bor (llL .bor Fw)),none]) (λv=>∃wl:MB,v=M2 wl/\wl.length<=257) by obtain⟨v,h1,wl,rfl,h2⟩:=hh;exact⟨wl,am h1,h2⟩
 obtain⟨j0,ij,rj⟩:=zZ () hn .bor;refine ar (aj (v:=M2 [(j0:Int)]) (by simp[fX,eM,ij])) ?_;refine gq (Fin:=λe=>∃l,e=[some (.lst .bor (rL r)),some (.lst .bor (llL .bor Fw)),M5 l]/\Wk r l) (λm e=>∃l,e=[some (.lst .bor (rL r)),some (.lst .bor (llL .bor Fw)),M5 l]/\Wk r l/\m=258-l.length) 257 ()
  ⟨[(j0:Int)],rfl,⟨by simp,λy hy=>by simp_all,by simp⟩,rfl⟩ (λm e hP=>?_) (λe hP=>?_)
 .obtain⟨l,rfl,hw,rfl⟩:=hP;have hll:=wlen hw;have i1:=λf=>z7 hw.ne f;have ct:(ai (mOp pEq (fX gB (aa 2) (mOp ah (aa 2) (mUn mf (M1 1)))) (M1 1))) [some (.lst .bor (rL r)),some (.lst .bor (llL .bor Fw)),M5 l]=.ok (decide (l.count (l.getLast hw.ne)=1)):=by
   simp[fX,i1,Ay]
   lia
  by_cases hc:l.count (l.getLast hw.ne)=1
  .refine .inr ⟨by lia,?_⟩;obtain⟨y0,ry⟩:=hw.un _ (List.getLast_mem hw.ne);obtain⟨y,hy,hyr⟩:=cl _ ry;have kl:(l.getLast hw.ne).toNat<Fw.length:=by grind
   have eF:Fw[(l.getLast hw.ne).toNat]?=some (Fw.getD (l.getLast hw.ne).toNat []):=by simp[kl]
   have rng:=W.rng _ kl;have hFl:=hF _ (List.mem_of_getElem? eF);generalize eG:Fw.getD (l.getLast hw.ne).toNat []=F at *;have ix:ah (.lst .bor (llL .bor Fw)) (.int (l.getLast hw.ne))=.ok (M3 .bor F):=by
    have:=aX (x:=.lst .bor (llL .bor Fw)) (k:=(l.getLast hw.ne).toNat) (y:=M3 .bor F) rfl (by simp[llL,eF]) ()
    rwa [Int.toNat_of_nonneg y0]at this
   have cp:(ay [0] 1 (aK (mOp ah (aa 1) (mOp ah (aa 2) (mUn mf (M1 1))))) (tgN 1) (ai (mOp gO (mOp ah (aa 0) (aa 1)) (mC .non))) (aa 1)) [some (.lst .bor (rL r)),some (.lst .bor (llL .bor Fw)),M5 l]=.ok (M2 (F.filter λy=>(og r y).isNone)):=by
    refine aF (xs:=iL F) (by simp[i1,ix]) (by simp;lia) ?_;have:=dH (env:=bI [0] 1 [some (.lst .bor (rL r)),some (.lst .bor (llL .bor Fw)),M5 l]) (g:=tgN 1) (mc:=ai (mOp gO (mOp ah (aa 0) (aa 1)) (mC .non))) (me:=aa 1) (λy=>(og r y).isNone) (λy=>y) F λx hx=>⟨[some (.lst .bor (rL r)),M4 x],by simp[tgN,aQ,bI,eM],?_,λ_=>by simp⟩
    .simpa using this
    .obtain⟨x0,x1⟩:=rng x hx;have:=tw (qf (r:=r) (y:=x) ()) .bor;rw[Int.toNat_of_nonneg x0]at this;simp[eM,this,oY]
   obtain⟨b,G,eB⟩:∃b G,F.filter (λy=>(og r y).isNone)=b::G:=by
    have:y ∈ F.filter λy=>(og r y).isNone:=mem_filter.mpr ⟨hy,by
     have:=qf ((List.getElem?_eq_some_iff.mp hyr).1);rw[hyr]at this;rw[<- Option.some.inj this];rfl⟩
    cases e:F.filter (λy=>(og r y).isNone)with
    |nil=>rw[e]at this;exact nomatch this
    |cons b G=>exact⟨b,G,rfl⟩
   obtain⟨hb1,hb2⟩:=mem_filter.mp (show b∈F.filter (λy=>(og r y).isNone) by grind);obtain⟨b0,b1⟩:=rng b hb1;have hbr:r[b.toNat]?=some none:=by
    rw[qf ()];cases h:og r b with
    |none=>rfl
    |some v=>rw[h]at hb2;cases hb2
   rw[eB]at cp;have ib:ah (PV.lst .own (iL <|b::G)) (.int 0)=.ok (.int b):=by simpa[gt]using cB (cs:=b::G) (i:=0) () ()
   refine⟨_,_,?_,.inl (cM (by simp only[cH,cp];simp;exact ib) rfl () (by simp;lia)),l++[b],by simp[iL],⟨by simp,λa ha=>?_,by simpa using Ar hw.ne hw.nd hc⟩,rfl⟩
   .grind
   .rcases mem_append.mp ha with ha|ha
    .exact hw.un a ha
    .simp_all
  .lia
 .obtain⟨l,rfl,hw⟩:=hP;have hll:=wlen hw;obtain⟨j,pj,jl⟩:=z5 () (List.getLast_mem hw.ne) .lnt;refine aO (az ?_) ⟨l.drop j,rfl,by grind⟩;have:=j5 l j ();simp[fX,z7 hw.ne,pj,this]
section
variable{o:PV}{n:Nat}{s:Int}{al many:Bool}{D:MB->Nat->Int}{cs:MB}{c:MB->Bool}{St:List (MB)}
structure AZ(n:Nat)(s:Int)(St:List (MB)):Prop where
 ce:∀cs∈St,Ce n s cs
 len:(St.length:Int)=s ^ n
abbrev wyV(f:Fl)(n:Nat)(D:MB->Nat->Int)(many:Bool)(St:List (MB)):ML:=St.map λcs=>.lst f (nxV f n D many cs)
def jE(h1:g .frz=.frz):mapL g (wyV f n D many St)=wyV (g f) n D many St:=by
 induction St with
 |nil=>simp
 |cons a l ih=>simp_all [lw h1]
def rP(h1:p .frz=false)(h2:p f=false):hasL p (wyV f n D many St)=false:=by
 induction St with
 |nil=>simp
 |cons a l ih=>simp_all [iO h1 h2]
def DX{e:En}(h:m e=.ok (.lst .frz (wyV .frz n D many St))):iy m e=.ok (enP 0 (wyV .frz n D many St)):=by unfold iy;rw[h];simp only[Res.M0];simp[eQ,rP (p:=Fl.MU) (f:=.frz) rfl rfl,rP (p:=Fl.MV) (f:=.frz) rfl rfl]
def cmV(c:MB->Bool)(St:List (MB)):ML:=(St.map c).map .bl
def CeV(n:Nat)(s:Int)(v:PV):Prop:=∃cs,v=M2 cs/\Ce n s cs
def y8(K:Ky o n s al many D c)(A:AZ n s St)(C:Ce n s cs):0<=nmb s cs/\(nmb s cs).toNat<St.length:=by
 have:=uA K.r.s0 C.2 n (by rw[C.1];exact Nat.le_refl _);rw[<- C.1,List.take_length,C.1]at this;have:=A.len
 lia
def sV(K:Ky o n s al many D c)(A:AZ n s St):∃r,uP [o,.lst .bor (cmV c St),.lst .frz (wyV .frz n D many St)]=.ok r/\(r=.non\/∃v nm,CeV n s v/\r=.tup [.str "leaves",v,M3 .frz nm]):=by
 suffices hh:eJ (Et [some o,some (.lst .bor (cmV c St)),some (.lst .frz (wyV .frz n D many St)),none,none,none,none]) (λr=>r=.non\/∃v nm,CeV n s v/\r=.tup [.str "leaves",v,M3 .frz nm]) by obtain⟨v,h1,h2⟩:=hh;exact⟨v,am h1,h2⟩
 have r:=K.r;have hcm:∀g,mapL g (cmV c St)=cmV c St:=λg=>im g _;refine kY (λk e=>∃x3 x4 x5 x6,e=[some o,some (.lst .bor (cmV c St)),some (.lst .frz (wyV .frz n D many St)),x3,x4,x5,x6]) (DX (n:=n) (D:=D) (many:=many) (St:=St) (by simp[jE (g:=Fl.MN) rfl])) ⟨_,_,_,_,rfl⟩ (λk y e hy hP=>?_) (λe hP=>?_)
 .obtain⟨x3,x4,x5,x6,rfl⟩:=hP;rw[fJ]at hy;obtain⟨x,hx,rfl⟩:=map_eq_some_iff.mp hy;rw[getElem?_map]at hx;obtain⟨cs,hc,rfl⟩:=map_eq_some_iff.mp hx;have C:=A.ce cs (List.mem_of_getElem? hc);refine⟨[some o,some (.lst .bor (cmV c St)),some (.lst .frz (wyV .frz n D many St)),M4 k,some (.lst .frz (nxV .frz n D many cs)),x5,x6],by rw[Int.zero_add];rfl,?_⟩;have ck:ah (.lst .bor (cmV c St)) (.int k)=.ok (.bl (c cs)):=tz (by simp[hc]) _;refine Cj (λi e=>∃x5 x6,e=[some o,some (.lst .bor (cmV c St)),some (.lst .frz (wyV .frz n D many St)),M4 k,some (.lst .frz (nxV .frz n D many cs)),x5,x6]) (xs:=nxV .frz n D many cs)
   (cW (f:=.frz) (by simp[lw (g:=Fl.MN) rfl]) rfl (iO rfl rfl) (iO rfl rfl)) ⟨_,_,rfl⟩ (λi y e hy hP=>?_) (λe hP=>?_)
  .obtain⟨x5,x6,rfl⟩:=hP;unfold nxV at hy;rw[getElem?_map]at hy;obtain⟨nm,hnm,rfl⟩:=map_eq_some_iff.mp hy;refine⟨[some o,some (.lst .bor (cmV c St)),some (.lst .frz (wyV .frz n D many St)),M4 k,some (.lst .frz (nxV .frz n D many cs)),M6 .frz nm,M6 .frz (stR n D cs nm)],rfl,?_⟩;have C':Ce n s (stR n D cs nm):=rW r C.1 C.2 nm;have no:=jf (cs:=stR n D cs nm) (.inr rfl) K;obtain⟨n0,n1⟩:=y8 K A C';obtain⟨b,cn⟩:∃b,ah (.lst .bor (cmV c St)) (.int (nmb s (stR n D cs nm)))=.ok (.bl b):=by have:=tz (l:=St.map c) (getElem?_eq_getElem (by simpa using n1)) .bor;rw[Int.toNat_of_nonneg n0]at this;exact⟨_,this⟩
   cases h1:c cs with
   |false=>rw[h1]at ck;exact .inl ⟨_,aM (by simp[hcm,ck]) ak,_,_,rfl⟩
   |true=>
    rw[h1]at ck;cases b with
    |true=>exact .inl ⟨_,aM (by simp[hcm,ck,r.le,r.tb,no,ao,cn]) ak,_,_,rfl⟩
    |false=>exact .inr ⟨_,cU (by simp[hcm,ck,r.le,r.tb,no,ao,cn]) (az (v:=.tup [.str "leaves",.lst .own (iL (dgs s k n)),.lst .frz (iL nm)]) (by simp[r.le,r.tb,fL K,ao])),.inr ⟨_,nm,⟨_,rfl,by simp,o9 r.s0 _⟩,rfl⟩⟩
  .obtain⟨x5,x6,rfl⟩:=hP;exact⟨_,_,_,_,rfl⟩
 .obtain⟨x3,x4,x5,x6,rfl⟩:=hP;exact aO (az ()) (.inl rfl)
def xH(K:Ky o n s al many D c)(A:AZ n s St):∃r,uM [o,.lst .bor (cmV c St),.lst .frz (wyV .frz n D many St)]=.ok r/\(r=.non/\(∀(k:Nat) cs,St[k]?=some cs->c cs=false->tr n D many cs≠[])\/ ∃v,CeV n s v/\r=.tup [.str "stuck",v]):=by
 suffices hh:eJ (Em [some o,some (.lst .bor (cmV c St)),some (.lst .frz (wyV .frz n D many St)),none,none]) (λr=>r=.non/\(∀(k:Nat) cs,St[k]?=some cs->c cs=false->tr n D many cs≠[])\/ ∃v,CeV n s v/\r=.tup [.str "stuck",v]) by obtain⟨v,h1,h2⟩:=hh;exact⟨v,am h1,h2⟩
 have r:=K.r;have hcm:∀g,mapL g (cmV c St)=cmV c St:=λg=>im g _;refine kY (λk e=>(∃x3 x4,e=[some o,some (.lst .bor (cmV c St)),some (.lst .frz (wyV .frz n D many St)),x3,x4])/\∀j<k,∀cs,St[j]?=some cs->c cs=false->tr n D many cs≠[]) (DX (n:=n) (D:=D) (many:=many) (St:=St) (by simp[jE (g:=Fl.MN) (f:=.frz) rfl])) ⟨⟨_,_,rfl⟩,λ_ h=>absurd h (Nat.not_lt_zero _)⟩ (λk y e hy hP=>?_) (λe hP=>?_)
 .obtain⟨⟨x3,x4,rfl⟩,hn⟩:=hP;rw[fJ]at hy;obtain⟨x,hx,rfl⟩:=map_eq_some_iff.mp hy;rw[getElem?_map]at hx;obtain⟨cs,hc,rfl⟩:=map_eq_some_iff.mp hx;refine⟨[some o,some (.lst .bor (cmV c St)),some (.lst .frz (wyV .frz n D many St)),M4 k,some (.lst .frz (nxV .frz n D many cs))],by rw[Int.zero_add];rfl,?_⟩;have ck:ah (.lst .bor (cmV c St)) (.int k)=.ok (.bl (c cs)):=tz (by simp[hc]) _;have hnm:mapL Fl.MN (nxV .frz n D many cs)=nxV .frz n D many cs:=lw (g:=Fl.MN) (f:=.frz) rfl;have hl:((nxV .frz n D many cs).length:Int)=(tr n D many cs).length:=by simp[nxV]
  have st:c cs=true\/tr n D many cs≠[]->∀j<k+1,∀cs',St[j]?=some cs'->c cs'=false->tr n D many cs'≠[]:=λq j hj cs' h1 h2=>by grind
  cases h1:c cs with
  |true=>rw[h1]at ck;exact .inl ⟨_,aM (by simp[hcm,ck]) ak,⟨_,_,rfl⟩,st (.inl h1)⟩
  |false=>
   rw[h1]at ck;by_cases q:tr n D many cs=[]
   .rw[q]at hl;exact .inr ⟨_,cU (by simp[hcm,ck,hnm,hl]) (az (v:=.tup [.str "stuck",M2 (dgs s k n)]) (by simp[r.le,r.tb,fL K,ao])),.inr ⟨_,⟨_,rfl,by simp,o9 r.s0 _⟩,rfl⟩⟩
   .have q':¬(tr n D many cs).length=0:=λe=>q (List.length_eq_zero_iff.mp e);exact .inl ⟨_,aM (by simp[hcm,ck,hnm,hl];lia) ak,⟨_,_,rfl⟩,st (.inr q)⟩
 .obtain⟨⟨x3,x4,rfl⟩,hn⟩:=hP;rw[gK,length_map]at hn;exact aO (az ()) (.inl ⟨rfl,λk cs h=>hn k (List.getElem?_eq_some_iff.mp h).1 cs h⟩)
inductive Ans(n:Nat)(s:Int):PV->Str->Prop
 |st (w:Str) (cs:MB) (t:ML):(w="leaves" /\(∃nm,t=[.lst .frz (iL nm)])\/ w="stuck" /\ t=[])->Ce n s cs->Ans n s (.tup (.str w::.lst .own (iL cs)::t)) (sj (w::cs.map tn))
 |rd (w:List (MB)):Ans n s (.tup [.str "round",.lst .own (llL .own w)]) "round"
 |rk (R:MB):R≠[]->(∀v∈R,0<=v/\v<=81)->Ans n s (.tup [.str "calm",.lst .own (iL R)]) (sj ["calm",tn (cr R)])
def Ans.own(h:Ans n s v z)(p:Fl->Bool)(h1:p .own=false)(h2:p .frz=false):v.has p=false:=by
 cases h with
 |st w cs t h _=>rcases h with⟨_,nm,rfl⟩ |⟨_,rfl⟩<;>simp[h1,h2]
 |rd w=>simp[h1,eD _ p .own h1]
 |rk R _ _=>simp[h1]
abbrev Da(s:Int)(n:Nat)(D:MB->Nat->Int)(many:Bool)(cs:MB):MB:=(tr n D many cs).map λnm=>nmb s (stR n D cs nm)
def FV(K:Ky o n s al many D c)(A:AZ n s St)(hs:∀(k:Nat) cs,St[k]?=some cs->c cs=false->tr n D many cs≠[]):∃v z,Dj [o,.lst .bor (cmV c St),.lst .frz (wyV .frz n D many St)]=.ok v/\Ans n s v z:=by
 have r:=K.r;have hN:St.length<=81:=by have:=A.len;have:=K.big;lia
 have N0:0<St.length:=by have:=A.len;have:0<s ^ n:=Int.pow_pos r.s0;lia
 obtain⟨Fw,hFw⟩:∃Fw,Fw=St.map (Da s n D many):=⟨_,rfl⟩
 have Ln:Fw.length=St.length:=by simp[hFw]
 have fat:∀(k:Nat) cs,St[k]?=some cs->Fw.getD k []=Da s n D many cs:=λk cs h=>by simp[hFw,h]
 have W:DT Fw (St.map c):=by
  refine⟨λk hk y hy=>?_,λk hk=>?_,by simp[Ln]⟩
  .have e:=getElem?_eq_getElem (l:=St) (i:=k) ();rw[fat k _ e]at hy;obtain⟨nm,_,rfl⟩:=mem_map.mp hy;have C:=A.ce _ (List.mem_of_getElem? e);have:=y8 K A (rW r C.1 C.2 nm)
   lia
  .rw[getElem?_map]at hk;obtain⟨cs,h1,h2⟩:=map_eq_some_iff.mp hk;rw[fat k cs h1];simpa using hs k cs h1 h2
 have hF:∀F∈Fw,F.length<=1000:=λF hF=>by
  rw[hFw]at hF;obtain⟨cs,_,rfl⟩:=mem_map.mp hF;have:=(ow (cs:=cs) K).1;simp
  lia
 obtain⟨q,hr,Rr,cl⟩:=yA W () hF;rw[show(St.map c).map PV.bl=cmV c St from rfl]at hr
 suffices hh:eJ (JY [some o,some (.lst .bor (cmV c St)),some (.lst .frz (wyV .frz n D many St)),none,none]) (λv=>∃z,Ans n s v z) by obtain⟨v,h1,z,h2⟩:=hh;exact⟨v,z,am h1,h2⟩
 have cp:ay [0] 1 (aK (aa 2)) (tgN 1) aH (ay [0] 1 (aK (aa 1)) (tgN 1) aH (af (aq nP) (ab (aa 0) (ab (mOp ah (aa 1) (M1 1)) ae)))) [some o,some (.lst .bor (cmV c St)),some (.lst .frz (wyV .frz n D many St)),none,none]=.ok (.lst .own (llL .own Fw)):=by
  refine aF (xs:=wyV .frz n D many St) (by simp[jE (g:=Fl.MN) rfl]) (by simp;lia) ?_;rw[show llL .own Fw=St.map λcs=>PV.lst .own (iL (Da s n D many cs)) by simp[llL,hFw]];refine aI St λcs hcs=>⟨[some o,some (.lst .frz (nxV .frz n D many cs))],by simp[tgN,aQ,bI,lw (g:=Fl.MR) rfl,r.bo],?_,by simp,by simp⟩
  have tl:=(ow (cs:=cs) K).1;refine aF (xs:=nxV .frz n D many cs) (by simp[lw (g:=Fl.MN) rfl]) (by simp[nxV];lia) ?_;rw[show iL (Da s n D many cs)=(tr n D many cs).map λnm=>PV.int (nmb s (stR n D cs nm)) by simp[iL]];refine aI (tr n D many cs) λnm hm=>⟨[some o,some (.tup [M3 .frz nm,M3 .frz (stR n D cs nm)])],by simp[tgN,aQ,bI,r.bo],?_,by simp,by simp⟩
  have nk:=jf (cs:=stR n D cs nm) (.inr rfl) K;have it:ah (.tup [M3 .frz nm,M3 .frz (stR n D cs nm)]) (.int 1)=.ok (M3 .frz (stR n D cs nm)):=aX rfl rfl ();simp[it,r.le,r.tb,nk,ao]
 have hcm:∀g,mapL g (cmV c St)=cmV c St:=λg=>im g _;refine ar (aj cp (by simp only[fW,fI];rw[eD _ _ _ rfl];rfl) rfl) ?_;refine ar (aj (v:=.lst .own (rL q)) (by simp[hcm,hr,ao,oG]) (by simp[oG]) rfl) ?_;simp;have ni:∀f,pIn .non (.lst f (rL q))=.ok (.bl (q.any isNone)):=λf=>JH q f;cases an:q.any isNone with
 |true=>
  obtain⟨wl,h1,h2⟩:=p4 W Rr cl () hF an;rw[an]at ni;have cp:(ay [0] 1 (aK (af (aq qP) (ab (aa 4) (ab (aa 3) ae)))) (tgN 1) aH (af (aq jp) (ab (aa 0) (ab (aa 1) ae)))) [some o,some (.lst .bor (cmV c St)),some (.lst .frz (wyV .frz n D many St)),some (.lst .own (llL .own Fw)),some (.lst .own (rL q))]=.ok (.lst .own (llL .own (wl.map λy=>dgs s y n))):=by refine aF (xs:=iL wl) (by simp[eM,h1,ao]) (by simp;lia) ?_;rw[show llL .own (wl.map λy=>dgs s y n)=wl.map λy=>M2 (dgs s y n) by simp[llL]];exact aI wl λy hy=>⟨[some o,M4 y],by simp[tgN,aQ,bI,r.bo],by simp[r.le,r.tb,fL K,ao],by simp,by simp⟩
  exact cG (by simp[eM,ni]) (aO (az (by simp only[gJ,aW,cp];rfl) (by simp[eD _ Fl.MV .own rfl])) ⟨_,.rd _⟩)
 |false=>
  rw[an]at ni;refine ar (aM (by simp[eM,ni]) ak) ?_;have e2:=l0 an;generalize(q.map λo=>o.getD 0)=R at e2;subst e2;rw[oF];have rl:=Rr.len;refine aO (by simp[lD]) ⟨_,.rk R (λe=>by simp_all) λv hv=>?_⟩;obtain⟨k,hk⟩:=List.getElem?_of_mem hv;have:=Rr.bd k v (by simp[hk])
  lia
def CT(K:Ky o n s al many D c):∃v z,nH [o,.bl many]=.ok v/\Ans n s v z:=by
 have r:=K.r;have big:=K.big;have pp:0<s ^ n:=Int.pow_pos r.s0
 suffices hh:eJ (AH [some o,some (.bl many),none,none,none,none]) (λv=>∃z,Ans n s v z) by obtain⟨v,h1,z,h2⟩:=hh;exact⟨v,z,am h1,h2⟩
 unfold AH;refine ar (cD (v:=.non) (by simp[r.le,r.tb,gU K,ao])) ?_;refine ar (cD (v:=.non) (by simp[r.le,r.tb,ku K,ao])) ?_;obtain⟨N,hS⟩:∃N:Nat,s ^ n=(N:Int):=⟨(s ^ n).toNat,by lia⟩
 have st:=iW K;rw[hS]at st;obtain⟨St,hSt⟩:∃St,St=(range N).map λk:Nat=>dgs s k n:=⟨_,rfl⟩
 have A:AZ n s St:=⟨λcs h=>by
  rw[hSt]at h;obtain⟨k,_,rfl⟩:=mem_map.mp h;exact⟨by simp,o9 r.s0 _⟩,by rw[hS,hSt];simp⟩
 have sl:St.length<=81:=by have:=A.len;lia
 have c1:ay [0] 1 (bJ (ab (af (aq nM) (ab (aa 0) ae)) ae)) (tgN 1) aH (af (aq jp) (ab (aa 0) (ab (aa 1) ae))) [some o,some (.bl many),none,none,none,none]=.ok (.lst .own (llL .own St)):=by refine aF (xs:=dY 0 N) (bM (n:=N) (by simp[r.le,r.tb,st,ao]) ()) (by rw[bm];lia) ?_;rw[show llL .own St=(range N).map λk:Nat=>M2 (dgs s k n) by simp[llL,hSt]];exact aI (range N) λk hk=>⟨[some o,M4 (0+(k:Int))],by simp[tgN,aQ,bI,PV.MR,r.bo],by simp[r.le,r.tb,fL K,ao],by simp,by simp⟩
 refine ar (aj c1 (by simp only[fW,fI];rw[eD _ _ _ rfl];rfl) rfl) ?_;have c2:ay [0] 1 (aK (aa 2)) (tgN 1) aH (bB av (aa 0) (ab (aa 1) ae)) [some o,some (.bl many),some (.lst .own (llL .own St)),none,none,none]=.ok (.lst .own (cmV c St)):=by refine aF (xs:=llL .lnt St) () (by simp;lia) ?_;rw[show cmV c St=St.map λcs=>PV.bl (c cs) by simp[cmV]];exact aI (a:=λcs=>M3 .lnt cs) (f:=λcs=>PV.bl (c cs)) St λcs hcs=>⟨[some o,M6 .bor cs],by simp[tgN,aQ,bI,PV.MR,r.bo],by simp[r.le,K.ca .bor cs (.inl rfl) (A.ce cs hcs)],by simp,by simp⟩
 have hcm:∀g,mapL g (cmV c St)=cmV c St:=λg=>im g _;have hch:∀p,hasL p (cmV c St)=false:=λp=>vC p _;refine ar (aj c2 (by simp only[fW,fI,hch];rfl) rfl) ?_;have c3:ay [0,1] 1 (aK (aa 2)) (tgN 2) aH (af (aq qL) (ab (aa 0) (ab (aa 2) (ab (aa 1) ae)))) [some o,some (.bl many),some (.lst .own (llL .own St)),some (.lst .own (cmV c St)),none,none]=.ok (.lst .own (wyV .own n D many St)):=by
  refine aF (xs:=llL .lnt St) () (by simp;lia) ?_;refine aI (a:=λcs=>M3 .lnt cs) St λcs hcs=>⟨[some o,some (.bl many),M6 .bor cs],by simp[tgN,aQ,bI,PV.MR,r.bo],?_,?_,?_⟩
  .simp[r.le,r.tb,zc (.inl rfl) K (A.ce cs hcs),ao,iO (p:=Fl.MW) (f:=.own) rfl rfl]
  .simp[iO (p:=Fl.MW) (f:=.own) rfl rfl]
  .simp[iO (p:=Fl.MV) (f:=.own) rfl rfl]
 refine ar (aj c3 (by simp[rP (p:=Fl.MV) (f:=.own) rfl rfl]) rfl) ?_;refine ar (bY rfl) ?_;simp only[s0_,s1_,aY,jE (g:=Fl.MQ) (f:=.own) rfl,gH];have wl:=jE (n:=n) (D:=D) (many:=many) (St:=St) (g:=Fl.MN) (f:=.frz) rfl;have wt:=jE (n:=n) (D:=D) (many:=many) (St:=St) (g:=Fl.MP) (f:=.frz) rfl;have call:∀{g:ML->MM}{v:PV}{x5:Option PV},g [o,.lst .bor (cmV c St),.lst .frz (wyV .frz n D many St)]=.ok v->(∀p:Fl->Bool,p .own=false->p .frz=false->v.has p=false)->aw 5 (af (aq g) (ab (aa 0) (ab (aa 3) (ab (aa 4) ae)))) [some o,some (.bl many),some (.lst .own (llL .own St)),some (.lst .own (cmV c St)),some (.lst .frz (wyV .frz n D many St)),x5]=.next [some o,some (.bl many),some (.lst .own (llL .own St)),some (.lst .own (cmV c St)),some (.lst .frz (wyV .frz n D many St)),some v]:=λ{g v x5} h hp=>aj (v:=v) (by simp only[b6,aW,bG,bD,getElem?_cons_zero,getElem?_cons_succ,aU,Res.M0,cJ,bh,bS,aY,r.le,r.tb,hcm,wl,wt,lI,mQ,dO,fS,h,ao,hp Fl.MW rfl rfl];rfl) (by simp[hp Fl.MV rfl rfl]) rfl;obtain⟨r1,e1,h1⟩:=sV K A;refine ar (call e1 λp q1 q2=>?_) ?_
 .rcases h1 with rfl |⟨v,nm,⟨cs,rfl,_⟩,rfl⟩<;>simp[q1,q2]
 rcases h1 with rfl |⟨v,nm,⟨cs,rfl,C⟩,rfl⟩
 .obtain⟨r2,e2,h2⟩:=xH K A;refine ar (cU (by simp[gO,PV.isNon]) (call e2 λp q1 q2=>?_)) ?_
  .rcases h2 with⟨rfl,_⟩ |⟨v,⟨cs,rfl,_⟩,rfl⟩<;>simp[q1]
  rcases h2 with⟨rfl,hs⟩ |⟨v,⟨cs,rfl,C⟩,rfl⟩
  .obtain⟨v,z,e3,h3⟩:=FV K A hs;exact ar (cU (by simp[gO,PV.isNon]) (call e3 h3.own)) (aO (cA rfl) ⟨z,h3⟩)
  .exact ar (aM (by simp[gO,PV.isNon]) ak) (aO (cA rfl) ⟨_,.st _ cs _ (.inr ⟨rfl,rfl⟩) C⟩)
 .exact ar (aM (by simp[gO,PV.isNon]) ak) (ar (aM (by simp[gO,PV.isNon]) ak) (aO (cA rfl) ⟨_,.st _ cs _ (.inl ⟨rfl,nm,rfl⟩) C⟩))
end
def G3:isB (pEq (.str "turn") (.str "turn")) true=true/\isB (pEq (.str "may") (.str "turn")) false=true/\isB (pEq (.str "may") (.str "spoil")) false=true/\isB (pEq (.str "may") (.str "may")) true=true/\isB (pEq (.str "measure") (.str "turn")) false=true/\isB (pEq (.str "measure") (.str "spoil")) false=true/\isB (pEq (.str "measure") (.str "may")) false=true/\isB (pEq (.str "measure") (.str "measure")) true=true:=by decide +kernel
def jH{ls:MF}{B:Nat}(h:∀z∈ls,z.length<=B):(sj ls).length<=ls.length*(B+1):=by have e:sj ls=Str.join ⟨#[32]⟩ ls:=StrLaws.glued_eq_join _ _;rw[e];exact f6 32 B ls h
def dI(h:Nm a):(tn a).length<=61:=(nt h).len
def zE(h:Sml l)(h8:l.length<=20):(md l).length<=1300:=by
 unfold md;split
 .decide +kernel
 .have:=jH (ls:=l.map tn) λz hz=>by obtain⟨a,ha,rfl⟩:=mem_map.mp hz;exact dI (bE (h.2 a ha).1 (h.2 a ha).2)
  simp at this
  lia
def Hl:mFz m env=(m env).bind λv=>.ok (v.MY Fl.MQ):=rfl
theorem qu(g:Fl->Fl):∀xs ys:ML,mapL g (xs++ys)=mapL g xs++mapL g ys
 | [],ys=>by simp
 |x::xs,ys=>by simp[qu g xs ys]
def f8(a b:PV)(h:b.has Fl.MU=false):ah (.tup [a,b]) (.int 1)=.ok b:=aX rfl rfl h
section
variable{o:PV}{n:Nat}{sp:Int}{al tb:Bool}{D:MB->Nat->Int}{c:MB->Bool}{cs nm:MB}
structure Kd(o:PV)(n:Nat)(s:Int)(al tb:Bool)(D:MB->Nat->Int)(c:MB->Bool):Prop where
 r:Rl o n s al D
 n4:n<=4:=by lia
 sm:s<=1000:=by lia
 fz:o.MY Fl.MQ=o:=by simp
 hf:∀p:Fl->Bool,p .frz=false->o.has p=false:=by intro p h;simp[h]
 ca:∀f cs,Fc f\/f=.own->Ce n s cs->io av (.ok [M3 f cs]) o=.ok (.bl (c cs))
 ti:qe gE o=.ok (.bl tb):=by rfl
 me:tb=false->∀cs,Ce n s cs->∃m,Nm m/\∀f,Fc f\/f=.own->io aE (.ok [M3 f cs]) o=.ok (.int m)
def swd(c:MB->Bool)(cs:MB):MF:=cs.map tn++[cw (c cs)]
def Ce.nu(k:Kd o n sp al tb D c)(C:Ce n sp cs):∀a∈cs,Nm a:=λa ha=>by have:=C.2 a ha;have:=k.sm;exact bE () ()
def Ce.th(k:Kd o n sp al tb D c)(C:Ce n sp cs):∀x∈iL cs,Th x:=λx hx=>by obtain⟨a,ha,rfl⟩:=mem_map.mp hx;exact .inl ⟨a,rfl,C.nu k a ha⟩
def Ce.go(r:Rl o n sp al D)(C:Ce n sp cs)(nm:MB):Ce n sp (stR n D cs nm):=rW r C.1 C.2 nm
def sJ(r:Rl o n sp al D):Sml (mvR n D cs):=by
 have n20:=r.n20;have:=fH (n:=n) (D:=D) (cs:=cs);refine⟨by lia,λa ha=>?_⟩;obtain⟨i,hi,rfl⟩:=mem_map.mp ha;have:=mem_range.mp (mem_filter.mp hi).1
 lia
def As(r:Rl o n sp al D):Sml (dnR n D cs nm)/\(dnR n D cs nm).length<=20:=by have h:=sJ (cs:=cs) r;have l1:=length_filter_le (λa=>nm.contains a) (mvR n D cs);have l2:=fH (n:=n) (D:=D) (cs:=cs);have:=r.n20;exact⟨⟨by unfold dnR;lia,λa ha=>h.2 a (mem_filter.mp ha).1⟩,by unfold dnR;lia⟩
def kT(k:Kd o n sp al tb D c)(C:Ce n sp cs):lQ [o,M3 .frz cs]=.ok (.str (sj (swd c cs))):=by
 have r:=k.r;have n20:=r.n20;have cl:=C.1;refine am ?_;show Eo [some o,M6 .frz cs]=_;refine az ?_ ();have hca:=k.ca .frz cs (.inl (.inr rfl)) C;have j:jo [.lst .own (iL cs++[.str (cw (c cs))])]=.ok (.str (sj (swd c cs))):=by
  rw[fZ (λx hx=>?_) (by simp;lia),map_append,ou]
  .rfl
  .rcases mem_append.mp hx with hx|hx
   .exact C.th k x hx
   .rw[mem_singleton.mp hx];exact .inr ⟨_,rfl,by rw[tR];lia⟩
 have p:aJ (M3 .frz cs) (.lst .own [.str (cw (c cs))])=.ok (.lst .own (iL cs++[.str (cw (c cs))])):=fU () () (by simp;lia);have e:fY (bz (bB av (aa 0) (ab (aa 1) ae))) (mC (.str "calm")) (mC (.str "wild")) [some o,M6 .frz cs]=.ok (.str (cw (c cs))):=by
  rw[tP];have:bz (bB av (aa 0) (ab (aa 1) ae)) [some o,M6 .frz cs]=.ok (c cs):=by simp[r.le,hca]
  rw[this];cases c cs<;>rfl
 simp only[b6,aW,bG,cH,j3,e,bD,getElem?_cons_zero,getElem?_cons_succ,aU,aY,d0,dO,Res.M0,p,cJ,bh,bS];have m:mapL Fl.MP (iL cs++[PV.str (cw (c cs))])=iL cs++[PV.str (cw (c cs))]:=by rw[qu];simp
 rw[mP,m,j];simp[ao]
def zm(h:InS sp cs):cs.map (· % sp)=cs:=by
 conv=>rhs;rw[<- List.map_id cs]
 exact List.map_congr_left λa ha=>Int.emod_eq_of_lt (h a ha).1 (h a ha).2
theorem FT(r:Rl o n sp al D)(C:Ce n sp cs)(hg:h_ n al nm):vv [o,M3 .frz cs,.lst .own [M3 .frz nm]]=.ok (.lst .own [v3 .frz (dnR n D cs nm,stR n D cs nm)]):=by
 have ro:=vZ r (.inl rfl) (.inr rfl) C.1 C.2 hg;have rd:=i_ (f:=.frz) r C.1;rw[zm C.2]at rd;obtain⟨dn,hdn⟩:∃dn,dn=dnR n D cs nm:=⟨_,rfl⟩
 obtain⟨st,hst⟩:∃st,st=stR n D cs nm:=⟨_,rfl⟩
 rw[<- hdn,<- hst]at ro ⊢;refine am ?_;refine ac (aj (v:=M2 cs) (by simp[r.le,r.tb,r.rd,rd,ao])) ?_;refine ac (aj (v:=.lst .own []) ()) ?_;refine ac (bY rfl) ?_;simp;refine d7 (xs:=[M3 .frz nm]) (λk e=>∃x3 x5,e=[some o,M6 .frz cs,some (.lst .frz [M3 .frz nm]),x3,some (.lst .own (if k=0 then []else [.tup [M3 .frz dn,M3 .frz st]])),x5]/\(k=0->x3=M5 cs)) (cW (f:=.frz) () rfl () ()) ⟨_,_,rfl,λ_=>rfl⟩ (λk x e hx hP=>?_) (λe hP=>?_)
 .obtain⟨x3,x5,rfl,h3⟩:=hP;cases k with
  |succ k=>simp at hx
  |zero=>
   obtain rfl:=h3 rfl;simp at hx;subst hx;refine⟨_,cV rfl,?_⟩;simp only[s1_];refine bt (cM (v:=.tup [M3 .frz dn,M3 .frz st]) ?_ rfl () ()) ?_
   .simp only[Hl,b6,aW,bG,bD,getElem?_cons_zero,getElem?_cons_succ];simp[r.le,r.tb,ro,ao]
   have i1:ah (.lst .lnt [.tup [M3 .frz dn,M3 .frz st]]) (.int (-1))=.ok (.tup [M3 .frz dn,M3 .frz st]):=by simp[ah,aV,atI,ixN]
   have i2:=f8 (M3 .frz dn) (M3 .frz st) ();exact bC (aj (v:=M3 .frz st) (by simp[i1,i2])) ⟨_,_,rfl,nofun⟩
 .obtain⟨x3,x5,rfl,_⟩:=hP;exact cA rfl
def twd(n:Nat)(D:MB->Nat->Int)(c:MB->Bool)(cs nm:MB):Str:=sj [md (dnR n D cs nm),":",sj (swd c (stR n D cs nm))]
def t9(k:Kd o n sp al tb D c)(C:Ce n sp cs):(sj (swd c cs)).length<=1400:=by
 have:=jH (ls:=swd c cs) λz hz=>by
  rcases mem_append.mp hz with hz|hz
  .obtain⟨a,ha,rfl⟩:=mem_map.mp hz;exact dI (C.nu k a ha)
  .rw[mem_singleton.mp hz,tR];lia
 have:=C.1;have:=k.r.n20;have e:(swd c cs).length=cs.length+1:=by simp[swd]
 lia
def xw(k:Kd o n sp al tb D c)(C:Ce n sp cs)(hg:h_ n al nm):Stp o cs (.row "turn" nm) (stR n D cs nm) (twd n D c cs nm):=by
 have r:=k.r;have C':=C.go r nm;have ru:=FT r C hg;have e1:=aG G3.1;have i0:ah (.tup [.str "turn",M3 .frz nm]) (.int 0)=.ok (.str "turn"):=aX rfl rfl rfl;have i1:ah (.tup [.str "turn",M3 .frz nm]) (.int 1)=.ok (M3 .frz nm):=aX rfl rfl ();obtain⟨dS,d10⟩:=As r;have m:=kg (f:=.frz) dS;have ml:=zE dS d10;have sh:=kT k C';have sl:=t9 k C';unfold twd;refine⟨.frz,.frz,dnR n D cs nm,⟨rfl,rfl,rfl⟩,⟨rfl,rfl,rfl⟩,?_,?_⟩
 .refine am ?_;show vF [some o,M6 .frz cs,some (.tup [.str "turn",M3 .frz nm])]=_;refine bp (cU (by simp[i0,e1]) (az ?_));have i2:∀a b,ah (.lst .own [v3 .frz (a,b)]) (.int 0)=.ok (.tup [M3 .frz a,M3 .frz b]):=λa b=>aX rfl rfl ();unfold v3 at ru i2;simp[r.le,r.tb,i1,ru,ao,i2]
 .generalize dnR n D cs nm=dn at *;generalize stR n D cs nm=st at *;refine am ?_;show oi [some o,some (.tup [M3 .frz dn,M3 .frz st]),some (.tup [.str "turn",M3 .frz nm]),none]=_;have j0:ah (.tup [M3 .frz dn,M3 .frz st]) (.int 0)=.ok (M3 .frz dn):=aX rfl rfl ();have j1:=f8 (M3 .frz dn) (M3 .frz st) ();refine ac (aj (v:=M3 .frz st) (by simp[j1])) ?_;refine bp (cU (by simp[i0,e1]) (az ?_));have j:=fZ (f:=.own) (xs:=[.str (md dn),.str ":", .str (sj (swd c st))]) (λx hx=>by
   simp at hx;rcases hx with rfl|rfl|rfl
   .exact .inr ⟨_,rfl,by lia⟩
   .exact .inr ⟨_,rfl,by decide +kernel⟩
   .exact .inr ⟨_,rfl,by lia⟩) ()
  simp[r.le,r.tb,j0,m,sh,ao,j];rfl
def rC(e1:pEq (.str z) (.str "turn")=.ok (.bl false))(e2:pEq (.str z) (.str "spoil")=.ok (.bl false)):nQ [o,M3 .frz cs,.tup [.str z]]=.ok (.tup [M2 [],M3 .frz cs]):=by have i0:ah (.tup [.str z]) (.int 0)=.ok (.str z):=rfl;refine am ?_;exact ac (aM (by simp[i0,e1]) ak) (ac (aM (by simp[i0,e2]) ak) (az ()))
def CM(r:Rl o n sp al D)(C:Ce n sp cs):Stp o cs (.num "may" []) cs (md (mvR n D cs)):=by obtain⟨_,e1,e2,e3,_⟩:=G3;have e1:=aG e1;have e2:=aG e2;have e3:=aG e3;have i0:ah (.tup [.str "may"]) (.int 0)=.ok (.str "may"):=rfl;refine⟨.own,.frz,[],⟨rfl,rfl,rfl⟩,⟨rfl,rfl,rfl⟩,rC e1 e2,?_⟩;refine am ?_;show oi [some o,some (.tup [M3 .frz [],M3 .frz cs]),some (.tup [.str "may"]),none]=_;have j1:=f8 (.lst .frz []) (M3 .frz cs) ();refine ac (aj (v:=M3 .frz cs) (by simp[j1])) ?_;refine ac (aM (by simp[i0,e1]) ak) (ac (aM (by simp[i0,e2]) ak) (bp (cU (by simp[i0,e3]) (az ?_))));have m:=kg (f:=.own) (sJ (cs:=cs) r);simp[r.le,r.tb,r.mv,cL r (.inl (.inr rfl)) C.1 C.2,m,ao]
def zD{M:Int}(r:Rl o n sp al D)(hm:io aE (.ok [M3 .frz cs]) o=.ok (.int M))(hs:Nm M):Stp o cs (.num "measure" []) cs (tn M):=by obtain⟨_,_,_,_,e1,e2,e3,e4⟩:=G3;have e1:=aG e1;have e2:=aG e2;have e3:=aG e3;have e4:=aG e4;have i0:ah (.tup [.str "measure"]) (.int 0)=.ok (.str "measure"):=rfl;refine⟨.own,.frz,[],⟨rfl,rfl,rfl⟩,⟨rfl,rfl,rfl⟩,rC e1 e2,?_⟩;refine am ?_;show oi [some o,some (.tup [M3 .frz [],M3 .frz cs]),some (.tup [.str "measure"]),none]=_;have j1:=f8 (.lst .frz []) (M3 .frz cs) ();refine ac (aj (v:=M3 .frz cs) (by simp[j1])) ?_;exact ac (aM (by simp[i0,e1]) ak) (ac (aM (by simp[i0,e2]) ak) (ac (aM (by simp[i0,e3]) ak) (bp (cU (by simp[i0,e4]) (az (by simp[r.le,hm,(nt hs).st]))))))
end
def spo(n:Nat)(cs:MB)(a:Nat)(x:Int):MB:=(range n).map λk=>if k=a then x else gt cs k
def Bp{a:Nat}(h:cs.length=n)(ha:a<n):cs.set a x=spo n cs a x:=by
 refine List.ext_getElem? λi=>?_;unfold spo;rw[List.getElem?_set,getElem?_map];by_cases e:i<n
 .rw[List.getElem?_range e];by_cases q:a=i
  .grind
  .rw[if_neg q,getElem?_eq_getElem ()];simp[gt,show i<cs.length by lia,show ¬i=a by lia]
 .simp_all
section
variable{o:PV}{n:Nat}{sp:Int}{al tb:Bool}{D:MB->Nat->Int}{c:MB->Bool}{cs nm:MB}
theorem xR{a:Nat}(hn:cs.length=n)(ha:a<n):uN [M3 .frz cs,.lst .own [.tup [.int a,.int x]]]=.ok (M2 (spo n cs a x)):=by
 refine am ?_;refine ac (aj (v:=M2 cs) ()) ?_;refine ac (bY rfl) ?_;refine d7 (xs:=[.tup [.int a,.int x]]) (λk e=>∃x3 x4,e=[M6 .frz cs,some (.lst .frz [.tup [.int a,.int x]]),M5 (if k=0 then cs else spo n cs a x),x3,x4]) (cW (f:=.frz) () rfl () ()) ⟨_,_,rfl⟩ (λk y e hy hP=>?_) (λe hP=>?_)
 .obtain⟨x3,x4,rfl⟩:=hP;cases k with
  |succ k=>simp at hy
  |zero=>simp at hy;subst hy;refine⟨[some (.lst .frz (iL cs)),some (.lst .frz [.tup [.int a,.int x]]),some (.lst .own (iL cs)),some (.int a),some (.int x)],rfl,bt (aM (by simp[hn,show ¬(n:Int)<= a by lia]) ak) (bC (p0 (v:=.int x) (j:=a) (n:=a) () rfl () (oW (by simp;lia)) ()) ⟨some (.int a),some (.int x),?_⟩)⟩;rw[if_neg (),<- Bp hn ha];simp[iL,List.map_set]
 .obtain⟨x3,x4,rfl⟩:=hP;exact cA rfl
def Jz:isB (pEq (.str "spoil") (.str "turn")) false=true/\isB (pEq (.str "spoil") (.str "spoil")) true=true:=by decide +kernel
def vO{a:Nat}(k:Kd o n sp al tb D c)(C:Ce n sp cs)(ha:a<n):Stp o cs (.num "spoil" [a,x]) ((spo n cs a x).map (· % sp)) (sj (swd c ((spo n cs a x).map (· % sp)))):=by
 have r:=k.r;have e1:=aG Jz.1;have e2:=aG Jz.2;have C':Ce n sp ((spo n cs a x).map (· % sp)):=⟨by simp[spo],sK r⟩
 have sh:=kT k C';have rd:=i_ (f:=.own) (rs:=spo n cs a x) r (by simp[spo]);have so:=xR (x:=x) C.1 ha;generalize(spo n cs a x).map (· % sp)=st at *;have i0:ah (.tup [.str "spoil",.int a,.int x]) (.int 0)=.ok (.str "spoil"):=rfl;have i1:ah (.tup [.str "spoil",.int a,.int x]) (.int 1)=.ok (.int a):=rfl;have i2:ah (.tup [.str "spoil",.int a,.int x]) (.int 2)=.ok (.int x):=rfl;refine⟨.own,.own,[],⟨rfl,rfl,rfl⟩,⟨rfl,rfl,rfl⟩,?_,?_⟩
 .refine am ?_;show vF [some o,M6 .frz cs,some (.tup [.str "spoil",.int a,.int x])]=_;refine ac (aM (by simp[i0,e1]) ak) (bp (cU (by simp[i0,e2]) (az ?_)));simp[i1,i2,so,r.le,r.tb,r.rd,rd,ao]
 .refine am ?_;show oi [some o,some (.tup [M3 .frz [],M3 .frz st]),some (.tup [.str "spoil",.int a,.int x]),none]=_;have j1:=f8 (.lst .frz []) (M3 .frz st) ();refine ac (aj (v:=M3 .frz st) (by simp[j1])) ?_;exact ac (aM (by simp[i0,e1]) ak) (bp (cU (by simp[i0,e2]) (az (by simp[r.le,r.tb,sh,ao]))))
def zW:isB (pEq (.str "calm") (.str "calm")) true=true/\isB (pEq (.str "round") (.str "calm")) false=true/\isB (pEq (.str "round") (.str "round")) true=true/\isB (pEq (.str "leaves") (.str "calm")) false=true/\isB (pEq (.str "leaves") (.str "round")) false=true/\isB (pEq (.str "stuck") (.str "calm")) false=true/\isB (pEq (.str "stuck") (.str "round")) false=true/\isB (pEq (.str "look") (.str "turn")) false=true/\isB (pEq (.str "look") (.str "spoil")) false=true/\isB (pEq (.str "look") (.str "may")) false=true/\isB (pEq (.str "look") (.str "measure")) false=true:=by decide +kernel
def zF{R:MB}(h:R≠[])(f:Fl):dh cr (M3 f R)=.ok (.int (cr R)):=by unfold dh;simp only[aV,eW];rw[if_neg (by cases R<;>simp_all)]
def GV(k:Kd o n sp al tb D c)(A:Ans n sp v z):u7 [v]=.ok (.str z):=by
 obtain⟨k1,k2,k3,k4,k5,k6,k7,_⟩:=zW;have n4:=k.n4;cases A with
 |rk R ne rg=>
  have e1:=aG k1;refine am ?_;have i0:ah (.tup [.str "calm",M3 .lnt R]) (.int 0)=.ok (.str "calm"):=aX rfl rfl rfl;have i1:ah (.tup [.str "calm",M3 .lnt R]) (.int 1)=.ok (M3 .lnt R):=aX rfl rfl ();have rr:=rg _ (kH R ne).1;have jj:=fZ (f:=.own) (xs:=[.str "calm", .int (cr R)]) (λx hx=>by
   simp at hx;rcases hx with rfl|rfl
   .exact .inr ⟨_,rfl,by decide +kernel⟩
   .exact .inl ⟨_,rfl,bE () ()⟩) ()
  refine bp (cU (by simp[i0,e1]) (az ?_));simp[i1,zF ne,jj];rfl
 |rd wl=>have e1:=aG k2;have e2:=aG k3;refine am ?_;have i0:ah (.tup [.str "round",.lst .lnt (llL .lnt wl)]) (.int 0)=.ok (.str "round"):=aX rfl rfl rfl;exact ac (aM (by simp[i0,e1]) ak) (bp (cU (by simp[i0,e2]) (az ())))
 |st w cs t h C=>
  have wd:pEq (.str w) (.str "calm")=.ok (.bl false)/\pEq (.str w) (.str "round")=.ok (.bl false)/\w.length<=100:=by
   rcases h with⟨rfl,_⟩ |⟨rfl,_⟩
   .exact⟨aG k4,aG k5,by decide +kernel⟩
   .exact⟨aG k6,aG k7,by decide +kernel⟩
  have tm:mapL Fl.MN t=t:=by rcases h with⟨_,nm,rfl⟩ |⟨_,rfl⟩<;>simp
  obtain⟨e1,e2,wl⟩:=wd;refine am ?_;have i0:ah (.tup (.str w::M3 .lnt cs::t)) (.int 0)=.ok (.str w):=aX rfl rfl rfl;have i1:ah (.tup (.str w::M3 .lnt cs::t)) (.int 1)=.ok (M3 .lnt cs):=aX rfl rfl ();have hl:=C.1;have p:aJ (.lst .own [.str w]) (M3 .lnt cs)=.ok (.lst .own (.str w::iL cs)):=by rw[fU () () (by simp;lia)];rfl
  have jj:=fZ (f:=.own) (xs:=.str w::iL cs) (λx hx=>by
   rcases mem_cons.mp hx with rfl|hx
   .exact .inr ⟨_,rfl,by lia⟩
   .exact C.th k x hx) (by simp;lia)
  rw[map_cons,ou]at jj;refine ac (aM (by simp[i0,e1,tm]) ak) (ac (aM (by simp[i0,e2,tm]) ak) (az ?_));simp[i0,i1,tm,p,jj];rfl
def zN{many:Bool}(k:Kd o n sp al tb D c)(h1:nH [o,.bl many]=.ok v)(A:Ans n sp v z):Stp o cs (.lk many) cs z:=by
 have r:=k.r;have h2:=GV k A;obtain⟨_,_,_,_,_,_,_,e1,e2,e3,e4⟩:=zW;have e1:=aG e1;have e2:=aG e2;have e3:=aG e3;have e4:=aG e4;have i0:ah (.tup [.str "look",.bl many]) (.int 0)=.ok (.str "look"):=rfl;have i1:ah (.tup [.str "look",.bl many]) (.int 1)=.ok (.bl many):=rfl;refine⟨.own,.frz,[],⟨rfl,rfl,rfl⟩,⟨rfl,rfl,rfl⟩,?_,?_⟩
 .refine am ?_;show vF [some o,M6 .frz cs,some (.tup [.str "look",.bl many])]=_;exact ac (aM (by simp[i0,e1]) ak) (ac (aM (by simp[i0,e2]) ak) (az ()))
 .refine am ?_;show oi [some o,some (.tup [M3 .frz [],M3 .frz cs]),some (.tup [.str "look",.bl many]),none]=_;have j1:=f8 (.lst .frz []) (M3 .frz cs) ();refine ac (aj (v:=M3 .frz cs) (by simp[j1])) ?_;refine ac (aM (by simp[i0,e1]) ak) (ac (aM (by simp[i0,e2]) ak) (ac (aM (by simp[i0,e3]) ak) (ac (aM (by simp[i0,e4]) ak) (az ?_))));have vb:=A.own Fl.MW rfl rfl;have vm:v.MY Fl.MP=v:=by
   cases A with
   |st w cs t h C=>rcases h with⟨_,nm,rfl⟩ |⟨_,rfl⟩<;>simp
   |_=>simp
  simp[r.le,r.tb,i1,h1,ao,vb,vm,h2]
end
abbrev tab(fl:Fl)(n:Nat)(sp wi:Int)(fs os:MB):PV:=.obj fl 10 [12,13,14,0,7,8] [.int wi,.tup (iL fs),.tup (iL os),.int n,.int sp,.bl false]
def Wt(w:Str)(wi:Int):Prop:=w="none" /\ wi=0\/w="one" /\ wi=1
structure gh(sp:Int)(t:MB):Prop where
 len:(t.length:Int)=sp*sp*sp
 rng:∀x∈t,0<=x/\x<sp
def xU(h1:2<=sp)(h2:sp<=4):sp=2\/sp=3\/sp=4:=by lia
def Hr(h1:2<=sp)(h2:sp<=4):bN (.int sp) (.int sp)=.ok (.int (sp*sp))/\bN (.int (sp*sp)) (.int sp)=.ok (.int (sp*sp*sp))/\4<=sp*sp/\sp*sp<=16/\8<=sp*sp*sp/\sp*sp*sp<=64:=by rcases xU h1 h2 with rfl|rfl|rfl<;>exact⟨rfl,rfl,by decide,by decide,by decide,by decide⟩
def m5{t:MB}(hf:f=.bor\/f=.frz)(h1:2<=sp)(h2:sp<=4)(ht:gh sp t):qX [M3 f t,.int sp]=.ok .non:=by
 obtain⟨m1,m2,_⟩:=Hr h1 h2;have hf1:f.MN=f:=by rcases hf with rfl|rfl<;>rfl
 have hf2:f.MV=false:=by rcases hf with rfl|rfl<;>rfl
 refine c_ ?_;refine cI (aM (by simp[p1,m1,m2,ht.len]) ak) ?_;refine gI (λ_ e=>∃x,e=[M6 f t,M4 sp,x]) (λr=>∃e,r=.next e) (xs:=iL t) (cW (by simp[hf1]) hf2 () ()) ⟨_,rfl⟩ (λk x e hx hP=>?_) (λe hP=>⟨e,rfl⟩);obtain⟨y,rfl⟩:=hP;obtain⟨z,hz,rfl⟩:=jX hx;have:=ht.rng z (List.mem_of_getElem? hz);exact⟨_,cV rfl,.inl ⟨_,.inl (aM (by simp[show ¬z<0 by lia,show ¬sp<=z by lia]) ak),_,rfl⟩⟩
def xB{w:Str}{fs os:MB}(hf0:Fc f)(n2:2<=n)(n8:n<=8)(h1:2<=sp)(h2:sp<=4)(hw:Wt w wi)(hf:gh sp fs)(ho:gh sp os):nX [.obj .own 10 [] [],.int n,.int sp,.str w,M3 f fs,M3 f os]=.ok (tab .own n sp wi fs os):=by
 refine c9 (e:=[some (tab .own n sp wi fs os),M4 n,M4 sp,some (.str w),M6 f fs,M6 f os]) ?_ rfl;show EN [some (.obj .own 10 [] []),M4 n,M4 sp,some (.str w),M6 f fs,M6 f os]=_;have r1:=m5 hf0 h1 h2 hf;have r2:=m5 hf0 h1 h2 ho;have d1:jc [("none",(0)),("one",(1))] (.str w)=.ok (.bl false):=by rcases hw with⟨rfl,_⟩ |⟨rfl,_⟩<;>rfl
 have d2:iq [("none",(0)),("one",(1))] (.str w)=.ok (.int wi):=by rcases hw with⟨rfl,rfl⟩ |⟨rfl,rfl⟩<;>rfl
 refine ac (aM (by simp[show ¬(n:Int)<2 by lia,show ¬(8:Int)<n by lia]) ak) ?_;refine ac (aM (by simp[show ¬sp<2 by lia,show ¬(4:Int)<sp by lia]) ak) ?_;refine ac (aM (by simp[d1]) ak) ?_;refine ac (cD (v:=.non) (by simp[r1,ao,hf0.le,hf0.tb])) ?_;refine ac (cD (v:=.non) (by simp[r2,ao,hf0.le,hf0.tb])) ?_;refine ac (cj (v:=.int wi) (by simp[d2]) rfl () rfl ()) ?_;refine ac (cj (v:=.tup (iL fs)) (by simp[cX,aV]) rfl () rfl ()) ?_;refine ac (cj (v:=.tup (iL os)) (by simp[cX,aV]) rfl () rfl ()) ?_;have ri:f9 [.obj .own 10 [12,13,14] [.int wi,.tup (iL fs),.tup (iL os)],.int n,.int sp,.bl false]=.ok (tab .own n sp wi fs os):=by refine c9 (e:=[some (tab .own n sp wi fs os),M4 n,M4 sp,some (.bl false)]) ?_ rfl;refine ac (cj (v:=.int n) () rfl () rfl ()) ?_;refine ac (cj (v:=.int sp) () rfl () rfl ()) ?_;exact cj (ks:=[12,13,14,0,7]) (vs:=[.int wi,.tup (iL fs),.tup (iL os),.int n,.int sp]) () rfl () rfl ()
 have:=fM (env:=[some (.obj .own 10 [12,13,14] [.int wi,.tup (iL fs),.tup (iL os)]),M4 n,M4 sp,some (.str w),M6 f fs,M6 f os]) (ms:=ab (aa 1) (ab (aa 2) (ab (mC (.bl false)) ae))) (xs:=[.int n,.int sp,.bl false]) rfl () () (by simpa using ri) (by simp[PV.has]);simpa using this
section
variable{n:Nat}{s wi:Int}{fs os cs:MB}
def vI(n2:2<=n)(h1:2<=s)(h2:s<=3)(hf:gh s fs)(ho:gh s os)(C:Ce n s cs)(hi:i<n):∃d:Int,(∀fc,Fc fc->nT [tab .frz n s wi fs os,M3 fc cs,.int i]=.ok (.int d))/\0<=d/\d<s:=by
 obtain⟨hn,hc⟩:=C;have np:(0:Int)<n:=by lia
 have l1:=emod_nonneg ((i:Int)-1) (show(n:Int)≠ 0 by lia);have l2:=emod_lt_of_pos ((i:Int)-1) np;have r1:=emod_nonneg ((i:Int)+1) (show(n:Int)≠ 0 by lia);have r2:=emod_lt_of_pos ((i:Int)+1) np;have ix:∀(p:Int),0<=p->p<n->∀f,ah (M3 f cs) (.int p)=.ok (.int (gt cs p.toNat)):=λp h1 h2 f=>cB h1 ();have bd:∀(p:Int),0<=p->p<n->0<=gt cs p.toNat/\gt cs p.toNat<s:=λp h1 h2=>hc _ (fv ());have il:=ix _ l1 l2;have ir:=ix _ r1 r2;have bl:=bd _ l1 l2;have br:=bd _ r1 r2;have ic:=ix (i:Int) () ();have bc:=bd (i:Int) () ();have ml:=aR (i:=(i:Int)-1) np;have mr:=aR (i:=(i:Int)+1) np;generalize gt cs (((i:Int)-1)%(n:Int)).toNat=l at *;generalize gt cs (((i:Int)+1)%(n:Int)).toNat=r at *;generalize gt cs ((i:Int)).toNat=c at *;have q1:bN (.int c) (.int s)=.ok (.int (c*s)):=cO (.inr ⟨by lia,by lia⟩);have q2:bN (.int (c*s)) (.int s)=.ok (.int (c*s*s)):=cO (.inr ⟨by lia,by lia⟩);have q3:bN (.int l) (.int s)=.ok (.int (l*s)):=cO (.inr ⟨by lia,by lia⟩);have rg:0<=c*s*s+l*s+r/\c*s*s+l*s+r<s*s*s:=by rcases(show s=2\/s=3 by lia)with rfl|rfl<;>lia
 obtain⟨p,hp⟩:∃p:Nat,(p:Int)=c*s*s+l*s+r:=⟨(c*s*s+l*s+r).toNat,by lia⟩
 have at_:∀t:MB,gh s t->ah (.tup (iL t)) (.int (c*s*s+l*s+r))=.ok (.int (gt t p))/\0<=gt t p/\gt t p<s:=λt ht=>by
  have hl:p<t.length:=by have:=ht.len;lia
  rw[<- hp];exact⟨aX rfl (by simp[iL,gt,hl]) (),ht.rng _ (fv hl)⟩
 obtain⟨tf,bf⟩:=at_ fs hf;obtain⟨to,bo⟩:=at_ os ho;refine⟨if i=0 then gt fs p else gt os p,λfc hfc=>am ?_,by lia⟩;refine ac (aj (v:=.int l) (by simp[ap,bF,ml,il])) ?_;refine ac (aj (v:=.int r) (by simp[ap,bF,mr,ir])) ?_;refine ac (aj (v:=.int (c*s*s+l*s+r)) (by simp[ap,bF,ic,q1,q2,q3])) ?_;refine az ?_ ();by_cases e:i=0
 .simp[ap,bF,tf,e]
 .simp[ap,bF,to,e]
def yu(n2:2<=n)(n4:n<=4)(h1:2<=s)(h2:s<=3)(hf:gh s fs)(ho:gh s os):∃D,Rl (tab .frz n s wi fs os) n s false D:=by
 obtain⟨D,hD⟩:∃D:MB->Nat->Int,∀cs (i:Nat),Ce n s cs->i<n->(∀fc,Fc fc->nT [tab .frz n s wi fs os,M3 fc cs,.int i]=.ok (.int (D cs i)))/\0<=D cs i/\D cs i<s:=
  ⟨λcs i=>Classical.epsilon λd=>(∀fc,Fc fc->nT [tab .frz n s wi fs os,M3 fc cs,.int i]=.ok (.int d))/\0<=d/\d<s,λcs i C h3=>Classical.epsilon_spec (vI n2 h1 h2 hf ho C h3)⟩
 exact ⟨D,{
  due:=λfc cs k hfc hn hc hk=>⟨by simp[aC,hfc.tb,(hD cs k ⟨hn,hc⟩ hk).1 fc hfc,ao],(hD cs k ⟨hn,hc⟩ hk).2⟩
 }⟩
end
section
variable{o:PV}{n:Nat}{sp:Int}{al:Bool}{D:MB->Nat->Int}{cs:MB}{f:Fl}
def k8(r:Rl o n sp al D)(hf:Fc f\/f=.own)(C:Ce n sp cs):jq [o,M3 f cs]=.ok (.bl (decide ((mvR n D cs).length=0))):=by have mo:=cL r (.inl (Fc.call hf)) C.1 C.2;refine am ?_;exact az (by simp[r.le,r.tb,r.mv,mo,ao]) ()
def yW(r:Rl o n sp al D)(hf:Fc f\/f=.own)(C:Ce n sp cs):vn [o,M3 f cs]=.ok (.bl (decide (((mvR n D cs).length:Int)=1))):=by have mo:=cL r (.inl (Fc.call hf)) C.1 C.2;refine am ?_;exact az (by simp[r.le,r.tb,r.mv,mo,ao]) ()
def xF{fs os:MB}(r:Rl (tab .frz n sp wi fs os) n sp al D)(hf:Fc f\/f=.own)(C:Ce n sp cs):Dm [tab .frz n sp wi fs os,M3 f cs]=.ok (.bl (decide (((mvR n D cs).length:Int)=wi))):=by have mo:=cL r (.inl (Fc.call hf)) C.1 C.2;refine am ?_;exact az (by simp[ap,bF,r.mv,mo,ao]) ()
theorem rV{B:Int}:∀{l:MB},(∀x∈l,0<=x/\x<=B)->0<=l.sum/\l.sum<=l.length*B
 | [],_=>by simp
 |a::l,h=>by
  have:=rV λx hx=>h x (mem_cons_of_mem _ hx);have:=h a mem_cons_self;rw[List.sum_cons,length_cons,Int.natCast_add,Int.add_mul]
  lia
def DY{rk:Nat->Nat}{p:Nat->Bool}(n4:n<=4)(hr:∀i,i<n->rk i<n):0<=Wl rk n p/\Wl rk n p<=64:=by
 have l:=lP (n:=n) (p:=p);have:=rV (B:=16) (l:=((range n).filter p).map λi=>(2:Int) ^ rk i) λx hx=>by obtain⟨i,hi,rfl⟩:=mem_map.mp hx;have:=hr i (mem_range.mp (mem_filter.mp hi).1);rcases(show rk i=0\/rk i=1\/rk i=2\/rk i=3 by lia)with e|e|e|e<;>rw[e]<;>decide
 rw[length_map]at this;unfold Wl
 lia
theorem sG{r f:Nat->Nat}(h0:0<b)(hr:∀i,(r i:Int)<b/\(f i:Int)<b):∀m,0<=num b r f m/\num b r f m<b ^ (2*m)
 |0=>by simp[num]
 |m+1=>by
  obtain⟨h1,h2⟩:=sG h0 hr m;have:=hr m;have q1:(num b r f m+1)*b<=b ^ (2*m)*b:=Int.mul_le_mul_of_nonneg_right () ();have q2:0<=num b r f m*b:=Int.mul_nonneg h1 ();rw[Int.add_mul]at q1;have q3:(num b r f m*b+r m+1)*b<=b ^ (2*m)*b*b:=Int.mul_le_mul_of_nonneg_right () ();have q4:0 <=(num b r f m*b+r m)*b:=Int.mul_nonneg () ();rw[Int.add_mul]at q3;rw[show 2*(m+1)=2*m+1+1 by lia,Int.pow_succ,Int.pow_succ];simp only[num]
  lia
def Jq{A x:Nat->Int}(n4:n<=4)(hT:T<=40):0<=mL n T A x/\mL n T A x<5 ^ 80:=by
 have:=sG (b:=(n:Int)+1) (r:=sw n A x) (f:=tK n A x) () (λi=>⟨by have:sw n A x i<=n:=lP;lia,by have:tK n A x i<=n:=lP;lia⟩) T;have q:((n:Int)+1) ^ (2*T)<= 5 ^ 80:=by
  have:=Nat.le_trans (Nat.pow_le_pow_left (show n+1<=5 by lia) (2*T)) (Nat.pow_le_pow_right (show 0<5 by decide) (show 2*T<=80 by lia))
  exact_mod_cast this
 exact⟨this.1,Int.lt_of_lt_of_le this.2 q⟩
def zb{m:Int}(h0:0<=m)(h:m<5 ^ 80):Nm m:=by
 have:m.natAbs<5 ^ 80:=by lia
 exact Nat.lt_trans this ()
theorem yL(n2:2<=n)(n4:n<=4)(hs:(n:Int)<= sp)(C:Ce n sp cs):∃m:Int,Nm m/\∀f,Fc f\/f=.own->Dp [kX .frz n sp,.lst f (iL cs)]=.ok (.int m):=by
 obtain⟨hn,hc⟩:=C;have r:=uk (n:=n) (sp:=sp) () () ();have hc0:=hc _ (fv (i:=0) ());have so:=λf hf=>xJ (fc:=f) hf () () () hc0;obtain⟨J,_,hJ⟩:=so .bor (.inl rfl);obtain⟨WS,hWS⟩:∃WS:MB,WS=(((range n).filter λi=>decide (o8 sp cs i≠gt cs i)).filter λi=>decide (i≠0)).map λi:Nat=>(n:Int)-i:=⟨_,rfl⟩
 have wl:WS.length<=4:=by grind
 have wr:∀x∈WS,0<=x/\x<=4:=λx hx=>by grind
 have sm:∀g:Fl,iJ (.lst g (iL WS))=.ok (.int WS.sum):=λg=>kD () λx hx=>by grind
 have sb:=rV wr;have mu:bN (.int (n:Int)) (.int (J:Int))=.ok (.int (n*J)):=cO (.inl ⟨by lia,by lia⟩);have J4:J<4:=by rcases hJ with⟨_,e⟩ |⟨_,_,h,_⟩<;>lia
 have nb:0 <=(n:Int)*J/\(n:Int)*J<=16:=by rcases(show J=0\/J=1\/J=2\/J=3 by lia)with rfl|rfl|rfl|rfl<;>lia
 refine⟨n*J+WS.sum,bE () (),λf hf=>am ?_⟩;obtain⟨J',e1,hJ'⟩:=so _ (Fc.call hf);rw[HL hJ' hJ]at e1;have mo:=cL r (.inl (Fc.call hf)) hn hc;have ml:=fH (n:=n) (D:=o8 sp) (cs:=cs);refine ac (aj (v:=.lst .own (iL WS)) ?_) ?_
 .rw[hWS];refine aF (xs:=iL (mvR n (o8 sp) cs)) (by simp[r.mv,mo,ao]) (by rw[bL];lia) ?_;unfold mvR;rw[show ∀l:List Nat,iL (l.map λi:Nat=>(i:Int))=l.map λi:Nat=>PV.int i from λl=>by simp[iL],show ∀l:List Nat,iL (l.map λi:Nat=>(n:Int)-i)=l.map λi:Nat=>PV.int ((n:Int)-i)from λl=>by simp[iL]];exact db _ λx _=>⟨[some (kX .frz n sp),some (.int x)],by rfl,by simp,λ_=>by simp[ap,bF]⟩
 exact az (by simp[ap,bF,e1,ao,mu,sm]) ()
end
def CY(n2:2<=n)(n4:n<=4)(hs:(n:Int)<= sp)(s9:sp<=9):∃D c,Kd (kX .frz n sp) n sp false false D c:=
  have r:=uk () () ()
  ⟨_,_,{ r:=r,
           ca:=λf cs hf C=>by simp[av,yW r (Fc.tb2 hf) C];rfl,
           me:=λ_ cs C=>by
             obtain⟨m,h1,h2⟩:=yL n2 n4 hs C;exact⟨m,h1,λf hf=>by simp[aE,h2 _ (Fc.tb2 hf),ao]⟩}⟩
def zT{fs os:MB}(n2:2<=n)(n4:n<=4)(h1:2<=s)(h2:s<=3)(hf:gh s fs)(ho:gh s os):∃D c,Kd (tab .frz n s wi fs os) n s false true D c:=by obtain⟨D,r⟩:=yu n2 n4 h1 h2 hf ho;exact⟨D,_,{r:=r,ca:=λf cs hf C=>by(simp[av,xF r (Fc.tb2 hf) C];rfl),me:=λh=>nomatch h}⟩
def qD(hk:cc=5\/cc=6)(h1:1<=n)(n4:n<=4)(hst:0<st)(hT:T<=40)(ho:OkS T os)(hol:os.length=n)(hnb:∀i:Nat,∀x∈nbL ps i,0<=x/\x<n)(hl:∀i,(nbL ps i).length<=1000):∃D c,Kd (lea .frz cc n ps os st T) n ((T:Int)+1) true false D c:=by
 have r:=p5 hk h1 () hst () ho hol hnb hl;refine⟨jv ps os st T,λcs=>decide ((mvR n (jv ps os st T) cs).length=0),{r:=r,ca:=λf cs hf C=>?_,ti:=?_,me:=λ_ cs C=>?_}⟩
 .rcases hk with rfl|rfl<;>simp[av,k8 r (Fc.tb2 hf) C,ao]
 .rcases hk with rfl|rfl<;>rfl
 .have b:=Jq (A:=jv ps os st T cs) (x:=gt cs) n4 hT;refine⟨_,zb b.1 b.2,λf hf=>?_⟩;have e:=qx (Fc.tb2 hf) (λg i hg hi=>(r.due g cs i hg C.1 C.2 hi).1) C.1 () ();rcases hk with rfl|rfl<;>simp[aE,e,ao]
def CZ{q:Nat}(h1:1<=n)(n4:n<=4)(hnb:∀i:Nat,∀x∈nbL ps i,0<=x/\x<n)(hl:∀i,(nbL ps i).length<=1000):∃D c,Kd (gro .frz n ps q) n (((n:Int)+1)*((n:Int)+1)) true false D c:=by
 have r:=B1 (r:=q) h1 () hnb λi=>hl i;have r5:=p5 (cc:=5) (os:=fs n q) (st:=n) () h1 () () () (tH h1) (by simp[fs]) hnb hl;have e9:((n:Int)+1)*((n:Int)+1)<= 25:=by rcases(show n=1\/n=2\/n=3\/n=4 by lia)with rfl|rfl|rfl|rfl<;>decide
 refine⟨rh n ps q,λcs=>decide ((mvR n (rh n ps q) cs).length=0),{r:=r,ca:=λf cs hf C=>?_,me:=λ_ cs C=>?_}⟩
 .simp[av,k8 r (Fc.tb2 hf) C,ao]
 .have fa:Ce n ((n:Int)+1) (FA n cs):=⟨by simpa using C.1,λc hc'=>by
   obtain⟨x,hx,rfl⟩:=mem_map.mp hc';have b:=C.2 x hx;exact⟨Int.ediv_nonneg b.1 (),Int.ediv_lt_of_lt_mul () b.2⟩⟩
  obtain⟨M,hM,b1,b2⟩:∃M:Int,qK [lea .frz 5 n ps (fs n q) n n,M3 .bor (FA n cs)]=.ok (.int M)/\0<=M/\M <((n:Int)+1) ^ (2*n):=⟨_,qx (.inl (.inl rfl)) (λg i hg hi=>(r5.due g (FA n cs) i hg fa.1 fa.2 hi).1) fa.1 () (),sG () (λi=>⟨Int.lt_add_one_of_le (Int.ofNat_le.mpr lP),Int.lt_add_one_of_le (Int.ofNat_le.mpr lP)⟩) n⟩
  have w:=DY (rk:=rnk n (FA n cs)) (p:=wrg n ps q cs) n4 λi hi=>oB hi;have:((n:Int)+1) ^ (2*n)<= 390625/\(2:Int) ^ n<=16:=by rcases(show n=1\/n=2\/n=3\/n=4 by lia)with rfl|rfl|rfl|rfl<;>decide
  have p:=rQ (n:=n) ();have m1:0<=M*2 ^ n:=Int.mul_nonneg b1 ();have m2:M*2 ^ n<=390625*2 ^ n:=Int.mul_le_mul_of_nonneg_right () ();refine⟨M*2 ^ n+Wl (rnk n (FA n cs)) n (wrg n ps q cs),zb () (Int.lt_of_le_of_lt (show _<=10000000 by lia) ()),λf hf=>?_⟩;simp[aE,Ab (Fc.tb2 hf) () hnb (λi=>hl i) C.1 hM,ao]
def uF{D:MB->Nat->Int}{rk:Nat->Nat}(r:Rl o n s false D)(n4:n<=4)(hs:s<=10)(hr:∀i:Nat,i<n->io cC (.ok [.int i]) o=.ok (.int (rk i))/\rk i<n)(fz:o.MY Fl.MQ=o)(hf:∀p:Fl->Bool,p .frz=false->o.has p=false)(ti:qe gE o=.ok (.bl false))(hc:∀r,io av r o=r.bind λxs=>aq jq (o::xs))(hm:∀r,io aE r o=r.bind λxs=>aq wU (o::xs)):∃c,Kd o n s false false D c:=by
 refine⟨λcs=>decide ((mvR n D cs).length=0),{r:=r,fz:=fz,hf:=hf,ti:=ti,ca:=λf cs hf C=>?_,me:=λ_ cs C=>?_}⟩
 .rw[hc];simp[r.tb,k8 r (Fc.tb2 hf) C,ao]
 .have w:=DY (p:=mvB D cs) n4 λi hi=>(hr i hi).2;refine⟨_,bE w.1 (),λf hf=>?_⟩;rw[hm];simp[r.tb,At r () hr (Fc.tb2 hf) C.1 C.2,ao]
def zU(h1:1<=n)(n4:n<=4)(rg:∀x∈ps,0<=x.1/\x.1<n/\0<=x.2/\x.2<n/\x.1≠x.2)(hl:∀i,(nbL ps i).length<=1000):∃D c,Kd (pnt .frz n ps) n n false false D c:=by
 have rk:∀i:Nat,i<n->vq [pnt .frz n ps,.int i]=.ok (.int ((n-1-i:Nat):Int)):=λi hi=>by refine am ?_;exact az (by simp[ap,bF];lia) ()
 exact⟨_,uF (rk:=λi=>n-1-i) (yv h1 () rg hl) n4 () (λi hi=>⟨by simp[cC,rk i hi,ao],by lia⟩) () (λp h=>by simp[h]) rfl (λr=>by rfl) (λr=>by rfl)⟩
def zV{ps:MB}(hl:ps.length<=3):∃D c,Kd (cnt .frz ps) (ps.length+1) ((ps.length:Int)+2) false false D c:=by
 have rk:∀i:Nat,Dk [cnt .frz ps,.int i]=.ok (.int i):=λi=>by refine am ?_;exact cA rfl
 exact⟨_,uF (yw ()) () () (λi hi=>⟨by simp[cC,rk i,ao],hi⟩) () (λp h=>by simp[h]) rfl (λr=>by simp[av]) (λr=>by simp[aE])⟩
def jn(k:Nat)(ls:MF):PySem.Txt.join ⟨#[k]⟩ ls=Str.join ⟨#[k]⟩ ls:=StrLaws.glued_eq_join _ _
def kn(k:Nat)(z:Str):PySem.Txt.join ⟨#[k]⟩ [z]=z:=by rfl
def iQ(k:Nat)(z:Str){ls:MF}(h:ls≠[]):PySem.Txt.join ⟨#[k]⟩ (z::ls)=z ++⟨#[k]⟩++ PySem.Txt.join ⟨#[k]⟩ ls:=by
 rw[jn,jn];cases ls with
 |nil=>exact absurd rfl h
 |cons y r=>rfl
def xM(x y z:Str):x++y++z=x ++(y++z):=dX (by simp[bv])
theorem sX(k:Nat)(B:MF):∀A:MF,A≠[]->PySem.Txt.join ⟨#[k]⟩ (PySem.Txt.join ⟨#[k]⟩ A::B)=PySem.Txt.join ⟨#[k]⟩ (A++B)
 | [],h=>absurd rfl h
 | [a],_=>by rfl
 |a::b::A,_=>by
  have ih:=sX k B (b::A) ();cases B with
  |nil=>rw[kn,append_nil]
  |cons c B=>rw[iQ k (PySem.Txt.join ⟨#[k]⟩ (b::A)) ()]at ih;rw[iQ k (PySem.Txt.join ⟨#[k]⟩ (a::b::A)) (),iQ k a (),List.cons_append,iQ k a (),<- ih];simp only[xM]
def CQ{ms:List ME}{out:Str}(h:m env=.ok (.str y))(hl:(out++y).length<=10000):mJ (m::ms) out env=mJ ms (out++y) env:=by
 conv=>lhs;unfold mJ
 rw[h];simp only[Res.M0];rw[if_pos hl]
def JQ(h:m env=.ok (.int a))(hn:Nm a):mUn fV m env=.ok (.str (tn a)):=by unfold mUn;rw[h];exact(nt hn).st
def JP(h:m env=.ok (.str y))(hn:y.length<=10000):mUn fV m env=.ok (.str y):=by unfold mUn;rw[h];show(if _ then _ else _)=_;rw[if_pos hn]
def cE{a b:Str}(h:a.length+b.length<=10000):aZ (.str a) (.str b)=.ok (.str (a++b)):=by unfold aZ m9;dsimp only;rw[if_pos (decide_eq_true h)]
def apl(x y:Str):(x++y).length=x.length+y.length:=by rw[bO,bO,bO,bv,length_append]
def fj(h:∀x∈l,Nm x)(hl:l.length<=100)(hf:f.MN.MV=f.MN.MV:=by rfl):kq [M3 f l]=.ok (.str (sj (l.map tn))):=by
 refine am ?_;refine az ?_ ();refine gF (by decide +kernel) (by grind) (λz hz=>?_) (ie h () ());obtain⟨a,ha,rfl⟩:=mem_map.mp hz;have:=dI (h a ha)
 lia
def qz{s:Sd}(h:SOk s):(line s).length <=(cz s).length*131:=by unfold line;rw[jn];exact f6 32 130 _ λz hz=>((d9 h).2 z hz).2
def jQ(x:Int){m:Int}(h:0<m):0<=x%m/\x%m<m:=⟨emod_nonneg _ (),emod_lt_of_pos _ h⟩
abbrev LP:=List (Mx)
noncomputable def exW(a o:Nat)(S:LP):LP:=S ++(S.filter λl=>!l.contains ((o:Int),(a:Int))).map λl=>l++[((a:Int),(o:Int))]
def inW(S:LP)(a:Nat):Nat->LP
 |0=>S
 |o+1=>exW a o (inW S a o)
def atW(S:LP):Nat->LP
 |0=>S
 |a+1=>inW (atW S a) a a
noncomputable def tsW:Nat->LP
 |0=>[[]]
 |k+1=>if k=0 then [[]]else(tsW k).flatMap λl=>(range k).map λp:Nat=>l++[((p:Int),(k:Int))]
def HG:∀n∈[1,2,3,4],∀ts∈tsW n,∀ws∈atW [ts] n,∀f∈[Fl.own,.frz],nL [.obj .own 8 [] [],.int n,.lst f (prL ws)]=.ok (net .own n (fF (ws.map mm))):=by
 repeat' (first|kernel_rfl|refine List.forall_mem_cons.2 ⟨?_,?_⟩|exact λ_ h=>nomatch h)
def AU:∀n∈[1,2,3,4],∀ts∈tsW n,ts.length+1=n/\(∀i,(h:i <(ts.map (·.1)).length)->0 <=(ts.map (·.1))[i]/\(ts.map (·.1))[i]<=(i:Int))/\∀ws∈atW [ts] n,ws.take (n-1)=ts/\ws.length<=9/\(∀p∈ws,0<=p.1/\p.1<n/\0<=p.2/\p.2<n)/\∀x∈fF (ws.map mm),0<=x.1/\x.1<n/\0<=x.2/\x.2<n/\x.1≠x.2:=by decide +kernel
def Hj{a o:Nat}{S:LP}{l:Mx}(h:l∈S):l∈exW a o S/\(((o:Int),(a:Int))∉ l->l++[((a:Int),(o:Int))]∈ exW a o S):=
 ⟨mem_append_left _ h,λq=>mem_append_right _ (mem_map.mpr ⟨l,mem_filter.mpr ⟨h,by simpa using q⟩,rfl⟩)⟩
theorem A6(ti mo:Int)(n1:1<=n)(n4:n<=4):∃ts ws,uS [.int n,.int ti,.int mo]=.ok (.lst .own (prL ws))/\ts∈tsW n/\ws∈atW [ts] n:=by
 suffices hh:eJ (Ex [M4 n,M4 ti,M4 mo,none,none,none]) (λv=>∃ts ws,v=.lst .own (prL ws)/\ts∈tsW n/\ws∈atW [ts] n) by obtain⟨v,h1,ts,ws,rfl,h2⟩:=hh;exact⟨ts,ws,am h1,h2⟩
 refine ar (aj (v:=.lst .own []) ()) ?_;refine p6 (λq e=>∃l t a,e=[M4 n,M4 t,M4 mo,some (.lst .own (prL l)),a,none]/\l∈tsW (q+1)/\l.length=q) (xs:=dY 1 (n-1)) ?_ ⟨[],ti,_,rfl,by simp[tsW],rfl⟩ (λq x e hx hP=>?_) (λe hP=>?_)
 .rw[BY (lo:=1) (hi:=n) () () (),show((n:Int)-1).toNat=n-1 by lia]
 .obtain⟨l,t,a,rfl,hl,ll⟩:=hP;obtain⟨hq,rfl⟩:=dL hx;have kp:(0:Int)<1+(q:Int):=by lia
  have b:=jQ t kp;have dv:fg (.int t) (.int (1+(q:Int)))=.ok (.int (t / (1+(q:Int)))):=cQ kp ();refine⟨_,cV rfl,bt (cM (v:=prV (t%(1+(q:Int)),1+(q:Int))) (by simp[aR kp,prV]) rfl () (by rw[kF];lia)) (bC (aj (v:=.int (t / (1+(q:Int)))) (by simp[dv])) ⟨l++[(t%(1+(q:Int)),1+(q:Int))],t / (1+(q:Int)),M4 (1+(q:Int)),by simp[prL],?_,by simp[ll]⟩)⟩;exact List.mem_flatMap.mpr ⟨l,hl,mem_map.mpr ⟨(t%(1+(q:Int))).toNat,mem_range.mpr (),by grind⟩⟩
 obtain⟨ts,t,a,rfl,ht,tl⟩:=hP;rw[bm]at ht tl;rw[show n-1+1=n by lia]at ht;refine p6 (λk e=>∃l m a b,e=[M4 n,M4 t,M4 m,some (.lst .own (prL l)),a,b]/\l∈atW [ts] k/\l.length<=3+4*k) (bM (n:=n) () ()) ⟨ts,mo,_,_,rfl,mem_singleton.mpr rfl,by lia⟩ (λk x e hx hP=>?_) (λe hP=>?_)
 .obtain⟨l,m,a,b,rfl,hl,ll⟩:=hP;obtain⟨hk,rfl⟩:=dL hx;refine⟨_,cV rfl,?_⟩;simp only[Int.zero_add];refine wQ (λj e=>∃l m b,e=[M4 n,M4 t,M4 m,some (.lst .own (prL l)),M4 k,b]/\l∈inW (atW [ts] k) k j/\l.length<=3+4*k+j) (bM (n:=k) () ()) ⟨l,m,_,rfl,hl,by lia⟩ (λj y e hy hP=>?_) (λe hP=>?_)
  .obtain⟨l,m,b,rfl,hl,ll⟩:=hP;obtain⟨hj,rfl⟩:=dL hy;have d3:fg (.int m) (.int 3)=.ok (.int (m / 3)):=cQ () ();obtain⟨x1,x2⟩:=Hj hl;refine⟨_,cV rfl,?_⟩;have ni:∀f,bW (.tup [.int j,.int k]) (.lst f (prL l))=.ok (.bl (!l.contains ((j:Int),(k:Int)))):=λf=>y_ (x:=((j:Int),(k:Int)));by_cases hc:m%3=0/\((j:Int),(k:Int))∉ l
   .obtain⟨c1,c2⟩:=hc;exact bt (cU (by simp[aR,c1,ni,c2]) (cM (v:=prV ((k:Int),(j:Int))) (by simp[prV]) rfl () (by rw[kF];lia))) (bC (aj (v:=.int (m / 3)) (by simp[d3])) ⟨l++[((k:Int),(j:Int))],m / 3,M4 j,by simp[prL],x2 c2,by simp;lia⟩)
   .refine bt (aM ?_ ak) (bC (aj (v:=.int (m / 3)) (by simp[d3])) ⟨l,_,_,rfl,x1,by lia⟩);by_cases c1:m%3=0
    .simp[aR,ni,show((j:Int),(k:Int))∈ l from Decidable.byContradiction λq=>hc ⟨c1,q⟩]
    .simp[aR,c1]
  .obtain⟨l,m,b,rfl,hl,ll⟩:=hP;rw[bm]at hl ll;exact⟨l,m,_,_,rfl,hl,by lia⟩
 .obtain⟨l,m,a,b,rfl,hl,ll⟩:=hP;rw[bm]at hl;exact aO (cA rfl) ⟨ts,l,rfl,ht,hl⟩
def Bw{A:MF}(h:A≠[])(w:Str):sj (A++[w])=sj A++" "++w:=by unfold sj;rw[<- sX 32 [w] A h,iQ 32 _ (),kn,pX]
def iY(w:Str){A:MF}(h:A≠[]):sj (w::A)=w++" "++sj A:=by unfold sj;rw[iQ 32 _ h,pX]
def Asc(z:Str):Prop:=∀c∈sg z,c<128
def DQ(h:Asc z):shp (.str z)=true:=by
 have ok:PyData.strOk z=true:=by unfold PyData.strOk;rw[<- all_toList,all_eq_true];intro c hc;exact decide_eq_true (Nat.lt_trans (h c hc) ())
 simp[shp,SeqAt.shaped,PV.data,PyData.canLay0,PyData.depth,ok]
def lZ{ls:MF}(h:∀z∈ls,Asc z):Asc (sj ls):=λc hc=>by
 unfold sj at hc;rw[jn]at hc;rcases lJ 32 _ c hc with q |⟨z,hz,q⟩
 .lia
 .exact h z hz c q
def tW(h:Nm a):Asc (tn a):=λc hc=>by have:=(nt h).sgs c hc;lia
def gM(h:(sg z).all (λc=>decide (c<128))=true):Asc z:=λc hc=>of_decide_eq_true (all_eq_true.mp h c hc)
def tY(h:∀a∈l,Nm a):∀z∈l.map tn,Asc z:=λz hz=>by obtain⟨a,ha,rfl⟩:=mem_map.mp hz;exact tW (h a ha)
def Fb(h:∀z∈zs,Asc z):shp (.lst f (sL zs))=true:=by
 have key:∀zs:MF,(∀y∈zs,Asc y)->PyData.canLayAll0 (dataL (sL zs))=true/\PyData.depthAll (dataL (sL zs))=0:=by
  intro zs
  induction zs with
  |nil=>intro _;exact⟨rfl,rfl⟩
  |cons y zs ih=>intro h;obtain⟨a,b⟩:=ih λx hx=>h x (mem_cons_of_mem _ hx);have ok:=DQ (h y mem_cons_self);simp[shp,SeqAt.shaped,PV.data,PyData.canLay0]at ok;unfold sL at *;simp[dataL,PV.data,PyData.canLayAll0,PyData.canLay0,PyData.depthAll,PyData.depth,a,b,ok]
 obtain⟨a,b⟩:=key zs h;simp[shp,SeqAt.shaped,PV.data,PyData.canLay0,PyData.depth,a,b]
section
variable{o:PV}{n:Nat}{sp:Int}{al tb:Bool}{D:MB->Nat->Int}{c:MB->Bool}{cs nm:MB}
def pJ(k:Kd o n sp al tb D c)(C:Ce n sp cs):Asc (sj (swd c cs)):=lZ λz hz=>by
 rcases mem_append.mp hz with hz|hz
 .exact tY (C.nu k) z hz
 .rw[mem_singleton.mp hz];cases c cs<;>exact gM (by rfl)
def Sml.nu(h:Sml l):∀a∈l,Nm a:=λa ha=>bE (h.2 a ha).1 (h.2 a ha).2
def AT(h:Sml l):Asc (md l):=by
 unfold md;split
 .exact gM (by decide +kernel)
 .exact lZ (tY h.nu)
def jR(k:Kd o n sp al tb D c)(C:Ce n sp cs):nO [o,M3 .bor cs]=.ok (.str (sj (swd c cs))):=by
 have r:=k.r;have n4:=k.n4;have n1:=r.n1;have cl:=C.1;have lj:=fj (f:=.bor) (C.nu k) ();have hca:=k.ca .own cs (.inr rfl) C;have ln:=jH (ls:=cs.map tn) λz hz=>by obtain⟨a,ha,rfl⟩:=mem_map.mp hz;exact dI (C.nu k a ha)
 rw[length_map,cl]at ln;have l1:(" ":Str).length=1:=by rfl
 have a1:aZ (.str (sj (cs.map tn))) (.str " ")=.ok (.str (sj (cs.map tn)++ " ")):=cE ();have a2:∀b,aZ (.str (sj (cs.map tn)++ " ")) (.str (cw b))=.ok (.str (sj (cs.map tn)++ " "++cw b)):=λb=>cE (by rw[apl,l1,tR];lia);unfold swd;rw[Bw λe=>by rw[map_eq_nil_iff.mp e]at cl;simp at cl;lia];refine am ?_;refine ac (aj (v:=.str "wild") ()) ?_;cases e:c cs with
 |true=>rw[e]at hca;refine ac (cU (by simp[r.le,hca]) (aj (v:=.str "calm") ())) ?_;have a2:aZ (.str (sj (cs.map tn)++ " ")) (.str "calm")=.ok (.str (sj (cs.map tn)++ " "++cw true)):=a2 true;exact az (by simp[lj,ao,a1,a2]) ()
 |false=>rw[e]at hca;refine ac (aM (by simp[r.le,hca]) ak) ?_;have a2:aZ (.str (sj (cs.map tn)++ " ")) (.str "wild")=.ok (.str (sj (cs.map tn)++ " "++cw false)):=a2 false;exact az (by simp[lj,ao,a1,a2]) ()
def lE(h:Sml l):qR [M3 f l]=.ok (.str (md l)):=by
 have lj:=fj (f:=f.MN.MP) h.nu (by have:=h.1;lia);refine am ?_;unfold EE md;have e:pEq (M3 f.MN l) (.lst .own [])=.ok (.bl (decide (l=[]))):=Dx l [] _ _;by_cases q:l=[]
 .rw[if_pos q];exact bp (cU (by simp[e];exact q) (az ()))
 .rw[if_neg q];exact ac (aM (by simp[e];exact q) ak) (az (by simp[lj,ao]))
def zK(k:Kd o n sp al tb D c)(x:Int):∃nm,uT [o,.int x]=.ok (M2 nm)/\h_ n al nm/\nm.length<=2:=by
 have r:=k.r;have np:(0:Int)<n:=by have:=r.n1;lia
 have rg:∀y:Int,0<=y%(n:Int)/\y%(n:Int)<n:=λy=>⟨emod_nonneg _ (),emod_lt_of_pos _ np⟩
 have g0:h_ n al []:=⟨by simp,by simp,by simp,by simp⟩
 have g1:∀y:Int,h_ n al [y%(n:Int)]:=λy=>⟨by simp,λx hx=>by simp_all,λ_=>by simp,by simp⟩
 suffices hh:eJ (Ez [some o,M4 x,none,none]) (λv=>∃nm,v=M2 nm/\h_ n al nm/\nm.length<=2) by obtain⟨v,h1,nm,rfl,h2⟩:=hh;exact⟨nm,am h1,h2⟩
 refine ar (aj (v:=M2 [x%(n:Int)]) (by simp[r.le,r.a0,aR np])) ?_;obtain⟨m0,e0,gm,ml⟩:∃m0:MB,(mBr (ai (mOp pEq (mOp bQ (mOp fg (aa 1) (M1 7)) (M1 5)) (M1 0))) (aw 2 (b_ ae)) aA) [some o,M4 x,M5 [x%(n:Int)],none]=.next [some o,M4 x,M5 m0,none]/\h_ n al m0/\m0.length<=1:=by
  by_cases q:x / 7%5=0
  .exact⟨[],cU (by simp[cQ,aR,q]) (aj ()),g0,by simp⟩
  .exact⟨_,aM (by simp[cQ,aR,q]) ak,g1 x,by simp⟩
 refine ar e0 ?_;refine ar (aj (v:=.int (x / 35%(n:Int))) (by simp[r.le,r.a0,cQ,aR np])) ?_;have hy:=rg (x / 35);generalize x / 35%(n:Int)=y at *;by_cases q:al=false/\y∉m0/\x / 5%2=0
 .obtain⟨rfl,q2,q3⟩:=q;refine ar (cU (by simp[r.le,r.a8,q2,cQ,aR,q3]) (cM (v:=.int y) () rfl () (by simp;lia))) ?_;refine aO (cA rfl) ⟨m0++[y],by simp[iL],⟨?_,λa ha=>?_,nofun,by simp;lia⟩,by simp;lia⟩
  .grind
  .rcases mem_append.mp ha with ha|ha
   .exact gm.2.1 a ha
   .simp_all
 .refine ar (aM ?_ ak) (aO (cA rfl) ⟨m0,rfl,gm,by lia⟩);cases al with
  |true=>simp[r.le,r.a8]
  |false=>
   by_cases q2:y∈m0
   .simp[r.le,r.a8,q2]
   .simp[r.le,r.a8,cQ,aR,show ¬x / 5%2=0 from λe=>q ⟨rfl,q2,e⟩]
def sS(k:Kd o n sp al tb D c):uZ [o]=.ok (.int (sp ^ n)):=by
 have r:=k.r;have n4:=k.n4;have sm:=k.sm;have s0:=r.s0;refine am ?_;refine ac (aj (v:=.int 1) ()) ?_;simp;refine d7 (λk e=>∃x2,e=[some o,M4 (sp ^ k),x2]) (bM (n:=n) (by simp[r.le,r.a0]) ()) ⟨none,by lia⟩ (λk y e hy hP=>?_) (λe hP=>?_)
 .obtain⟨x4,rfl⟩:=hP;obtain⟨hk,rfl⟩:=dL hy;have mm:bN (.int (sp ^ k)) (.int sp)=.ok (.int (sp ^ (k+1))):=by rw[Int.pow_succ];exact cO (.inr ⟨by lia,by lia⟩)
  exact⟨_,cV rfl,bC (aj (by simp[r.le,r.a7,mm])) ⟨_,rfl⟩⟩
 .obtain⟨x4,rfl⟩:=hP;rw[bm];exact cA rfl
def Ln(o:PV)(cs:MB)(y:Sd)(cs':MB)(z:Str):Prop:=SOk y/\kd y∈doi/\Stp o cs y cs' z/\Asc z
def AR(k:Kd o n sp al tb D c)(C:Ce n sp cs)(x lk:Int):∃y z,uX [o,M3 .bor cs,.int x,.int lk]=.ok (.tup [.str (line y),.str z])/\Ln o cs y cs z:=by
 have r:=k.r;have ti:=k.ti;have m20:=sJ (cs:=cs) r;have mo:=cL (f:=.own) r (.inr rfl) C.1 C.2
 suffices hh:eJ (AJ [some o,M6 .bor cs,M4 x,M4 lk,none,none,none,none]) (λv=>∃y z,v=.tup [.str (line y),.str z]/\Ln o cs y cs z) by obtain⟨v,h1,y,z,rfl,h2⟩:=hh;exact⟨y,z,am h1,h2⟩
 have l1:line (.num "measure" [])= "measure":=by decide +kernel
 have l2:line (.num "may" [])= "may":=by decide +kernel
 unfold AJ;refine ar (aj (v:=.int (x%3)) (by simp[aR])) ?_;by_cases q1:x%3=1/\tb=false
 .obtain⟨q1,rfl⟩:=q1;obtain⟨m,nm,hm⟩:=k.me rfl cs C;exact cG (by simp[q1,r.le,ti]) (aO (v:=.tup [.str "measure",.str (tn m)]) (az (by simp[r.le,hm .own (.inr rfl),p1,(nt nm).st])) ⟨.num "measure" [],_,by rw[l1],⟨by decide +kernel,by simp⟩,by decide +kernel,zD r (hm .frz (.inl (.inr rfl))) nm,tW nm⟩)
 refine ar (aM (by cases tb<;>simp[r.le,ti]<;>simp_all) ak) ?_;obtain⟨many,hmy⟩:∃many:Bool,many=(!al&&decide (x / 3%2=0)):=⟨_,rfl⟩
 refine ar (aj (v:=.bl many) (by rw[hmy];cases al<;>simp[r.le,r.a8,cQ,aR])) ?_;have st:=sS k;by_cases q2:x%3=2/\0<lk/\sp ^ n<=81
 .obtain⟨q2,q3,q4⟩:=q2;have K:Ky o n sp al many D c:=⟨r,k.n4,q4,λh=>by lia,λf cs hf C=>k.ca f cs (.inl hf) C⟩
  obtain⟨v,z,e1,A⟩:=CT K;have sl:=zN (cs:=cs) k e1 A;obtain⟨k1,k2,k3,k4,k5,k6,k7,_⟩:=zW;have m1:iM (.str " many") (.int 1)=.ok (.str " many"):=oX (by decide +kernel);have m0:iM (.str " many") (.int 0)=.ok (.str ""):=oX (by decide +kernel);have s1:aZ (.str "look") (.str " many")=.ok (.str (line (.lk true))):=oX (by decide +kernel);have s0:aZ (.str "look") (.str "")=.ok (.str (line (.lk false))):=oX (by decide +kernel);refine cG (by generalize sp ^ n=u at *;simp[q2,q3,r.le,r.tb,st,ao,q4]) ?_;refine ar (aj (v:=v) (by simp[r.le,r.tb,e1,ao,A.own Fl.MW rfl rfl]) (by simp[A.own Fl.MV rfl rfl]) rfl) ?_;refine ar (aj (v:=.str (line (.lk many))) (by cases many<;>simp[p1,iN,m1,m0,s1,s0])) ?_;obtain⟨lm,hlm⟩:∃lm,line (.lk many)=lm:=⟨_,rfl⟩
  rw[hlm];have ln:∀{z:Str},Stp o cs (.lk many) cs z->Asc z->∃y z',PV.tup [.str lm,.str z]=.tup [.str (line y),.str z']/\Ln o cs y cs z':=λ{z} h1 h2=>⟨.lk many,z,by rw[hlm],trivial,by show("look":Str)∈ doi;decide +kernel,h1,h2⟩
  cases A with
  |rk R ne rg=>
   have e1:=aG k1;have rr:=rg _ (kH R ne).1;have nn:=bE rr.1 ();have tl:=dI nn;have i0:ah (.tup [.str "calm",M3 .lnt R]) (.int 0)=.ok (.str "calm"):=aX (k:=0) rfl rfl rfl;have i1:ah (.tup [.str "calm",M3 .lnt R]) (.int 1)=.ok (M3 .lnt R):=aX (k:=1) rfl rfl ();have ad:aZ (.str "calm ") (.str (tn (cr R)))=.ok (.str (sj ["calm",tn (cr R)])):=by rw[cE (by rw[show("calm ":Str).length=5 by decide +kernel];lia),iY _ (),show sj [tn (cr R)]=tn (cr R)from kn 32 _];exact congrArg (λw=>Res.ok (PV.str (w++tn (cr R)))) (by decide +kernel)
   refine cG (by simp[i0,e1]) (aO (az (by simp[i1,p1,zF ne,(nt nn).st,ad])) (ln sl (lZ λz hz=>?_)));simp at hz;rcases hz with rfl|rfl
   .exact gM (by decide +kernel)
   .exact tW nn
  |rd wl=>have e1:=aG k2;have e2:=aG k3;have i0:ah (.tup [.str "round",.lst .lnt (llL .lnt wl)]) (.int 0)=.ok (.str "round"):=aX (k:=0) rfl rfl rfl;exact ar (aM (by simp[i0,e1]) ak) (cG (by simp[i0,e2]) (aO (v:=.tup [.str lm,.str "round"]) (az ()) (ln sl (gM (by decide +kernel)))))
  |st w ct t h C'=>
   have wd:pEq (.str w) (.str "calm")=.ok (.bl false)/\pEq (.str w) (.str "round")=.ok (.bl false)/\w.length<=100/\Asc w:=by
    rcases h with⟨rfl,_⟩ |⟨rfl,_⟩
    .exact⟨aG k4,aG k5,by decide +kernel,gM (by decide +kernel)⟩
    .exact⟨aG k6,aG k7,by decide +kernel,gM (by decide +kernel)⟩
   have tm:mapL Fl.MN t=t:=by rcases h with⟨_,nm,rfl⟩ |⟨_,rfl⟩<;>simp
   obtain⟨e1,e2,wl,wa⟩:=wd;have cl:=C'.1;have n4:=k.n4;have n1:=r.n1;have i0:ah (.tup (.str w::M3 .lnt ct::t)) (.int 0)=.ok (.str w):=aX (k:=0) rfl rfl rfl;have i1:ah (.tup (.str w::M3 .lnt ct::t)) (.int 1)=.ok (M3 .lnt ct):=aX (k:=1) rfl rfl ();have lj:=fj (f:=.bor) (C'.nu k) ();have ls:=jH (ls:=ct.map tn) (B:=61) λz hz=>by obtain⟨a,ha,rfl⟩:=mem_map.mp hz;exact dI (C'.nu k a ha)
   rw[length_map,cl]at ls;have l1:(" ":Str).length=1:=by decide +kernel
   have a1:aZ (.str w) (.str " ")=.ok (.str (w++" ")):=cE (by rw[l1];lia);have a2:aZ (.str (w++" ")) (.str (sj (ct.map tn)))=.ok (.str (sj (w::ct.map tn))):=by rw[cE (by rw[apl,l1];lia),iY _ λe=>by rw[map_eq_nil_iff.mp e]at cl;simp at cl;lia]
   exact ar (aM (by simp [i0,e1,tm]) ak) (ar (aM (by simp [i0,e2,tm]) ak) (aO (az (by simp [i0,i1,tm,lj,ao,a1,a2])) (ln sl (lZ λz hz=>by
    rcases mem_cons.mp hz with rfl|hz
    .exact wa
    .exact tY (C'.nu k) z hz))))
 .refine ar (aM ?_ ak) ?_
  .generalize sp ^ n=u at *;by_cases a:x%3=2
   .by_cases b:0<lk
    .have d:¬u<=81:=λh=>q2 ⟨a,b,h⟩;simp[a,b,r.le,r.tb,st,ao,d]
    .simp[a,b]
   .simp[a]
  .have ls:=lE (f:=.own) m20;exact aO (v:=.tup [.str "may",.str (md (mvR n D cs))]) (az (by simp[r.le,r.tb,r.mv,mo,ls,ao])) ⟨.num "may" [],_,by rw[l2],⟨by decide +kernel,by simp⟩,by decide +kernel,CM r C,AT m20⟩
end
def mZ:sg (" ":Str)=[32]:=by decide +kernel
def yb:sg PySem.Str.empty=[]:=by rfl
def jI(a:Str):sg (sj [a])=sg a:=congrArg sg (kn 32 a)
def dW(a b:Str)(r:MF):sg (sj (a::b::r))=sg a++32::sg (sj (b::r)):=by rw[iY _ (),bv,bv,mZ];simp
def tx2(a b:Str):sg (PySem.Txt.join ⟨#[10]⟩ [a,b])=sg a++10::sg b:=by rw[iQ 10 _ (),kn,bv,bv];simp[sg]
inductive Pcs(env:En):List ME->MF->Prop
 |nil:Pcs env [] []
 |cons {m:ME}{y:Str}{ms:List ME}{ys:MF}:m env=.ok (.str y)->y.length<=900->Pcs env ms ys->Pcs env (m::ms) (y::ys)
section
variable{env:En}{ms:List ME}{ys:MF}{i:Nat}{a:Int}{y:Str}
def Pcs.fi(h:env[i]?=some (M4 a))(n:Nm a):Pcs env ms ys->Pcs env (mUn fV (aa i)::ms) (tn a::ys):=.cons (JQ (by simp[h]) n) (by have:=dI n;lia)
def Pcs.fs(h:env[i]?=some (some (.str y)))(n:y.length<=900):Pcs env ms ys->Pcs env (mUn fV (aa i)::ms) (y::ys):=.cons (JP (by simp[h]) ()) n
def Pcs.co(h:Pcs env ms ys)(n:y.length<=900:=by decide +kernel):Pcs env (mC (.str y)::ms) (y::ys):=.cons rfl n h
def Jr(h:Pcs env ms ys):∀out:Str,out.length+ms.length*900<=10000->mJ ms out env=.ok (.str (ys.foldl (·++·) out)):=by
 induction h with
 |nil=>exact λ_ _=>rfl
 | @cons m y ms ys h1 h2 _ ih=>intro out hl;rw[length_cons]at hl;have e:(out++y).length=out.length+y.length:=apl _ _;rw[CQ h1 (),ih _ ()];rfl
def mJ0(h:Pcs env ms ys)(hl:ms.length<=9:=by simp):mJ ms PySem.Str.empty env=.ok (.str (ys.foldl (·++·) PySem.Str.empty)):=Jr h _ (by rw[show PySem.Str.empty.length=0 by rfl];lia)
end
def sH{m:Nat}(h:m<1000):Nm (m:Int):=bE () ()
def Bs(R o:PV):Prop:=R.MY Fl.MQ=o/\R.has Fl.MW=false/\R.has Fl.MV=false
structure Hd(o:PV)(A:List Sd):Prop where
 ok:∀y∈A,SOk y
 fst:∃a A' A2 b,A=a::A'/\A.length=(if kd a="net" then 2 else 1)/\A=A2++[b]/\kd b∈rsN (kd a)
 ru:∃R,qN [.lst .own (A.map (pvS .frz))]=.ok R/\Bs R o
def AF:∀w∈AG,w ≠("net":Str):=by decide +kernel
def o6{y:Sd}{f:ML->MM}{R:PV}{ks:ML}(hs:SOk y)(hv:pvS .frz y=.tup (.str (kd y)::ks))
  (hj:kd y="pass" /\ c=9/\f=nR/\(∃a b,ks=[.int a,.int b])\/ kd y="count" /\ c=3/\f=wT/\(∃l,ks=[M3 .frz l])\/ kd y="table" /\ c=10/\f=nX/\∃a b w l m,ks=[.int a,.int b,.str w,M3 .frz l,M3 .frz m])
  (hf:f (.obj .own c [] []::ks)=.ok R) (B:Bs R o):Hd o [y]:=by
 have kb:kd y∈AG:=by rcases hj with⟨e,_⟩ |⟨e,_⟩ |⟨e,_⟩<;>rw[e]<;>decide +kernel
 refine⟨λz hz=>by simp_all,⟨y,[],[],y,rfl,by rw[if_neg (AF _ kb)];rfl,rfl,by unfold rsN;rw[if_neg (AF _ kb)];exact kb⟩,R,?_,B⟩;obtain⟨_,rb,rl⟩:=B;generalize ew:kd y=w at *;refine am ?_;show Es [some (.lst .own [pvS .frz y]),none]=_;rw[hv];obtain⟨ks1,ks2⟩:(∀g:Fl->Fl,g .frz=.frz->mapL g ks=ks)/\∀p:Fl->Bool,p .frz=false->hasL p ks=false:=by rcases hj with⟨_,_,_,a,b,rfl⟩ |⟨_,_,_,l,rfl⟩ |⟨_,_,_,a,b,w,l,m,rfl⟩<;>exact⟨λg h=>by simp[h],λp h=>by simp[h]⟩
 have i1:ah (.lst .lnt [.tup (.str w::ks)]) (.int (-1))=.ok (.tup (.str w::ks)):=by simp[ah,aV,atI,ixN,ks2 Fl.MU rfl]
 have i0:ah (.lst .lnt [.tup (.str w::ks)]) (.int 0)=.ok (.tup (.str w::ks)):=by simp[ah,aV,atI,ixN,ks2 Fl.MU rfl]
 have j0:ah (.tup (.str w::ks)) (.int 0)=.ok (.str w):=aX rfl rfl rfl;have ml:=ks1 Fl.MN rfl;refine ac (aj (v:=.tup (.str w::ks)) (by simp[ml,i1]) (by simp[ks2 Fl.MV rfl]) rfl) ?_;have en:pEq (.str w) (.str "net")=.ok (.bl false):=by rcases hj with⟨rfl,_⟩ |⟨rfl,_⟩ |⟨rfl,_⟩<;>exact aG (by decide +kernel)
 refine ac (aM (by simp[ml,i0,j0,en]) ak) ?_;rcases hj with⟨rfl,rfl,rfl,a,b,rfl⟩ |⟨rfl,rfl,rfl,l,rfl⟩ |⟨rfl,rfl,rfl,a,b,w,l,m,rfl⟩
 .have e0:pEq (.str "pass") (.str "pass")=.ok (.bl true):=aG (by decide +kernel);have a1:ah (.tup [.str "pass",.int a,.int b]) (.int 1)=.ok (.int a):=rfl;have a2:ah (.tup [.str "pass",.int a,.int b]) (.int 2)=.ok (.int b):=rfl;exact bp (cU (by simp[j0,e0]) (az (by simp[a1,a2,hf,ao,rb]) (by simp[rl])))
 .have e0:pEq (.str "count") (.str "pass")=.ok (.bl false):=aG (by decide +kernel);have e1:pEq (.str "count") (.str "count")=.ok (.bl true):=aG (by decide +kernel);have a1:ah (.tup [.str "count",M3 .frz l]) (.int 1)=.ok (M3 .frz l):=aX rfl rfl ();exact ac (aM (by simp[j0,e0]) ak) (bp (cU (by simp[j0,e1]) (az (by simp[a1,hf,ao,rb]) (by simp[rl]))))
 .have e0:pEq (.str "table") (.str "pass")=.ok (.bl false):=aG (by decide +kernel);have e1:pEq (.str "table") (.str "count")=.ok (.bl false):=aG (by decide +kernel);generalize eT:PV.tup [.str "table",.int a,.int b,.str w,M3 .frz l,M3 .frz m]=T at *;have a1:ah T (.int 1)=.ok (.int a):=by rw[<- eT];exact aX rfl rfl rfl
  have a2:ah T (.int 2)=.ok (.int b):=by rw[<- eT];exact aX rfl rfl rfl
  have a3:ah T (.int 3)=.ok (.str w):=by rw[<- eT];exact aX rfl rfl rfl
  have a4:ah T (.int 4)=.ok (M3 .frz l):=by rw[<- eT];exact aX rfl rfl ()
  have a5:ah T (.int 5)=.ok (M3 .frz m):=by rw[<- eT];exact aX rfl rfl ()
  have mT:T.MY Fl.MN=T:=by rw[<- eT];simp
  exact ac (aM (by simp[mT,j0,e0]) ak) (ac (aM (by simp[mT,j0,e1]) ak) (az (by simp[mT,a1,a2,a3,a4,a5,hf,ao,rb]) (by simp[rl])))
structure Nw'(n:Nat)(ws ps:Mx):Prop where
 n1:1<=n
 n4:n<=4
 wl:ws.length<=9
 wr:∀p∈ws,0<=p.1/\p.1<n/\0<=p.2/\p.2<n
 ini:∀f∈[Fl.own,.frz],nL [.obj .own 8 [] [],.int n,.lst f (prL ws)]=.ok (net .own n ps)
 rg:∀x∈ps,0<=x.1/\x.1<n/\0<=x.2/\x.2<n/\x.1≠x.2
 nl:∀i,(nbL ps i).length<=1000
 nb:∀i:Nat,∀x∈nbL ps i,0<=x/\x<n
def GN{ts ws:Mx}(n1:1<=n)(n4:n<=4)(ht:ts∈tsW n)(hw:ws∈atW [ts] n):∃ps,Nw' n ws ps:=by
 have hn:n∈[1,2,3,4]:=by simp;lia
 obtain⟨_,wl,wr,rg⟩:=(AU n hn ts ht).2.2 ws hw;refine⟨fF (ws.map mm),n1,n4,wl,wr,λf hf=>HG n hn ts ht ws hw f hf,rg,λi=>?_,λi x hx=>?_⟩
 .unfold nbL;rw[(eZ _).length_eq,length_append,length_map,length_map];have h1:=length_filter_le (λx:Int×Int=>decide (x.2=(i:Int))) (fF (ws.map mm));have h2:=length_filter_le (λx:Int×Int=>decide (x.1=(i:Int))) (fF (ws.map mm));have h3:(fF (ws.map mm)).length<=9:=by rw[(gp _).length_eq,length_map];exact wl
  lia
 .rcases zd.mp hx with q|q
  .have:=rg _ q;lia
  .have:=rg _ q;lia
section
variable{n r:Nat}{ws ps:Mx}{o R:PV}{y:Sd}
def Nw'.so(N:Nw' n ws ps):SOk (.net n ws):=⟨sH (by have:=N.n4;lia),N.wl,λp hp=>by
 have:=N.wr p hp;have:=N.n4;exact⟨⟨bE () (),by lia⟩,bE () (),by lia⟩⟩
def o5(N:Nw' n ws ps)(hk:kd y∈sI)(hs:SOk y)(h:qS [net .own n ps,pvS .frz y]=.ok R)(B:Bs R o):Hd o [.net n ws,y]:=by
 refine⟨λz hz=>?_,⟨.net n ws,[y],[.net n ws],y,rfl,rfl,rfl,hk⟩,R,?_,B⟩
 .simp at hz;rcases hz with rfl|rfl
  .exact N.so
  .exact hs
 obtain⟨_,rb,rl⟩:=B;have hin:=N.ini .frz ();refine am ?_;have ho:∀s:Sd,(pvS .frz s).has Fl.MU=false:=gv _ _ rfl;have hn:(pvS .frz y).has Fl.MV=false:=gv _ _ rfl y;have ml:∀s:Sd,(pvS .frz s).MY Fl.MN=pvS .frz s:=gu _ _;have mt:∀s:Sd,(pvS .frz s).MY Fl.MP=pvS .frz s:=gu _ _;have i1:ah (.lst .lnt [pvS .frz (.net n ws),pvS .frz y]) (.int (-1))=.ok (pvS .frz y):=by simp[ah,aV,atI,ixN,ho]
 have i0:ah (.lst .lnt [pvS .frz (.net n ws),pvS .frz y]) (.int 0)=.ok (pvS .frz (.net n ws)):=by simp[ah,aV,atI,ixN,ho]
 have j0:=yE .frz (.net n ws);have j1:ah (pvS .frz (.net n ws)) (.int 1)=.ok (.int n):=aX rfl rfl rfl;have j2:ah (pvS .frz (.net n ws)) (.int 2)=.ok (.lst .frz (prL ws)):=aX rfl rfl ();have en:pEq (.str "net") (.str "net")=.ok (.bl true):=aG (by decide +kernel);have ml':=ml (.net n ws);refine ac (aj (v:=pvS .frz y) (by simp[ml,i1]) (by simp[hn]) rfl) ?_;simp;refine bp (cU (by simp[ml,i0,j0,kd,en]) (az ?_ (by simp[rl])));simp only[b6,aW,bG,Hk,cH,bD,gQ,getElem?_cons_zero,getElem?_cons_succ,aU,aY,bh,bS,ml,lI,Res.M0,i0,j1,j2];simp[hin,ao,mt,h,rb]
def Cy:isB (pEq (.str "paint") (.str "paint")) true=true/\isB (pEq (.str "far") (.str "paint")) false=true/\isB (pEq (.str "far") (.str "far")) true=true/\isB (pEq (.str "lead") (.str "paint")) false=true/\isB (pEq (.str "lead") (.str "far")) false=true/\isB (pEq (.str "lead") (.str "lead")) true=true/\isB (pEq (.str "grow") (.str "paint")) false=true/\isB (pEq (.str "grow") (.str "far")) false=true/\isB (pEq (.str "grow") (.str "lead")) false=true:=by decide +kernel
def oO(h:(ag (mBr (ai (mOp pEq (mOp ah (aa 1) (M1 0)) (mC (.str "paint")))) (aL (eA 2 wS (ab (aa 0) ae))) aA) (ag (mBr (ai (mOp pEq (mOp ah (aa 1) (M1 0)) (mC (.str "far")))) (aL (eA 5 lR (ab (aa 0) (ab (mOp ah (aa 1) (M1 1)) ae)))) aA) (ag (mBr (ai (mOp pEq (mOp ah (aa 1) (M1 0)) (mC (.str "lead")))) (aL (eA 6 nW (ab (aa 0) (ab (mOp ah (aa 1) (M1 1)) ae)))) aA) (aL (eA 7 nV (ab (aa 0) (ab (mOp ah (aa 1) (M1 1)) ae))))))) [some (net .frz n ps),some v]=.ret R):qS [net .own n ps,v]=.ok R:=by refine am ?_;refine ac (bY rfl) ?_;simp;exact h
def z9(N:Nw' n ws ps):Hd (pnt .frz n ps) [.net n ws,.num "paint" []]:=by have e1:=aG Cy.1;have j0:ah (.tup [.str "paint"]) (.int 0)=.ok (.str "paint"):=rfl;exact o5 (R:=pnt .own n ps) N (by decide +kernel) ⟨by decide +kernel,by simp⟩ (oO (bp (cU (by simp[pvS,j0,e1]) (az (by simp[m6,ao]))))) ⟨by simp,by simp,by simp⟩
def G8(N:Nw' n ws ps)(hr:r<n):Hd (lea .frz 5 n ps (fs n r) n n) [.net n ws,.num "far" [r]]:=by obtain⟨_,e1,e2,_⟩:=Cy;have e1:=aG e1;have e2:=aG e2;have n4:=N.n4;have fi:=lN (ps:=ps) (.inl rfl) N.n1 () hr;have j0:ah (.tup [.str "far",.int r]) (.int 0)=.ok (.str "far"):=rfl;have j1:ah (.tup [.str "far",.int r]) (.int 1)=.ok (.int r):=rfl;exact o5 (R:=lea .own 5 n ps (fs n r) n n) N (by show("far":Str)∈ sI;decide +kernel) ⟨by show(("far":Str),1)∈ jd;decide +kernel,λx hx=>by rw[mem_singleton.mp hx];exact sH ()⟩ (oO (ac (aM (by simp[pvS,j0,e1]) ak) (bp (cU (by simp[pvS,j0,e2]) (az (by simp[pvS,j1,fi,ao])))))) ⟨by simp,by simp,by simp⟩
def C7(N:Nw' n ws ps)(M:OkM n ms):Hd (lea .frz 6 n ps (ls n ms) n (10*n)) [.net n ws,.row "lead" ms]:=by obtain⟨_,_,_,e1,e2,e3,_⟩:=Cy;have e1:=aG e1;have e2:=aG e2;have e3:=aG e3;have n4:=N.n4;have li:=nB (ps:=ps) (.inl (.inr rfl)) M N.n1 ();have j0:ah (.tup [.str "lead",M3 .frz ms]) (.int 0)=.ok (.str "lead"):=aX rfl rfl rfl;have j1:ah (.tup [.str "lead",M3 .frz ms]) (.int 1)=.ok (M3 .frz ms):=aX rfl rfl ();exact o5 (R:=lea .own 6 n ps (ls n ms) n (10*n)) N (by show("lead":Str)∈ sI;decide +kernel) ⟨by decide +kernel,by have:=M.ml;lia,λx hx=>by have:=M.mr x hx;exact bE () ()⟩ (oO (ac (aM (by simp[pvS,j0,e1]) ak) (ac (aM (by simp[pvS,j0,e2]) ak) (bp (cU (by simp[pvS,j0,e3]) (az (by simp[pvS,j1,li,ao]))))))) ⟨by simp,by simp,by simp⟩
def C8(N:Nw' n ws ps)(hr:r<n):Hd (gro .frz n ps r) [.net n ws,.num "grow" [r]]:=by obtain⟨_,_,_,_,_,_,e1,e2,e3⟩:=Cy;have e1:=aG e1;have e2:=aG e2;have e3:=aG e3;have n4:=N.n4;have gi:=qI (ps:=ps) (.inl rfl) N.n1 () hr;have j0:ah (.tup [.str "grow",.int r]) (.int 0)=.ok (.str "grow"):=rfl;have j1:ah (.tup [.str "grow",.int r]) (.int 1)=.ok (.int r):=rfl;exact o5 (R:=gro .own n ps r) N (by show("grow":Str)∈ sI;decide +kernel) ⟨by show(("grow":Str),1)∈ jd;decide +kernel,λx hx=>by rw[mem_singleton.mp hx];exact sH ()⟩ (oO (ac (aM (by simp[pvS,j0,e1]) ak) (ac (aM (by simp[pvS,j0,e2]) ak) (ac (aM (by simp[pvS,j0,e3]) ak) (az (by simp[pvS,j1,gi,ao])))))) ⟨by simp,by simp,by simp⟩
def Cv(N:Nw' n ws ps)(h4:env[4]?=some (some (.lst .frz (prL ws))))(h2:env[2]?=some (M4 n)):mMt ef (mC (.str " ")) (mOp aJ (b_ (ab (mJ [(mC (.str "net ")),(mUn fV (aa 2))] PySem.Str.empty) ae)) (ay [] 1 (aK (aa 4)) (tgN 0) aH (mOp aZ (mOp aZ (af (p1 cq) (ab (mOp ah (aa 0) (M1 0)) ae)) (mC (.str "-"))) (af (p1 cq) (ab (mOp ah (aa 0) (M1 1)) ae))))) env=.ok (.str (line (.net n ws))):=by
 obtain⟨nn,nl,nw⟩:=N.so;have tl:=dI nn;have w1:∀p∈ws,(wy p).length<=130:=λp hp=>(DZ (nw p hp).1.1 (nw p hp).2.1).2;have e:line (.net n ws)=PySem.Txt.join ⟨#[32]⟩ (("net "++tn n)::ws.map wy):=by rfl
 rw[e,pX];refine gF (f:=.own) (by decide +kernel) (by simp;lia) (λz hz=>?_) ?_
 .rcases mem_cons.mp hz with rfl|hz
  .rw[apl,show("net ":Str).length=4 by rfl];lia
  .grind
 have hc:ay [] 1 (aK (aa 4)) (tgN 0) aH (mOp aZ (mOp aZ (af (p1 cq) (ab (mOp ah (aa 0) (M1 0)) ae)) (mC (.str "-"))) (af (p1 cq) (ab (mOp ah (aa 0) (M1 1)) ae))) env=.ok (.lst .own (sL (ws.map wy))):=by
  refine aF (xs:=prL ws) (by simp[h4]) (by rw[kF];lia) ?_;rw[show sL (ws.map wy)=ws.map λp=>PV.str (wy p) by simp[sL]];refine aI ws λp hp=>⟨[some (prV p)],by rfl,?_,by simp,by simp⟩
  obtain⟨⟨a1,_⟩,b1,_⟩:=nw p hp;have i1:ah (prV p) (.int 1)=.ok (.int p.2):=rfl;have l1:=dI a1;have l2:=dI b1;have s1:aZ (.str (tn p.1)) (.str "-")=.ok (.str (tn p.1++"-")):=cE (by rw[show("-":Str).length=1 by rfl];lia);have s2:aZ (.str (tn p.1++"-")) (.str (tn p.2))=.ok (.str (wy p)):=cE (by rw[apl,show("-":Str).length=1 by rfl];lia);simp[(nt a1).st,(nt b1).st,s1,s2]
 have hj:=mJ0 (.co (y:="net ") (Pcs.fi h2 nn .nil));simp only[cH,j3,aW,hj,hc];exact jM (zs:=["net "++tn n]) () () (by simp;lia)
end
def Sy(v:PV):Prop:=∃R o n s al tb D c A,v=.tup [R,.str (PySem.Txt.join ⟨#[10]⟩ (A.map line))]/\Bs R o/\Kd o n s al tb D c/\Hd o A
def Sy.has(h:Sy v):v.has Fl.MW=false/\v.has Fl.MV=false:=by obtain⟨R,o,n,s,al,tb,D,c,A,rfl,⟨_,h1,h2⟩,_⟩:=h;exact⟨by simp[h1],by simp[h2]⟩
def uE{c z:Int}(h1:2<=s)(h2:s<=3):∃t,qT [.int c,.int z,.int s]=.ok (M2 t)/\gh s t:=by
 obtain⟨m1,m2,_,_,c1,c2⟩:=Hr h1 ()
 suffices hh:eJ (AM [M4 c,M4 z,M4 s,none,none]) (λv=>∃t,v=M2 t/\gh s t) by obtain⟨v,h1,t,rfl,h2⟩:=hh;exact⟨t,am h1,h2⟩
 unfold AM;refine ar (aj (v:=.lst .own []) ()) ?_;refine kY (λk e=>∃t x4,e=[M4 c,M4 z,M4 s,M5 t,x4]/\t.length=k/\∀x∈t,0<=x/\x<s) (bM (n:=(s*s*s).toNat) (by simp[m1,m2];lia) ()) ⟨[],_,rfl,rfl,by simp⟩ (λk x e hx hP=>?_) (λe hP=>?_)
 .obtain⟨t,x4,rfl,tl,tr⟩:=hP;obtain⟨hk,rfl⟩:=dL hx;rw[Int.zero_add];refine⟨_,cV rfl,.inl ?_⟩;simp only[s0_,s1_];have a1:bQ (.int c) (.int (10 ^ 60))=.ok (.int (c%10 ^ 60)):=aR ();have a2:bN (.int (c%10 ^ 60+1)) (.int ((k:Int)+3))=.ok (.int ((c%10 ^ 60+1)*(k+3))):=cO (.inr ⟨by lia,by lia⟩);have a3:∀u:Int,bN (.int u) (.int 48271)=.ok (.int (u*48271)):=λu=>cO (.inr ⟨by lia,by lia⟩);have a6:∀u:Int,bQ (.int u) (.int s)=.ok (.int (u%s)):=λu=>aR ();refine⟨_,cM (v:=.int ((c%10 ^ 60+1)*((k:Int)+3)*48271%2147483647 / 11%s)) (xs:=iL t) ?_ rfl () (by simp;lia),t++[(c%10 ^ 60+1)*((k:Int)+3)*48271%2147483647 / 11%s],M4 k,by simp[iL],by simp[tl],λx hx=>?_⟩
  .simp only[cH,bD,gQ,getElem?_cons_zero,getElem?_cons_succ,aU,fh,Res.M0,I8,a1,ja,a2,a3];rw[aR (),Res.M0,cQ () (),Res.M0,a6]
  .rcases mem_append.mp hx with hx|hx
   .exact tr x hx
   .rw[mem_singleton.mp hx];exact⟨emod_nonneg _ (),emod_lt_of_pos _ ()⟩
 .obtain⟨t,x4,rfl,tl,tr⟩:=hP;rw[bm]at tl;exact aO (cA rfl) ⟨t,rfl,by lia,tr⟩
def Eh{t:MB}(h1:2<=s)(h2:s<=3)(h:gh s t):Fg t:=by obtain⟨_,_,_,_,c1,c2⟩:=Hr h1 ();have:=h.len;exact⟨by lia,by lia,λd hd=>by have:=h.rng d hd;lia⟩
def B2(h:Scr fl)(x:Int)(hx:x%7=0\/x%7=1):∃v,uQ [M3 fl ns,.int x]=.ok v/\Sy v:=by
 have cc:∀k:Nat,dC [M3 fl ns,.int k]=.ok (.int (cell ns k)):=λk=>pq ns k h;have c3:dC [M3 fl ns,.int 3]=.ok (.int (cell ns 3)):=cc 3;have c1:dC [M3 fl ns,.int 1]=.ok (.int (cell ns 1)):=cc 1;have c2:dC [M3 fl ns,.int 2]=.ok (.int (cell ns 2)):=cc 2
 suffices hh:eJ (AI [M6 fl ns,M4 x,none,none,none,none,none,none,none,none]) Sy by obtain⟨v,h1,h2⟩:=hh;exact⟨v,am h1,h2⟩
 unfold AI;obtain⟨n,hn,n2,n4⟩:∃n:Nat,2+x / 7%3=n/\2<=n/\n<=4:=⟨(2+x / 7%3).toNat,by lia,by lia,by lia⟩
 refine ar (aj (v:=.int n) (by simp[cQ,aR,<- hn])) ?_;refine ar (aj (v:=.int (cell ns 3)) (by simp[h.MN,h.MP,c3,ao])) ?_;generalize cell ns 3=c at *;by_cases q:x%7=0
 .obtain⟨s,hs⟩:∃s:Int,s=n+c%6:=⟨_,rfl⟩
  have s9:(n:Int)<= s/\s<=9:=by have:=jQ c (show(0:Int)<6 by decide);lia
  refine cG (by simp[aR,q]) ?_;refine ar (aj (v:=.int s) (by simp[aR,hs])) ?_;simp only[s0_,s1_];obtain⟨D,cm,K⟩:=CY n2 n4 s9.1 s9.2;have pi:=yN (size:=(n:Int)) (span:=s) () () s9.1;have nn:Nm (n:Int):=sH ();have nsp:Nm s:=bE () ();have hj:=mJ0 (env:=[M6 fl ns,M4 x,M4 n,M4 c,M4 s,none,none,none,none,none]) (.co (y:="pass ") (Pcs.fi (i:=2) rfl nn (.co (y:=" ") (Pcs.fi (i:=4) rfl nsp .nil))));have e:PySem.Txt.join ⟨#[10]⟩ ([Sd.num "pass" [n,s]].map line)=((((PySem.Str.empty++"pass ")++ tn n)++ " ")++ tn s):=by refine dX ?_;show sg (PySem.Txt.join ⟨#[10]⟩ [sj ["pass",tn n,tn s]])=_;rw[kn,dW,dW,jI];simp only[bv,yb,mZ,show sg ("pass ":Str)=sg "pass"++[32] by decide +kernel];simp
  refine aO (v:=.tup [kX .own n s,.str (PySem.Txt.join ⟨#[10]⟩ ([Sd.num "pass" [n,s]].map line))]) (az ?_) ⟨_,_,_,_,_,_,_,_,_,rfl,⟨by simp,by simp,by simp⟩,K,o6 (R:=kX .own n s) ⟨by show(("pass":Str),2)∈ jd;decide +kernel,λa ha=>?_⟩ rfl (.inl ⟨rfl,rfl,rfl,_,_,rfl⟩) pi ⟨by simp,by simp,by simp⟩⟩
  .rw[e];simp only[gJ,aW,bG,hj];simp[pi,ao]
  .simp only[mem_cons,not_mem_nil,or_false]at ha;rcases ha with rfl|rfl
   .exact nn
   .exact nsp
 .refine ar (aM (by simp[aR,q]) ak) ?_;obtain⟨m,hm,m2,m3⟩:∃m:Nat,min (n:Int) 3=m/\2<=m/\m<=3:=⟨min n 3,by lia,by lia,by lia⟩
  refine ar (aj (v:=.int m) (by simp;rw[<- hm];rfl)) ?_;obtain⟨s,hs⟩:∃s:Int,s=2+c%2:=⟨_,rfl⟩
  have s2:2<=s/\s<=3:=by have:=jQ c (show(0:Int)<2 by decide);lia
  refine ar (aj (v:=.int s) (by simp[aR,hs])) ?_;obtain⟨w,wi,hw,ew⟩:∃w wi,Wt w wi/\ah (.lst .own [.str "none",.str "one"]) (.int (c / 2%2))=.ok (.str w):=by
   rcases(show c / 2%2=0\/c / 2%2=1 by lia)with e|e<;>rw[e]
   .exact⟨"none",0,.inl ⟨rfl,rfl⟩,rfl⟩
   .exact⟨"one",1,.inr ⟨rfl,rfl⟩,rfl⟩
  refine ar (aj (v:=.str w) (by simp[cQ,aR,ew])) ?_;obtain⟨ft,e1,hft⟩:=uE (c:=cell ns 1) (z:=m) s2.1 s2.2;obtain⟨ot,e2,hot⟩:=uE (c:=cell ns 2) (z:=m) s2.1 s2.2;refine ar (aj (v:=M2 ft) (by simp[h.MN,h.MP,c1,e1,ao])) ?_;refine ar (aj (v:=M2 ot) (by simp[h.MN,h.MP,c2,e2,ao])) ?_;refine ar (bY (v:=M2 ft) rfl) ?_;refine ar (bY (v:=M2 ot) rfl) ?_;simp;have ti:=xB (.inr rfl) m2 () s2.1 () hw hft hot;refine ar (aj (v:=tab .own m s wi ft ot) (by simp[ti,ao])) ?_;have F1:=Eh s2.1 s2.2 hft;have F2:=Eh s2.1 s2.2 hot;have nn:Nm (m:Int):=sH ();have nsp:Nm s:=bE () ();have wl:w.length<=4:=by rcases hw with⟨rfl,_⟩ |⟨rfl,_⟩<;>decide +kernel
  have d1:=(oq F1).2;have d2:=(oq F2).2;have sp1:(" ":Str).length=1:=by decide +kernel
  have jn:∀{i:Nat}{t:MB}{env:En},env[i]?=some (M6 .frz t)->Fg t->mMt ef (mC (.str "")) (ay [] 1 (aK (aa i)) (tgN 0) aH (af (p1 cq) (ab (aa 0) ae))) env=.ok (.str (dgt t)):=λ{i t env} hi F=>by
   have tN:∀a∈t,Nm a:=λa ha=>by have:=F.2.2 a ha;exact bE () ()
   have tl:=F.2.1;exact gF (f:=.own) (by decide +kernel) (by simp;lia) (λz hz=>by
    obtain⟨a,ha,rfl⟩:=mem_map.mp hz;have:=dI (tN a ha)
    lia) (ie tN () (by simp[hi]))
  have a1:aZ (.str (dgt ft)) (.str " ")=.ok (.str (dgt ft++" ")):=cE (by rw[sp1];lia);have a2:aZ (.str (dgt ft++" ")) (.str (dgt ot))=.ok (.str (dgt ft++" "++dgt ot)):=cE (by rw[apl,sp1];lia);refine ar (aj (v:=.str (dgt ft++" "++dgt ot)) (by rw[cH,cH,jn rfl F1,jn rfl F2];simp[a1,a2])) ?_;refine ar (bY (v:=tab .own m s wi ft ot) rfl) ?_;simp only[s0_,s1_];rw[show(tab .own m s wi ft ot).MY Fl.MQ=tab .frz m s wi ft ot by simp];have hj:=mJ0 (env:=[M6 fl ns,M4 x,M4 m,M4 c,M4 s,some (.str w),M6 .frz ft,M6 .frz ot,some (tab .frz m s wi ft ot),some (.str (dgt ft++" "++dgt ot))]) (.co (y:="table ") (Pcs.fi (i:=2) rfl nn (.co (y:=" ") (Pcs.fi (i:=4) rfl nsp (.co (y:=" ") (Pcs.fs (i:=5) rfl () (.co (y:=" ") (Pcs.fs (i:=9) rfl (by rw[apl,apl,sp1];lia) .nil))))))));have e:PySem.Txt.join ⟨#[10]⟩ ([Sd.tab m s w ft ot].map line)=((((((((PySem.Str.empty++"table ")++ tn m)++ " ")++ tn s)++ " ")++ w)++ " ")++(dgt ft++" "++dgt ot)):=by refine dX ?_;show sg (PySem.Txt.join ⟨#[10]⟩ [sj ["table",tn m,tn s,w,dgt ft,dgt ot]])=_;rw[kn,dW,dW,dW,dW,dW,jI];simp only[bv,yb,mZ,show sg ("table ":Str)=sg "table"++[32] by decide +kernel];simp
  obtain⟨D,cm,K⟩:=zT (wi:=wi) m2 () s2.1 s2.2 hft hot;refine aO (v:=.tup [tab .frz m s wi ft ot,.str (PySem.Txt.join ⟨#[10]⟩ ([Sd.tab m s w ft ot].map line))]) (az ?_) ⟨_,_,_,_,_,_,_,_,_,rfl,⟨by simp,by simp,by simp⟩,K,o6 (R:=tab .own m s wi ft ot) ⟨nn,nsp,by rcases hw with⟨rfl,_⟩ |⟨rfl,_⟩<;>simp,F1,F2⟩ rfl (.inr (.inr ⟨rfl,rfl,rfl,_,_,_,_,_,rfl⟩)) ti ⟨by simp,by simp,by simp⟩⟩;rw[e];simp only[gJ,aW,bG,hj];simp
def Cw{z:Int}(hn:n<=4):OkM n ((range n).map λi:Nat=>(z+3*i)%10):=by
 refine⟨by simp,?_,λx hx=>?_⟩
 .rw[List.nodup_iff_pairwise_ne,List.pairwise_map];exact Pairwise.imp_of_mem (λ{a b} ha hb (q:a<b)=>by grind) List.pairwise_lt_range
 .grind
def vK(h:Scr fl):∃v,u8 [M3 fl ns]=.ok v/\Sy v:=by
 have cc:∀k:Nat,dC [M3 fl ns,.int k]=.ok (.int (cell ns k)):=λk=>pq ns k h;have c0:dC [M3 fl ns,.int 0]=.ok (.int (cell ns 0)):=cc 0;have c3:dC [M3 fl ns,.int 3]=.ok (.int (cell ns 3)):=cc 3;have c1:dC [M3 fl ns,.int 1]=.ok (.int (cell ns 1)):=cc 1;have c2:dC [M3 fl ns,.int 2]=.ok (.int (cell ns 2)):=cc 2
 suffices hh:eJ (AK [M6 fl ns,none,none,none,none,none,none,none,none,none]) Sy by obtain⟨v,h1,h2⟩:=hh;exact⟨v,am h1,h2⟩
 unfold AK;refine ar (aj (v:=.int (cell ns 0)) (by simp[h.MN,h.MP,c0,ao])) ?_;simp only[s0_,s1_];generalize cell ns 0=x at *;by_cases q:x%7<2
 .obtain⟨v,e,S⟩:=B2 (ns:=ns) h x ();exact cG (by simp[aR,q]) (aO (az (v:=v) (by simp[h.MN,h.MP,e,ao,S.has.1]) (by simp[S.has.2])) S)
 refine ar (aM (by simp[aR,q]) ak) ?_;obtain⟨n,hn,n1,n4⟩:∃n:Nat,1+x / 7%4=n/\1<=n/\n<=4:=⟨(1+x / 7%4).toNat,by lia,by lia,by lia⟩
 refine ar (aj (v:=.int n) (by simp[cQ,aR,<- hn])) ?_;simp only[s0_,s1_];refine ar (aj (v:=.int (cell ns 3)) (by simp[h.MN,h.MP,c3,ao])) ?_;simp only[s0_,s1_];generalize cell ns 3=c at *;obtain⟨ts,ws,ew,ht,hw⟩:=A6 (cell ns 1) (cell ns 2) n1 n4;obtain⟨tl,T,tk⟩:=AU n (by simp;lia) ts ht;refine ar (aj (v:=.lst .own (prL ws)) (by simp[h.MN,h.MP,c1,c2,ew,ao])) ?_;simp only[s0_,s1_];refine ar (bY (v:=.lst .own (prL ws)) rfl) ?_;simp only[s0_,s1_,aY,zG,gH];by_cases q2:x%7=2
 .refine cG (by simp[aR,q2]) ?_;obtain⟨pa,hpa⟩:∃pa,pa=ts.map (·.1):=⟨_,rfl⟩
  have T:Tree pa:=by rw[hpa];exact T
  have pl:pa.length+1=n:=by rw[hpa];simpa using tl
  have pN:∀a∈pa,Nm a:=λa ha=>by obtain⟨i,hi,rfl⟩:=List.mem_iff_getElem.mp ha;have:=T i hi;exact bE () ()
  refine ar (aj (v:=M2 pa) ?_) ?_
  .have cu:gL (prL ws) none (some ((n:Int)-1))=prL ts:=by rw[show(n:Int)-1=((n-1:Nat):Int) by lia,G.cut_to _ _ (by have:=congrArg List.length (tk ws hw).1;simp[prL]at this ⊢;lia),prL,<- List.map_take,(tk ws hw).1];rfl
   refine aF (xs:=prL ts) (by simp[cu]) (by rw[kF];lia) ?_;rw[show iL pa=ts.map λp=>PV.int p.1 by simp[iL,hpa]];exact aI (a:=prV) (f:=λp=>PV.int p.1) ts λp hp=>⟨[some (prV p)],by simp[tgN,aQ,bI,d5],by simp[show ah (prV p) (.int 0)=.ok (.int p.1)from rfl],by simp,by simp⟩
  simp only[s0_,s1_];obtain⟨D,cm,K⟩:=zV (ps:=pa) ();have ci:=rz (f:=.own) T () (.inl rfl);have ci':=rz (f:=.frz) T () (.inr rfl);have so:SOk (.row "count" pa):=⟨by decide +kernel,by lia,pN⟩
  have je:∀{env:En},env[5]?=some (M5 pa)->mMt ef (mC (.str " ")) (mOp aJ (b_ (ab (mC (.str "count")) ae)) (ay [] 1 (aK (aa 5)) (tgN 0) aH (af (p1 cq) (ab (aa 0) ae)))) env=.ok (.str (line (.row "count" pa))):=λ{env} he=>by rw[pX];refine gF (f:=.own) (ls:=cz (.row "count" pa)) (by decide +kernel) (by simp[cz];lia) (λz hz=>by have:=((d9 so).2 z hz).2;lia) ?_;have e1:ay [] 1 (aK (aa 5)) (tgN 0) aH (af (p1 cq) (ab (aa 0) ae)) env=.ok (.lst .own (sL (pa.map tn))):=ie pN () (by simp[he]);simp only[cH,j3,aW,bG,gQ,e1,Res.M0];exact jM (zs:=["count"]) () () (by simp;lia)
  refine aO (v:=.tup [cnt .own pa,.str (PySem.Txt.join ⟨#[10]⟩ ([Sd.row "count" pa].map line))]) (az ?_) ⟨_,_,_,_,_,_,_,_,_,rfl,⟨by simp,by simp,by simp⟩,K,o6 (R:=cnt .own pa) so rfl (.inr (.inl ⟨rfl,rfl,rfl,_,rfl⟩)) ci' ⟨by simp,by simp,by simp⟩⟩;rw[map_cons,map_nil,kn];have je:=je (env:=[M6 fl ns,M4 x,M4 n,M4 c,some (.lst .frz (prL ws)),M5 pa,none,none,none,none]) rfl;simp only[gJ,aW,bG,je];simp[ci,ao]
 refine ar (aM (by simp[aR,q2]) ak) ?_;obtain⟨ps,N⟩:=GN n1 n4 ht hw;refine ar (aj (v:=net .own n ps) (by simp[N.ini .own (),ao])) ?_;simp only[s0_,s1_];refine ar (bY (v:=net .own n ps) rfl) ?_;simp only[s0_,s1_];rw[show(net .own n ps).MY Fl.MQ=net .frz n ps by simp];refine ar (aj (Cv N rfl rfl)) ?_;simp only[s0_,s1_];have ll:=qz N.so;have w11:=(d9 N.so).1.2;obtain⟨L,hL⟩:∃L,line (.net n ws)=L:=⟨_,rfl⟩
 rw[hL]at ll ⊢;obtain⟨r,hr,rn⟩:∃r:Nat,c%(n:Int)=r/\r<n:=by have:=jQ c (show(0:Int)<n by lia);exact⟨(c%(n:Int)).toNat,by lia,by lia⟩
 refine ar (aj (v:=.int r) (by simp[aR (show(0:Int)<n by lia),hr])) ?_;simp only[s0_,s1_];have nr:Nm (r:Int):=sH ();have tr:=dI nr;have two:∀{y:Sd}{u:Str},u.length<=800->sg u=10::sg (line y)->aZ (.str L) (.str u)=.ok (.str (PySem.Txt.join ⟨#[10]⟩ ([Sd.net n ws,y].map line))):=λ{y u} hu e=>by rw[cE ()];refine congrArg (λz=>Res.ok (PV.str z)) (dX ?_);rw[map_cons,map_cons,map_nil,tx2,hL,bv,e]
 have fin:∀{y:Sd}{o R:PV}{s:Int}{al tb:Bool}{D:MB->Nat->Int}{cm:MB->Bool},Hd o [Sd.net n ws,y]->Kd o n s al tb D cm->Bs R o->Sy (.tup [R,.str (PySem.Txt.join ⟨#[10]⟩ ([Sd.net n ws,y].map line))]):=λH K B=>⟨_,_,_,_,_,_,_,_,_,rfl,B,K,H⟩
 by_cases q3:x%7=3
 .obtain⟨D,cm,K⟩:=zU (ps:=ps) n1 n4 N.rg N.nl;refine cG (by simp[aR,q3]) (aO (az (v:=.tup [pnt .own n ps,.str (PySem.Txt.join ⟨#[10]⟩ ([Sd.net n ws,.num "paint" []].map line))]) ?_) (fin (z9 N) K ⟨by simp,by simp,by simp⟩));have e:=two (y:=.num "paint" []) (u:="\npaint") (by decide +kernel) (by decide +kernel);simp only[gJ,aW,bG,cH,gQ,bD,getElem?_cons_zero,getElem?_cons_succ,aU,et,Res.M0,e];simp[m6,ao]
 refine ar (aM (by simp[aR,q3]) ak) ?_;by_cases q4:x%7=4
 .obtain⟨D,cm,K⟩:=qD (cc:=5) (T:=n) (os:=fs n r) (st:=n) (ps:=ps) (.inl rfl) n1 n4 () () (tH n1) (by simp[fs]) N.nb N.nl;have fi:=lN (f:=.frz) (ps:=ps) (r:=r) (.inl rfl) n1 () rn;refine cG (by simp[aR,q4]) (aO (az (v:=.tup [lea .own 5 n ps (fs n r) n n,.str (PySem.Txt.join ⟨#[10]⟩ ([Sd.net n ws,.num "far" [r]].map line))]) ?_) (fin (G8 N rn) K ⟨by simp,by simp,by simp⟩));have hj:=mJ0 (env:=[M6 fl ns,M4 x,M4 n,M4 c,some (.lst .frz (prL ws)),none,some (net .frz n ps),some (.str L),M4 r,none]) (.co (y:="\nfar ") (Pcs.fi (i:=8) rfl nr .nil));have e:=two (y:=.num "far" [r]) (u:=(PySem.Str.empty ++ "\nfar ") ++ tn r) (by rw [apl,show (PySem.Str.empty ++ ("\nfar " : Str)).length=5 by decide +kernel];lia) (by
   show _=10::sg (sj ["far",tn r]);rw[bv,dW,jI,show sg (PySem.Str.empty ++("\nfar ":Str))=10::(sg "far"++[32]) by decide +kernel];simp)
  simp only[foldl_cons,List.foldl_nil]at hj;simp only[gJ,aW,bG,cH,hj,bD,getElem?_cons_zero,getElem?_cons_succ,aU,et,Res.M0,e];simp[fi,ao]
 refine ar (aM (by simp[aR,q4]) ak) ?_;by_cases q5:x%7=5
 .obtain⟨mn,hmn⟩:∃mn:MB,mn=(range n).map λi:Nat=>(c%10+3*i)%10:=⟨_,rfl⟩
  have M:OkM n mn:=by rw[hmn];exact Cw n4
  have mN:∀a∈mn,Nm a:=λa ha=>by have:=M.mr a ha;exact bE () ()
  have ml:=M.ml;have os:=zL M n1;obtain⟨D,cm,K⟩:=qD (cc:=6) (T:=10*n) (os:=ls n mn) (st:=n) (ps:=ps) (.inr rfl) n1 n4 () () (by simpa using os) (by simp[ls,ml]) N.nb N.nl;rw[show((10*n:Nat):Int)=10*(n:Int) by lia]at K;have li:=nB (f:=.own) (ps:=ps) (.inr rfl) M n1 ();refine cG (by simp[aR,q5]) ?_;refine ar (aj (v:=M2 mn) ?_) ?_
  .rw[hmn];exact aF (xs:=dY 0 n) (bM (n:=n) () ()) (by rw [bm];lia) (f_ 0 (λi:Nat=>(c % 10+3 * i) % 10) n λk hk=>⟨[M4 c,M4 (0+k)],by simp [tgN,aQ,bI,PV.MR],by
    have m1:bN (.int 3) (.int (k:Int))=.ok (.int (3*k)):=cO (.inl ⟨by lia,by lia⟩);simp[aR,m1]⟩)
  simp only[s0_,s1_];refine aO (az (v:=.tup [lea .own 6 n ps (ls n mn) n (10*n),.str (PySem.Txt.join ⟨#[10]⟩ ([Sd.net n ws,.row "lead" mn].map line))]) ?_) (fin (C7 N M) K ⟨by simp,by simp,by simp⟩);have lj:=fj (f:=.bor) mN ();have ln:=jH (ls:=mn.map tn) (B:=61) λz hz=>by obtain⟨a,ha,rfl⟩:=mem_map.mp hz;exact dI (mN a ha)
  rw[length_map,ml]at ln;have s6:("\nlead ":Str).length=6:=by decide +kernel
  have a1:aZ (.str L) (.str "\nlead ")=.ok (.str (L++"\nlead ")):=cE (by rw[s6];lia);have a2:aZ (.str (L++"\nlead ")) (.str (sj (mn.map tn)))=.ok (.str (PySem.Txt.join ⟨#[10]⟩ ([Sd.net n ws,.row "lead" mn].map line))):=by rw[cE (by rw[apl,s6];lia)];refine congrArg (λz=>Res.ok (PV.str z)) (dX ?_);rw[map_cons,map_cons,map_nil,tx2,hL,bv,bv];show _=sg L++10::sg (sj ("lead" :: mn.map tn));rw[iY _ λe=>by rw[map_eq_nil_iff.mp e]at ml;simp at ml;lia,bv,bv,mZ,show sg ("\nlead ":Str)=10::(sg "lead"++[32]) by decide +kernel];simp
  simp[li,lj,ao,a1,a2]
 refine ar (aM (by simp[aR,q5]) ak) ?_;obtain⟨D,cm,K⟩:=CZ (q:=r) (ps:=ps) n1 n4 N.nb N.nl;have gi:=qI (f:=.frz) (ps:=ps) (r:=r) (.inl rfl) n1 () rn;refine aO (az (v:=.tup [gro .own n ps r,.str (PySem.Txt.join ⟨#[10]⟩ ([Sd.net n ws,.num "grow" [r]].map line))]) ?_) (fin (C8 N rn) K ⟨by simp,by simp,by simp⟩);have hj:=mJ0 (env:=[M6 fl ns,M4 x,M4 n,M4 c,some (.lst .frz (prL ws)),none,some (net .frz n ps),some (.str L),M4 r,none]) (.co (y:="\ngrow ") (Pcs.fi (i:=8) rfl nr .nil));have e:=two (y:=.num "grow" [r]) (u:=(PySem.Str.empty ++ "\ngrow ") ++ tn r) (by rw [apl,show (PySem.Str.empty ++ ("\ngrow " : Str)).length=6 by decide +kernel];lia) (by
  show _=10::sg (sj ["grow",tn r]);rw[bv,dW,jI,show sg (PySem.Str.empty ++("\ngrow ":Str))=10::(sg "grow"++[32]) by decide +kernel];simp)
 simp only[foldl_cons,List.foldl_nil]at hj;simp only[gJ,aW,bG,cH,hj,bD,getElem?_cons_zero,getElem?_cons_succ,aU,et,Res.M0,e];simp[gi,ao]
def DN(h:env[i]?=some (M4 a))(hm:m env=.ok (.int b))(ho:aQ i env=true):nv i m env=.next (env.set i (M4 (a-b))):=by unfold nv;rw[h,hm];simp[ho]
def eU{ws:MF}(h:m env=.ok (.str z))(ho:env[i]?=some (some (.lst .own (sL zs))))(hl:zs.length<=1000)(e:zs++[z]=ws):bu i m env=.next (env.set i (some (.lst .own (sL ws)))):=by rw[cM h ho () (by simp;lia),<- e];simp[sL]
def za(x:Int):Nm (x%(2*10 ^ 59)-10 ^ 59):=by
 have h:=jQ x (show(0:Int)<2*10 ^ 59 by decide);generalize x%(2*10 ^ 59)=u at *;have h3:(u-10 ^ 59).natAbs<=10 ^ 59:=by lia
 exact Nat.lt_of_le_of_lt h3 ()
inductive LI(fl:Fl)(ns:MB)(o:PV)(tx sl2 z0:Str)(regs cs0:MB)(n:Nat)(s:Int)(j:Nat)(e:En):Prop
 |mk (cs:MB) (Ys:List Sd) (zs:MF) (lk:Int) (x8 x9 x10 x11 x12 x13:Option PV):e=[some (.lst fl (iL ns)),some (.tup [o,.str tx]),some o,some (.lst .own (iL regs)),some (.lst .own (iL cs)),some (.lst .own (sL ([tx,sl2]++ Ys.map line))),some (.lst .own (sL ([z0]++ zs))),some (.int lk),x8,x9,x10,x11,x12,x13,none]->Ce n s cs->(Ys.length=j/\zs.length=j/\(∀y∈Ys,SOk y/\kd y∈doi)/\(∀z∈zs,Asc z)/\∀l t,jC o cs l t->jC o cs0 (Ys++l) (zs++t))->LI fl ns o tx sl2 z0 regs cs0 n s j e
theorem law_true(fl:Fl)(ns:MB)(h:Scr fl)(hl:ns.length<=63):vw [.lst fl (ns.map .int)]=.ok (.bl true):=by
 obtain⟨v,ev,R,o,n,s,al,tb,D,c,A,rfl,⟨ro,rb,rl⟩,k,H⟩:=vK (ns:=ns) h;have r:=k.r;have n4:=k.n4;have n1:=r.n1;have sm:=k.sm;have fz:Fz o:=⟨r.le,r.tb,k.fz⟩
 have cc:∀k:Nat,dC [M3 fl ns,.int k]=.ok (.int (cell ns k)):=λk=>pq ns k h;obtain⟨tx,htx⟩:∃tx,PySem.Txt.join ⟨#[10]⟩ (A.map line)=tx:=⟨_,rfl⟩
 rw[htx]at ev;obtain⟨regs,hregs⟩:∃regs,regs=(range n).map λi:Nat=>cell ns (4+i)%(2*10 ^ 59)-10 ^ 59:=⟨_,rfl⟩
 have rn:regs.length=n:=by rw[hregs];simp
 have hr:∀a∈regs,Nm a:=λa ha=>by rw[hregs]at ha;obtain⟨i,_,rfl⟩:=mem_map.mp ha;exact za _
 have p59:kx (.int 10) (.int 59)=.ok (.int (10 ^ 59)):=I9;have m59:bN (.int 2) (.int (10 ^ 59))=.ok (.int (2*10 ^ 59)):=cO (.inl ⟨by lia,by lia⟩);have d59:∀x:Int,bQ (.int x) (.int (2*10 ^ 59))=.ok (.int (x%(2*10 ^ 59))):=λx=>aR ();show vw [M3 fl ns]=_;refine am ?_;show AO [M6 fl ns,none,none,none,none,none,none,none,none,none,none,none,none,none,none]=_;unfold AO;refine ac (aj (v:=.tup [R,.str tx]) (by simp[h.MN,h.MP,ev,ao,rb]) (by simp[rl]) rfl) ?_;simp only[s0_,s1_];refine ac (bY (v:=.tup [R,.str tx]) rfl) ?_;simp only[s0_,s1_,lB,bh,bS,et,ro];have t0:ah (.tup [o,.str tx]) (.int 0)=.ok o:=aX (k:=0) rfl rfl (k.hf _ rfl);have t1:ah (.tup [o,.str tx]) (.int 1)=.ok (.str tx):=aX (k:=1) rfl rfl rfl;refine ac (aj (v:=o) (by simp[r.le,t0]) (by simp[k.hf Fl.MV rfl]) rfl) ?_;simp only[s0_,s1_];refine ac (aj (v:=M2 regs) ?_) ?_
 .rw[hregs];refine aF (xs:=dY 0 n) (bM (n:=n) (by simp[r.le,r.a0]) ()) (by rw[bm];lia) (f_ 0 (λi:Nat=>cell ns (4+i)%(2*10 ^ 59)-10 ^ 59) n λk hk=>⟨[M6 fl ns,M4 (0+k)],by simp[tgN,aQ,bI,PV.MR,h.MR],?_⟩);have:=cc (4+k);rw[show((4+k:Nat):Int)=4+(0+(k:Int)) by lia]at this;simp only[cH,b6,aW,bG,bD,gQ,getElem?_cons_zero,getElem?_cons_succ,aU,aY,d0,fh,h.MN,h.MP,Res.M0,ja,cJ,bh,bS,this,ao,PV.has];simp only[Bool.false_eq_true,if_false,Res.M0,p59,m59,d59,sub_int]
 simp only[s0_,s1_];have C0:Ce n s (regs.map (· % s)):=⟨by simpa using rn,sK r⟩
 have rd:=i_ (f:=.own) r rn;generalize hcs:regs.map (· % s)=cs0 at *;refine ac (aj (v:=M2 cs0) (by simp[r.le,r.tb,r.rd,rd,ao])) ?_;simp only[s0_,s1_];have so:SOk (.row "state" regs):=⟨by decide +kernel,by lia,hr⟩
 have lj:=fj (f:=.bor) hr ();have sl:=jH (ls:=regs.map tn) (B:=61) λz hz=>by obtain⟨a,ha,rfl⟩:=mem_map.mp hz;exact dI (hr a ha)
 rw[length_map,rn]at sl;have ad:aZ (.str "state ") (.str (sj (regs.map tn)))=.ok (.str (line (.row "state" regs))):=by rw[cE (by rw[show("state ":Str).length=6 by decide +kernel];lia)];refine congrArg (λz=>Res.ok (PV.str z)) (dX ?_);show _=sg (sj ("state" :: regs.map tn));rw[iY _ λe=>by rw[map_eq_nil_iff.mp e]at rn;simp at rn;lia,bv,bv,bv,mZ,show sg ("state ":Str)=sg "state"++[32] by decide +kernel]
 obtain⟨sl2,hsl⟩:∃z,line (.row "state" regs)=z:=⟨_,rfl⟩
 rw[hsl]at ad;refine ac (aj (v:=.lst .own (sL [tx,sl2])) (by simp[r.le,t1,lj,ad,ao,sL])) ?_;simp only[s0_,s1_];obtain⟨z0,hz0⟩:∃z,sj (swd c cs0)=z:=⟨_,rfl⟩
 have ls0:=jR k C0;rw[hz0]at ls0;refine ac (aj (v:=.lst .own (sL [z0])) (by simp[r.le,r.tb,ls0,ao,sL])) ?_;simp only[s0_,s1_];refine ac (aj (v:=.int 2) ()) ?_;simp only[s0_,s1_];have ec:gL (iL ns) (some 7) (some 47)=iL ((ns.take 47).drop 7):=Hq ns 7 47 rfl rfl;have xl:((ns.take 47).drop 7).length<=40:=by simp;lia
 generalize(ns.take 47).drop 7=xs at *;refine d7 (xs:=iL xs) (LI fl ns o tx sl2 z0 regs cs0 n s) ?_ ⟨cs0,[],[],2,_,_,_,_,_,_,rfl,C0,rfl,rfl,by simp,by simp,λ_ _ q=>q⟩ (λj x e hx hP=>?_) (λe hP=>?_)
 .refine cW (f:=.own) ?_ rfl () ();simp only[ju,kM,bD,gQ,getElem?_cons_zero];simp[h.MN,ec]
 .obtain⟨cs,Ys,zs,lk,x8,x9,x10,x11,x12,x13,rfl,C,yl,zl,hY,hZ,hP⟩:=hP;obtain⟨x,hm,rfl⟩:=jX hx;have jl:=(List.getElem?_eq_some_iff.mp hm).1;refine⟨_,cV rfl,?_⟩;simp only[s0_,s1_];have more:∀{y:Sd}{cs':MB}{z:Str},Ln o cs y cs' z->([tx,sl2]++ Ys.map line)++ [line y]=[tx,sl2]++(Ys++[y]).map line/\([z0]++ zs)++ [z]=[z0]++(zs++[z])/\(Ys++[y]).length=j+1/\(zs++[z]).length=j+1/\(∀y'∈Ys++[y],SOk y'/\kd y'∈doi)/\(∀z'∈zs++[z],Asc z')/\∀l t,jC o cs' l t->jC o cs0 ((Ys++[y])++ l) ((zs++[z])++ t):=λ{y cs' z} L=>by
   obtain⟨l1,l2,l3,l4⟩:=L;refine⟨by simp,by simp,by simp[yl],by simp[zl],λy' hy=>?_,λz' hz=>?_,λl t q=>by simpa using hP (y::l) (z::t) (.cons l3 q)⟩
   .rcases mem_append.mp hy with hy|hy
    .exact hY y' hy
    .rw[mem_singleton.mp hy];exact⟨l1,l2⟩
   .rcases mem_append.mp hz with hz|hz
    .exact hZ z' hz
    .rw[mem_singleton.mp hz];exact l4
  have YL:([tx,sl2]++ Ys.map line).length<=1000:=by simp;lia
  have ZL:([z0]++ zs).length<=1000:=by simp;lia
  by_cases q0:x%4=0
  .refine nE (by simp[aR,q0]) ?_;obtain⟨a,ha,an⟩:∃a:Nat,x / 4%(n:Int)=a/\a<n:=by have:=jQ (x / 4) (show(0:Int)<n by lia);exact⟨(x / 4%(n:Int)).toNat,by lia,by lia⟩
   obtain⟨u,hu⟩:∃u:Int,u=x / 7%(2*10 ^ 59)-10 ^ 59:=⟨_,rfl⟩
   have un:Nm u:=by rw[hu];exact za _
   have nA:Nm (a:Int):=sH ();have C':Ce n s ((spo n cs a u).map (· % s)):=⟨by simp[spo],sK r⟩
   have L:Ln o cs (.num "spoil" [a,u]) ((spo n cs a u).map (· % s)) (sj (swd c ((spo n cs a u).map (· % s)))):=⟨⟨by show (("spoil" : Str),2) ∈ jd;decide +kernel,λb hb=>by
    simp only[mem_cons,not_mem_nil,or_false]at hb;rcases hb with rfl|rfl
    .exact nA
    .exact un⟩,by show("spoil":Str)∈ doi;decide +kernel,vO k C an,pJ k C'⟩
   refine bt (aj (v:=.int a) (by simp[r.le,r.a0,cQ,aR (show(0:Int)<n by lia),ha])) ?_;simp only[s0_,s1_];refine bt (aj (v:=.int u) (by
    simp only[cH,bD,gQ,getElem?_cons_zero,getElem?_cons_succ,aU,fh,Res.M0];rw[cQ () ()];simp only[Res.M0,p59,m59,d59,sub_int,hu])) ?_
   simp only[s0_,s1_];have hj:=mJ0 (env:=[M6 fl ns,some (.tup [o,.str tx]),some o,M5 regs,M5 cs,some (.lst .own (sL ([tx,sl2]++ Ys.map line))),some (.lst .own (sL ([z0]++ zs))),M4 lk,M4 x,M4 a,M4 u,x11,x12,x13,none]) (.co (y:="spoil ") (Pcs.fi (i:=9) rfl nA (.co (y:=" ") (Pcs.fi (i:=10) rfl un .nil))));have e:(((PySem.Str.empty++"spoil ")++ tn a)++ " ")++ tn u=line (.num "spoil" [a,u]):=by refine dX ?_;show _=sg (sj ["spoil",tn a,tn u]);rw[dW,dW,jI];simp only[bv,yb,mZ,show sg ("spoil ":Str)=sg "spoil"++[32] by decide +kernel];simp
   simp only[foldl_cons,List.foldl_nil]at hj;rw[e]at hj;obtain⟨m1,mr⟩:=more L;refine bt (eU hj rfl YL m1) ?_;simp only[s0_,s1_];have rd:=i_ (f:=.own) (rs:=spo n cs a u) r (by simp[spo]);have ls:=jR k C';generalize(spo n cs a u).map (· % s)=cs' at *;refine bt (aj (v:=M2 cs') ?_) ?_
   .rw[Al];simp only[aW,bG];rw[aF (xs:=dY 0 n) (ys:=iL (spo n cs a u)) (bM (n:=n) (by simp[r.le,r.a0]) ()) (by rw[bm];lia) (f_ 0 (λi:Nat=>if i=a then u else gt cs i) n λi hi=>⟨[M4 a,M4 u,M6 .bor cs,M4 (0+i)],by simp[tgN,aQ,bI,PV.MR],?_⟩)]
    .simp[r.le,r.tb,r.rd,rd,ao]
    .have gi:∀f,ah (M3 f cs) (.int (i:Int))=.ok (.int (gt cs i)):=λf=>by simpa using cB (f:=f) (cs:=cs) (i:=i) () (by have:=C.1;lia)
     by_cases q:i=a
     .simp[q]
     .simp[q,gi,show ¬(i:Int)=a by lia]
   simp only[s0_,s1_];refine bC (eU (z:=sj (swd c cs')) (by simp[r.le,r.tb,ls,ao]) rfl ZL mr.1) ⟨cs',_,_,lk,_,_,_,_,_,_,rfl,C',mr.2⟩
  refine nG (by simp[aR,q0]) ?_;by_cases q1:x%4=1
  .refine nE (by simp[aR,q1]) ?_;obtain⟨y,z,ea,L⟩:=AR k C (x / 4) lk;obtain⟨m1,mr⟩:=more L;refine bt (aj (v:=.tup [.str (line y),.str z]) (by simp[r.le,r.tb,cQ,ea,ao])) ?_;simp only[s0_,s1_];have i0:ah (.tup [.str (line y),.str z]) (.int 0)=.ok (.str (line y)):=rfl;have i1:ah (.tup [.str (line y),.str z]) (.int 1)=.ok (.str z):=rfl;obtain⟨b,eb⟩:∃b:Int,iN (.bl (PySem.Txt.startswith (line y) "look"))=.ok (.int b):=⟨_,rfl⟩
   refine bt (DN (b:=b) rfl (by simp[dN,i0,p1,eb]) rfl) ?_;simp only[s0_,s1_];refine bt (eU (z:=line y) (by simp[i0]) rfl YL m1) ?_;simp only[s0_,s1_];refine bC (eU (z:=z) (by simp[i1]) rfl ZL mr.1) ⟨cs,_,_,lk-b,_,_,_,_,_,_,rfl,C,mr.2⟩
  refine nG (by simp[aR,q1]) ?_;obtain⟨nm,en,gn,nl⟩:=zK k (x / 4);have nN:∀a∈nm,Nm a:=λa ha=>by have:=gn.2.1 a ha;exact bE () ()
  have so:SOk (.row "turn" nm):=⟨by decide +kernel,by lia,nN⟩
  have C':=C.go r nm;obtain⟨dS,d10⟩:=As (cs:=cs) (nm:=nm) r;have L:Ln o cs (.row "turn" nm) (stR n D cs nm) (twd n D c cs nm):=⟨so,by show ("turn" : Str) ∈ doi;decide +kernel,xw k C gn,lZ λz hz=>by
   simp only[mem_cons,not_mem_nil,or_false]at hz;rcases hz with rfl|rfl|rfl
   .exact AT dS
   .exact gM (by decide +kernel)
   .exact pJ k C'⟩
  obtain⟨m1,mr⟩:=more L;refine bt (aj (v:=M2 nm) (by simp[r.le,r.tb,cQ,en,ao])) ?_;simp only[s0_,s1_];refine bt (eU (z:=line (.row "turn" nm)) ?_ rfl YL m1) ?_
  .rw[pX];refine gF (f:=.own) (ls:=cz (.row "turn" nm)) (by decide +kernel) (by simp[cz];lia) (λz hz=>by have:=((d9 so).2 z hz).2;lia) ?_;have e1:ay [] 1 (aK (aa 12)) (tgN 0) aH (af (p1 cq) (ab (aa 0) ae)) [M6 fl ns,some (.tup [o,.str tx]),some o,M5 regs,M5 cs,some (.lst .own (sL ([tx,sl2]++ Ys.map line))),some (.lst .own (sL ([z0]++ zs))),M4 lk,M4 x,x9,x10,x11,M5 nm,x13,none]=.ok (.lst .own (sL (nm.map tn))):=ie nN () ();simp only[cH,j3,aW,bG,gQ,e1,Res.M0];exact jM (zs:=["turn"]) () () (by simp;lia)
  simp only[s0_,s1_];have mo:=cL (f:=.own) r (.inr rfl) C.1 C.2;have ml:=fH (n:=n) (D:=D) (cs:=cs);refine bt (aj (v:=M2 (dnR n D cs nm)) ?_) ?_
  .refine aF (xs:=iL (mvR n D cs)) (by simp[r.le,r.tb,r.mv,mo,ao]) (by simp;lia) ?_;have:=dH (env:=bI [12] 1 [M6 fl ns,some (.tup [o,.str tx]),some o,M5 regs,M5 cs,some (.lst .own (sL ([tx,sl2]++(Ys++[Sd.row "turn" nm]).map line))),some (.lst .own (sL ([z0]++ zs))),M4 lk,M4 x,x9,x10,x11,M5 nm,x13,none]) (g:=tgN 1) (mc:=ai (mOp pIn (aa 1) (aa 0))) (me:=aa 1) (λa=>nm.contains a) (λa=>a) (mvR n D cs) λx hx=>⟨[M6 .bor nm,M4 x],by simp[tgN,aQ,bI,PV.MR],by simp,λ_=>by simp⟩
   unfold dnR;rw[map_id']at this;exact this
  simp only[s0_,s1_];refine bt (aj (v:=M2 (stR n D cs nm)) (by simp[r.le,r.tb,r.tu,jF (f:=.own) (fn:=.own) r (.inr rfl) (.inr rfl) C.1 C.2 gn,ao])) ?_;simp only[s0_,s1_];have ls:=jR k C';have lk':=lE (f:=.bor) dS;have w1:=zE dS d10;have w2:=t9 k C';have w3:(" : ":Str).length=3:=by decide +kernel
  have a1:aZ (.str (md (dnR n D cs nm))) (.str " : ")=.ok (.str (md (dnR n D cs nm)++ " : ")):=cE (by rw[w3];lia);have a2:aZ (.str (md (dnR n D cs nm)++ " : ")) (.str (sj (swd c (stR n D cs nm))))=.ok (.str (twd n D c cs nm)):=by rw[cE (by rw[apl,w3];lia)];refine congrArg (λz=>Res.ok (PV.str z)) (dX ?_);unfold twd;rw[dW,dW,jI,bv,bv,show sg (" : ":Str)=32::(sg ":"++[32]) by decide +kernel];simp
  refine bC (eU (z:=twd n D c cs nm) (by simp[r.le,r.tb,lk',ls,ao,a1,a2]) rfl ZL mr.1) ⟨stR n D cs nm,_,_,lk,_,_,_,_,_,_,rfl,C',mr.2⟩
 .obtain⟨cs,Ys,zs,lk,x8,x9,x10,x11,x12,x13,rfl,C,yl,zl,hY,hZ,hP⟩:=hP;rw[bL]at yl zl;obtain⟨R',ru,rf,rb',rl'⟩:=H.ru;have al:1<=A.length/\A.length<=2:=by obtain⟨_,_,_,_,_,e,_⟩:=H.fst;rw[e];split<;>lia
  have X:Tx A (.row "state" regs) Ys:=⟨λy hy=>?_,?_,H.fst,rfl,λy hy=>(hY y hy).2⟩
  have pl:=Cb (z0:=z0) (zs:=zs) (cs:=cs0) X rfl ru rb' rl' rf fz (by simp[r.rd,r.tb,i_ (f:=.frz) r rn,hcs,ao]) (by rw[<- hz0];exact kT k C0) (by simpa using hP [] [] .nil);have je:mMt ef (mC (.str "\n")) (aa 5) [M6 fl ns,some (.tup [o,.str tx]),some o,M5 regs,M5 cs,some (.lst .own (sL ([tx,sl2]++ Ys.map line))),some (.lst .own (sL ([z0]++ zs))),M4 lk,x8,x9,x10,x11,x12,x13,none]=.ok (.str (PySem.Txt.join ⟨#[10]⟩ ((A++.row "state" regs::Ys).map line))):=by
   have e:PySem.Txt.join ⟨#[10]⟩ ((A++.row "state" regs::Ys).map line)=PySem.Txt.join ⟨#[10]⟩ ([tx,sl2]++ Ys.map line):=by rw[map_append,map_cons,hsl,<- sX 10 _ _ λe=>by rw[map_eq_nil_iff.mp e]at al;simp at al,htx];rfl
   rw[e,Jk];refine gF (f:=.lnt) (by decide +kernel) (by simp;lia) (λz hz=>?_) ();rcases mem_append.mp hz with hz|hz
   .simp only[mem_cons,not_mem_nil,or_false]at hz;rcases hz with rfl|rfl
    .rw[<- htx,jn];have:=f6 10 1441 (A.map line) λz hz=>by
      obtain⟨y,hy,rfl⟩:=mem_map.mp hz;have:=qz (H.ok y hy);have:=(d9 (H.ok y hy)).1.2
      lia
     rw[length_map]at this
     lia
    .rw[<- hsl];exact(oU so).2
   .obtain⟨y,hy,rfl⟩:=mem_map.mp hz;exact(oU (hY y hy).1).2
  refine ac (aj (v:=.lst .own (sL (z0::zs))) (by rw[b6,aW,bG,je];simp only[Res.M0,cJ,bh,bS,et,pl];simp[ao])) ?_;simp only[s0_,s1_];have eq:pEq (.lst .lnt (sL (z0::zs))) (.lst .lnt (sL (z0::zs)))=.ok (.bl true):=Dw rfl (Fb λz hz=>by
   rcases mem_cons.mp hz with rfl|hz
   .rw[<- hz0];exact pJ k C0
   .exact hZ z hz)
  exact az (by simp[vJ,oN,tyP,mw,eq]) ()
  .rcases mem_append.mp hy with hy|hy
   .exact H.ok y hy
   .rcases mem_cons.mp hy with rfl|hy
    .exact so
    .exact(hY y hy).1
  .simp
   lia
end
section
def fin{l:PySem.W.OpenLaw}{w:World}{K:PySem.W.Frag}{mg:Mw}{fa:Addr}(t:Ty pt pe w K mg)(tk:TK pt K kc)(hfa:mg "law"=some (.ref fa)) :
  ∃fd:FuncData,(∀(s:Shared) (u:Value),BindsTo s fd ⟨[u],[]⟩ [("_law_script",u)])/\∀base:Heap,K.In base->base.Ns mainGlobals mg->cF l.prog w K mg base (CXP l.prog w) 12 fa fd ["_law_script"] (xV K):=by
 have e:=hfa.symm.trans (t.tx.gl 100 rfl);cases e;refine⟨dAt K (pt.fa K 100),λs u=>?_,λbase hB _=>GW (T:=T K) (ok_law t tk) law_true⟩;obtain⟨oc,od,kV,doc,pm,an,cdv,ct,osl,e,_⟩:=(t.tx.fn 100).ex;rw[e];exact .of_eq rfl
end
end G
end
open PySem PySem.W PyProof.Rows
set_option maxRecDepth 100000 in
set_option maxHeartbeats 0 in
theorem PySem.Challenge.cw_calmring_k47_play_answers_holds : PySem.Challenge.rw_calmring_k47_play_answers.Holds := by
 refine Qe (Qv Qd rfl ?_)
 refine PR.zP (l:=PySem.Challenge.rw_calmring_k47_play_answers) (k:=12) (x := "_law_script") rfl rfl ⟨rfl,by decide,by decide⟩ (fun w h Y=>PySem.W.kIn_of Y) ?F
 case F =>
  intro w mg fa h KX G hmg
  exact _root_.G.fin (_root_.G.Qt KX G).1 (_root_.G.Qt KX G).2 hmg
