import PyProof.Rows.All
import Wide.All
import OpenK.AllK
import Wide.FinOn
import PySem.Challenge.RW_foldlines_k05_whole_texts_written_and_re
import HandS.ForMost
import HandS.ForExc
import HandS.IsInst
import HandS.Evl
import HandS.DictComp
import HandS.Zip
import HandS.Star
import HandS.Walk
import HandS.Words
import KE.GoesEnum
import HandS.ListItems
import HandS.Set
import HandS.TupAny
import HandS.ExcInit
import HandS.ExcIs
import HandS.ExcField
import HandS.Property
import HandS.ClsMeth
import HandS.More
import KE.KDictLaws
import HandS.Lambda
import HandS.Style
import HandS.Nested
import KE.KSuper
import HandS.FStr
import HandS.RaiseMore
import HandS.Defaults
import KE.KTypeName
import HandS.DictEq
import PyProof.StrLawsRepr
import HandS.EndTab
import HandS.Ends
section
set_option Elab.async false
set_option linter.all false
open PySem PySem.W PyProof.Rows
def PySem.W.Fast.tw3289918731855064064 : Unit := ()
def PySem.W.Fast.tw17984492376840428576 : Unit := ()
def PySem.W.Fast.tw10513186322592641152 : Unit := ()
def PySem.W.Fast.tw7248249928598165728 : Unit := ()
def PySem.W.Fast.tw6423400914000543040 : Unit := ()
def PySem.W.Fast.tw1746117794468889952 : Unit := ()
def PySem.W.Fast.tw467456984123857312 : Unit := ()
def PySem.W.Fast.tw329660810614656448 : Unit := ()
def PySem.W.Fast.tw3102353649147507168 : Unit := ()
def PySem.W.Fast.tw15177659614028990016 : Unit := ()
def PySem.W.Fast.tw11395687083039100608 : Unit := ()
def PySem.W.Fast.tw240377518659065536 : Unit := ()
def PySem.W.Fast.tw6870132366648968928 : Unit := ()
def PySem.W.Fast.tw1939582561304488672 : Unit := ()
def PySem.W.Fast.tw4330316508963879648 : Unit := ()
def PySem.W.Fast.tw13317783033182895872 : Unit := ()
def PySem.W.Fast.tw15868090638559013664 : Unit := ()
def PySem.W.Fast.tw18125367858662115104 : Unit := ()
def PySem.W.Fast.tw9636051561093770048 : Unit := ()
def PySem.W.Fast.tw4927408311532554080 : Unit := ()
def PySem.W.Fast.tw10837539927362708352 : Unit := ()
def PySem.W.Fast.tw16545588363315116960 : Unit := ()
def PySem.W.Fast.tw5203101888708643776 : Unit := ()
def PySem.W.Fast.tw5087478793327120385 : Unit := ()
def PySem.W.Fast.tw14549481830510007329 : Unit := ()
def PySem.W.Fast.tw12000563617590577217 : Unit := ()
def PySem.W.Fast.tw2652598610690780257 : Unit := ()
def PySem.W.Fast.tw16821117200717525121 : Unit := ()
def PySem.W.Fast.tw11491240378708665569 : Unit := ()
def PySem.W.Fast.tw10665507714745876737 : Unit := ()
def PySem.W.Fast.tw14169689009099020577 : Unit := ()
def PySem.W.Fast.tw5540118721027689793 : Unit := ()
def PySem.W.Fast.tw11342155563757684129 : Unit := ()
def PySem.W.Fast.tw7545856289375682017 : Unit := ()
def PySem.W.Fast.tw11312073952644071969 : Unit := ()
def PySem.W.Fast.tw11808313246541149729 : Unit := ()
def PySem.W.Fast.tw15439694151228576385 : Unit := ()
def PySem.W.Fast.tw9151124166431495873 : Unit := ()
def PySem.W.Fast.tw1015029864699713217 : Unit := ()
def PySem.W.Fast.tw16659972278061319905 : Unit := ()
def PySem.W.Fast.tw4820487187667707681 : Unit := ()
def PySem.W.Fast.tw13049614080823627585 : Unit := ()
def PySem.W.Fast.tw16658394448132889409 : Unit := ()
def PySem.W.Fast.tw9692273035817171809 : Unit := ()
def PySem.W.Fast.tw16631415048195751777 : Unit := ()
def PySem.W.Fast.tw7287999375736222593 : Unit := ()
def PySem.W.Fast.tw18288551774523782049 : Unit := ()
def PySem.W.Fast.tw14992662890819149761 : Unit := ()
def PySem.W.Fast.tw2329277781761478593 : Unit := ()
def PySem.W.Fast.tw5021076667075734594 : Unit := ()
def PySem.W.Fast.tw2026631707705031746 : Unit := ()
def PySem.W.Fast.tw15777129095026818 : Unit := ()
def PySem.W.Fast.tw5803937106509079714 : Unit := ()
def PySem.W.Fast.tw8474838405749824706 : Unit := ()
def PySem.W.Fast.tw14710104666591966466 : Unit := ()
def PySem.W.Fast.tw17041749204570153250 : Unit := ()
def PySem.W.Fast.tw6023988423523559714 : Unit := ()
def PySem.W.Fast.tw3950875830862037378 : Unit := ()
def PySem.W.Fast.tw13670230601636086306 : Unit := ()
def PySem.W.Fast.tw389526343277257282 : Unit := ()
def PySem.W.Fast.tw9434809724272179810 : Unit := ()
def PySem.W.Fast.tw13059979135287529122 : Unit := ()
def PySem.W.Fast.tw14454547577420068514 : Unit := ()
def PySem.W.Fast.tw421962509012661026 : Unit := ()
def PySem.W.Fast.tw13826158536188605250 : Unit := ()
def PySem.W.Fast.tw6798302565615716162 : Unit := ()
def PySem.W.Fast.tw10849383840353189730 : Unit := ()
def PySem.W.Fast.tw18437981161093272482 : Unit := ()
def PySem.W.Fast.tw1365430172788919299 : Unit := ()
def PySem.W.Fast.tw9264922889030658147 : Unit := ()
def PySem.W.Fast.tw9515485052505385059 : Unit := ()
def PySem.W.Fast.tw14105912317472693443 : Unit := ()
def PySem.W.Fast.tw11758714263643555139 : Unit := ()
def PySem.W.Fast.tw14592124898939404643 : Unit := ()
def PySem.W.Fast.tw13608519292373668195 : Unit := ()
def PySem.W.Fast.tw8439467318549120451 : Unit := ()
def PySem.W.Fast.tw5169496504423920131 : Unit := ()
def PySem.W.Fast.tw2125320122893508131 : Unit := ()
def PySem.W.Fast.tw12342489937126569571 : Unit := ()
def PySem.W.Fast.tw12718235047329495747 : Unit := ()
def PySem.W.Fast.tw16042139568839633603 : Unit := ()
def PySem.W.Fast.tw9191442339969418979 : Unit := ()
def PySem.W.Fast.tw11177714544504039171 : Unit := ()
def PySem.W.Fast.tw10748690834333806371 : Unit := ()
def PySem.W.Fast.tw16773237690323419075 : Unit := ()
def PySem.W.Fast.tw3308310473096404996 : Unit := ()
def PySem.W.Fast.tw6624148362569834596 : Unit := ()
def PySem.W.Fast.tw9504117487192629380 : Unit := ()
def PySem.W.Fast.tw4692704464698991780 : Unit := ()
def PySem.W.Fast.tw2424996495004223716 : Unit := ()
def PySem.W.Fast.tw11912405618131501380 : Unit := ()
def PySem.W.Fast.tw3855657371099404612 : Unit := ()
def PySem.W.Fast.tw16487729473344422244 : Unit := ()
def PySem.W.Fast.tw8130219388500266436 : Unit := ()
def PySem.W.Fast.tw2136153783108184612 : Unit := ()
def PySem.W.Fast.tw795391649099297316 : Unit := ()
def PySem.W.Fast.tw3877809425667096100 : Unit := ()
def PySem.W.Fast.tw10231584005601384004 : Unit := ()
def PySem.W.Fast.tw1750616471088413284 : Unit := ()
def PySem.W.Fast.tw4976953719520723588 : Unit := ()
def PySem.W.Fast.tw4185155838257272516 : Unit := ()
def PySem.W.Fast.tw6671128990625221316 : Unit := ()
def PySem.W.Fast.tw10877304854014653124 : Unit := ()
def PySem.W.Fast.tw15917806031570366212 : Unit := ()
def PySem.W.Fast.tw9056571406649590564 : Unit := ()
def PySem.W.Fast.tw2038078455781741380 : Unit := ()
def PySem.W.Fast.tw7805481705721093956 : Unit := ()
def PySem.W.Fast.tw2586615403369438084 : Unit := ()
def PySem.W.Fast.tw1800312830110113668 : Unit := ()
def PySem.W.Fast.tw5030734429585039236 : Unit := ()
def PySem.W.Fast.tw16542553184093802501 : Unit := ()
def PySem.W.Fast.tw43470423911262245 : Unit := ()
def PySem.W.Fast.tw3420625201386892357 : Unit := ()
def PySem.W.Fast.tw6522450526815469669 : Unit := ()
def PySem.W.Fast.tw6878469644515704965 : Unit := ()
def PySem.W.Fast.tw12520963361318157445 : Unit := ()
def PySem.W.Fast.tw9534559620388994245 : Unit := ()
def PySem.W.Fast.tw11973273705185374469 : Unit := ()
def PySem.W.Fast.tw10195836537902239045 : Unit := ()
def PySem.W.Fast.tw5506328342054074693 : Unit := ()
def PySem.W.Fast.tw9428179779865010565 : Unit := ()
def PySem.W.Fast.tw6482883931341416901 : Unit := ()
def PySem.W.Fast.tw1167637127182942789 : Unit := ()
def PySem.W.Fast.tw4516086596568639141 : Unit := ()
def PySem.W.Fast.tw10139940471090733733 : Unit := ()
def PySem.W.Fast.tw2160023539540309765 : Unit := ()
def PySem.W.Fast.tw15916418984219734853 : Unit := ()
def PySem.W.Fast.tw15659396684375249765 : Unit := ()
def PySem.W.Fast.tw2733063305453822821 : Unit := ()
def PySem.W.Fast.tw15796349872256217989 : Unit := ()
def PySem.W.Fast.tw138431292531965829 : Unit := ()
def PySem.W.Fast.tw15674819392780501925 : Unit := ()
def PySem.W.Fast.tw11875113814188083109 : Unit := ()
def PySem.W.Fast.tw6712261719381308357 : Unit := ()
def PySem.W.Fast.tw831795260902931462 : Unit := ()
def PySem.W.Fast.tw7181944285457772710 : Unit := ()
def PySem.W.Fast.tw8711620474904212678 : Unit := ()
def PySem.W.Fast.tw6456799637296555302 : Unit := ()
def PySem.W.Fast.tw12737288549904530790 : Unit := ()
def PySem.W.Fast.tw17355447859697686918 : Unit := ()
def PySem.W.Fast.tw17233682249597806982 : Unit := ()
def PySem.W.Fast.tw16115441305316056486 : Unit := ()
def PySem.W.Fast.tw17755190816659851782 : Unit := ()
def PySem.W.Fast.tw11613815124713537062 : Unit := ()
def PySem.W.Fast.tw2211924313838836262 : Unit := ()
def PySem.W.Fast.tw3923040492996033190 : Unit := ()
def PySem.W.Fast.tw13531840109212765862 : Unit := ()
def PySem.W.Fast.tw7807406436460463910 : Unit := ()
def PySem.W.Fast.tw13077219183289640742 : Unit := ()
def PySem.W.Fast.tw16510566858406431590 : Unit := ()
def PySem.W.Fast.tw8385569488812028902 : Unit := ()
def PySem.W.Fast.tw10467369014907110503 : Unit := ()
def PySem.W.Fast.tw15937958772411976839 : Unit := ()
def PySem.W.Fast.tw16818815184760152263 : Unit := ()
def PySem.W.Fast.tw14222233428828096743 : Unit := ()
def PySem.W.Fast.tw4426597204084704487 : Unit := ()
def PySem.W.Fast.tw2065180174922044679 : Unit := ()
def PySem.W.Fast.tw12995824634452645127 : Unit := ()
def PySem.W.Fast.tw18183843260770094375 : Unit := ()
def PySem.W.Fast.tw10934575970225134919 : Unit := ()
def PySem.W.Fast.tw8107250928200197511 : Unit := ()
def PySem.W.Fast.tw15594959584550988167 : Unit := ()
def PySem.W.Fast.tw14185982052941122055 : Unit := ()
def PySem.W.Fast.tw11896537824995800679 : Unit := ()
def PySem.W.Fast.tw6071892650109492967 : Unit := ()
def PySem.W.Fast.tw18012452306122464328 : Unit := ()
def PySem.W.Fast.tw9196362389397626024 : Unit := ()
def PySem.W.Fast.tw16724102307484915912 : Unit := ()
def PySem.W.Fast.tw3952835837178644808 : Unit := ()
def PySem.W.Fast.tw1006814797416987112 : Unit := ()
def PySem.W.Fast.tw5631207062206363176 : Unit := ()
def PySem.W.Fast.tw8575651735484408360 : Unit := ()
def PySem.W.Fast.tw9321539603746463304 : Unit := ()
def PySem.W.Fast.tw7634033224628914760 : Unit := ()
def PySem.W.Fast.tw11985810371717610088 : Unit := ()
def PySem.W.Fast.tw13954263282021479048 : Unit := ()
def PySem.W.Fast.tw7788019279769723528 : Unit := ()
def PySem.W.Fast.tw8343650708162770696 : Unit := ()
def PySem.W.Fast.tw13312544398596149064 : Unit := ()
def PySem.W.Fast.tw3542505741968950409 : Unit := ()
def PySem.W.Fast.tw16481095951914429577 : Unit := ()
def PySem.W.Fast.tw13403863924842723529 : Unit := ()
def PySem.W.Fast.tw16248479590869710057 : Unit := ()
def PySem.W.Fast.tw7815941045186686185 : Unit := ()
def PySem.W.Fast.tw15932062322555681385 : Unit := ()
def PySem.W.Fast.tw6545155763286490761 : Unit := ()
def PySem.W.Fast.tw12525590245190125225 : Unit := ()
def PySem.W.Fast.tw8046840150805948105 : Unit := ()
def PySem.W.Fast.tw3358149836819777257 : Unit := ()
def PySem.W.Fast.tw733171033535800041 : Unit := ()
def PySem.W.Fast.tw1588280304731275017 : Unit := ()
def PySem.W.Fast.tw10031153182017498921 : Unit := ()
def PySem.W.Fast.tw9706448989670935369 : Unit := ()
def PySem.W.Fast.tw18109771688219663209 : Unit := ()
def PySem.W.Fast.tw9681183295899101033 : Unit := ()
def PySem.W.Fast.tw2861799576523762537 : Unit := ()
def PySem.W.Fast.tw10219773153687903177 : Unit := ()
def PySem.W.Fast.tw2188139101473685481 : Unit := ()
def PySem.W.Fast.tw6520172914785521706 : Unit := ()
def PySem.W.Fast.tw11623520853144895562 : Unit := ()
def PySem.W.Fast.tw3966027948116570218 : Unit := ()
def PySem.W.Fast.tw9644699639159799946 : Unit := ()
def PySem.W.Fast.tw13055001524067343530 : Unit := ()
def PySem.W.Fast.tw7840913952567120042 : Unit := ()
def PySem.W.Fast.tw14745708546369158346 : Unit := ()
def PySem.W.Fast.tw2809142521982671082 : Unit := ()
def PySem.W.Fast.tw15328122406051490026 : Unit := ()
def PySem.W.Fast.tw13699115248824115562 : Unit := ()
def PySem.W.Fast.tw13474982046934623658 : Unit := ()
def PySem.W.Fast.tw7104364166953197034 : Unit := ()
def PySem.W.Fast.tw5232204058847247850 : Unit := ()
def PySem.W.Fast.tw7925712532238532074 : Unit := ()
def PySem.W.Fast.tw5449940579048464970 : Unit := ()
def PySem.W.Fast.tw11731429274537426506 : Unit := ()
def PySem.W.Fast.tw14455284867579054730 : Unit := ()
def PySem.W.Fast.tw11887000228592068266 : Unit := ()
def PySem.W.Fast.tw12678919465737263818 : Unit := ()
def PySem.W.Fast.tw16316159521370324682 : Unit := ()
def PySem.W.Fast.tw12501473323118177002 : Unit := ()
def PySem.W.Fast.tw8080084831575389962 : Unit := ()
def PySem.W.Fast.tw11816257392500467530 : Unit := ()
def PySem.W.Fast.tw18338451008594826218 : Unit := ()
def PySem.W.Fast.tw3089150066395773930 : Unit := ()
def PySem.W.Fast.tw16155973134811905035 : Unit := ()
def PySem.W.Fast.tw8438241281439812683 : Unit := ()
def PySem.W.Fast.tw14396443064307520683 : Unit := ()
def PySem.W.Fast.tw6198261576717255851 : Unit := ()
def PySem.W.Fast.tw17415847281875306699 : Unit := ()
def PySem.W.Fast.tw16204190858700812587 : Unit := ()
def PySem.W.Fast.tw18144940875741638955 : Unit := ()
def PySem.W.Fast.tw10545969089930885515 : Unit := ()
def PySem.W.Fast.tw7606280519669522923 : Unit := ()
def PySem.W.Fast.tw15031499803186493931 : Unit := ()
def PySem.W.Fast.tw2523855305618778667 : Unit := ()
def PySem.W.Fast.tw11775597293355739723 : Unit := ()
def PySem.W.Fast.tw6121856463732690539 : Unit := ()
def PySem.W.Fast.tw5683239226861849259 : Unit := ()
def PySem.W.Fast.tw1018456476194935499 : Unit := ()
def PySem.W.Fast.tw8790916824787794635 : Unit := ()
def PySem.W.Fast.tw8367476773552181963 : Unit := ()
def PySem.W.Fast.tw764104791153797867 : Unit := ()
def PySem.W.Fast.tw14206927091475901163 : Unit := ()
def PySem.W.Fast.tw8791174925053168427 : Unit := ()
def PySem.W.Fast.tw6591504926237476747 : Unit := ()
def PySem.W.Fast.tw16180178236744682411 : Unit := ()
def PySem.W.Fast.tw5550259846366421004 : Unit := ()
def PySem.W.Fast.tw5551655235498550316 : Unit := ()
def PySem.W.Fast.tw10533781884223681612 : Unit := ()
def PySem.W.Fast.tw7475302966843600972 : Unit := ()
def PySem.W.Fast.tw14787564922147501228 : Unit := ()
def PySem.W.Fast.tw2814773676217417932 : Unit := ()
def PySem.W.Fast.tw14784705353857924332 : Unit := ()
def PySem.W.Fast.tw14417376715959591180 : Unit := ()
def PySem.W.Fast.tw11342116410694501644 : Unit := ()
def PySem.W.Fast.tw2625153351928488236 : Unit := ()
def PySem.W.Fast.tw1344963265861857612 : Unit := ()
def PySem.W.Fast.tw15391254982141395276 : Unit := ()
def PySem.W.Fast.tw9083294289539112300 : Unit := ()
def PySem.W.Fast.tw18014059204905320812 : Unit := ()
def PySem.W.Fast.tw13850624834517518860 : Unit := ()
def PySem.W.Fast.tw7561790066602591788 : Unit := ()
def PySem.W.Fast.tw11747746449598830124 : Unit := ()
def PySem.W.Fast.tw13525967749039708748 : Unit := ()
def PySem.W.Fast.tw15605140618727573068 : Unit := ()
def PySem.W.Fast.tw8128212547250991692 : Unit := ()
def PySem.W.Fast.tw5448375034934298252 : Unit := ()
def PySem.W.Fast.tw12557002663340710604 : Unit := ()
def PySem.W.Fast.tw2984797594191306508 : Unit := ()
def PySem.W.Fast.tw10166151060940188428 : Unit := ()
def PySem.W.Fast.tw12701323279265535916 : Unit := ()
def PySem.W.Fast.tw1052312419863486477 : Unit := ()
def PySem.W.Fast.tw5964818622571451469 : Unit := ()
def PySem.W.Fast.tw4603529329876224109 : Unit := ()
def PySem.W.Fast.tw782392633372206189 : Unit := ()
def PySem.W.Fast.tw4274679733391655181 : Unit := ()
def PySem.W.Fast.tw9798355790925639981 : Unit := ()
def PySem.W.Fast.tw16961280762861483405 : Unit := ()
def PySem.W.Fast.tw3551429881133700525 : Unit := ()
def PySem.W.Fast.tw12447651304019275181 : Unit := ()
def PySem.W.Fast.tw951496337348630989 : Unit := ()
def PySem.W.Fast.tw7625788525706224109 : Unit := ()
def PySem.W.Fast.tw6584516308378834413 : Unit := ()
def PySem.W.Fast.tw5109787024721899021 : Unit := ()
def PySem.W.Fast.tw17780782315327597165 : Unit := ()
def PySem.W.Fast.tw14212337875755355757 : Unit := ()
def PySem.W.Fast.tw12154913035414747885 : Unit := ()
def PySem.W.Fast.tw12083194763427254029 : Unit := ()
def PySem.W.Fast.tw1334946123588674349 : Unit := ()
def PySem.W.Fast.tw7891447671731081005 : Unit := ()
def PySem.W.Fast.tw6639005632249329581 : Unit := ()
def PySem.W.Fast.tw8773959156365721517 : Unit := ()
def PySem.W.Fast.tw3744228017382589389 : Unit := ()
def PySem.W.Fast.tw6760317706201178190 : Unit := ()
def PySem.W.Fast.tw6398617578893419598 : Unit := ()
def PySem.W.Fast.tw15957670855882365006 : Unit := ()
def PySem.W.Fast.tw15556902670234396878 : Unit := ()
def PySem.W.Fast.tw9400106894367051982 : Unit := ()
def PySem.W.Fast.tw7315302940444591598 : Unit := ()
def PySem.W.Fast.tw6422848591840398830 : Unit := ()
def PySem.W.Fast.tw17262145501398192622 : Unit := ()
def PySem.W.Fast.tw1782366095567214094 : Unit := ()
def PySem.W.Fast.tw1566046841029809678 : Unit := ()
def PySem.W.Fast.tw12893322167387060750 : Unit := ()
def PySem.W.Fast.tw16998247918362032750 : Unit := ()
def PySem.W.Fast.tw15973715890552248046 : Unit := ()
def PySem.W.Fast.tw3296186289250754350 : Unit := ()
def PySem.W.Fast.tw8154240235843320654 : Unit := ()
def PySem.W.Fast.tw4645079541940178766 : Unit := ()
def PySem.W.Fast.tw16320124653164977998 : Unit := ()
def PySem.W.Fast.tw2690148724208393102 : Unit := ()
def PySem.W.Fast.tw5925473983771189166 : Unit := ()
def PySem.W.Fast.tw10587391620060750766 : Unit := ()
def PySem.W.Fast.tw5884193514836118478 : Unit := ()
def PySem.W.Fast.tw7433149517094610959 : Unit := ()
def PySem.W.Fast.tw1510185292238070831 : Unit := ()
def PySem.W.Fast.tw9270400382360166575 : Unit := ()
def PySem.W.Fast.tw14450803772459809999 : Unit := ()
def PySem.W.Fast.tw6283560025802841519 : Unit := ()
def PySem.W.Fast.tw15254299436829881775 : Unit := ()
def PySem.W.Fast.tw8435951004344001007 : Unit := ()
def PySem.W.Fast.tw4359572513888241199 : Unit := ()
def PySem.W.Fast.tw15184803279552141935 : Unit := ()
def PySem.W.Fast.tw1071640048170453775 : Unit := ()
def PySem.W.Fast.tw17718480583894371183 : Unit := ()
def PySem.W.Fast.tw8080635666625467311 : Unit := ()
def PySem.W.Fast.tw8242033221858936751 : Unit := ()
def PySem.W.Fast.tw9466708165666931760 : Unit := ()
def PySem.W.Fast.tw13799616823168290864 : Unit := ()
def PySem.W.Fast.tw12513479572925905008 : Unit := ()
def PySem.W.Fast.tw1987485773781435568 : Unit := ()
def PySem.W.Fast.tw12675026490351026384 : Unit := ()
def PySem.W.Fast.tw9280166644554343696 : Unit := ()
def PySem.W.Fast.tw4066240665757862160 : Unit := ()
def PySem.W.Fast.tw1592162930910909712 : Unit := ()
def PySem.W.Fast.tw2267069184702055728 : Unit := ()
def PySem.W.Fast.tw16677037594996708656 : Unit := ()
def PySem.W.Fast.tw3298985917974436240 : Unit := ()
def PySem.W.Fast.tw2326585461154757040 : Unit := ()
def PySem.W.Fast.tw14771815157787485648 : Unit := ()
def PySem.W.Fast.tw17833613558174379504 : Unit := ()
def PySem.W.Fast.tw16033451802140158480 : Unit := ()
def PySem.W.Fast.tw5087766501381346864 : Unit := ()
def PySem.W.Fast.tw17723611136258084432 : Unit := ()
def PySem.W.Fast.tw6354798510006686320 : Unit := ()
def PySem.W.Fast.tw16427387696191167248 : Unit := ()
def PySem.W.Fast.tw15299040077584628496 : Unit := ()
def PySem.W.Fast.tw6839215495202668400 : Unit := ()
def PySem.W.Fast.tw13273304691341283248 : Unit := ()
def PySem.W.Fast.tw13761103860237091792 : Unit := ()
def PySem.W.Fast.tw7386974955374431345 : Unit := ()
def PySem.W.Fast.tw6243367011886410897 : Unit := ()
def PySem.W.Fast.tw14316008593346899121 : Unit := ()
def PySem.W.Fast.tw3917690936926251313 : Unit := ()
def PySem.W.Fast.tw18337108322450263345 : Unit := ()
def PySem.W.Fast.tw18152311230711347537 : Unit := ()
def PySem.W.Fast.tw14919055088861826385 : Unit := ()
def PySem.W.Fast.tw10616045352199644497 : Unit := ()
def PySem.W.Fast.tw2438132133916116433 : Unit := ()
def PySem.W.Fast.tw4794414582592745009 : Unit := ()
def PySem.W.Fast.tw9871392792128243281 : Unit := ()
def PySem.W.Fast.tw7755623994325165745 : Unit := ()
def PySem.W.Fast.tw4690501183213114129 : Unit := ()
def PySem.W.Fast.tw10966504569555984305 : Unit := ()
def PySem.W.Fast.tw5373902471610422225 : Unit := ()
def PySem.W.Fast.tw6320721749549983697 : Unit := ()
def PySem.W.Fast.tw2587500040514669618 : Unit := ()
def PySem.W.Fast.tw17630048558782651474 : Unit := ()
def PySem.W.Fast.tw8800341042310804594 : Unit := ()
def PySem.W.Fast.tw5815617149281014994 : Unit := ()
def PySem.W.Fast.tw11318112479753979122 : Unit := ()
def PySem.W.Fast.tw1494397805515409714 : Unit := ()
def PySem.W.Fast.tw5920581432344517970 : Unit := ()
def PySem.W.Fast.tw3981740452089193810 : Unit := ()
def PySem.W.Fast.tw17357794136990206354 : Unit := ()
def PySem.W.Fast.tw15504869883812172210 : Unit := ()
def PySem.W.Fast.tw17856866849194867186 : Unit := ()
def PySem.W.Fast.tw2661343025513535986 : Unit := ()
def PySem.W.Fast.tw4431032508505439794 : Unit := ()
def PySem.W.Fast.tw9702054599209397874 : Unit := ()
def PySem.W.Fast.tw1044333222747531922 : Unit := ()
def PySem.W.Fast.tw2950393663081413298 : Unit := ()
def PySem.W.Fast.tw2311718305627379410 : Unit := ()
def PySem.W.Fast.tw1867198185728179986 : Unit := ()
def PySem.W.Fast.tw16010625115458267954 : Unit := ()
def PySem.W.Fast.tw5363436537293145970 : Unit := ()
def PySem.W.Fast.tw14309269394293194706 : Unit := ()
def PySem.W.Fast.tw17795724966038745074 : Unit := ()
def PySem.W.Fast.tw5122568023335711763 : Unit := ()
def PySem.W.Fast.tw3640833749222822931 : Unit := ()
def PySem.W.Fast.tw3449636648467878963 : Unit := ()
def PySem.W.Fast.tw11632917469232557139 : Unit := ()
def PySem.W.Fast.tw15490967133736607891 : Unit := ()
def PySem.W.Fast.tw8166764087556446515 : Unit := ()
def PySem.W.Fast.tw5502211815164616019 : Unit := ()
def PySem.W.Fast.tw12355537721526089043 : Unit := ()
def PySem.W.Fast.tw16917124987652177331 : Unit := ()
def PySem.W.Fast.tw13379377522756301267 : Unit := ()
def PySem.W.Fast.tw12722012370012331571 : Unit := ()
def PySem.W.Fast.tw15793766934833570355 : Unit := ()
def PySem.W.Fast.tw7404366083635306067 : Unit := ()
def PySem.W.Fast.tw3923580469507038867 : Unit := ()
def PySem.W.Fast.tw8007644669649392275 : Unit := ()
def PySem.W.Fast.tw8458642142229566131 : Unit := ()
def PySem.W.Fast.tw6851314221158153907 : Unit := ()
def PySem.W.Fast.tw6161412018987485875 : Unit := ()
def PySem.W.Fast.tw6614698626008332051 : Unit := ()
def PySem.W.Fast.tw15384577628124516147 : Unit := ()
def PySem.W.Fast.tw8180185412748911411 : Unit := ()
def PySem.W.Fast.tw4579784752913556275 : Unit := ()
def PySem.W.Fast.tw10286820537652195123 : Unit := ()
def PySem.W.Fast.tw15040170714707626835 : Unit := ()
def PySem.W.Fast.tw13464573104339762035 : Unit := ()
def PySem.W.Fast.tw11786364587946362739 : Unit := ()
def PySem.W.Fast.tw10907489255290788723 : Unit := ()
def PySem.W.Fast.tw9635463931781279603 : Unit := ()
def PySem.W.Fast.tw14751734601622955955 : Unit := ()
def PySem.W.Fast.tw13895382647513952179 : Unit := ()
def PySem.W.Fast.tw6873858802579790771 : Unit := ()
def PySem.W.Fast.tw5656296145454238707 : Unit := ()
def PySem.W.Fast.tw18274194316503624756 : Unit := ()
def PySem.W.Fast.tw10049589641338174644 : Unit := ()
def PySem.W.Fast.tw15219039366021479700 : Unit := ()
def PySem.W.Fast.tw6090730614901267892 : Unit := ()
def PySem.W.Fast.tw10183887268793631188 : Unit := ()
def PySem.W.Fast.tw8721184321699008180 : Unit := ()
def PySem.W.Fast.tw17550551005736431316 : Unit := ()
def PySem.W.Fast.tw4537414826516153140 : Unit := ()
def PySem.W.Fast.tw14852506162036509652 : Unit := ()
def PySem.W.Fast.tw14763358354779910100 : Unit := ()
def PySem.W.Fast.tw9482895193328769012 : Unit := ()
def PySem.W.Fast.tw11943173237320753333 : Unit := ()
def PySem.W.Fast.tw7886574051798983861 : Unit := ()
def PySem.W.Fast.tw9943503331668463861 : Unit := ()
def PySem.W.Fast.tw12249693240605527285 : Unit := ()
def PySem.W.Fast.tw16342938648504635637 : Unit := ()
def PySem.W.Fast.tw17517660824532232565 : Unit := ()
def PySem.W.Fast.tw2588218642555726229 : Unit := ()
def PySem.W.Fast.tw3485688434030964117 : Unit := ()
def PySem.W.Fast.tw7156484242398668213 : Unit := ()
def PySem.W.Fast.tw16649469951377778133 : Unit := ()
def PySem.W.Fast.tw14850255012686380533 : Unit := ()
def PySem.W.Fast.tw11611497968492743189 : Unit := ()
def PySem.W.Fast.tw4270228704058006069 : Unit := ()
def PySem.W.Fast.tw7185192222388939349 : Unit := ()
def PySem.W.Fast.tw5511707935784840853 : Unit := ()
def PySem.W.Fast.tw17626819677117586101 : Unit := ()
def PySem.W.Fast.tw1776294960272283317 : Unit := ()
def PySem.W.Fast.tw888194199167481557 : Unit := ()
def PySem.W.Fast.tw17249142082507678485 : Unit := ()
def PySem.W.Fast.tw2372699296025664469 : Unit := ()
def PySem.W.Fast.tw14955546992753280150 : Unit := ()
def PySem.W.Fast.tw11488878288832817366 : Unit := ()
def PySem.W.Fast.tw8838239040979831190 : Unit := ()
def PySem.W.Fast.tw16741666929956388246 : Unit := ()
def PySem.W.Fast.tw14614206411451112886 : Unit := ()
def PySem.W.Fast.tw10328166845533268438 : Unit := ()
def PySem.W.Fast.tw3095840444306333366 : Unit := ()
def PySem.W.Fast.tw18093711532905769686 : Unit := ()
def PySem.W.Fast.tw3262048210518140630 : Unit := ()
def PySem.W.Fast.tw13666268036651943670 : Unit := ()
def PySem.W.Fast.tw8488995645337070326 : Unit := ()
def PySem.W.Fast.tw11047938506282780566 : Unit := ()
def PySem.W.Fast.tw16703543248848974774 : Unit := ()
def PySem.W.Fast.tw12934769467311945686 : Unit := ()
def PySem.W.Fast.tw9314194700650301430 : Unit := ()
def PySem.W.Fast.tw2029591955711152118 : Unit := ()
def PySem.W.Fast.tw11719859429846815767 : Unit := ()
def PySem.W.Fast.tw4695328021506702359 : Unit := ()
def PySem.W.Fast.tw5323498456991415351 : Unit := ()
def PySem.W.Fast.tw6100722476845200471 : Unit := ()
def PySem.W.Fast.tw3183324053544201335 : Unit := ()
def PySem.W.Fast.tw18107313897892342903 : Unit := ()
def PySem.W.Fast.tw8832969047160377495 : Unit := ()
def PySem.W.Fast.tw6367912763472287927 : Unit := ()
def PySem.W.Fast.tw959129599419963703 : Unit := ()
def PySem.W.Fast.tw2028548717343299927 : Unit := ()
def PySem.W.Fast.tw12806998243439059383 : Unit := ()
def PySem.W.Fast.tw909435624303064727 : Unit := ()
def PySem.W.Fast.tw8268738908090621655 : Unit := ()
def PySem.W.Fast.tw8567438497931327191 : Unit := ()
def PySem.W.Fast.tw16419256544262553303 : Unit := ()
def PySem.W.Fast.tw14635477172712526647 : Unit := ()
def PySem.W.Fast.tw4210616676995049335 : Unit := ()
def PySem.W.Fast.tw14736731515635173271 : Unit := ()
def PySem.W.Fast.tw11028574558619590647 : Unit := ()
def PySem.W.Fast.tw8744096336257855512 : Unit := ()
def PySem.W.Fast.tw18093366638838280280 : Unit := ()
def PySem.W.Fast.tw14467665749623805176 : Unit := ()
def PySem.W.Fast.tw14350773185556087064 : Unit := ()
def PySem.W.Fast.tw10096539442623100280 : Unit := ()
def PySem.W.Fast.tw11463627114226433464 : Unit := ()
def PySem.W.Fast.tw9534282102786034136 : Unit := ()
def PySem.W.Fast.tw8999331693512785400 : Unit := ()
def PySem.W.Fast.tw10485298731915784824 : Unit := ()
def PySem.W.Fast.tw17649306979554348696 : Unit := ()
def PySem.W.Fast.tw16370553332537381528 : Unit := ()
def PySem.W.Fast.tw6744936010218782392 : Unit := ()
def PySem.W.Fast.tw2366445407364029176 : Unit := ()
def PySem.W.Fast.tw14195643431732524792 : Unit := ()
def PySem.W.Fast.tw336828574152022840 : Unit := ()
def PySem.W.Fast.tw3804779086953002872 : Unit := ()
def PySem.W.Fast.tw6537204643121798040 : Unit := ()
def PySem.W.Fast.tw16688555791711469464 : Unit := ()
def PySem.W.Fast.tw15644404114159087576 : Unit := ()
def PySem.W.Fast.tw2728179775693111256 : Unit := ()
def PySem.W.Fast.tw12881347641861859288 : Unit := ()
def PySem.W.Fast.tw13885177284676374585 : Unit := ()
def PySem.W.Fast.tw10189679988905915641 : Unit := ()
def PySem.W.Fast.tw18378296587376824601 : Unit := ()
def PySem.W.Fast.tw16816664195765415289 : Unit := ()
def PySem.W.Fast.tw822132188734993817 : Unit := ()
def PySem.W.Fast.tw16623283985413326233 : Unit := ()
def PySem.W.Fast.tw2811743250873203129 : Unit := ()
def PySem.W.Fast.tw14958771257915225529 : Unit := ()
def PySem.W.Fast.tw5899806162377320921 : Unit := ()
def PySem.W.Fast.tw17729723534268658169 : Unit := ()
def PySem.W.Fast.tw10349108744419312185 : Unit := ()
def PySem.W.Fast.tw15794492004287086169 : Unit := ()
def PySem.W.Fast.tw15449030336399795897 : Unit := ()
def PySem.W.Fast.tw13304657281117263545 : Unit := ()
def PySem.W.Fast.tw1660913229657410265 : Unit := ()
def PySem.W.Fast.tw15270291127041527705 : Unit := ()
def PySem.W.Fast.tw8080141540847883225 : Unit := ()
def PySem.W.Fast.tw6798032665914772473 : Unit := ()
def PySem.W.Fast.tw9720304396792629274 : Unit := ()
def PySem.W.Fast.tw18235288620744212506 : Unit := ()
def PySem.W.Fast.tw10339870103892961338 : Unit := ()
def PySem.W.Fast.tw15796999780212661338 : Unit := ()
def PySem.W.Fast.tw12684250669632935098 : Unit := ()
def PySem.W.Fast.tw3987287177792136410 : Unit := ()
def PySem.W.Fast.tw3721913839548007738 : Unit := ()
def PySem.W.Fast.tw170775695966850362 : Unit := ()
def PySem.W.Fast.tw5690221335535948154 : Unit := ()
def PySem.W.Fast.tw16423923037592706458 : Unit := ()
def PySem.W.Fast.tw4535992813647782330 : Unit := ()
def PySem.W.Fast.tw9338367379571167706 : Unit := ()
def PySem.W.Fast.tw2998078990510877146 : Unit := ()
def PySem.W.Fast.tw1600546809797386746 : Unit := ()
def PySem.W.Fast.tw16236726836844445274 : Unit := ()
def PySem.W.Fast.tw12564130024397936282 : Unit := ()
def PySem.W.Fast.tw17057141319661475610 : Unit := ()
def PySem.W.Fast.tw8151577352249536282 : Unit := ()
def PySem.W.Fast.tw7537044393055067962 : Unit := ()
def PySem.W.Fast.tw16388038388221147962 : Unit := ()
def PySem.W.Fast.tw6684592835282477914 : Unit := ()
def PySem.W.Fast.tw1505330357831388058 : Unit := ()
def PySem.W.Fast.tw9973412918917769210 : Unit := ()
def PySem.W.Fast.tw16066561606739536923 : Unit := ()
def PySem.W.Fast.tw12923486501870179387 : Unit := ()
def PySem.W.Fast.tw2698871221842657371 : Unit := ()
def PySem.W.Fast.tw10827535152599484539 : Unit := ()
def PySem.W.Fast.tw7584464644814041371 : Unit := ()
def PySem.W.Fast.tw13860726832283557243 : Unit := ()
def PySem.W.Fast.tw11722772479987900827 : Unit := ()
def PySem.W.Fast.tw16930156525401405883 : Unit := ()
def PySem.W.Fast.tw8048846694692649435 : Unit := ()
def PySem.W.Fast.tw158299549795951131 : Unit := ()
def PySem.W.Fast.tw12283869844292055579 : Unit := ()
def PySem.W.Fast.tw5268477927058211387 : Unit := ()
def PySem.W.Fast.tw17348360795851662971 : Unit := ()
def PySem.W.Fast.tw6073431001349308091 : Unit := ()
def PySem.W.Fast.tw16621833785997652667 : Unit := ()
def PySem.W.Fast.tw4669724827843712731 : Unit := ()
def PySem.W.Fast.tw2777445505949065947 : Unit := ()
def PySem.W.Fast.tw13101030424384552699 : Unit := ()
def PySem.W.Fast.tw17597383231667841787 : Unit := ()
def PySem.W.Fast.tw14921570205373619067 : Unit := ()
def PySem.W.Fast.tw9532351999620696987 : Unit := ()
def PySem.W.Fast.tw4855880705902735323 : Unit := ()
def PySem.W.Fast.tw6618824262174716923 : Unit := ()
def PySem.W.Fast.tw5739701646866910332 : Unit := ()
def PySem.W.Fast.tw10579924004653568156 : Unit := ()
def PySem.W.Fast.tw931656163656220828 : Unit := ()
def PySem.W.Fast.tw15850832263185189020 : Unit := ()
def PySem.W.Fast.tw1008851562202742972 : Unit := ()
def PySem.W.Fast.tw14992210694371694780 : Unit := ()
def PySem.W.Fast.tw12450907017263032540 : Unit := ()
def PySem.W.Fast.tw11606086751788951772 : Unit := ()
def PySem.W.Fast.tw13835431877411489084 : Unit := ()
def PySem.W.Fast.tw14593683753923555708 : Unit := ()
def PySem.W.Fast.tw2343222811318412732 : Unit := ()
def PySem.W.Fast.tw2233582504699473468 : Unit := ()
def PySem.W.Fast.tw7923881894068320828 : Unit := ()
def PySem.W.Fast.tw1539649014401034876 : Unit := ()
def PySem.W.Fast.tw1539434664554149532 : Unit := ()
def PySem.W.Fast.tw8916232054882002620 : Unit := ()
def PySem.W.Fast.tw10966091244391974620 : Unit := ()
def PySem.W.Fast.tw8345715780634050300 : Unit := ()
def PySem.W.Fast.tw13261137698285130556 : Unit := ()
def PySem.W.Fast.tw10408447434857473852 : Unit := ()
def PySem.W.Fast.tw17243508215020395356 : Unit := ()
def PySem.W.Fast.tw12986056826820351836 : Unit := ()
def PySem.W.Fast.tw14215012087989287900 : Unit := ()
def PySem.W.Fast.tw9649396779337223325 : Unit := ()
def PySem.W.Fast.tw14864555793859190941 : Unit := ()
def PySem.W.Fast.tw9738525354951699645 : Unit := ()
def PySem.W.Fast.tw900708730977396989 : Unit := ()
def PySem.W.Fast.tw2341986526673541405 : Unit := ()
def PySem.W.Fast.tw14187716794075374973 : Unit := ()
def PySem.W.Fast.tw824096963135064509 : Unit := ()
def PySem.W.Fast.tw10669849614920270301 : Unit := ()
def PySem.W.Fast.tw713271066680685021 : Unit := ()
def PySem.W.Fast.tw16160121280455975421 : Unit := ()
def PySem.W.Fast.tw5450556309968128541 : Unit := ()
def PySem.W.Fast.tw2660384099472293469 : Unit := ()
def PySem.W.Fast.tw16368532605117142717 : Unit := ()
def PySem.W.Fast.tw4762083952299209469 : Unit := ()
def PySem.W.Fast.tw6617761327504730909 : Unit := ()
def PySem.W.Fast.tw3116961110820601629 : Unit := ()
def PySem.W.Fast.tw7117103176586911517 : Unit := ()
def PySem.W.Fast.tw11761518028879781789 : Unit := ()
def PySem.W.Fast.tw14019436493427803101 : Unit := ()
def PySem.W.Fast.tw14218451397485003741 : Unit := ()
def PySem.W.Fast.tw11695752870097238078 : Unit := ()
def PySem.W.Fast.tw11132801965239400606 : Unit := ()
def PySem.W.Fast.tw11895317996438020382 : Unit := ()
def PySem.W.Fast.tw8208236219537061150 : Unit := ()
def PySem.W.Fast.tw8059350309685211454 : Unit := ()
def PySem.W.Fast.tw12852281898950796638 : Unit := ()
def PySem.W.Fast.tw12394311960861789566 : Unit := ()
def PySem.W.Fast.tw4127061912939994526 : Unit := ()
def PySem.W.Fast.tw1356724532319893918 : Unit := ()
def PySem.W.Fast.tw2617929666165987742 : Unit := ()
def PySem.W.Fast.tw12012121257096245694 : Unit := ()
def PySem.W.Fast.tw12101436763391409630 : Unit := ()
def PySem.W.Fast.tw16039143909360396766 : Unit := ()
def PySem.W.Fast.tw16154588929532159582 : Unit := ()
def PySem.W.Fast.tw17999709995887227486 : Unit := ()
def PySem.W.Fast.tw10597358261007909502 : Unit := ()
def PySem.W.Fast.tw10686571422185054878 : Unit := ()
def PySem.W.Fast.tw14689951887399425758 : Unit := ()
def PySem.W.Fast.tw17384725554324312830 : Unit := ()
def PySem.W.Fast.tw9368676083051767550 : Unit := ()
def PySem.W.Fast.tw2002642380263413502 : Unit := ()
def PySem.W.Fast.tw14846810198591735582 : Unit := ()
def PySem.W.Fast.tw3688807527420484414 : Unit := ()
def PySem.W.Fast.tw6504445064100246334 : Unit := ()
def PySem.W.Fast.tw11583398331427575710 : Unit := ()
def PySem.W.Fast.tw4242626101018008510 : Unit := ()
def PySem.W.Fast.tw12904395447919438782 : Unit := ()
def PySem.W.Fast.tw14623390193853861919 : Unit := ()
def PySem.W.Fast.tw321374350455825503 : Unit := ()
def PySem.W.Fast.tw13388840961113498751 : Unit := ()
def PySem.W.Fast.tw1207550824270522527 : Unit := ()
def PySem.W.Fast.tw15980564854783308959 : Unit := ()
def PySem.W.Fast.tw1648820463962639519 : Unit := ()
def PySem.W.Fast.tw11432721810721705151 : Unit := ()
def PySem.W.Fast.tw12635862680292796607 : Unit := ()
def PySem.W.Fast.tw6009276479597022431 : Unit := ()
def PySem.W.Fast.tw4099280708457492703 : Unit := ()
def PySem.W.Fast.tw12158484610404415743 : Unit := ()
def PySem.W.Fast.tw10393395662041784671 : Unit := ()
def PySem.W.Fast.tw3647501794355026303 : Unit := ()
def PySem.W.Fast.tw1540064661583144319 : Unit := ()
def PySem.W.Fast.tw6442730007766538687 : Unit := ()
def PySem.W.Fast.tw12049100298114620031 : Unit := ()
def PySem.W.Fast.tw14299682845451065023 : Unit := ()
def PySem.W.Fast.tw11469996766529991391 : Unit := ()
def PySem.W.Fast.tw13318998730195894015 : Unit := ()
def PySem.W.Fast.tw8134692125966392095 : Unit := ()
def PySem.W.Fast.tw16756246645476253471 : Unit := ()
def PySem.W.Fast.tw14813927849867882399 : Unit := ()
def PySem.W.Fast.tw18196766294023071743 : Unit := ()
set_option maxRecDepth 100000
set_option maxHeartbeats 0
open_top Fl.hd for PySem.Challenge.rw_foldlines_k05_whole_texts_written_and_re
end
section
set_option Elab.async false
set_option linter.all false
set_option maxRecDepth 100000
set_option maxHeartbeats 2000000
/-! Readings without their names: what is wanted of a piece of syntax as it stands. -/
namespace Fx
open PySem PySem.Spec PyProof.Rows L2
open Evl (Ex fresh_back)

/-! ### a piece of syntax as its own reading -/
@[irreducible] def RE (X : Cx) (e : Expr) : TE := fun σ H Q => ∀ pins s, Inv X pins σ H s → wpAny (model X.prog X.w) X.A (eval e X.env) (EP X pins σ Q) X.xe s
@[irreducible] def RT (X : Cx) (e : Expr) : TT := fun σ H Q => ∀ pins s, Inv X pins σ H s → wpAny (model X.prog X.w) X.A (isTrue e X.env (eval e X.env)) (TP X pins σ Q) X.xe s
@[irreducible] def RW (X : Cx) (e : Expr) : TT := fun σ H Q => ∀ wh pins s, Inv X pins σ H s → wpAny (model X.prog X.w) X.A (isTrue e X.env wh) (TP X pins σ Q) X.xe s
@[irreducible] def RA (X : Cx) (es : List Expr) : TA := fun σ H Q => ∀ pos pins s, Inv X pins σ H s → wpAny (model X.prog X.w) X.A (spliced (backTo pos (starEach es X.env))) (AP X pins σ Q) X.xe s
@[irreducible] def RS (X : Cx) (st : Stmt) : TS := fun D σ H => ∀ pins s, Inv X pins σ H s → wpAny (model X.prog X.w) X.A (exec st X.env) (SP X pins D) X.xe s
@[irreducible] def RB (X : Cx) (sts : List Stmt) : TS := fun D σ H => ∀ pins s, Inv X pins σ H s → wpAny (model X.prog X.w) X.A (execs sts X.env) (SP X pins D) X.xe s
section
variable {X : Cx} {e a b c f g o : Expr} {es : List Expr} {st : Stmt} {sts : List Stmt} {σ : L2.St} {H : Hp} {Q Q' : VK} {QB QB' : Bool → Hp → Prop} {QA QA' : List V → Hp → Prop} {D : Ends} {pos : Pos}
theorem pe_RE : PE X e (RE X e) := by delta RE; exact ⟨fun pins s σ H Q I h => h pins s I⟩
theorem pt_RT : PT X e (RT X e) := by delta RT; exact ⟨fun pins s σ H Q I h => h pins s I⟩
theorem pw_RW : PW X e (RW X e) := by delta RW; exact ⟨fun wh pins s σ H Q I h => h wh pins s I⟩
theorem pa_RA : PA X es (RA X es) := by delta RA; exact ⟨fun pos pins s σ H Q I h => h pos pins s I⟩
theorem ps_RS : PS X st (RS X st) := by delta RS; exact ⟨fun pins s σ H D I h => h pins s I⟩
theorem pss_RB : PSs X sts (RB X sts) := by delta RB; exact ⟨fun pins s σ H D I h => h pins s I⟩
theorem re_of {t : TE} (h : PE X e t) (q : t σ H Q) : RE X e σ H Q := by delta RE; exact fun pins s I => h.run pins s σ H Q I q
theorem rt_of {t : TT} (h : PT X e t) (q : t σ H QB) : RT X e σ H QB := by delta RT; exact fun pins s I => h.run pins s σ H QB I q
theorem rw_of {t : TT} (h : PW X e t) (q : t σ H QB) : RW X e σ H QB := by delta RW; exact fun wh pins s I => h.run wh pins s σ H QB I q
theorem ra_of {t : TA} (h : PA X es t) (q : t σ H QA) : RA X es σ H QA := by delta RA; exact fun pos pins s I => h.run pos pins s σ H QA I q
theorem rs_of {t : TS} (h : PS X st t) (q : t D σ H) : RS X st D σ H := by delta RS; exact fun pins s I => h.run pins s σ H D I q
theorem rb_of {t : TS} (h : PSs X sts t) (q : t D σ H) : RB X sts D σ H := by delta RB; exact fun pins s I => h.run pins s σ H D I q
theorem RE.run (h : RE X e σ H Q) : ∀ pins s, Inv X pins σ H s → wpAny (model X.prog X.w) X.A (eval e X.env) (EP X pins σ Q) X.xe s := by delta RE at h; exact h
theorem RE.made (h : ∀ pins s, Inv X pins σ H s → wpAny (model X.prog X.w) X.A (eval e X.env) (EP X pins σ Q) X.xe s) : RE X e σ H Q := by delta RE; exact h
theorem RT.run (h : RT X e σ H QB) : ∀ pins s, Inv X pins σ H s → wpAny (model X.prog X.w) X.A (isTrue e X.env (eval e X.env)) (TP X pins σ QB) X.xe s := by delta RT at h; exact h
theorem RT.made (h : ∀ pins s, Inv X pins σ H s → wpAny (model X.prog X.w) X.A (isTrue e X.env (eval e X.env)) (TP X pins σ QB) X.xe s) : RT X e σ H QB := by delta RT; exact h
theorem RW.run (h : RW X e σ H QB) : ∀ wh pins s, Inv X pins σ H s → wpAny (model X.prog X.w) X.A (isTrue e X.env wh) (TP X pins σ QB) X.xe s := by delta RW at h; exact h
theorem RW.made (h : ∀ wh pins s, Inv X pins σ H s → wpAny (model X.prog X.w) X.A (isTrue e X.env wh) (TP X pins σ QB) X.xe s) : RW X e σ H QB := by delta RW; exact h
theorem RA.run (h : RA X es σ H QA) : ∀ pos pins s, Inv X pins σ H s → wpAny (model X.prog X.w) X.A (spliced (backTo pos (starEach es X.env))) (AP X pins σ QA) X.xe s := by delta RA at h; exact h
theorem RA.made (h : ∀ pos pins s, Inv X pins σ H s → wpAny (model X.prog X.w) X.A (spliced (backTo pos (starEach es X.env))) (AP X pins σ QA) X.xe s) : RA X es σ H QA := by delta RA; exact h
theorem RS.run (h : RS X st D σ H) : ∀ pins s, Inv X pins σ H s → wpAny (model X.prog X.w) X.A (exec st X.env) (SP X pins D) X.xe s := by delta RS at h; exact h
theorem RS.made (h : ∀ pins s, Inv X pins σ H s → wpAny (model X.prog X.w) X.A (exec st X.env) (SP X pins D) X.xe s) : RS X st D σ H := by delta RS; exact h
theorem RB.run (h : RB X sts D σ H) : ∀ pins s, Inv X pins σ H s → wpAny (model X.prog X.w) X.A (execs sts X.env) (SP X pins D) X.xe s := by delta RB at h; exact h
theorem RB.made (h : ∀ pins s, Inv X pins σ H s → wpAny (model X.prog X.w) X.A (execs sts X.env) (SP X pins D) X.xe s) : RB X sts D σ H := by delta RB; exact h
theorem RE.mono (h : RE X e σ H Q) (k : ∀ v H', Q v H' → Q' v H') : RE X e σ H Q' := by delta RE at h ⊢; exact fun pins s I => thn (h pins s I) fun u s' ⟨v, H', I', r, q⟩ => ⟨v, H', I', r, k v H' q⟩
theorem RT.mono (h : RT X e σ H QB) (k : ∀ v H', QB v H' → QB' v H') : RT X e σ H QB' := by delta RT at h ⊢; exact fun pins s I => thn (h pins s I) fun u s' ⟨H', I', q⟩ => ⟨H', I', k u H' q⟩
theorem RA.mono (h : RA X es σ H QA) (k : ∀ v H', QA v H' → QA' v H') : RA X es σ H QA' := by delta RA at h ⊢; exact fun pos pins s I => thn (h pos pins s I) fun u s' ⟨v, H', I', r, q⟩ => ⟨v, H', I', r, k v H' q⟩

/-! ### expressions -/
theorem re_var (i : Nat) {x : Str} {v : V} (hs : σ[i]? = some (some v)) (h : Q v H) (hN : X.N[i]? = some x := by rfl) (hv : Vis X.env.scope x := by first | exact Or.inl rfl | exact Or.inr (Or.inl rfl) | exact Or.inr (Or.inr rfl))
    (hd : (x == ("__debug__" : Str)) = false := by decide) (hcd : (x == ("__classdict__" : Str)) = false := by decide) : RE X (.Name x pos) σ H Q := re_of (pe_var (i := i) hN hv hd hcd) ⟨v, hs, h⟩
theorem re_int {i : Int} {j} (h : Q (.int i) H) : RE X (.Constant (.int i) j pos) σ H Q := re_of pe_int h
theorem re_bl {i : Bool} {j} (h : Q (.bl i) H) : RE X (.Constant (.bool i) j pos) σ H Q := re_of pe_bl h
theorem re_non {j} (h : Q .non H) : RE X (.Constant .none j pos) σ H Q := re_of pe_non h
theorem re_str {x : Str} {j} (h : Q (.str x) H) : RE X (.Constant (.str x) j pos) σ H Q := re_of pe_str h
theorem re_glob {x : Str} {v : V} {u : Value} (hm : X.mg x = some u) (r : RelV v u) (h : Q v H) (hg : Gl X x := by rfl) (hd : (x == ("__debug__" : Str)) = false := by decide) : RE X (.Name x pos) σ H Q := re_of (pe_glob hg hm r hd) h
/-- a module's int -/
theorem re_gint {x : Str} {i : Int} (hm : ∃ t, X.mg x = some (.int i t)) (h : Q (.int i) H) (hg : Gl X x := by rfl) (hd : (x == ("__debug__" : Str)) = false := by decide) : RE X (.Name x pos) σ H Q := hm.elim fun t hm => re_of (pe_glob (v := .int i) hg hm ⟨t, rfl⟩ hd) h
theorem re_ty {x : Str} {T : String} (hm : X.mg x = none) (h : Q (.ty T) H) (hv : bootBuiltins x = some (.type T) := by decide +kernel) (hg : Gl X x := by rfl) (hn : x ≠ "__name__" := by decide) (hd : (x == ("__debug__" : Str)) = false := by decide) :
    RE X (.Name x pos) σ H Q := re_of (pe_bltn (v := .ty T) hg hm hv rfl hn hd) h
theorem re_op {op : Operator} {r : R2} (ho : OpR X (binaryOp op) r) (h : RE X a σ H fun x H1 => RE X b σ H1 fun y H2 => r x y H2 Q) : RE X (.BinOp a op b pos) σ H Q := re_of (pe_op ho pe_RE pe_RE) h
theorem re_un {op : UnaryOp} {r} (ho : UnR X (unaryOp op) r) (h : RE X a σ H fun x H1 => r x H1 Q) : RE X (.UnaryOp op a pos) σ H Q := re_of (pe_un ho pe_RE) h
theorem re_cmp {op : CmpOp} {r : R2} (ho : OpR X (compareOp op) r) (h : RE X a σ H fun x H1 => RE X b σ H1 fun y H2 => r x y H2 Q) (hm : behindInMarks op b = false := by first | exact nobehind _ (by decide) (by decide) | rfl) : RE X (.Compare a [op] [b] pos) σ H Q :=
  re_of (pe_cmpR ho pe_RE pe_RE hm) h
theorem re_chain {op op' : CmpOp} {r r' : R2} (ho : OpR X (compareOp op) r) (ho' : OpR X (compareOp op') r')
    (h : RE X a σ H fun x H1 => RE X b σ H1 fun y H2 => r x y H2 fun z H3 => ∃ k, z = .bl k ∧ (if k = true then RE X c σ H3 fun w' H4 => r' y w' H4 Q else Q (.bl false) H3)) (hl : lastMarks [op, op'] [b, c] = false := by rfl) : RE X (.Compare a [op, op'] [b, c] pos) σ H Q :=
  re_of (pe_chain ho ho' pe_RE pe_RE pe_RE hl) h
theorem re_and (h : RE X a σ H fun x H1 => ∃ k, x = .bl k ∧ if k = true then RE X (.BoolOp .And (b :: es) pos) σ H1 Q else Q (.bl false) H1) : RE X (.BoolOp .And (a :: b :: es) pos) σ H Q := re_of (pe_and pe_RE pe_RE) h
theorem re_or (h : RE X a σ H fun x H1 => ∃ k, x = .bl k ∧ if k = true then Q (.bl true) H1 else RE X (.BoolOp .Or (b :: es) pos) σ H1 Q) : RE X (.BoolOp .Or (a :: b :: es) pos) σ H Q := re_of (pe_or pe_RE pe_RE) h
theorem re_one {op} (h : RE X a σ H Q) : RE X (.BoolOp op [a] pos) σ H Q := re_of (pe_one pe_RE) h
theorem re_not (h : RE X a σ H fun x H1 => ∃ k, x = .bl k ∧ Q (.bl (!k)) H1) : RE X (.UnaryOp .Not a pos) σ H Q := re_of (pe_not pe_RE) h
theorem re_if (h : RT X c σ H fun k H1 => if k = true then RE X a σ H1 Q else RE X b σ H1 Q) : RE X (.IfExp c a b pos) σ H Q := re_of (pe_ifExp pt_RT pe_RE pe_RE) h
theorem ra_nil (h : QA [] H) : RA X [] σ H QA := ra_of pa_nil h
theorem ra_cons (h : RE X e σ H fun x H1 => RA X es σ H1 fun xs H2 => QA (x :: xs) H2) (hs : starEach (e :: es) X.env = (false, eval e X.env) :: starEach es X.env := by rfl) : RA X (e :: es) σ H QA := ra_of (pa_cons pe_RE pa_RA hs) h
/-- a display: a new object, all else stays -/
theorem re_tup {x1} (h : RA X es σ H fun xs H1 => xs.length ≤ 100000 ∧ ∀ p H2, H1 p = none → Ex H1 H2 → H2 p = some (.tup xs) → Q (.ref p) H2) : RE X (.Tuple es x1 pos) σ H Q :=
  re_of (pe_tup pa_RA) (h.mono fun xs H1 ⟨z, q⟩ => ⟨Evl.sz_of z, fun p hp => q p _ hp (Ex.new hp) upd_same⟩)
theorem re_lst (h : RA X es σ H fun xs H1 => xs.length ≤ 100000 ∧ ∀ p H2, H1 p = none → Ex H1 H2 → H2 p = some (.lst xs) → Q (.ref p) H2) : RE X (.List es pos) σ H Q :=
  re_of (pe_lst pa_RA) (h.mono fun xs H1 ⟨z, q⟩ => ⟨Evl.sz_of z, fun p hp => q p _ hp (Ex.new hp) upd_same⟩)
/-- subscripts -/
theorem re_ixL (h : RE X a σ H fun x H1 => RE X b σ H1 fun y H2 => ∃ p xs i v, x = .ref p ∧ y = .int i ∧ SqL X.K H2 p xs ∧ atI xs i = some v ∧ Q v H2) (hs : PlainIx b := by exact fun _ _ => rfl) : RE X (.Subscript a b pos) σ H Q := re_of (pe_ix ix_list pe_RE pe_RE hs) h
theorem re_ixT (h : RE X a σ H fun x H1 => RE X b σ H1 fun y H2 => ∃ p xs i v, x = .ref p ∧ y = .int i ∧ SqT X.K H2 p xs ∧ atI xs i = some v ∧ Q v H2) (hs : PlainIx b := by exact fun _ _ => rfl) : RE X (.Subscript a b pos) σ H Q := re_of (pe_ix ix_tup pe_RE pe_RE hs) h
/-- built-ins by name -/
theorem re_cb {x : Str} {id : String} {p} {r} (hc : CallR X (.builtin id) r) (hm : X.mg x = none) (h : RA X (e :: es) σ H fun vs H1 => r vs H1 Q) (hv : bootBuiltins x = some (.builtin id) := by decide +kernel) (hg : Gl X x := by rfl) (hn : x ≠ "__name__" := by decide)
    (hdb : (x == ("__debug__" : Str)) = false := by decide) (h1 : starEach (e :: es) X.env = (false, eval e X.env) :: starEach es X.env := by rfl) (h2 : (backTo pos (starEach es X.env)).any (·.1) = false := by rfl) : RE X (.Call (.Name x p) (e :: es) [] pos) σ H Q :=
  re_of (pe_callB hc hg hm hv pa_RA hn hdb h1 h2) h
theorem re_ct {x : Str} {T : String} {p} {r} (hc : CallR X (.type T) r) (hm : X.mg x = none) (h : RA X (e :: es) σ H fun vs H1 => r vs H1 Q) (hv : bootBuiltins x = some (.type T) := by decide +kernel) (hg : Gl X x := by rfl) (hn : x ≠ "__name__" := by decide)
    (hdb : (x == ("__debug__" : Str)) = false := by decide) (h1 : starEach (e :: es) X.env = (false, eval e X.env) :: starEach es X.env := by rfl) (h2 : (backTo pos (starEach es X.env)).any (·.1) = false := by rfl) : RE X (.Call (.Name x p) (e :: es) [] pos) σ H Q :=
  re_of (pe_callTy hc hg hm hv pa_RA hn hdb h1 h2) h

/-! ### tests -/
theorem rt_val (h : RE X e σ H fun x H1 => ∃ k, x = .bl k ∧ QB k H1) (he : ∀ whole, isTrue e X.env whole = (do let v ← whole; standAt e.pos; holding [v] (truthy v)) := by intro _; rfl) : RT X e σ H QB := rt_of (pt_val pe_RE he) h
theorem rt_cmp {op : CmpOp} {r : R2} (ho : OpR X (compareOp op) r) (h : RE X a σ H fun x H1 => RE X b σ H1 fun y H2 => r x y H2 fun z H3 => ∃ k, z = .bl k ∧ QB k H3) (hm : behindInMarks op b = false := by first | exact nobehind _ (by decide) (by decide) | rfl) :
    RT X (.Compare a [op] [b] pos) σ H QB := rt_of (pt_cmpR ho pe_RE pe_RE hm) h
theorem rt_chain {op op' : CmpOp} {r r' : R2} (ho : OpR X (compareOp op) r) (ho' : OpR X (compareOp op') r')
    (h : RE X a σ H fun x H1 => RE X b σ H1 fun y H2 => r x y H2 fun z H3 => ∃ k, z = .bl k ∧ (if k = true then RE X c σ H3 fun w' H4 => r' y w' H4 fun u H5 => ∃ k', u = .bl k' ∧ QB k' H5 else ∃ k', V.bl false = .bl k' ∧ QB k' H3)) (hl : lastMarks [op, op'] [b, c] = false := by rfl) :
    RT X (.Compare a [op, op'] [b, c] pos) σ H QB := rt_of (pt_chain ho ho' pe_RE pe_RE pe_RE hl) h
theorem rt_w (h : RW X e σ H QB) : RT X e σ H QB := rt_of (PW.pt pw_RW) h
theorem rw_and (h : RT X a σ H fun k H1 => if k = true then RW X (.BoolOp .And (b :: es) pos) σ H1 QB else QB false H1) : RW X (.BoolOp .And (a :: b :: es) pos) σ H QB := rw_of (pw_and pt_RT pw_RW) h
theorem rw_or (h : RT X a σ H fun k H1 => if k = true then QB true H1 else RW X (.BoolOp .Or (b :: es) pos) σ H1 QB) : RW X (.BoolOp .Or (a :: b :: es) pos) σ H QB := rw_of (pw_or pt_RT pw_RW) h
theorem rw_and1 (h : RT X a σ H QB) : RW X (.BoolOp .And [a] pos) σ H QB := rw_of (pw_and1 pt_RT) h
theorem rw_or1 (h : RT X a σ H QB) : RW X (.BoolOp .Or [a] pos) σ H QB := rw_of (pw_or1 pt_RT) h
theorem rt_not (h : RT X a σ H fun k H1 => QB (!k) H1) : RT X (.UnaryOp .Not a pos) σ H QB := rt_of (pt_not pt_RT) h

/-! ### statements -/
theorem rb_nil (h : D.nx σ H) : RB X [] D σ H := rb_of pss_nil h
theorem rb_cons (h : RS X st { D with nx := RB X sts D } σ H) : RB X (st :: sts) D σ H := rb_of (pss_cons ps_RS pss_RB) h
theorem rb_one (h : RS X st D σ H) : RB X [st] D σ H := rb_of (pss_one ps_RS) h
theorem rs_ret (h : RE X e σ H D.rt) : RS X (.Return (some e) pos) D σ H := rs_of (ps_ret pe_RE) h
theorem rs_retN (h : D.rt .non H) : RS X (.Return none pos) D σ H := rs_of ps_retN h
theorem rs_if {x y : List Stmt} (h : RT X c σ H fun k H1 => if k = true then RB X x D σ H1 else RB X y D σ H1) : RS X (.If c x y pos) D σ H := rs_of (ps_if pt_RT pss_RB pss_RB) h
theorem rs_set (i : Nat) {x : Str} {p} (hN : X.N.Nodup) (h : RE X e σ H fun v H1 => D.nx (σ.set i (some v)) H1) (hi : X.N[i]? = some x := by rfl) (hx : Loc X.env.scope x := by first | exact Or.inl rfl | exact Or.inr rfl)
    (hs : swapsWith e (some (.Name x p)) pos.line X.env = pure false := by rfl) (hf : X.fn x = true ∨ X.env.scope.names.lookup x = some .local := by first | exact .inl rfl | exact .inr rfl | assumption) :
    RS X (.Assign [.Name x p] e pos) D σ H := rs_of (ps_set (i := i) hN hi hx pe_RE hs hf) h
theorem rs_expr (h : RE X e σ H fun _ H1 => D.nx σ H1) (hs : swapsWith e none pos.line X.env = pure false := by rfl) : RS X (.Expr e pos) D σ H := rs_of (ps_expr pe_RE hs) h
theorem ifT {A B : Prop} (h : A) : if true = true then A else B := by rw [if_pos rfl]; exact h
theorem ifF {A B : Prop} (h : B) : if false = true then A else B := by rw [if_neg Bool.false_ne_true]; exact h
theorem ifB {k : Bool} {A B : Prop} (h1 : k = true → A) (h2 : k = false → B) : if k = true then A else B := by
  cases k with
  | true => exact ifT (h1 rfl)
  | false => exact ifF (h2 rfl)
end
end Fx
end
section
set_option Elab.async false
set_option linter.all false
set_option maxRecDepth 100000
set_option maxHeartbeats 2000000
/-! Plain data in the abstract heap: what a value stands for; isinstance and repr of it. -/
namespace Fx
open PySem PySem.Spec PyProof.Rows L2
open Evl (Ex fresh_back)

/-- the key of an entry -/
def kD : Key → PyData
  | .inl i => .int i
  | .inr x => .str x
mutual
inductive D (K : PySem.W.Frag) (H : Hp) : V → PyData → Prop
  | non : D K H .non .none
  | bl (b : Bool) : D K H (.bl b) (.bool b)
  | int (i : Int) : D K H (.int i) (.int i)
  | str (x : Str) : D K H (.str x) (.str x)
  | lst {a : Addr} {xs : List V} {ds : List PyData} : SqL K H a xs → DA K H xs ds → D K H (.ref a) (.list ds)
  | tup {a : Addr} {xs : List V} {ds : List PyData} : SqT K H a xs → DA K H xs ds → D K H (.ref a) (.tuple ds)
  | dic {a : Addr} {kvs : List (Key × V)} {ds : List (PyData × PyData)} : Rd H a (.dK kvs) → DK K H kvs ds → D K H (.ref a) (.dict ds)
inductive DA (K : PySem.W.Frag) (H : Hp) : List V → List PyData → Prop
  | nil : DA K H [] []
  | cons {v : V} {vs : List V} {d : PyData} {ds : List PyData} : D K H v d → DA K H vs ds → DA K H (v :: vs) (d :: ds)
inductive DK (K : PySem.W.Frag) (H : Hp) : List (Key × V) → List (PyData × PyData) → Prop
  | nil : DK K H [] []
  | cons {k : Key} {v : V} {vs : List (Key × V)} {d : PyData} {ds : List (PyData × PyData)} : D K H v d → DK K H vs ds → DK K H ((k, v) :: vs) ((kD k, d) :: ds)
end
section
variable {K : PySem.W.Frag} {H H' : Hp}
mutual
theorem D.mono (e : Ex H H') {v : V} : ∀ {d : PyData}, D K H v d → D K H' v d
  | .none, h => by cases h; exact .non
  | .bool b, h => by cases h; exact .bl b
  | .int i, h => by cases h; exact .int i
  | .str x, h => by cases h; exact .str x
  | .list ds, h => by cases h with | lst a b => exact .lst (Evl.ex_l e a) (DA.mono e b)
  | .tuple ds, h => by cases h with | tup a b => exact .tup (Evl.ex_t e a) (DA.mono e b)
  | .dict ds, h => by cases h with | dic a b => exact .dic (Evl.ex_rd e a) (DK.mono e b)
theorem DA.mono (e : Ex H H') : ∀ {ds : List PyData} {vs : List V}, DA K H vs ds → DA K H' vs ds
  | [], _, h => by cases h; exact .nil
  | d :: ds, _, h => by cases h with | cons a b => exact .cons (D.mono e a) (DA.mono e b)
theorem DK.mono (e : Ex H H') : ∀ {ds : List (PyData × PyData)} {vs : List (Key × V)}, DK K H vs ds → DK K H' vs ds
  | [], _, h => by cases h; exact .nil
  | (_, d) :: ds, _, h => by cases h with | cons a b => exact .cons (D.mono e a) (DK.mono e b)
end
/-- what can be read stays -/
def Ez (H H' : Hp) : Prop := ∀ a u, Rd H a u → Rd H' a u
theorem ez_l {a : Addr} {xs : List V} (e : Ez H H') (h : SqL K H a xs) : SqL K H' a xs := h.imp (e _ _) id
theorem ez_t {a : Addr} {xs : List V} (e : Ez H H') (h : SqT K H a xs) : SqT K H' a xs := h.imp (e _ _) id
theorem Ez.of (e : Ex H H') : Ez H H' := fun _ _ h => Evl.ex_rd e h
theorem Ez.trans {H'' : Hp} (e : Ez H H') (e' : Ez H' H'') : Ez H H'' := fun a u h => e' a u (e a u h)
mutual
theorem D.monoZ (e : Ez H H') {v : V} : ∀ {d : PyData}, D K H v d → D K H' v d
  | .none, h => by cases h; exact .non
  | .bool b, h => by cases h; exact .bl b
  | .int i, h => by cases h; exact .int i
  | .str x, h => by cases h; exact .str x
  | .list ds, h => by cases h with | lst a b => exact .lst (ez_l e a) (DA.monoZ e b)
  | .tuple ds, h => by cases h with | tup a b => exact .tup (ez_t e a) (DA.monoZ e b)
  | .dict ds, h => by cases h with | dic a b => exact .dic (e _ _ a) (DK.monoZ e b)
theorem DA.monoZ (e : Ez H H') : ∀ {ds : List PyData} {vs : List V}, DA K H vs ds → DA K H' vs ds
  | [], _, h => by cases h; exact .nil
  | d :: ds, _, h => by cases h with | cons a b => exact .cons (D.monoZ e a) (DA.monoZ e b)
theorem DK.monoZ (e : Ez H H') : ∀ {ds : List (PyData × PyData)} {vs : List (Key × V)}, DK K H vs ds → DK K H' vs ds
  | [], _, h => by cases h; exact .nil
  | (_, d) :: ds, _, h => by cases h with | cons a b => exact .cons (D.monoZ e a) (DK.monoZ e b)
end
/-- a lock -/
theorem Ez.lock {d : Addr} {u : HO} {od : Obj} (h : H d = some u) (hu : ∀ o u', u ≠ .frz o u') : Ez H (upd H d (.frz od u)) := fun a w h' => by
  by_cases e : a = d
  · subst e
    rcases h' with h' | ⟨o, h'⟩
    · obtain rfl := Option.some.inj (h.symm.trans h')
      exact .inr ⟨od, upd_same⟩
    · exact absurd (Option.some.inj (h.symm.trans h')) (hu _ _)
  · rcases h' with h' | ⟨o, h'⟩
    · exact .inl ((upd_ne e).trans h')
    · exact .inr ⟨o, (upd_ne e).trans h'⟩
/-- behind a lock -/
theorem ex_unlock {d : Addr} {u : HO} {od : Obj} (h : H d = some u) (e : Ex (upd H d (.frz od u)) H') : Ex H (upd H' d u) := fun a o ha => by
  by_cases z : a = d
  · subst z
    rw [upd_same, ← h, ha]
  · rw [upd_ne z]
    exact e _ _ ((upd_ne z).trans ha)
theorem DA.length : ∀ {vs : List V} {ds : List PyData}, DA K H vs ds → vs.length = ds.length
  | _, _, .nil => rfl
  | _, _, .cons _ t => by rw [List.length_cons, List.length_cons, DA.length t]
theorem DA.get : ∀ {vs : List V} {ds : List PyData} {i : Nat} {d : PyData}, DA K H vs ds → ds[i]? = some d → ∃ v, vs[i]? = some v ∧ D K H v d
  | _, _, _, _, .nil, h => by simp at h
  | _, _, 0, _, .cons a _, h => by
    have e := Option.some.inj h
    subst e
    exact ⟨_, rfl, a⟩
  | _, _, i + 1, _, .cons _ t, h => DA.get (i := i) t h
theorem DA.getV : ∀ {vs : List V} {ds : List PyData} {i : Nat} {v : V}, DA K H vs ds → vs[i]? = some v → ∃ d, ds[i]? = some d ∧ D K H v d
  | _, _, _, _, .nil, h => by simp at h
  | _, _, 0, _, .cons a _, h => by
    have e := Option.some.inj h
    subst e
    exact ⟨_, rfl, a⟩
  | _, _, i + 1, _, .cons _ t, h => DA.getV (i := i) t h
theorem DA.drop : ∀ {vs : List V} {ds : List PyData} (n : Nat), DA K H vs ds → DA K H (vs.drop n) (ds.drop n)
  | _, _, 0, h => h
  | _, _, _ + 1, .nil => .nil
  | _, _, n + 1, .cons _ t => DA.drop n t
theorem DA.app : ∀ {vs ws : List V} {ds es : List PyData}, DA K H vs ds → DA K H ws es → DA K H (vs ++ ws) (ds ++ es)
  | _, _, _, _, .nil, h => h
  | _, _, _, _, .cons a t, h => .cons a (DA.app t h)
theorem DA.ints : ∀ (ns : List Int), DA K H (ns.map V.int) (ns.map PyData.int)
  | [] => .nil
  | n :: r => .cons (.int n) (DA.ints r)
end

/-! ### isinstance -/
def tyN : PyData → String
  | .none => "NoneType"
  | .bool _ => "bool"
  | .int _ => "int"
  | .str _ => "str"
  | .list _ => "list"
  | .tuple _ => "tuple"
  | .dict _ => "dict"
theorem D.ty {K : PySem.W.Frag} {H : Hp} {v : V} {d : PyData} (h : D K H v d) : TyX K H v (.type (tyN d)) := by
  cases h with
  | non => exact .base .non
  | bl b => exact .base (.bl b)
  | int i => exact .base (.int i)
  | str x => exact .base (.str x)
  | lst a _ =>
    rcases a with (a | ⟨o, a⟩) | ⟨o, its, n, hk, hc, _⟩
    · exact .base (.lst a)
    · exact .base (.frz a)
    · exact .kList hk hc
  | tup a _ =>
    rcases a with (a | ⟨o, a⟩) | ⟨o, its, n, hk, hc, _⟩
    · exact .base (.tup a)
    · exact .fTuple a
    · exact .kTuple hk hc
  | dic a _ =>
    rcases a with a | ⟨o, a⟩
    · exact .base (.dK a)
    · exact .fDict a
def isI : PyData → Bool | .int _ => true | .bool _ => true | _ => false
def isB : PyData → Bool | .bool _ => true | _ => false
def isS : PyData → Bool | .str _ => true | _ => false
def isT : PyData → Bool | .tuple _ => true | _ => false
def isL : PyData → Bool | .list _ => true | _ => false
def isD : PyData → Bool | .dict _ => true | _ => false
theorem kit_I (d : PyData) : kitB (tyN d) "int" = some (isI d) := by
  cases d with
  | none => exact (by decide +kernel : kitB "NoneType" "int" = some false)
  | bool _ => exact (by decide +kernel : kitB "bool" "int" = some true)
  | int _ => exact (by decide +kernel : kitB "int" "int" = some true)
  | str _ => exact (by decide +kernel : kitB "str" "int" = some false)
  | list _ => exact (by decide +kernel : kitB "list" "int" = some false)
  | tuple _ => exact (by decide +kernel : kitB "tuple" "int" = some false)
  | dict _ => exact (by decide +kernel : kitB "dict" "int" = some false)
theorem kit_B (d : PyData) : kitB (tyN d) "bool" = some (isB d) := by
  cases d with
  | none => exact (by decide +kernel : kitB "NoneType" "bool" = some false)
  | bool _ => exact (by decide +kernel : kitB "bool" "bool" = some true)
  | int _ => exact (by decide +kernel : kitB "int" "bool" = some false)
  | str _ => exact (by decide +kernel : kitB "str" "bool" = some false)
  | list _ => exact (by decide +kernel : kitB "list" "bool" = some false)
  | tuple _ => exact (by decide +kernel : kitB "tuple" "bool" = some false)
  | dict _ => exact (by decide +kernel : kitB "dict" "bool" = some false)
theorem kit_S (d : PyData) : kitB (tyN d) "str" = some (isS d) := by
  cases d with
  | none => exact (by decide +kernel : kitB "NoneType" "str" = some false)
  | bool _ => exact (by decide +kernel : kitB "bool" "str" = some false)
  | int _ => exact (by decide +kernel : kitB "int" "str" = some false)
  | str _ => exact (by decide +kernel : kitB "str" "str" = some true)
  | list _ => exact (by decide +kernel : kitB "list" "str" = some false)
  | tuple _ => exact (by decide +kernel : kitB "tuple" "str" = some false)
  | dict _ => exact (by decide +kernel : kitB "dict" "str" = some false)
theorem kit_T (d : PyData) : kitB (tyN d) "tuple" = some (isT d) := by
  cases d with
  | none => exact (by decide +kernel : kitB "NoneType" "tuple" = some false)
  | bool _ => exact (by decide +kernel : kitB "bool" "tuple" = some false)
  | int _ => exact (by decide +kernel : kitB "int" "tuple" = some false)
  | str _ => exact (by decide +kernel : kitB "str" "tuple" = some false)
  | list _ => exact (by decide +kernel : kitB "list" "tuple" = some false)
  | tuple _ => exact (by decide +kernel : kitB "tuple" "tuple" = some true)
  | dict _ => exact (by decide +kernel : kitB "dict" "tuple" = some false)
theorem kit_L (d : PyData) : kitB (tyN d) "list" = some (isL d) := by
  cases d with
  | none => exact (by decide +kernel : kitB "NoneType" "list" = some false)
  | bool _ => exact (by decide +kernel : kitB "bool" "list" = some false)
  | int _ => exact (by decide +kernel : kitB "int" "list" = some false)
  | str _ => exact (by decide +kernel : kitB "str" "list" = some false)
  | list _ => exact (by decide +kernel : kitB "list" "list" = some true)
  | tuple _ => exact (by decide +kernel : kitB "tuple" "list" = some false)
  | dict _ => exact (by decide +kernel : kitB "dict" "list" = some false)
theorem kit_D (d : PyData) : kitB (tyN d) "dict" = some (isD d) := by
  cases d with
  | none => exact (by decide +kernel : kitB "NoneType" "dict" = some false)
  | bool _ => exact (by decide +kernel : kitB "bool" "dict" = some false)
  | int _ => exact (by decide +kernel : kitB "int" "dict" = some false)
  | str _ => exact (by decide +kernel : kitB "str" "dict" = some false)
  | list _ => exact (by decide +kernel : kitB "list" "dict" = some false)
  | tuple _ => exact (by decide +kernel : kitB "tuple" "dict" = some false)
  | dict _ => exact (by decide +kernel : kitB "dict" "dict" = some true)
section
variable {X : Cx} {e a b c f g o : Expr} {es : List Expr} {σ : L2.St} {H : Hp} {Q : VK} {D' : Ends} {pos p p2 : Pos}
/-- isinstance(e, T) -/
theorem re_isi {x : Str} {T : String} {is : PyData → Bool} (kit : ∀ d, kitB (tyN d) T = some (is d)) (hI : X.mg "isinstance" = none) (hT : X.mg x = none) (h : RE X e σ H fun v H1 => ∃ d, D X.K H1 v d ∧ Q (.bl (is d)) H1)
    (hv : bootBuiltins x = some (.type T) := by decide +kernel) (hg : Gl X "isinstance" := by rfl) (hg2 : Gl X x := by rfl) (hn : x ≠ "__name__" := by decide) (hd : (x == ("__debug__" : Str)) = false := by decide)
    (h1 : starEach [e, .Name x p2] X.env = (false, eval e X.env) :: starEach [.Name x p2] X.env := by rfl) : RE X (.Call (.Name "isinstance" p) [e, .Name x p2] [] pos) σ H Q :=
  re_cb (h1 := h1) (hg := hg) call_isi hI (ra_cons (h.mono fun v H1 ⟨d, hd', q⟩ => ra_cons (re_ty hT (ra_nil ⟨v, .ty T, .type (tyN d), .type T, is d, rfl, .ty T, hd'.ty, kit_ty (kit d), q⟩) hv hg2 hn hd) rfl) h1)
/-- isinstance(e, (T, U)) -/
theorem re_isi2 {x y : Str} {T U : String} {is1 is2 : PyData → Bool} {k} {p3 pt : Pos} (kit1 : ∀ d, kitB (tyN d) T = some (is1 d)) (kit2 : ∀ d, kitB (tyN d) U = some (is2 d)) (hI : X.mg "isinstance" = none) (hT : X.mg x = none) (hU : X.mg y = none)
    (h : RE X e σ H fun v H1 => ∃ d, D X.K H1 v d ∧ ∀ H2, Ex H1 H2 → Q (.bl (is1 d || is2 d)) H2)
    (hv : bootBuiltins x = some (.type T) := by decide +kernel) (hw : bootBuiltins y = some (.type U) := by decide +kernel) (hg : Gl X "isinstance" := by rfl) (hg2 : Gl X x := by rfl) (hg3 : Gl X y := by rfl) (hn : x ≠ "__name__" := by decide) (hn3 : y ≠ "__name__" := by decide)
    (hd : (x == ("__debug__" : Str)) = false := by decide) (hd3 : (y == ("__debug__" : Str)) = false := by decide)
    (h1 : starEach [e, .Tuple [.Name x p2, .Name y p3] k pt] X.env = (false, eval e X.env) :: starEach [.Tuple [.Name x p2, .Name y p3] k pt] X.env := by rfl) : RE X (.Call (.Name "isinstance" p) [e, .Tuple [.Name x p2, .Name y p3] k pt] [] pos) σ H Q := by
  refine re_cb (h1 := h1) (hg := hg) call_isiT hI (ra_cons (h.mono fun v H1 ⟨d, hd', q⟩ => ra_cons (re_tup (ra_cons (re_ty hT (ra_cons (re_ty hU (ra_nil ⟨(show 2 ≤ 100000 by decide), fun t H2 ht e2 h2 => ?_⟩) hw hg3 hn3 hd3) rfl) hv hg2 hn hd) rfl)) rfl) h1)
  refine ra_nil ⟨v, t, [.ty T, .ty U], .type (tyN d), [.type T, .type U], is1 d || is2 d, rfl, h2, .cons (.ty T) (.cons (.ty U) .nil), (hd'.mono e2).ty, ?_, q H2 e2⟩
  refine kitAny_cons (kit_ty (kit1 d)) (fun z => ?_) fun z => by rw [z]; rfl
  refine kitAny_cons (kit_ty (kit2 d)) (fun y => ?_) fun y => by rw [y, Bool.or_true]
  rw [z, y]
  exact kitAny_nil
end
end Fx

namespace Fx
open PySem PySem.Spec PyProof.Rows L2
section
variable {K : PySem.W.Frag} {H H' : Hp}
theorem DK.length : ∀ {vs : List (Key × V)} {ds : List (PyData × PyData)}, DK K H vs ds → vs.length = ds.length
  | _, _, .nil => rfl
  | _, _, .cons _ t => by rw [List.length_cons, List.length_cons, DK.length t]
theorem DK.getV : ∀ {vs : List (Key × V)} {ds : List (PyData × PyData)} {i : Nat} {k : Key} {v : V}, DK K H vs ds → vs[i]? = some (k, v) → ∃ d, ds[i]? = some (kD k, d) ∧ D K H v d
  | _, _, _, _, _, .nil, h => by simp at h
  | _, _, 0, _, _, .cons a _, h => by
    have e := Option.some.inj h
    obtain ⟨rfl, rfl⟩ := Prod.mk.inj e
    exact ⟨_, rfl, a⟩
  | _, _, i + 1, _, _, .cons _ t, h => DK.getV (i := i) t h
theorem kD_inj {a b : Key} (h : kD a = kD b) : a = b := by
  cases a with
  | inl a => cases b with
    | inl b => exact congrArg Sum.inl (PyData.int.inj h)
    | inr b => exact nomatch h
  | inr a => cases b with
    | inl b => exact nomatch h
    | inr b => exact congrArg Sum.inr (PyData.str.inj h)
theorem kV_kD {K : PySem.W.Frag} {H : Hp} (k : Key) : D K H (kV k) (kD k) := by
  cases k with
  | inl i => exact .int i
  | inr x => exact .str x
end
end Fx
end
section
set_option Elab.async false
set_option linter.all false
set_option maxRecDepth 100000
set_option maxHeartbeats 2000000
/-! Loops and comprehensions over what is walked. -/
namespace Fx
open PySem PySem.Spec PyProof.Rows L2
open Evl (Ex fresh_back)
open RZ

def RI (X : Cx) (tg iter : Expr) : TI := fun σ H R => ∀ pins s, Inv X pins σ H s → wpAny (model X.prog X.w) X.A (eval iter X.env) (fun v s1 => wpAny (model X.prog X.w) X.A (pyIter v) (PIE X pins σ tg R) X.xe s1) X.xe s
section
variable {X : Cx} {e a b c tg iter o : Expr} {es : List Expr} {σ : L2.St} {H : Hp} {Q : VK} {R R' : It → Hp → Prop} {pos p : Pos} {D : Ends}
theorem pi_RI : PI X tg iter (RI X tg iter) := ⟨fun pins s σ H R I h => h pins s I⟩
theorem ri_of {wi : TI} (h : PI X tg iter wi) (q : wi σ H R) : RI X tg iter σ H R := fun pins s I => h.run pins s σ H R I q
theorem RI.mono (h : RI X tg iter σ H R) (k : ∀ J H', R J H' → R' J H') : RI X tg iter σ H R' := fun pins s I =>
  thn (h pins s I) fun v s1 h1 => thn h1 fun u s2 ⟨it, fp, tn, J, H', a, b, c, d, e, f⟩ => ⟨it, fp, tn, J, H', a, b, c, d, e, k J H' f⟩
theorem ri_list (h : RE X iter σ H fun x H1 => ∃ a xs, x = .ref a ∧ SqL X.K H1 a xs ∧ R (Itl X.K a) H1) : RI X tg iter σ H R := ri_of (pi_list pe_RE) (h.mono fun x H1 ⟨a, xs, e, q, r⟩ => ⟨a, e, ⟨xs, q⟩, r⟩)
theorem ri_tup (h : RE X iter σ H fun x H1 => ∃ a xs, x = .ref a ∧ SqT X.K H1 a xs ∧ R (Itt X.K a) H1) : RI X tg iter σ H R := ri_of (pi_tup pe_RE) (h.mono fun x H1 ⟨a, xs, e, q, r⟩ => ⟨a, e, ⟨xs, q⟩, r⟩)
theorem ri_str (h : RE X iter σ H fun x H1 => ∃ z, x = .str z ∧ R (Its z) H1) : RI X tg iter σ H R := ri_of (pi_str pe_RE) h
theorem ri_zipT {elts : List Expr} {kk : Nat} {tpos : Pos} (hm : X.mg "zip" = none) (h : RA X [a, b] σ H fun vs H1 => ∃ p q xs ys, vs = [.ref p, .ref q] ∧ SqT X.K H1 p xs ∧ SqT X.K H1 q ys ∧ R (ItzT X.K p q) H1) (hg : Gl X "zip" := by rfl)
    (hs : starEach [a, b] X.env = (false, eval a X.env) :: starEach [b] X.env := by rfl) (hpl : (backTo pos (starEach [b] X.env)).any (·.1) = false := by rfl) : RI X (.Tuple elts kk tpos) (.Call (.Name "zip" p) [a, b] [] pos) σ H R :=
  ri_of (pi_zipA hg hm pa_RA hs hpl) (h.mono fun vs H1 ⟨p, q, xs, ys, e, h1, h2, r⟩ => ⟨p, q, xs, ys, e, .inr ⟨h1, h2, r⟩⟩)
theorem ri_enum {elts : List Expr} {kk : Nat} {tpos : Pos} (hm : X.mg "enumerate" = none) (h : RA X [a] σ H fun vs H1 => ∃ p xs, vs = [.ref p] ∧ SqL X.K H1 p xs ∧ R (Ite X.K p) H1) (hg : Gl X "enumerate" := by rfl)
    (hs : starEach [a] X.env = [(false, eval a X.env)] := by rfl) : RI X (.Tuple elts kk tpos) (.Call (.Name "enumerate" p) [a] [] pos) σ H R := ri_of (pi_enum hg hm pa_RA hs) h
theorem ri_range {n : Int} (hm : X.mg "range" = none) (h : RA X [a] σ H fun vs H1 => ∃ j : Int, vs = [.int j] ∧ -(2 ^ 62) ≤ j ∧ j < 2 ^ 62 ∧ R (Itr 0 j.toNat) H1) (hg : Gl X "range" := by rfl)
    (hs : starEach [a] X.env = [(false, eval a X.env)] := by rfl) : RI X tg (.Call (.Name "range" p) [a] [] pos) σ H R := ri_of (pi_range1 hg hm pa_RA hs) h

/-- the pairs of zip over two tuples -/
theorem walk_zipT {K : PySem.W.Frag} {a b : Addr} {xs ys : List V} (hl : xs.length = ys.length) : Walk (ItzT K a b) xs.length (fun H => SqT K H a xs ∧ SqT K H b ys) (YPair (fun i => xs[i]?) (fun i => ys[i]?)) := by
  refine ⟨fun i _ hi q => ?_, fun _ q => ?_, fun i H v H' _ q y => ?_⟩
  · exact ⟨xs, ys, xs[i], ys[i]'(by omega), q.1, q.2, by simp [hi], by simp [show i < ys.length by omega]⟩
  · exact ⟨xs, ys, q.1, q.2, .inl (Nat.le_refl _)⟩
  · obtain ⟨T, x, z, h1, h2, h3, h4, h5⟩ := y
    exact ⟨T, x, z, h1, h2, h3, h4 xs q.1, h5 ys q.2⟩

/-! ### list comprehensions whose items are told without the heap -/
section
variable {elt : Expr} {scope : Scope} {own : List (Str × Nat)} {g : TG} {n : Nat} {Y : Nat → Hp → V → Hp → Prop}
abbrev Blk (X : Cx) (scope : Scope) (s : Shared) (H : Hp) (C : Addr) (cl : List (Str × Addr)) (fp : List Addr) : Cx := X.blk s H scope (compEnvC scope cl C X.env) fp
theorem ex_mut {H H' : Hp} {p : Addr} {o : HO} (e : Ex H H') (h : H p = none) : Ex H (upd H' p o) := Evl.Ex.mut e h
abbrev GoodG (g : TG) : Prop := ∀ x σ H (Q Q' : L2.St → Hp → Prop), (∀ σ H, Q σ H → Q' σ H) → g x σ H Q → g x σ H Q'
theorem good_name {i : Nat} : GoodG (gName i) := fun x σ H Q Q' k h => k _ _ h
theorem good_tup2 {K : PySem.W.Frag} {i j : Nat} : GoodG (gTup K 2 (gCons (gName i) (gCons (gName j) gNil))) := fun x σ H Q Q' k h => by
  obtain ⟨a, xs, e1, e2, e3, v, r, e4, v2, r2, e5, e6, q⟩ := h
  exact ⟨a, xs, e1, e2, e3, v, r, e4, v2, r2, e5, e6, k _ _ q⟩
/-- [elt for target in iter] -/
theorem re_lc (hc : X.calm = true) (hN : X.N.Nodup) (ok : BlkOk X.N X.env.scope scope own) (hg : ∀ s H C cl fp, PG (Blk X scope s H C cl fp) tg g) (gm : GoodG g)
    (h : RI X tg iter σ H fun J H1 => ∃ (n : Nat) (G : Hp → Prop) (Y : Nat → Hp → V → Hp → Prop) (Acc : Nat → List V → Prop), Walk J n G Y ∧ n ≤ 40000 ∧ (∀ H', Ex H1 H' → G H') ∧ Acc 0 [] ∧
      (∀ i x H2 H3, i < n → Ex H1 H2 → Y i H2 x H3 → Ex H2 H3 ∧ g x (wipe σ (own.map (·.2))) H3 fun σ2 H4 => wipe σ2 (own.map (·.2)) = wipe σ (own.map (·.2)) ∧ Ex H3 H4 ∧ ∀ s0 H0 C cl fp,
        RE (Blk X scope s0 H0 C cl fp) elt σ2 H4 fun y H6 => Ex H4 H6 ∧ ∀ acc, Acc i acc → Acc (i + 1) (acc ++ [y])) ∧
      ∀ p ys H2, H1 p = none → Ex H1 H2 → H2 p = some (.lst ys) → ys.length = n → Acc n ys → Q (.ref p) H2)
    (hs : ∀ x, foldedSetIterable iter X.env x = pure x := by intro _; rfl) : RE X (.ListComp elt [⟨tg, iter, [], 0⟩] scope pos) σ H Q := by
  refine re_of (pe_lc (own := own) (g := g) (tt := tYes) (te := fun σ H Q => ∀ s0 H0 C cl fp, RE (Blk X scope s0 H0 C cl fp) elt σ H Q) hc hN pi_RI ok hg (fun _ _ _ _ _ => pts_nil) (fun s H C cl fp => ⟨fun pins s' σ H' Q I q => (q s H C cl fp).run pins s' I⟩) hs) ?_
  refine h.mono fun J H1 ⟨n, G, Y, Acc, w, hn, hG, h0, turn, fin⟩ Dl hD => ?_
  refine lc_it w (g := g) (tt := tYes) (te := fun σ H Q => ∀ s0 H0 C cl fp, RE (Blk X scope s0 H0 C cl fp) elt σ H Q) (fun i H' => Ex H1 H' ∧ ∃ acc, H' Dl = some (.lst acc) ∧ acc.length = i ∧ Acc i acc)
    ⟨Evl.Ex.new hD, [], upd_same, rfl, h0⟩ (fun i H' _ p => hG H' p.1) (fun i x H2 H3 hi p y => ?_) fun H' ⟨e, acc, a1, a2, a3⟩ => fin Dl acc H' hD e a1 a2 a3
  obtain ⟨e2, acc, a1, a2, a3⟩ := p
  obtain ⟨e3, t⟩ := turn i x H2 H3 hi e2 y
  refine gm _ _ _ _ _ (fun σ2 H4 ⟨hw, e4, t⟩ => ⟨hw, ?_⟩) t
  simp only [tYes, if_true]
  intro s0 H0 C cl fp
  refine (t s0 H0 C cl fp).mono fun y' H6 ⟨e6, k⟩ => ?_
  have e26 : Ex H2 H6 := (e3.trans e4).trans e6
  exact ⟨acc, e26 _ _ a1, Nat.lt_of_lt_of_le (show acc.length < 100000 by omega) (by decide), ex_mut (e2.trans e26) hD, acc ++ [y'], upd_same, by rw [List.length_append]; simp [a2], k acc a3⟩
/-- [elt for target in iter if test] -/
theorem re_lcIf (hc : X.calm = true) (hN : X.N.Nodup) (ok : BlkOk X.N X.env.scope scope own) (hg : ∀ s H C cl fp, PG (Blk X scope s H C cl fp) tg g) (gm : GoodG g)
    (h : RI X tg iter σ H fun J H1 => ∃ (n : Nat) (G : Hp → Prop) (Y : Nat → Hp → V → Hp → Prop) (Acc : Nat → List V → Prop), Walk J n G Y ∧ n ≤ 40000 ∧ (∀ H', Ex H1 H' → G H') ∧ Acc 0 [] ∧
      (∀ i x H2 H3, i < n → Ex H1 H2 → Y i H2 x H3 → Ex H2 H3 ∧ g x (wipe σ (own.map (·.2))) H3 fun σ2 H4 => wipe σ2 (own.map (·.2)) = wipe σ (own.map (·.2)) ∧ Ex H3 H4 ∧ ∀ s0 H0 C cl fp,
        RT (Blk X scope s0 H0 C cl fp) c σ2 H4 fun k H5 => Ex H4 H5 ∧ (k = true → ∀ s0 H0 C cl fp, RE (Blk X scope s0 H0 C cl fp) elt σ2 H5 fun y H6 => Ex H5 H6 ∧ ∀ acc, Acc i acc → Acc (i + 1) (acc ++ [y])) ∧ (k = false → ∀ acc, Acc i acc → Acc (i + 1) acc)) ∧
      ∀ p ys H2, H1 p = none → Ex H1 H2 → H2 p = some (.lst ys) → ys.length ≤ n → Acc n ys → Q (.ref p) H2)
    (hs : ∀ x, foldedSetIterable iter X.env x = pure x := by intro _; rfl) : RE X (.ListComp elt [⟨tg, iter, [c], 0⟩] scope pos) σ H Q := by
  refine re_of (pe_lc (own := own) (g := g) (tt := fun σ H Q => ∀ s0 H0 C cl fp, RT (Blk X scope s0 H0 C cl fp) c σ H Q) (te := fun σ H Q => ∀ s0 H0 C cl fp, RE (Blk X scope s0 H0 C cl fp) elt σ H Q) hc hN pi_RI ok hg
    (fun s H C cl fp => pts_one ⟨fun pins s' σ H' Q I q => (q s H C cl fp).run pins s' I⟩) (fun s H C cl fp => ⟨fun pins s' σ H' Q I q => (q s H C cl fp).run pins s' I⟩) hs) ?_
  refine h.mono fun J H1 ⟨n, G, Y, Acc, w, hn, hG, h0, turn, fin⟩ Dl hD => ?_
  refine lc_it w (g := g) (tt := fun σ H Q => ∀ s0 H0 C cl fp, RT (Blk X scope s0 H0 C cl fp) c σ H Q) (te := fun σ H Q => ∀ s0 H0 C cl fp, RE (Blk X scope s0 H0 C cl fp) elt σ H Q) (fun i H' => Ex H1 H' ∧ ∃ acc, H' Dl = some (.lst acc) ∧ acc.length ≤ i ∧ Acc i acc)
    ⟨Evl.Ex.new hD, [], upd_same, Nat.le_refl _, h0⟩ (fun i H' _ p => hG H' p.1) (fun i x H2 H3 hi p y => ?_) fun H' ⟨e, acc, a1, a2, a3⟩ => fin Dl acc H' hD e a1 a2 a3
  obtain ⟨e2, acc, a1, a2, a3⟩ := p
  obtain ⟨e3, t⟩ := turn i x H2 H3 hi e2 y
  refine gm _ _ _ _ _ (fun σ2 H4 ⟨hw, e4, t⟩ => ⟨hw, fun s0 H0 C cl fp => (t s0 H0 C cl fp).mono fun k H5 ⟨e5, t1, t2⟩ => ?_⟩) t
  have e25 : Ex H2 H5 := (e3.trans e4).trans e5
  refine ifB (fun hk => ?_) fun hk => ?_
  · intro s0' H0' C' cl' fp'
    refine (t1 hk s0' H0' C' cl' fp').mono fun y' H6 ⟨e6, k⟩ => ?_
    have e26 : Ex H2 H6 := e25.trans e6
    exact ⟨acc, e26 _ _ a1, Nat.lt_of_lt_of_le (show acc.length < 100000 by omega) (by decide), ex_mut (e2.trans e26) hD, acc ++ [y'], upd_same, by rw [List.length_append]; simp; omega, k acc a3⟩
  · exact ⟨e2.trans e25, acc, e25 _ _ a1, by omega, t2 hk acc a3⟩

/-! ### for -/
theorem rs_for {body : List Stmt} (hp : PassesOwn (model X.prog X.w) X.A X.env X.xe) (hc : X.calm = true) (hg : PG X tg g) (gm : GoodG g)
    (h : RI X tg iter σ H fun J H1 => ∃ (n : Nat) (G : Hp → Prop) (Y : Nat → Hp → V → Hp → Prop) (Pv : Nat → L2.St → Hp → Prop), Walk J n G Y ∧ Pv 0 σ H1 ∧ (∀ i σ H, i ≤ n → Pv i σ H → G H) ∧
      (∀ i x σ H H', i < n → Pv i σ H → Y i H x H' → g x σ H' fun σ2 H2 => RB X body { D with nx := Pv (i + 1), ct := Pv (i + 1), bk := D.nx } σ2 H2) ∧ ∀ σ H, Pv n σ H → D.nx σ H)
    (hs : ∀ x, foldedSetIterable iter X.env x = pure x := by intro _; rfl) : RS X (.For tg iter body [] pos) D σ H :=
  rs_of (ps_for hp hc pi_RI hg pss_RB hs) (h.mono fun J H1 ⟨n, G, Y, Pv, w, h0, hG, st, fin⟩ => for_it w Pv h0 hG st fin)
theorem rs_while {body : List Stmt} {m0 : Nat} (hp : PassesOwn (model X.prog X.w) X.A X.env X.xe) (W : Nat → L2.St → Hp → Prop) (h0 : W m0 σ H)
    (h : ∀ m σ H, W m σ H → RT X c σ H fun b H1 => if b = true then ∃ N : L2.St → Hp → Prop, (∀ σ' H', N σ' H' → ∃ m', m' < m ∧ W m' σ' H') ∧ RB X body { D with nx := N, ct := N, bk := D.nx } σ H1 else D.nx σ H1) : RS X (.While c body [] pos) D σ H :=
  rs_of (ps_while hp pt_RT pss_RB) ⟨W, ⟨m0, h0⟩, h⟩
end
end
end Fx
end
section
set_option Elab.async false
set_option linter.all false
set_option maxRecDepth 100000
set_option maxHeartbeats 2000000
namespace Fl
open PySem PySem.Spec PyProof.Rows L2
def top (i : Nat) : Stmt := PySem.Challenge.pw_foldlines_k05_whole_texts_written_and_re.main.body.getD i (.Pass ⟨0, 0, 0, 0⟩)
abbrev s_invalidfunctions_init : Stmt := inClass (top 2) 0
abbrev s_il_init : Stmt := inClass (top 3) 0
abbrev s_invalidtext_init : Stmt := inClass (top 4) 0
abbrev s_untidy_init : Stmt := inClass (top 5) 0
abbrev s_un_init : Stmt := inClass (top 6) 0
abbrev s_toomany_init : Stmt := inClass (top 7) 0
abbrev s_is_int : Stmt := top 17
abbrev s_is_number : Stmt := top 18
abbrev s_is_word : Stmt := top 19
abbrev s_is_list : Stmt := top 20
abbrev s_is_filled_list : Stmt := top 21
abbrev s_is_line : Stmt := top 28
abbrev s_fits : Stmt := top 29
abbrev s_named_function : Stmt := top 30
abbrev s_named_label : Stmt := top 31
abbrev s_marks_of : Stmt := top 32
abbrev s_reached_ways : Stmt := top 34
abbrev s_leads : Stmt := top 35
abbrev s_rows_of : Stmt := top 36
abbrev s_row_behind : Stmt := top 37
abbrev s_entry_of : Stmt := top 38
abbrev s_has_value : Stmt := top 39
abbrev s_own_indexes : Stmt := top 40
abbrev s_own_behind : Stmt := top 41
abbrev s_is_tidy : Stmt := top 42
abbrev s_needs_own : Stmt := top 43
abbrev s_check_functions : Stmt := top 45
abbrev s_are_functions : Stmt := top 46
abbrev s_first_wrong : Stmt := top 47
abbrev s_names_are_there : Stmt := top 48
abbrev s_check_lengths : Stmt := top 49
abbrev s_text_of : Stmt := top 51
abbrev s_u_function_text : Stmt := top 52
abbrev s_line_text : Stmt := top 53
abbrev s_functions_of : Stmt := top 54
abbrev s_u_is_head : Stmt := top 55
abbrev s_line_of : Stmt := top 56
abbrev s_part_of : Stmt := top 57
abbrev s_init : Stmt := inClass (top 59) 3
abbrev s_keep : Stmt := inClass (top 59) 4
abbrev s_of : Stmt := inClass (top 59) 5
abbrev s_program_read : Stmt := inClass (top 59) 6
abbrev s_program_made : Stmt := inClass (top 59) 7
abbrev s_functions : Stmt := inClass (top 59) 10
abbrev s_names : Stmt := inClass (top 59) 11
abbrev s_program_text : Stmt := inClass (top 59) 13
abbrev s_places : Stmt := inClass (top 59) 15
abbrev s_program_without : Stmt := inClass (top 59) 17
abbrev s_program_remade : Stmt := inClass (top 59) 18
abbrev s_getitem : Stmt := inClass (top 59) 19
abbrev s_contains : Stmt := inClass (top 59) 20
abbrev s_program_iter : Stmt := inClass (top 59) 21
abbrev s_len : Stmt := inClass (top 59) 22
abbrev s_eq : Stmt := inClass (top 59) 23
abbrev s_bare_init : Stmt := inClass (top 60) 1
abbrev s_pen : Stmt := top 62
abbrev s_draw : Stmt := top 63
abbrev s_pick : Stmt := top 64
abbrev s_words : Stmt := top 65
abbrev s_number : Stmt := top 66
abbrev s_plain_line : Stmt := top 67
abbrev s_called : Stmt := top 68
abbrev s_lcall : Stmt := top 69
abbrev s_item : Stmt := top 70
abbrev s_items : Stmt := top 71
abbrev s_lines : Stmt := top 72
abbrev s_plain : Stmt := top 73
abbrev s_l_text : Stmt := top 74
abbrev s_l_bare_lines : Stmt := top 75
abbrev s_law : Stmt := top 76
end Fl
end
section
set_option Elab.async false
set_option linter.all false
set_option maxRecDepth 100000
set_option maxHeartbeats 2000000
namespace Fl
open PySem PySem.Spec PyProof.Rows L2 Fx
open Evl (Ex fresh_back)
/-- a global def that keeps its promise -/
structure Cl (P : Program) (w : World) (K : PySem.W.Frag) (mg : Str → Option Value) (base : Heap) (CX : CXT) (k : Nat) (x : Str) (sp : Sp) : Prop where
  ex : ∃ f fd ps, mg x = some (.ref f) ∧ PySem.W.keepIn K (.ref f) = true ∧ Binds K fd ps [] ∧ FnOk P w K mg base CX k f fd ps sp
section
variable {X : Cx} {e : Expr} {es : List Expr} {σ : L2.St} {H : Hp} {Q : VK} {pos p : Pos}
theorem re_callX {CX : CXT} {k j : Nat} {x : Str} {sp : Sp} {E : XK} (c : Cl X.prog X.w X.K X.mg X.base CX k x sp) (hr : Room j X.A) (hx : Passes CX X E) (h : RA X (e :: es) σ H fun vs H1 => sp vs H1 Q E) (hk : k ≤ j := by decide) (hg : Gl X x := by rfl)
    (hd : (x == ("__debug__" : Str)) = false := by decide) (h1 : starEach (e :: es) X.env = (false, eval e X.env) :: starEach es X.env := by rfl) (h2 : (backTo pos (starEach es X.env)).any (·.1) = false := by rfl) : RE X (.Call (.Name x p) (e :: es) [] pos) σ H Q := by
  obtain ⟨f, fd, ps, hm, hk', hb, F⟩ := c.ex
  refine re_of (pe_call F (hr.mono hk) hg hm hk' hb .nil hx pa_RA hd h1 h2) ?_
  exact h.mono fun vs H1 q => by rw [List.append_nil]; exact q
/-- a call of a def that lets nothing out -/
theorem re_call {k j : Nat} {x : Str} {sp : Sp} (c : Cl X.prog X.w X.K X.mg X.base CX0 k x sp) (hr : Room j X.A) (h : RA X (e :: es) σ H fun vs H1 => sp vs H1 Q E0) (hk : k ≤ j := by decide) (hg : Gl X x := by rfl)
    (hd : (x == ("__debug__" : Str)) = false := by decide) (h1 : starEach (e :: es) X.env = (false, eval e X.env) :: starEach es X.env := by rfl) (h2 : (backTo pos (starEach es X.env)).any (·.1) = false := by rfl) : RE X (.Call (.Name x p) (e :: es) [] pos) σ H Q :=
  re_callX c hr pass0 h hk hg hd h1 h2
theorem Binds.of {K : PySem.W.Frag} : True := True.intro
end
/-- promises about data -/
def sp1 (K : PySem.W.Frag) (Pre : PyData → Prop) (R : PyData → V → Hp → Prop) : Sp := fun vs H Q _ => ∃ v d, vs = [v] ∧ D K H v d ∧ Pre d ∧ ∀ r H', Ex H H' → R d r H' → Q r H'
def sp2 (K : PySem.W.Frag) (Pre : PyData → PyData → Prop) (R : PyData → PyData → V → Hp → Prop) : Sp := fun vs H Q _ => ∃ v u d b, vs = [v, u] ∧ D K H v d ∧ D K H u b ∧ Pre d b ∧ ∀ r H', Ex H H' → R d b r H' → Q r H'
abbrev spB (K : PySem.W.Frag) (Pre : PyData → Prop) (m : PyData → Bool) : Sp := sp1 K Pre fun d r _ => r = .bl (m d)
theorem sp1_len {K Pre R vs H Q E} (h : sp1 K Pre R vs H Q E) {ps : List Str} (hl : ps.length = 1) : vs.length = ps.length := by
  obtain ⟨v, d, rfl, _⟩ := h
  exact hl.symm
theorem sp2_len {K Pre R vs H Q E} (h : sp2 K Pre R vs H Q E) {ps : List Str} (hl : ps.length = 2) : vs.length = ps.length := by
  obtain ⟨v, u, d, b, rfl, _⟩ := h
  exact hl.symm

/-! ### the mirror: values -/
def isIntD (d : PyData) : Bool := isI d && !isB d
theorem isIntD_int {d : PyData} (h : isIntD d = true) : ∃ i, d = .int i := by
  cases d with
  | int i => exact ⟨i, rfl⟩
  | _ => exact absurd (show false = true from h) Bool.false_ne_true
def isNumD : PyData → Bool
  | .int i => decide (-2147483648 ≤ i) && decide (i ≤ 2147483647)
  | _ => false
def isWordS (s : Str) : Bool := decide (1 ≤ s.length) && decide (s.length ≤ 8) && s.cps.toList.all fun c => decide (97 ≤ c) && decide (c ≤ 122)
def isWordD : PyData → Bool
  | .str s => isWordS s
  | _ => false
def isListD (d : PyData) : Bool := isL d || isT d
def dlen : PyData → Nat
  | .list xs => xs.length
  | .tuple xs => xs.length
  | .dict xs => xs.length
  | _ => 0
def isFilledD (d : PyData) : Bool := isListD d && decide (0 < dlen d)
/-- texts within the line's bound -/
def shortS : PyData → Prop
  | .str s => s.length ≤ 100000
  | _ => True

/-- the built-in names that the module leaves, and its numbers -/
structure Gb (mg : Str → Option Value) : Prop where
  isinstance : mg "isinstance" = none
  int : mg "int" = none
  bool : mg "bool" = none
  str : mg "str" = none
  len : mg "len" = none
  all : mg "all" = none
  list : mg "list" = none
  tuple : mg "tuple" = none
  dict : mg "dict" = none
  zip : mg "zip" = none
  sum : mg "sum" = none
  enumerate : mg "enumerate" = none
  sorted : mg "sorted" = none
  max : mg "max" = none
  leastN : ∃ t, mg "LEAST_NUMBER" = some (.int (-2147483648) t)
  greatestN : ∃ t, mg "GREATEST_NUMBER" = some (.int 2147483647 t)
  letters : ∃ t, mg "MAX_LETTERS" = some (.int 8 t)
  entry : ∃ t, mg "MAX_ENTRY" = some (.int 59 t)
  regs : ∃ t, mg "REGISTERS" = some (.int 6 t)
  lines : ∃ t, mg "MAX_LINES" = some (.int 60 t)
  allL : ∃ t, mg "MAX_ALL" = some (.int 240 t)
  funs : ∃ t, mg "MAX_FUNCTIONS" = some (.int 24 t)
/-- where sizes are asked -/
structure Gs (mg : Str → Option Value) : Prop where
  leastS : ∃ t, mg "LEAST_SHORT" = some (.int (-8) t)
  greatestS : ∃ t, mg "GREATEST_SHORT" = some (.int 7 t)

section
variable {P : Program} {w : World} {K : PySem.W.Frag} {mg : Str → Option Value} {base : Heap} {f : Addr} {fd : FuncData}
theorem sc_is_int : FnScope ["value"] ["value"] (defScope s_is_int) := ⟨rfl, rfl, rfl, by decide +kernel, rfl, by decide +kernel, by decide +kernel⟩
abbrev sp_is_int (K : PySem.W.Frag) : Sp := spB K (fun _ => True) isIntD
theorem ok_is_int (F : Fun K "is_int" "is_int" s_is_int f fd) (G : Gb mg) : FnOk P w K mg base CX0 1 f fd ["value"] (sp_is_int K) := by
  refine F.ok sc_is_int (fun vs H Q E h => sp1_len h rfl) (fun cdv A outer s H vs Q E hr h => ⟨RB _ _, pss_RB, ?_⟩)
  obtain ⟨v, d, rfl, hd, _, q⟩ := h
  refine rb_one (rs_ret (re_and (re_isi kit_I G.isinstance G.int (re_var 0 rfl ⟨d, hd, _, rfl, ifB (fun e => ?_) fun e => ?_⟩))))
  · refine re_one (re_not (re_isi kit_B G.isinstance G.bool (re_var 0 rfl ⟨d, hd, _, rfl, q _ _ (Ex.refl _) ?_⟩)))
    show V.bl _ = V.bl (isI d && !isB d)
    rw [e]; rfl
  · refine q _ _ (Ex.refl _) ?_
    show V.bl _ = V.bl (isI d && !isB d)
    rw [e]; rfl
theorem sc_is_number : FnScope ["value"] ["value"] (defScope s_is_number) := ⟨rfl, rfl, rfl, by decide +kernel, rfl, by decide +kernel, by decide +kernel⟩
abbrev sp_is_number (K : PySem.W.Frag) : Sp := spB K (fun _ => True) isNumD
theorem ok_is_number (F : Fun K "is_number" "is_number" s_is_number f fd) (G : Gb mg) (c1 : Cl P w K mg base CX0 1 "is_int" (sp_is_int K)) : FnOk P w K mg base CX0 2 f fd ["value"] (sp_is_number K) := by
  refine F.ok sc_is_number (fun vs H Q E h => sp1_len h rfl) (fun cdv A outer s H vs Q E hr h => ⟨RB _ _, pss_RB, ?_⟩)
  obtain ⟨v, d, rfl, hd, _, q⟩ := h
  refine rb_one (rs_ret (re_and (re_call c1 hr (ra_cons (re_var 0 rfl (ra_nil ⟨v, d, rfl, hd, trivial, fun r H1 e1 hr1 => ?_⟩))))))
  subst hr1
  refine ⟨_, rfl, ifB (fun e => ?_) fun e => ?_⟩
  · obtain ⟨i, rfl⟩ := isIntD_int e
    cases hd
    refine re_one (re_chain op_le op_le (re_gint G.leastN (re_var 0 rfl ⟨_, _, rfl, rfl, _, rfl, ifB (fun e => ?_) fun e => ?_⟩)))
    · refine re_gint G.greatestN ⟨_, _, rfl, rfl, q _ _ e1 ?_⟩
      show V.bl _ = V.bl (decide _ && decide _)
      rw [e]; rfl
    · refine q _ _ e1 ?_
      show V.bl _ = V.bl (decide _ && decide _)
      rw [e]; rfl
  · refine q _ _ e1 ?_
    cases d with
    | int i => exact absurd (show true = false from e).symm Bool.false_ne_true
    | _ => rfl

/-! ### words -/
theorem lt_one (a b : Nat) : ([a] < [b]) ↔ (a < b) := by
  refine ⟨fun z => ?_, fun z => List.Lex.rel z⟩
  cases z with
  | rel z => exact z
  | cons z => cases z
theorem low_letter (c : Nat) : (!decide (([c] : List Nat) < (Str.ofString "a").cps.toList)) = decide (97 ≤ c) := by
  have e : (Str.ofString "a").cps.toList = [97] := by decide +kernel
  rw [e, decide_eq_decide.mpr (lt_one c 97)]
  by_cases h : c < 97
  · rw [decide_eq_true h, decide_eq_false (by omega)]; rfl
  · rw [decide_eq_false h, decide_eq_true (by omega)]; rfl
theorem high_letter (c : Nat) : (!decide ((Str.ofString "z").cps.toList < ([c] : List Nat))) = decide (c ≤ 122) := by
  have e : (Str.ofString "z").cps.toList = [122] := by decide +kernel
  rw [e, decide_eq_decide.mpr (lt_one 122 c)]
  by_cases h : 122 < c
  · rw [decide_eq_true h, decide_eq_false (by omega)]; rfl
  · rw [decide_eq_false h, decide_eq_true (by omega)]; rfl
def isLetter (c : Nat) : Bool := decide (97 ≤ c) && decide (c ≤ 122)
theorem take_snoc {α : Type} {l : List α} {i : Nat} {x : α} (h : l[i]? = some x) : l.take (i + 1) = l.take i ++ [x] := by
  rw [List.take_add_one, h]; rfl
theorem sc_is_word : FnScope ["value", "letter"] ["value"] (defScope s_is_word) := ⟨rfl, rfl, rfl, by decide +kernel, rfl, by decide +kernel, by decide +kernel⟩
abbrev sp_is_word (K : PySem.W.Frag) : Sp := spB K shortS isWordD
theorem ok_is_word (F : Fun K "is_word" "is_word" s_is_word f fd) (G : Gb mg) : FnOk P w K mg base CX0 1 f fd ["value"] (sp_is_word K) := by
  refine F.ok sc_is_word (fun vs H Q E h => sp1_len h rfl) (fun cdv A outer s H vs Q E hr h => ⟨RB _ _, pss_RB, ?_⟩)
  obtain ⟨v, d, rfl, hd, hs, q⟩ := h
  refine rb_cons (rs_if (rt_w (rw_or (rt_not (rt_val (re_isi kit_S G.isinstance G.str (re_var 0 rfl ⟨d, hd, _, rfl, ifB (fun e => ?_) fun e => ?_⟩)))))))
  · refine ifT (rb_one (rs_ret (re_bl (q _ _ (Ex.refl _) ?_))))
    cases d with
    | str x => exact absurd (show (false : Bool) = true from e) Bool.false_ne_true
    | _ => rfl
  obtain ⟨x, rfl⟩ : ∃ x, d = .str x := by
    cases d with
    | str x => exact ⟨x, rfl⟩
    | _ => exact absurd (show (true : Bool) = false from e).symm Bool.false_ne_true
  cases hd
  have hx : x.length ≤ 100000 := hs
  refine rw_or1 (rt_not (rt_chain op_le op_le (re_int (re_cb call_len G.len (ra_cons (re_var 0 rfl (ra_nil ⟨_, x.length, rfl, ⟨Evl.sz_of hx, rfl⟩, _, _, rfl, rfl, _, rfl, ?_⟩)))))))
  refine ifB (fun e1 => ?_) fun e1 => ?_
  · have e1 := of_decide_eq_true e1
    refine re_gint G.letters ⟨_, _, rfl, rfl, _, rfl, ?_⟩
    by_cases e2 : (x.length : Int) ≤ 8
    · rw [decide_eq_true e2]
      refine ifF ?_
      have h8 : isWordS x = (x.cps.toList.all isLetter) := by
        show (decide _ && decide _ && _) = _
        rw [decide_eq_true (show 1 ≤ x.length by omega), decide_eq_true (show x.length ≤ 8 by omega)]
        rfl
      refine rb_nil (rb_one (rs_ret ?_))
      refine re_cb (cr_all rfl) G.all (ra_cons ?_)
      refine (re_lc (own := [("letter", 1)]) (g := gName 1) rfl sc_is_word.nd (blkOk_by (N := ["value", "letter"]) (sc := defScope s_is_word) (by decide +kernel)) (fun _ _ _ _ _ => pg_name (i := 1) sc_is_word.nd rfl (Or.inl rfl)) good_name
        (ri_str (re_var 0 rfl ⟨x, rfl, _, _, _, fun i ys => ys = (x.cps.toList.take i).map fun c => V.bl (isLetter c), walk_str, Nat.le_trans (show x.cps.size ≤ 8 from (by show x.length ≤ 8; omega)) (by decide), fun _ _ => trivial, rfl, ?_, ?_⟩)))
      · rintro i v H2 H3 hi e2 ⟨rfl, c, hc, rfl⟩
        have hc' : x.cps.toList[i]? = some c := by rw [Array.getElem?_toList]; exact hc
        refine ⟨Ex.refl _, rfl, Ex.refl _, fun s0 H0 C cl fp => ?_⟩
        refine re_chain op_le_str op_le_str (re_str (re_var 1 rfl ⟨_, _, rfl, rfl, _, rfl, ?_⟩))
        rw [low_letter c]
        refine ifB (fun e => ?_) fun e => ?_
        · refine re_str ⟨_, _, rfl, rfl, Ex.refl _, fun acc ha => ?_⟩
          subst ha
          rw [high_letter c, take_snoc hc', List.map_append]
          show _ = _ ++ [V.bl (decide _ && decide _)]
          rw [e]; rfl
        · refine ⟨Ex.refl _, fun acc ha => ?_⟩
          subst ha
          rw [take_snoc hc', List.map_append]
          show _ = _ ++ [V.bl (decide _ && decide _)]
          rw [e]; rfl
      · rintro p ys H2 hp e2 h2 hl rfl
        have et : x.cps.toList.take x.cps.size = x.cps.toList := List.take_of_length_le (by rw [Array.length_toList]; exact Nat.le_refl _)
        refine ra_nil ⟨p, x.cps.toList.map isLetter, rfl, .inl (.inl ?_), q _ _ e2 ?_⟩
        · rw [h2, et, List.map_map]; rfl
        · show V.bl _ = V.bl (isWordS x)
          rw [h8, List.all_map]; rfl
    · rw [decide_eq_false e2]
      refine ifT (rb_one (rs_ret (re_bl (q _ _ (Ex.refl _) ?_))))
      show V.bl _ = V.bl (isWordS x)
      unfold isWordS
      rw [decide_eq_false (show ¬ x.length ≤ 8 by omega), Bool.and_false, Bool.false_and]
  · refine ⟨_, rfl, ifT (rb_one (rs_ret (re_bl (q _ _ (Ex.refl _) ?_))))⟩
    have e1 : ¬ (1 : Int) ≤ x.length := fun z => by rw [decide_eq_true z] at e1; exact Bool.noConfusion e1
    show V.bl _ = V.bl (isWordS x)
    unfold isWordS
    rw [decide_eq_false (show ¬ 1 ≤ x.length by omega), Bool.false_and, Bool.false_and]
theorem sc_is_list : FnScope ["value"] ["value"] (defScope s_is_list) := ⟨rfl, rfl, rfl, by decide +kernel, rfl, by decide +kernel, by decide +kernel⟩
abbrev sp_is_list (K : PySem.W.Frag) : Sp := spB K (fun _ => True) isListD
theorem ok_is_list (F : Fun K "is_list" "is_list" s_is_list f fd) (G : Gb mg) : FnOk P w K mg base CX0 1 f fd ["value"] (sp_is_list K) := by
  refine F.ok sc_is_list (fun vs H Q E h => sp1_len h rfl) (fun cdv A outer s H vs Q E hr h => ⟨RB _ _, pss_RB, ?_⟩)
  obtain ⟨v, d, rfl, hd, _, q⟩ := h
  exact rb_one (rs_ret (re_isi2 kit_L kit_T G.isinstance G.list G.tuple (re_var 0 rfl ⟨d, hd, fun H2 e2 => q _ _ e2 rfl⟩)))
/-- len of a list or a tuple (or a dict) -/
theorem _root_.Fx.D.lenV {H : Hp} {v : V} {d : PyData} (h : D K H v d) (hl : isListD d = true) : LenV K v H (dlen d) := by
  cases h with
  | lst a b => exact .inl ⟨_, a, b.length.symm⟩
  | tup a b => exact .inr ⟨_, a, b.length.symm⟩
  | _ => exact absurd (show false = true from hl) Bool.false_ne_true
theorem sc_is_filled_list : FnScope ["value"] ["value"] (defScope s_is_filled_list) := ⟨rfl, rfl, rfl, by decide +kernel, rfl, by decide +kernel, by decide +kernel⟩
abbrev sp_is_filled_list (K : PySem.W.Frag) : Sp := spB K (fun _ => True) isFilledD
theorem ok_is_filled_list (F : Fun K "is_filled_list" "is_filled_list" s_is_filled_list f fd) (G : Gb mg) (c1 : Cl P w K mg base CX0 1 "is_list" (sp_is_list K)) : FnOk P w K mg base CX0 2 f fd ["value"] (sp_is_filled_list K) := by
  refine F.ok sc_is_filled_list (fun vs H Q E h => sp1_len h rfl) (fun cdv A outer s H vs Q E hr h => ⟨RB _ _, pss_RB, ?_⟩)
  obtain ⟨v, d, rfl, hd, _, q⟩ := h
  refine rb_one (rs_ret (re_and (re_call c1 hr (ra_cons (re_var 0 rfl (ra_nil ⟨v, d, rfl, hd, trivial, fun r H1 e1 hr1 => ?_⟩))))))
  subst hr1
  refine ⟨_, rfl, ifB (fun e => ?_) fun e => ?_⟩
  · refine re_one (re_cmp op_gt (re_cb call_len G.len (ra_cons (re_var 0 rfl (ra_nil ⟨_, _, rfl, (hd.mono e1).lenV e, re_int ⟨_, _, rfl, rfl, q _ _ e1 ?_⟩⟩)))))
    show V.bl _ = V.bl (isListD d && decide _)
    rw [e, Bool.true_and]
    exact congrArg V.bl (decide_eq_decide.mpr (by omega))
  · refine q _ _ e1 ?_
    show V.bl _ = V.bl (isListD d && decide _)
    rw [e]; rfl
end
end Fl
end
section
set_option Elab.async false
set_option linter.all false
set_option maxRecDepth 100000
set_option maxHeartbeats 2000000
/-! == of data with a text. -/
namespace Fx
open PySem PySem.Spec PyProof.Rows L2
open Evl (Ex fresh_back)
open PySem.SeqAt
theorem dict_eq_declines_str (l : Addr) (es : Array DictEntry) (n : Nat) (dd : Option Addr) (sl : Array (Option Value)) (b : Str) (u : Tok) :
    Meets (Builtin.«dict.__eq__» ⟨[.ref l, .str b u], []⟩) (fun _ R s => s.heap.get? l = some { cls := .type "dict", dict := dd, data := .dict es n, slots := sl } ∧ R (.ok (.ret .notImplemented)) s) :=
  .of_wp fun prog w A R s h => by obtain ⟨hp, g, d, tk, os⟩ := s; obtain ⟨hl, h⟩ := h; have f1 := F.sub_str_dict; wp_walk using wpAny_loadPart' hl; exact ⟨_, rfl, h⟩
theorem str_eq_declines_dict (b : Str) (u : Tok) (l : Addr) (es : Array DictEntry) (n : Nat) (dd : Option Addr) (sl : Array (Option Value)) :
    Meets (Builtin.«str.__eq__» ⟨[.str b u, .ref l], []⟩) (fun _ R s => s.heap.get? l = some { cls := .type "dict", dict := dd, data := .dict es n, slots := sl } ∧ R (.ok (.ret .notImplemented)) s) :=
  .of_wp fun prog w A R s h => by obtain ⟨hp, g, d, tk, os⟩ := s; obtain ⟨hl, h⟩ := h; wp_walk using wpAny_loadPart' hl, wpAny_load hl; exact ⟨_, rfl, h⟩
section
variable {A : Around} {s : Shared}
theorem rc_dict_str {l : Addr} {es : Array DictEntry} {n : Nat} {dd : Option Addr} {sl : Array (Option Value)} (b : Str) (u : Tok) (ho : s.heap.get? l = some { cls := .type "dict", dict := dd, data := .dict es n, slots := sl }) (hu : A.units < cLine)
    {prog : Program} {w : World} {E : Value → Shared → Prop} {Q : Value → Shared → Prop} (h : Q (.bool false) s) : wpAny (model prog w) A (richCompare .Eq (.ref l) (.str b u)) Q E s :=
  rc_eq_decline_or (k := false) ⟨_, ho, rfl⟩ (typeIs_str s b u) (by decide) F.sub_str_dict F.slot_dict_eq F.slot_str_eq_refl
    (fun _ hq => call_meets F.slot_dict_eq ⟨_, ho, rfl⟩ F.entry_dict_eq (F.args_dict_eq_2 _ _) (dict_eq_declines_str l es n dd sl b u) ⟨ho, hq⟩)
    (fun _ hq => call_meets F.slot_str_eq_refl (typeIs_str s b u) F.entry_str_eq (F.args_str_eq_2 _ _) (str_eq_declines_dict b u l es n dd sl) ⟨ho, hq⟩)
    (fun _ hq => wpAny_of_eq (rfl : isSame (.ref l) (.str b u) = pure false) hq) (.inr hu) h
end
def strIs (z : Str) : PyData → Bool
  | .str x => decide (x = z)
  | _ => false
section
variable {X : Cx}
def rEqS (K : PySem.W.Frag) : R2 := fun x y H Q => ∃ d z, D K H x d ∧ y = .str z ∧ Q (.bl (strIs z d)) H
theorem op_eqS (hu : X.A.units < cLine) : OpR X (compareOp .Eq) (rEqS X.K) := by
  intro pins s σ H x y v u Q I rx ry h
  obtain ⟨d, z, hd, rfl, q⟩ := h
  obtain ⟨t, rfl⟩ := (show ∃ t, u = Value.str z t from ry)
  have fin : EP X pins σ Q (.bool (strIs z d)) s := ⟨.bl _, H, I, rfl, q⟩
  cases hd with
  | non => exact op_eq pins s σ H _ (.str z) _ _ Q I rx ⟨t, rfl⟩ ⟨rfl, q⟩
  | bl b => exact op_eq pins s σ H _ (.str z) _ _ Q I rx ⟨t, rfl⟩ ⟨rfl, by rw [decide_eq_false (fun e => nomatch e)]; exact q⟩
  | int b => exact op_eq pins s σ H _ (.str z) _ _ Q I rx ⟨t, rfl⟩ ⟨rfl, by rw [decide_eq_false (fun e => nomatch e)]; exact q⟩
  | str b => exact op_eq pins s σ H _ (.str z) _ _ Q I rx ⟨t, rfl⟩ ⟨rfl, by
      have e : decide (V.str b = V.str z) = decide (b = z) := decide_eq_decide.mpr ⟨fun e => V.str.inj e, fun e => by rw [e]⟩
      rw [e]; exact q⟩
  | lst a _ =>
    obtain rfl : v = Value.ref _ := rx
    obtain ⟨its, _, pl, _⟩ := I.list a
    exact RcAt.list_str z t pl.isList hu _ _ _ _ fin
  | tup a _ =>
    obtain rfl : v = Value.ref _ := rx
    obtain ⟨its, _, ⟨o, h1, h2, n, h3⟩, _⟩ := I.tuple a
    exact RcAt.tuple_str z t ⟨o, h1, h2, n, h3⟩ hu _ _ _ _ fin
  | dic a _ =>
    obtain rfl : v = Value.ref _ := rx
    obtain ⟨_, _, vs, _, o, es, ep, h1, h2, h3, _⟩ := rd_of I.hok a
    obtain ⟨oc, od, dt, sl⟩ := o
    have e1 : oc = .type "dict" := h2.1
    subst e1
    have e2 : dt = .dict es ep := h3
    subst e2
    exact rc_dict_str z t h1 hu fin
end
end Fx
end
section
set_option Elab.async false
set_option linter.all false
set_option maxRecDepth 100000
set_option maxHeartbeats 2000000
namespace Fl
open PySem PySem.Spec PyProof.Rows L2 Fx
open Evl (Ex fresh_back)
open RZ
/-! ### the mirror: lines -/
/-- the kinds of the parts behind each word -/
def forms : List (Str × List Str) := [("num", ["reg", "number"]), ("copy", ["reg", "reg"]), ("add", ["reg", "reg", "reg"]), ("sub", ["reg", "reg", "reg"]), ("mul", ["reg", "reg", "reg"]), ("addr", ["reg", "word"]), ("same", ["reg", "reg"]), ("less", ["reg", "reg"]),
  ("in", ["reg"]), ("out", ["reg"]), ("push", ["reg or link"]), ("pop", ["reg or link"]), ("read", ["reg", "entry"]), ("write", ["entry", "reg"]), ("mark", ["word"]), ("jump", ["word"]), ("if", ["word"]), ("unless", ["word"]), ("call", ["word"]), ("callr", ["reg"]), ("tail", ["word"]), ("back", []), ("stop", [])]
def sizes : List (Str × Int) := [("addr", 3), ("mark", 0), ("jump", 2), ("if", 2), ("unless", 2), ("call", 2), ("tail", 2)]
def regB : PyData → Bool
  | .int i => decide (0 ≤ i) && decide (i < 6)
  | _ => false
def entB : PyData → Bool
  | .int i => decide (0 ≤ i) && decide (i ≤ 59)
  | _ => false
def fitsD (kind : Str) (d : PyData) : Bool :=
  if kind = "word" then isWordD d else if kind = "number" then isNumD d else if kind = "entry" then entB d else if kind = "reg or link" ∧ strIs "link" d = true then true else regB d
def isLineD : PyData → Bool
  | .tuple (.str w :: xs) => match forms.lookup w with
    | some kinds => decide (xs.length = kinds.length) && (kinds.zip xs).all fun p => fitsD p.1 p.2
    | none => false
  | _ => false
/-- the module's tables -/
structure Frm (K : PySem.W.Frag) (w : World) (mg : Str → Option Value) : Prop where
  forms : ∃ a es n, mg "FORMS" = some (.ref a) ∧ KDict K w a es n ∧ ∀ z : Str, match forms.lookup z with
    | some kinds => ∃ b, PySem.W.nsIn K a z = some (some (.ref b)) ∧ ∀ H, SqT K H b (kinds.map V.str)
    | none => PySem.W.nsIn K a z = some none
section
variable {P : Program} {w : World} {K : PySem.W.Frag} {mg : Str → Option Value} {base : Heap} {f : Addr} {fd : FuncData}
theorem sc_fits : FnScope ["kind", "part"] ["kind", "part"] (defScope s_fits) := ⟨rfl, rfl, rfl, by decide +kernel, rfl, by decide +kernel, by decide +kernel⟩
def sp_fits (K : PySem.W.Frag) : Sp := fun vs H Q _ => ∃ (kind : Str) (v : V) (d : PyData), vs = [.str kind, v] ∧ D K H v d ∧ shortS d ∧ ∀ r H', Ex H H' → r = .bl (fitsD kind d) → Q r H'
theorem eqK {a b : Str} : decide (V.str a = V.str b) = decide (a = b) := decide_eq_decide.mpr ⟨fun e => V.str.inj e, fun e => by rw [e]⟩
theorem ok_fits (F : Fun K "_fits" "_fits" s_fits f fd) (G : Gb mg) (c1 : Cl P w K mg base CX0 1 "is_word" (sp_is_word K)) (c2 : Cl P w K mg base CX0 2 "is_number" (sp_is_number K)) (c3 : Cl P w K mg base CX0 1 "is_int" (sp_is_int K)) :
    FnOk P w K mg base CX0 3 f fd ["kind", "part"] (sp_fits K) := by
  refine F.ok sc_fits (fun vs H Q E h => ?_) (fun cdv A outer s H vs Q E hr h => ⟨RB _ _, pss_RB, ?_⟩)
  · obtain ⟨_, _, _, rfl, _⟩ := h; rfl
  obtain ⟨kind, v, d, rfl, hd, hs, q⟩ := h
  refine rb_cons (rs_if (rt_cmp op_eq (re_var 0 rfl (re_str ⟨rfl, _, rfl, ?_⟩))))
  rw [eqK]
  by_cases k1 : kind = "word"
  · rw [decide_eq_true k1]
    refine ifT (rb_one (rs_ret (re_call c1 hr (ra_cons (re_var 1 rfl (ra_nil ⟨v, d, rfl, hd, hs, fun r H1 e1 h1 => q _ _ e1 ?_⟩))))))
    rw [h1]; unfold fitsD; rw [if_pos k1]
  rw [decide_eq_false k1]
  refine ifF (rb_nil (rb_cons (rs_if (rt_cmp op_eq (re_var 0 rfl (re_str ⟨rfl, _, rfl, ?_⟩))))))
  rw [eqK]
  by_cases k2 : kind = "number"
  · rw [decide_eq_true k2]
    refine ifT (rb_one (rs_ret (re_call c2 hr (ra_cons (re_var 1 rfl (ra_nil ⟨v, d, rfl, hd, trivial, fun r H1 e1 h1 => q _ _ e1 ?_⟩))))))
    rw [h1]; unfold fitsD; rw [if_neg k1, if_pos k2]
  rw [decide_eq_false k2]
  refine ifF (rb_nil (rb_cons (rs_if (rt_cmp op_eq (re_var 0 rfl (re_str ⟨rfl, _, rfl, ?_⟩))))))
  rw [eqK]
  by_cases k3 : kind = "entry"
  · rw [decide_eq_true k3]
    refine ifT (rb_one (rs_ret (re_and (re_call c3 hr (ra_cons (re_var 1 rfl (ra_nil ⟨v, d, rfl, hd, trivial, fun r H1 e1 h1 => ?_⟩)))))))
    subst h1
    have ed : fitsD kind d = entB d := by unfold fitsD; rw [if_neg k1, if_neg k2, if_pos k3]
    refine ⟨_, rfl, ifB (fun e => ?_) fun e => ?_⟩
    · obtain ⟨i, rfl⟩ := isIntD_int e
      cases hd
      refine re_one (re_chain op_le op_le (re_int (re_var 1 rfl ⟨_, _, rfl, rfl, _, rfl, ifB (fun e => ?_) fun e => ?_⟩)))
      · refine re_gint G.entry ⟨_, _, rfl, rfl, q _ _ e1 ?_⟩
        rw [ed]; show V.bl _ = V.bl (decide _ && decide _); rw [e]; rfl
      · refine q _ _ e1 ?_
        rw [ed]; show V.bl _ = V.bl (decide _ && decide _); rw [e]; rfl
    · refine q _ _ e1 ?_
      rw [ed]
      cases d with
      | int i => exact absurd (show true = false from e).symm Bool.false_ne_true
      | _ => rfl
  rw [decide_eq_false k3]
  have last : ∀ {D : Ends} (_ : D.rt = Q) (_ : ¬ (kind = "reg or link" ∧ strIs "link" d = true)), ∀ H1, Ex H H1 → RS (cxOf CX0 P w K mg base ["kind", "part"] "_fits" (defScope s_fits) f cdv A outer s H E).nox (match (defBody s_fits).getD 4 (.Pass ⟨0, 0, 0, 0⟩) with | st => st) D (L2.start ["kind", "part"] [V.str kind, v]) H1 := by
    intro D hD k4 H1 e1
    have ed : fitsD kind d = regB d := by unfold fitsD; rw [if_neg k1, if_neg k2, if_neg k3, if_neg k4]
    refine rs_ret (re_and (re_call c3 hr (ra_cons (re_var 1 rfl (ra_nil ⟨v, d, rfl, hd.mono e1, trivial, fun r H2 e2 h1 => ?_⟩)))))
    subst h1
    rw [hD]
    refine ⟨_, rfl, ifB (fun e => ?_) fun e => ?_⟩
    · obtain ⟨i, rfl⟩ := isIntD_int e
      cases hd
      refine re_one (re_chain op_le op_lt (re_int (re_var 1 rfl ⟨_, _, rfl, rfl, _, rfl, ifB (fun e => ?_) fun e => ?_⟩)))
      · refine re_gint G.regs ⟨_, _, rfl, rfl, q _ _ (e1.trans e2) ?_⟩
        rw [ed]; show V.bl _ = V.bl (decide _ && decide _); rw [e]; rfl
      · refine q _ _ (e1.trans e2) ?_
        rw [ed]; show V.bl _ = V.bl (decide _ && decide _); rw [e]; rfl
    · refine q _ _ (e1.trans e2) ?_
      rw [ed]
      cases d with
      | int i => exact absurd (show true = false from e).symm Bool.false_ne_true
      | _ => rfl
  refine ifF (rb_nil (rb_cons (rs_if (rt_w (rw_and (rt_cmp op_eq (re_var 0 rfl (re_str ⟨rfl, _, rfl, ?_⟩))))))))
  rw [eqK]
  by_cases k4 : kind = "reg or link"
  · rw [decide_eq_true k4]
    refine ifT (rw_and1 (rt_cmp (op_eqS hr.units0) (re_var 1 rfl (re_str ⟨d, _, hd, rfl, _, rfl, ifB (fun e => ?_) fun e => ?_⟩))))
    · refine rb_one (rs_ret (re_bl (q _ _ (Ex.refl _) ?_)))
      unfold fitsD; rw [if_neg k1, if_neg k2, if_neg k3, if_pos ⟨k4, e⟩]
    · exact rb_nil (rb_one (last rfl (fun z => by rw [e] at z; exact Bool.noConfusion z.2) _ (Ex.refl _)))
  · rw [decide_eq_false k4]
    exact ifF (ifF (rb_nil (rb_one (last rfl (fun z => k4 z.1) _ (Ex.refl _)))))
theorem sc_is_line : FnScope ["value", "kinds", "kind", "part"] ["value"] (defScope s_is_line) := ⟨rfl, rfl, rfl, by decide +kernel, rfl, by decide +kernel, by decide +kernel⟩
def shortL : PyData → Prop
  | .tuple xs => xs.length ≤ 1000 ∧ ∀ x ∈ xs, shortS x
  | _ => True
abbrev sp_is_line (K : PySem.W.Frag) : Sp := spB K shortL isLineD
theorem DA.nil_iff {H : Hp} {xs : List V} {ds : List PyData} (h : DA K H xs ds) : xs = [] ↔ ds = [] := by
  cases h with
  | nil => simp
  | cons a b => simp
theorem cut1 (xs : List V) : cutV xs (some 1) none = xs.drop 1 := by
  unfold cutV
  rw [show HT.sIx xs.length 0 (some 1) = min 1 xs.length from HT.sIx_nat xs.length 0 1, HT.sIx_none]
  cases xs with
  | nil => rfl
  | cons x r =>
    rw [show min 1 (x :: r).length = 1 by rw [List.length_cons]; omega]
    show (List.take ((x :: r).length - 1) r) = r
    rw [List.length_cons, Nat.add_sub_cancel]
    exact List.take_length
theorem isS_str {d : PyData} (h : isS d = true) : ∃ z, d = .str z := by
  cases d with
  | str z => exact ⟨z, rfl⟩
  | _ => exact absurd (show false = true from h) Bool.false_ne_true
theorem isT_tup {d : PyData} (h : isT d = true) : ∃ z, d = .tuple z := by
  cases d with
  | tuple z => exact ⟨z, rfl⟩
  | _ => exact absurd (show false = true from h) Bool.false_ne_true
theorem ok_is_line (F : Fun K "is_line" "is_line" s_is_line f fd) (G : Gb mg) (T : Frm K w mg) (c1 : Cl P w K mg base CX0 3 "_fits" (sp_fits K)) : FnOk P w K mg base CX0 4 f fd ["value"] (sp_is_line K) := by
  refine F.ok sc_is_line (fun vs H Q E h => sp1_len h rfl) (fun cdv A outer s H vs Q E hr h => ⟨RB _ _, pss_RB, ?_⟩)
  obtain ⟨v, d, rfl, hd, hs, q⟩ := h
  obtain ⟨fa, es, n, mF, KD, has⟩ := T.forms
  refine rb_cons (rs_if (rt_w (rw_or (rt_not (rt_val (re_isi kit_T G.isinstance G.tuple (re_var 0 rfl ⟨d, hd, _, rfl, ifB (fun e => ?_) fun e => ?_⟩)))))))
  · refine ifT (rb_one (rs_ret (re_bl (q _ _ (Ex.refl _) ?_))))
    cases d with
    | tuple x => exact absurd (show (false : Bool) = true from e) Bool.false_ne_true
    | _ => rfl
  obtain ⟨ds, rfl⟩ : ∃ ds, d = .tuple ds := isT_tup (by cases z : isT d with | true => rfl | false => rw [z] at e; exact Bool.noConfusion e)
  cases hd with
  | tup sq ha =>
  rename_i a xs
  refine rw_or1 (rt_cmp op_eq (re_cb call_len G.len (ra_cons (re_var 0 rfl (ra_nil ⟨_, xs.length, rfl, .inr ⟨xs, sq, rfl⟩, re_int ⟨rfl, _, rfl, ?_⟩⟩)))))
  cases ha with
  | nil =>
    refine ifT (rb_one (rs_ret (re_bl (q _ _ (Ex.refl _) rfl))))
  | cons h0 ht =>
  rename_i v0 vr d0 dr
  rw [decide_eq_false (fun e => by have e := V.int.inj e; rw [List.length_cons] at e; omega)]
  refine ifF (rb_nil (rb_cons (rs_if (rt_w (rw_or (rt_not (rt_val (re_isi kit_S G.isinstance G.str (re_ixT (re_var 0 rfl (re_int ⟨a, _, 0, v0, rfl, rfl, sq, atI_nat (j := 0) rfl, d0, h0, _, rfl, ifB (fun e => ?_) fun e => ?_⟩)))))))))))
  · refine ifT (rb_one (rs_ret (re_bl (q _ _ (Ex.refl _) ?_))))
    cases d0 with
    | str x => exact absurd (show (false : Bool) = true from e) Bool.false_ne_true
    | _ => rfl
  obtain ⟨z, rfl⟩ : ∃ z, d0 = .str z := isS_str (by cases y : isS d0 with | true => rfl | false => rw [y] at e; exact Bool.noConfusion e)
  cases h0
  have hz := has z
  refine rw_or1 (rt_cmp (op_notIn_kd KD) (re_ixT (re_var 0 rfl (re_int ⟨a, _, 0, _, rfl, rfl, sq, atI_nat (j := 0) rfl, re_glob (v := .ref fa) mF rfl ?_⟩))))
  cases hl : forms.lookup z with
  | none =>
    rw [hl] at hz
    refine ⟨z, _, rfl, rfl, hz, _, rfl, ifT (rb_one (rs_ret (re_bl (q _ _ (Ex.refl _) ?_))))⟩
    show V.bl false = V.bl (match forms.lookup z with | some kinds => _ | none => _)
    rw [hl]
  | some kinds =>
  rw [hl] at hz
  obtain ⟨kb, hk, hkt⟩ := hz
  refine ⟨z, _, rfl, rfl, hk, _, rfl, ifF (rb_nil (rb_cons (rs_set 1 sc_is_line.nd (re_of (pe_ix ix_kdict pe_RE pe_RE (fun _ _ => rfl)) ?_))))⟩
  refine re_glob (v := .ref fa) mF rfl (re_ixT (re_var 0 rfl (re_int ⟨a, _, 0, _, rfl, rfl, sq, atI_nat (j := 0) rfl, fa, z, .ref kb, rfl, rfl, ⟨es, n, _, KD.at_, KD.lit, hk, rfl⟩, ?_⟩)))
  have hlen : vr.length = dr.length := ht.length
  refine rb_cons (rs_if (rt_cmp op_ne (re_cb call_len G.len (ra_cons (re_var 0 rfl (ra_nil ⟨_, _, rfl, .inr ⟨_, sq, rfl⟩, re_op op_add (re_cb call_len G.len (ra_cons (re_var 1 rfl (ra_nil ⟨_, _, rfl, .inr ⟨_, hkt _, rfl⟩, re_int ⟨_, _, rfl, rfl, rfl, _, rfl, ?_⟩⟩))))⟩))))))
  have e1 : isLineD (.tuple (.str z :: dr)) = (decide (dr.length = kinds.length) && (kinds.zip dr).all fun p => fitsD p.1 p.2) := by
    show (match forms.lookup z with | some kinds => _ | none => _) = _
    rw [hl]
  by_cases hn : dr.length = kinds.length
  · have e0 : decide (V.int (((V.str z :: vr).length : Nat) : Int) = V.int ((((kinds.map V.str).length : Nat) : Int) + 1)) = true := decide_eq_true (by rw [List.length_cons, List.length_map, hlen, hn]; rfl)
    rw [e0]
    refine ifF (rb_nil (rb_one (rs_ret (re_cb (cr_all rfl) G.all (ra_cons ?_)))))
    refine re_lc (own := [("kind", 2), ("part", 3)]) (g := gTup K 2 (gCons (gName 2) (gCons (gName 3) gNil))) rfl sc_is_line.nd (blkOk_by (N := ["value", "kinds", "kind", "part"]) (sc := defScope s_is_line) (by decide +kernel))
      (fun _ _ _ _ _ => pg_tup rfl (pgs_cons (pg_name (i := 2) sc_is_line.nd rfl (Or.inl rfl)) (pgs_cons (pg_name (i := 3) sc_is_line.nd rfl (Or.inl rfl)) pgs_nil))) good_tup2 ?_
    refine ri_zipT G.zip (ra_cons (re_var 1 rfl (ra_cons (re_of (pe_slice sl_tup pe_RE (po_some pe_int) po_none) (re_var 0 rfl ⟨1, rfl, a, _, rfl, sq, ?_, fun p hp => ra_nil ?_⟩)))))
    · rintro ⟨z1, _⟩
      rw [show (some (1 : Int)) = some ((1 : Nat) : Int) from rfl, HT.sIx_nat, List.length_cons] at z1
      omega
    have ep : Ex H (upd H p (.tup (cutV (V.str z :: vr) (some 1) none))) := Ex.new hp
    rw [cut1] at ep ⊢
    rw [List.drop_one, List.tail_cons] at ep ⊢
    refine ⟨kb, p, kinds.map V.str, vr, rfl, hkt _, .inl (.inl upd_same), _, _, _, fun i ys => ys = ((kinds.zip dr).take i).map fun p => V.bl (fitsD p.1 p.2), walk_zipT (by rw [List.length_map, hlen, hn]), ?_, fun H' e' => ⟨hkt _, Evl.ex_t e' (.inl (.inl upd_same))⟩, rfl, ?_, ?_⟩
    · rw [List.length_map, ← hn]
      have := hs.1
      rw [List.length_cons] at this
      omega
    · rintro i x H2 H3 hi e2 ⟨t, x, y, rfl, hT, rfl, hx, hy⟩
      have hx : (kinds.map V.str)[i]? = some x := hx
      rw [List.getElem?_map] at hx
      obtain ⟨k, hk', rfl⟩ := Option.map_eq_some_iff.mp hx
      obtain ⟨d, hd', hdd⟩ := ht.getV hy
      have e3 : Ex H2 (upd H2 t (.tup [V.str k, y])) := Ex.new hT
      refine ⟨e3, t, [V.str k, y], rfl, .inl (.inl upd_same), rfl, V.str k, [y], rfl, y, [], rfl, rfl, rfl, Ex.refl _, fun s0 H0 C cl fp => ?_⟩
      refine re_call c1 hr (ra_cons (re_var 2 rfl (ra_cons (re_var 3 rfl (ra_nil ⟨k, y, d, rfl, hdd.mono ((ep.trans e2).trans e3), ?_, fun r H' e' h' => ⟨e', fun acc ha => ?_⟩⟩)))))
      · exact hs.2 d (List.mem_cons_of_mem _ (List.mem_of_getElem? hd'))
      · subst ha h'
        have hz : (kinds.zip dr)[i]? = some (k, d) := by
          rw [List.getElem?_zip_eq_some]
          exact ⟨hk', hd'⟩
        rw [take_snoc hz, List.map_append]
        rfl
    · rintro p2 ys H2 hp2 e2 h2 hl2 rfl
      have et : (kinds.zip dr).take (kinds.map V.str).length = kinds.zip dr := List.take_of_length_le (by rw [List.length_zip, List.length_map]; omega)
      refine ra_nil ⟨p2, (kinds.zip dr).map fun p => fitsD p.1 p.2, rfl, .inl (.inl ?_), q _ _ (ep.trans e2) ?_⟩
      · rw [h2, et, List.map_map]; rfl
      · show V.bl _ = V.bl (isLineD _)
        rw [e1, decide_eq_true hn, Bool.true_and, List.all_map]; rfl
  · have e0 : decide (V.int (((V.str z :: vr).length : Nat) : Int) = V.int ((((kinds.map V.str).length : Nat) : Int) + 1)) = false := decide_eq_false (fun e => by
      have e := V.int.inj e
      rw [List.length_cons, List.length_map, hlen] at e
      omega)
    rw [e0]
    refine ifT (rb_one (rs_ret (re_bl (q _ _ (Ex.refl _) ?_))))
    show V.bl _ = V.bl (isLineD _)
    rw [e1, decide_eq_false hn, Bool.false_and]
end
end Fl
end
section
set_option Elab.async false
set_option linter.all false
set_option maxRecDepth 100000
set_option maxHeartbeats 2000000
/-! enumerate over a tuple. -/
namespace Fx
open PySem PySem.Spec PyProof.Rows L2
open Evl (Ex fresh_back)
theorem enum_one {v : Value} {o : Obj} {G : Heap → Prop} (B : Begins v o G) :
    Meets (Builtin.«enumerate.__new__» ⟨[.type "enumerate", v], []⟩) (fun _ R s => G s.heap ∧
      R (.ok (.ret (.ref (s.heap.push o).objs.size))) { s with heap := (s.heap.push o).push { cls := .type "enumerate", data := .fields #[.none, .bool false, .ref s.heap.objs.size, rawInt 0, .none, .none] } }) :=
  .of_wp fun prog w A R s h => by
    obtain ⟨hp, g, d, tk, os⟩ := s
    obtain ⟨hG, hR⟩ := h
    have hsub := sub_enumerate
    have it : ∀ {A' : Around} {E : Value → Shared → Prop} {Q : Value → Shared → Prop}, Q (.ref hp.objs.size) ⟨hp.push o, g, d, tk, os⟩ → wpAny (model prog w) A' (pyIter v) Q E ⟨hp, g, d, tk, os⟩ :=
      fun z => B.iter prog w _ _ ⟨hp, g, d, tk, os⟩ _ hG z
    wp_walk using it
    refine wpAny_stack_any fun st => wpAny_pure ?_
    split
    · rename_i cl _ _ _ _ _
      cases (cl == Value.type "enumerate")
      · wp_walk using it
        exact ⟨_, rfl, hR⟩
      · wp_walk using it
        exact ⟨_, rfl, hR⟩
    · wp_walk using it
      exact ⟨_, rfl, hR⟩
section
variable {prog : Program} {w : World} {A : Around} {E : Value → Shared → Prop} {s : Shared}
theorem call_enum {v : Value} {o : Obj} {G : Heap → Prop} {Q : Value → Shared → Prop} (B : Begins v o G) (hG : G s.heap)
    (h : ∀ h', IsEnum h' (s.heap.objs.size + 1) s.heap.objs.size 0 .none → h'.get? s.heap.objs.size = some o → (∀ b u, s.heap.get? b = some u → h'.get? b = some u) → Q (.ref (s.heap.objs.size + 1)) { s with heap := h' }) :
    wpAny (model prog w) A (call (.type "enumerate") [v]) Q E s := by
  refine callType_new F.called_enumerate (by decide) (F.typeCall_enumerate_1 _) (F.newCall_enumerate_1 _) (fun obj => F.args_object_init_2 obj _) F.entry_enumerate_new (enum_one B) ⟨hG, ?_⟩
  have z1 : (s.heap.push o).objs.size = s.heap.objs.size + 1 := Heap.size_push ..
  show _ ∧ _
  rw [z1]
  have z2 : IsEnum ((s.heap.push o).push { cls := .type "enumerate", data := .fields #[.none, .bool false, .ref s.heap.objs.size, rawInt 0, .none, .none] }) (s.heap.objs.size + 1) s.heap.objs.size 0 .none := by
    have z3 := Heap.get?_push_size (s.heap.push o) (o := { cls := .type "enumerate", data := .fields #[.none, .bool false, .ref s.heap.objs.size, rawInt 0, .none, .none] }) rfl
    rw [z1] at z3
    exact z3
  exact ⟨⟨_, z2, rfl⟩, h _ z2 (Heap.get?_push_of_some _ (Heap.get?_push_size _ B.free)) fun b u x => Heap.get?_push_of_some _ (Heap.get?_push_of_some _ x)⟩
end
/-- the tuple at a, each item in a new pair -/
def IteT (K : PySem.W.Frag) (a : Addr) : It :=
  ⟨fun i H => ∃ (xs : List V) (x : V), SqT K H a xs ∧ xs[i]? = some x, fun i H v H' => ∃ T x, v = .ref T ∧ H T = none ∧ H' = upd H T (.tup [.int (i : Nat), x]) ∧ ∀ xs, SqT K H a xs → xs[i]? = some x, fun i H => ∃ xs : List V, SqT K H a xs ∧ xs.length = i⟩
theorem turn_enumT {P : Program} {w : World} {K : PySem.W.Frag} {elts : List Expr} {kk : Nat} {tpos : Pos} (a e it : Addr) (hai : a ≠ it) :
    Turn P w K (.Tuple elts kk tpos) (IteT K a) [e, it] e (fun i h => (∃ old, IsEnum h e it ((i : Nat) : Int) old) ∧ h.IsTupleIter it a i ∧ e ≠ it ∧ a ≠ e) where
  mem := by simp
  obj := fun i h st b hb => by
    obtain ⟨⟨old, he⟩, ⟨o, ho, hc, hd⟩, _⟩ := st
    rcases (show b = e ∨ b = it by simpa using hb) with z | z
    · rw [z]; exact ⟨_, he, fun v q => nomatch q⟩
    · rw [z]; exact ⟨o, ho, fun v q => by rw [hd] at q; cases q⟩
  keep := fun i h h' st k => by
    obtain ⟨⟨old, he⟩, hi, hne⟩ := st
    exact ⟨⟨old, k e (by simp) _ he⟩, hi.at fun o q => k it (by simp) o q, hne⟩
  item := by
    intro X hP hw hK hc i pins s σ H E I hf st hg
    subst hP hw hK
    obtain ⟨⟨old, he⟩, hit, hne, hae⟩ := st
    obtain ⟨xs, x, hq, hx⟩ := hg
    obtain ⟨its, rv, p, hz⟩ := I.tuple hq
    have hlen : its.toArray.size = xs.length := by rw [List.size_toArray]; exact rv.length.symm
    have hil : i < its.toArray.size := by
      rw [hlen]
      exact (List.getElem?_eq_some_iff.mp hx).1
    have e0 : e < s.heap.objs.size := Heap.lt_size he
    have e1 : it < s.heap.objs.size := by obtain ⟨_, q, _⟩ := hit; exact Heap.lt_size q
    refine wpAny_pyNext_enum_itemD (Draws.tuple (A := X.A.in1) (I.ok.hd hc) it a hai its.toArray) he ⟨hit, p⟩ hil hne (by simp [hne, Ne.symm hae]) fun u h' tk hu ho hit' hT hsz hk => ?_
    have ru : RelV x u := by
      obtain ⟨u', hu', r⟩ := rv.get hx
      have z : its.toArray[i]? = some u' := by simpa using hu'
      rw [z] at hu
      exact Option.some.inj hu ▸ r
    refine ⟨_, rfl, wpAny_letOwnedTupleGo_enum (s := { s with heap := h', toks := tk + 1 }) ho fun h'' he' sb => ?_⟩
    have hT2 : h''.get? s.heap.objs.size = some { cls := .type "tuple", data := .seq #[.int i tk, u] } := (sb.2 _ (Nat.ne_of_gt e0)).trans hT
    have new : ObjOk X.prog X.w (upd H s.heap.objs.size (.tup [.int (i : Nat), x])) h'' s.heap.objs.size (.tup [.int (i : Nat), x]) :=
      ⟨by show 2 ≤ sizeLine; decide, [.int i tk, u], .cons ⟨_, rfl⟩ (.cons ru .nil), ⟨_, hT2, rfl, _, rfl⟩⟩
    have I1 : Inv X pins σ (upd H s.heap.objs.size (.tup [.int (i : Nat), x])) { s with heap := h'', toks := tk + 1 } :=
      I.turnedNew (ch := [e, it]) (fun b ob hb q => (sb.2 b (fun z => hb (by simp [z]))).trans (hk b ob (fun z => hb (by simp [z])) (fun z => hb (by simp [z])) q)) hf (Nat.le_refl _) new
    refine ⟨.ref s.heap.objs.size, _, I1, rfl, ⟨_, x, rfl, I.hok.fresh (Nat.le_refl _), rfl, fun ys hy => by rw [I.tuple_inj hy hq]; exact hx⟩, ⟨⟨u, ?_⟩, hit'.1.at fun o q => (sb.2 it (Ne.symm hne)).trans q, hne, hae⟩, fun b hb => ?_⟩
    · have z : ((i + 1 : Nat) : Int) = (i : Int) + 1 := by omega
      rw [z]; exact he'
    · have hb' : b < s.heap.objs.size := by
        rcases (show b = e ∨ b = it by simpa using hb) with z | z
        · rw [z]; exact e0
        · rw [z]; exact e1
      rw [upd_ne (Nat.ne_of_lt hb')]
      exact (hf b hb).1
  done := by
    intro X hP hw hK hc i pins s σ H E I hf st hg
    subst hP hw hK
    obtain ⟨⟨old, he⟩, hit, hne, hae⟩ := st
    obtain ⟨xs, hq, hx⟩ := hg
    obtain ⟨its, rv, p, hz⟩ := I.tuple hq
    obtain ⟨f0, f1, f2, f3, f4, f5⟩ := hf it (by simp)
    have hlen : its.toArray.size = i := by rw [List.size_toArray, ← hx]; exact rv.length.symm
    subst hlen
    exact wpAny_pyNext_enum_endD (Draws.tuple (A := X.A.in1) (I.ok.hd hc) it a hai its.toArray) he ⟨hit, p⟩ fun h' eb => ⟨rfl, I.turned (t' := s.toks) (fun b o hb q => eb b o hb q) f0 f1 f3 f4 f5⟩
  self := fun A i s Q E st h => by
    obtain ⟨⟨_, he⟩, _⟩ := st
    exact wpAny_pyIter_enum he h
theorem walk_enumT {K : PySem.W.Frag} {a : Addr} {xs : List V} : Walk (IteT K a) xs.length (fun H => SqT K H a xs) (YPair (fun i => some (.int (i : Nat))) (fun i => xs[i]?)) := by
  refine ⟨fun i _ hi q => ⟨xs, xs[i], q, by simp [hi]⟩, fun _ q => ⟨xs, q, rfl⟩, fun i H v H' _ q y => ?_⟩
  obtain ⟨T, x, h1, h2, h3, h4⟩ := y
  exact ⟨T, .int (i : Nat), x, h1, h2, h3, rfl, h4 xs q⟩
section
variable {X : Cx} {a : Expr} {σ : L2.St} {H : Hp} {R : It → Hp → Prop} {pos p tpos : Pos} {elts : List Expr} {kk : Nat}
theorem ri_enumT (hm : X.mg "enumerate" = none) (h : RA X [a] σ H fun vs H1 => ∃ p xs, vs = [.ref p] ∧ SqT X.K H1 p xs ∧ R (IteT X.K p) H1) (hg : Gl X "enumerate" := by rfl)
    (hs : starEach [a] X.env = [(false, eval a X.env)] := by rfl) : RI X (.Tuple elts kk tpos) (.Call (.Name "enumerate" p) [a] [] pos) σ H R := by
  intro pins s I
  refine Call_ (ld_blt I hg hm boot_enumerate (PyProof.Rows.callWith_type1 (thn (h.run pos pins s I) fun us s1 ⟨vs, H1, I1, r1, q1⟩ => ?_) hs rfl))
  obtain ⟨b, xs, rfl, hq, q⟩ := q1
  cases r1 with
  | cons r rr =>
    cases rr
    cases r
    obtain ⟨its, rv, p', hz⟩ := I1.tuple hq
    have hb : b < s1.heap.objs.size := by obtain ⟨o, ho, _⟩ := p'; exact Heap.lt_size ho
    refine call_enum (begins_tuple b its.toArray) p' fun h' he ho hk => wpAny_pyIter_enum he ?_
    have I2 : Inv X pins σ H1 { s1 with heap := h' } := I1.kept (t' := s1.toks) hk
    refine ⟨s1.heap.objs.size + 1, [s1.heap.objs.size + 1, s1.heap.objs.size], _, _, H1, rfl, I2, turn_enumT b (s1.heap.objs.size + 1) s1.heap.objs.size (Nat.ne_of_lt hb), ⟨⟨.none, he⟩, ⟨_, ho, rfl, rfl⟩, Nat.succ_ne_self _, Nat.ne_of_lt (Nat.lt_succ_of_lt hb)⟩, fun c hc => ?_, q⟩
    have hle : s1.heap.objs.size ≤ c := by
      rcases (show c = s1.heap.objs.size + 1 ∨ c = s1.heap.objs.size by simpa using hc) with z | z
      · rw [z]; exact Nat.le_add_right _ _
      · rw [z]; exact Nat.le_refl _
    exact I1.fpOk hle (I1.hok.fresh hle)
end
end Fx
end
section
set_option Elab.async false
set_option linter.all false
set_option maxRecDepth 100000
set_option maxHeartbeats 2000000
/-! Dict comprehensions over what is walked. -/
namespace Fx
open PySem PySem.Spec PyProof.Rows L2
open Evl (Ex fresh_back)
section
variable {J : It} {n : Nat} {G : Hp → Prop} {Y : Nat → Hp → V → Hp → Prop}
theorem dc_walk (w : Walk J n G Y) {g : TG} {tt : TT} {tk tv : TE} {vs : List Nat} {σ : L2.St} {H1 : Hp} {D : Addr} {Qd : Hp → Prop} (Pv : Nat → Hp → Prop) (h0 : Pv 0 (upd H1 D (.dK []))) (hG : ∀ i H, i ≤ n → Pv i H → G H)
    (hs : ∀ i x H H', i < n → Pv i H → Y i H x H' → g x (wipe σ vs) H' fun σ2 H2 => wipe σ2 vs = wipe σ vs ∧ tt σ2 H2 fun b H3 =>
      if b = true then tk σ2 H3 fun y H4 => tv σ2 H4 fun z H5 => ∃ kvs k, y = kV k ∧ H5 D = some (.dK kvs) ∧ kvs.length < sizeLine ∧ Pv (i + 1) (upd H5 D (.dK (putK kvs k z))) else Pv (i + 1) H3) (hd : ∀ H, Pv n H → Qd H) :
    ∃ W : Nat → Nat → Hp → Prop, (∃ m, W 0 m (upd H1 D (.dK []))) ∧ ∀ i m H, W i m H →
      (J.stop i H ∧ Qd H) ∨ (J.go i H ∧ ∃ Nx : Hp → Prop, (∀ H', Nx H' → ∃ m', m' < m ∧ W (i + 1) m' H') ∧ ∀ x H', J.yld i H x H' → g x (wipe σ vs) H' fun σ2 H2 => wipe σ2 vs = wipe σ vs ∧ tt σ2 H2 fun b H3 =>
        if b = true then tk σ2 H3 fun y H4 => tv σ2 H4 fun z H5 => ∃ kvs k, y = kV k ∧ H5 D = some (.dK kvs) ∧ kvs.length < sizeLine ∧ Nx (upd H5 D (.dK (putK kvs k z))) else Nx H3) := by
  refine ⟨fun i m H => m + i = n ∧ Pv i H, ⟨n, rfl, h0⟩, fun i m H hw => ?_⟩
  obtain ⟨hm, p⟩ := hw
  cases m with
  | zero =>
    have e : i = n := by omega
    subst e
    exact .inl ⟨w.stops H (hG _ H (Nat.le_refl _) p), hd H p⟩
  | succ m =>
    have q := hG i H (by omega) p
    exact .inr ⟨w.goes i H (by omega) q, Pv (i + 1), fun H' p' => ⟨m, Nat.lt_succ_self _, by omega, p'⟩, fun x H' y => hs i x H H' (by omega) p (w.yields i H x H' (by omega) q y)⟩
end
section
variable {X : Cx} {kx vx c tg iter : Expr} {σ : L2.St} {H : Hp} {Q : VK} {pos : Pos} {scope : Scope} {own : List (Str × Nat)} {g : TG}
/-- {kx: vx for target in iter} -/
theorem re_dc (hc : X.calm = true) (hN : X.N.Nodup) (ok : BlkOk X.N X.env.scope scope own) (hg : ∀ s H C cl fp, PG (Blk X scope s H C cl fp) tg g) (gm : GoodG g)
    (h : RI X tg iter σ H fun J H1 => ∃ (n : Nat) (G : Hp → Prop) (Y : Nat → Hp → V → Hp → Prop) (Acc : Nat → List (Key × V) → Prop), Walk J n G Y ∧ n ≤ 40000 ∧ (∀ H', Ex H1 H' → G H') ∧ Acc 0 [] ∧
      (∀ i x H2 H3, i < n → Ex H1 H2 → Y i H2 x H3 → Ex H2 H3 ∧ g x (wipe σ (own.map (·.2))) H3 fun σ2 H4 => wipe σ2 (own.map (·.2)) = wipe σ (own.map (·.2)) ∧ Ex H3 H4 ∧ ∀ s0 H0 C cl fp,
        RE (Blk X scope s0 H0 C cl fp) kx σ2 H4 fun y H5 => Ex H4 H5 ∧ ∃ k, y = kV k ∧ ∀ s0 H0 C cl fp, RE (Blk X scope s0 H0 C cl fp) vx σ2 H5 fun z H6 => Ex H5 H6 ∧ ∀ acc, Acc i acc → Acc (i + 1) (putK acc k z)) ∧
      ∀ p ys H2, H1 p = none → Ex H1 H2 → H2 p = some (.dK ys) → ys.length ≤ n → Acc n ys → Q (.ref p) H2)
    (hs : ∀ x, foldedSetIterable iter X.env x = pure x := by intro _; rfl) : RE X (.DictComp kx vx [⟨tg, iter, [], 0⟩] scope pos) σ H Q := by
  refine re_of (pe_dc (own := own) (g := g) (tt := tYes) (tk := fun σ H Q => ∀ s0 H0 C cl fp, RE (Blk X scope s0 H0 C cl fp) kx σ H Q) (tv := fun σ H Q => ∀ s0 H0 C cl fp, RE (Blk X scope s0 H0 C cl fp) vx σ H Q) hc hN pi_RI ok hg
    (fun _ _ _ _ _ => pts_nil) (fun s H C cl fp => ⟨fun pins s' σ H' Q I q => (q s H C cl fp).run pins s' I⟩) (fun s H C cl fp => ⟨fun pins s' σ H' Q I q => (q s H C cl fp).run pins s' I⟩) hs) ?_
  refine h.mono fun J H1 ⟨n, G, Y, Acc, w, hn, hG, h0, turn, fin⟩ Dl hD => ?_
  refine dc_walk w (g := g) (tt := tYes) (tk := fun σ H Q => ∀ s0 H0 C cl fp, RE (Blk X scope s0 H0 C cl fp) kx σ H Q) (tv := fun σ H Q => ∀ s0 H0 C cl fp, RE (Blk X scope s0 H0 C cl fp) vx σ H Q) (fun i H' => Ex H1 H' ∧ ∃ acc, H' Dl = some (.dK acc) ∧ acc.length ≤ i ∧ Acc i acc)
    ⟨Evl.Ex.new hD, [], upd_same, Nat.le_refl _, h0⟩ (fun i H' _ p => hG H' p.1) (fun i x H2 H3 hi p y => ?_) fun H' ⟨e, acc, a1, a2, a3⟩ => fin Dl acc H' hD e a1 a2 a3
  obtain ⟨e2, acc, a1, a2, a3⟩ := p
  obtain ⟨e3, t⟩ := turn i x H2 H3 hi e2 y
  refine gm _ _ _ _ _ (fun σ2 H4 ⟨hw, e4, t⟩ => ⟨hw, ?_⟩) t
  simp only [tYes, if_true]
  intro s0 H0 C cl fp
  refine (t s0 H0 C cl fp).mono fun y' H5 ⟨e5, k, ek, t2⟩ => ?_
  intro s1 H1' C1 cl1 fp1
  refine (t2 s1 H1' C1 cl1 fp1).mono fun z' H6 ⟨e6, k2⟩ => ?_
  have e26 : Ex H2 H6 := ((e3.trans e4).trans e5).trans e6
  exact ⟨acc, k, ek, e26 _ _ a1, Nat.lt_of_lt_of_le (show acc.length < 100000 by omega) (by decide), ex_mut (e2.trans e26) hD, putK acc k z', upd_same, Nat.le_trans (length_putK _ _ _) (by omega), k2 acc a3⟩
/-- {kx: vx for target in iter if c} -/
theorem re_dcIf (hc : X.calm = true) (hN : X.N.Nodup) (ok : BlkOk X.N X.env.scope scope own) (hg : ∀ s H C cl fp, PG (Blk X scope s H C cl fp) tg g) (gm : GoodG g)
    (h : RI X tg iter σ H fun J H1 => ∃ (n : Nat) (G : Hp → Prop) (Y : Nat → Hp → V → Hp → Prop) (Acc : Nat → List (Key × V) → Prop), Walk J n G Y ∧ n ≤ 40000 ∧ (∀ H', Ex H1 H' → G H') ∧ Acc 0 [] ∧
      (∀ i x H2 H3, i < n → Ex H1 H2 → Y i H2 x H3 → Ex H2 H3 ∧ g x (wipe σ (own.map (·.2))) H3 fun σ2 H4 => wipe σ2 (own.map (·.2)) = wipe σ (own.map (·.2)) ∧ Ex H3 H4 ∧ ∀ s0 H0 C cl fp,
        RT (Blk X scope s0 H0 C cl fp) c σ2 H4 fun b H45 => Ex H4 H45 ∧ (b = false → ∀ acc, Acc i acc → Acc (i + 1) acc) ∧ (b = true → ∀ s0 H0 C cl fp,
        RE (Blk X scope s0 H0 C cl fp) kx σ2 H45 fun y H5 => Ex H45 H5 ∧ ∃ k, y = kV k ∧ ∀ s0 H0 C cl fp, RE (Blk X scope s0 H0 C cl fp) vx σ2 H5 fun z H6 => Ex H5 H6 ∧ ∀ acc, Acc i acc → Acc (i + 1) (putK acc k z))) ∧
      ∀ p ys H2, H1 p = none → Ex H1 H2 → H2 p = some (.dK ys) → ys.length ≤ n → Acc n ys → Q (.ref p) H2)
    (hs : ∀ x, foldedSetIterable iter X.env x = pure x := by intro _; rfl) : RE X (.DictComp kx vx [⟨tg, iter, [c], 0⟩] scope pos) σ H Q := by
  refine re_of (pe_dc (own := own) (g := g) (tt := fun σ H Q => ∀ s0 H0 C cl fp, RT (Blk X scope s0 H0 C cl fp) c σ H Q) (tk := fun σ H Q => ∀ s0 H0 C cl fp, RE (Blk X scope s0 H0 C cl fp) kx σ H Q) (tv := fun σ H Q => ∀ s0 H0 C cl fp, RE (Blk X scope s0 H0 C cl fp) vx σ H Q) hc hN pi_RI ok hg
    (fun s H C cl fp => pts_one ⟨fun pins s' σ H' Q I q => (q s H C cl fp).run pins s' I⟩) (fun s H C cl fp => ⟨fun pins s' σ H' Q I q => (q s H C cl fp).run pins s' I⟩) (fun s H C cl fp => ⟨fun pins s' σ H' Q I q => (q s H C cl fp).run pins s' I⟩) hs) ?_
  refine h.mono fun J H1 ⟨n, G, Y, Acc, w, hn, hG, h0, turn, fin⟩ Dl hD => ?_
  refine dc_walk w (g := g) (tt := fun σ H Q => ∀ s0 H0 C cl fp, RT (Blk X scope s0 H0 C cl fp) c σ H Q) (tk := fun σ H Q => ∀ s0 H0 C cl fp, RE (Blk X scope s0 H0 C cl fp) kx σ H Q) (tv := fun σ H Q => ∀ s0 H0 C cl fp, RE (Blk X scope s0 H0 C cl fp) vx σ H Q) (fun i H' => Ex H1 H' ∧ ∃ acc, H' Dl = some (.dK acc) ∧ acc.length ≤ i ∧ Acc i acc)
    ⟨Evl.Ex.new hD, [], upd_same, Nat.le_refl _, h0⟩ (fun i H' _ p => hG H' p.1) (fun i x H2 H3 hi p y => ?_) fun H' ⟨e, acc, a1, a2, a3⟩ => fin Dl acc H' hD e a1 a2 a3
  obtain ⟨e2, acc, a1, a2, a3⟩ := p
  obtain ⟨e3, t⟩ := turn i x H2 H3 hi e2 y
  refine gm _ _ _ _ _ (fun σ2 H4 ⟨hw, e4, t⟩ => ⟨hw, fun s0 H0 C cl fp => (t s0 H0 C cl fp).mono fun b H45 ⟨e45, t1, t2⟩ => ?_⟩) t
  have e245 : Ex H2 H45 := (e3.trans e4).trans e45
  refine ifB (fun hb => ?_) fun hb => ?_
  · intro s0' H0' C' cl' fp'
    refine (t2 hb s0' H0' C' cl' fp').mono fun y' H5 ⟨e5, k, ek, t3⟩ => ?_
    intro s1 H1' C1 cl1 fp1
    refine (t3 s1 H1' C1 cl1 fp1).mono fun z' H6 ⟨e6, k2⟩ => ?_
    have e26 : Ex H2 H6 := (e245.trans e5).trans e6
    exact ⟨acc, k, ek, e26 _ _ a1, Nat.lt_of_lt_of_le (show acc.length < 100000 by omega) (by decide), ex_mut (e2.trans e26) hD, putK acc k z', upd_same, Nat.le_trans (length_putK _ _ _) (by omega), k2 acc a3⟩
  · exact ⟨e2.trans e245, acc, e245 _ _ a1, by omega, t1 hb acc a3⟩
end
end Fx
end
section
set_option Elab.async false
set_option linter.all false
set_option maxRecDepth 100000
set_option maxHeartbeats 2000000
/-! A written dict's get; flat membership. -/
namespace Fx
open PySem PySem.Spec PyProof.Rows L2
open Evl (Ex fresh_back)
section
variable {X : Cx} {o e f : Expr} {apos cpos : Pos} {σ : L2.St} {H : Hp} {Q : VK} {d : Addr} {es : Array DictEntry} {n : Nat}
/-- d.get(e, f), d a written dict -/
theorem re_kget2 (KD : KDict X.K X.w d es n) (h : RE X o σ H fun x H1 => x = .ref d ∧ RE X e σ H1 fun y H2 => RE X f σ H2 fun z H3 => ∃ (s : Str) (r : Option Value) (v : V), y = .str s ∧ PySem.W.nsIn X.K d s = some r ∧ (∀ u, RelV z u → RelV v (r.getD u)) ∧ Q v H3)
    (base : attributeBase o "get" X.env (eval o X.env) = eval o X.env := by rfl)
    (few : ((backTo cpos (starEach [e, f] X.env)).all (fun x => !x.1) && (backToKw cpos (keywordEach [] X.env)).all (fun x => x.1.isSome)
      && decide (([e, f] : List Expr).length + ([] : List Keyword).length + (if ([] : List Keyword).isEmpty then 0 else 1) < 30)) = true := by rfl) (line : (apos.endLine == cpos.line) = true := by rfl)
    (trees : backTo cpos (starEach [e, f] X.env) = [(false, eval e X.env), (false, eval f X.env)] := by rfl) : RE X (.Call (.Attribute o "get" apos) [e, f] [] cpos) σ H Q := by
  refine RE.made fun pins s I => ?_
  refine wpAny_Call_method base few line PySem.F.plainAttrs_dict PySem.F.slot_dict_get PySem.F.type_dict_get (thn (h.run pins s I) fun u s1 ⟨x, H1, I1, rx, ex, q1⟩ => ?_)
  subst ex
  obtain rfl : u = Value.ref d := rx
  refine ⟨kd_type KD I1, fun b eb => ?_, ?_⟩
  · cases eb
    exact ⟨_, I1.kIn _ _ KD.at_, rfl⟩
  rw [trees]
  refine Calls.callWith_builtin rfl (Calls.evalArgs_plain (Calls.spliced_cons (thn (q1.run pins s1 I1) fun iv s2 ⟨y, H2, I2, ry, q2⟩ =>
    Calls.spliced_cons (thn (q2.run pins s2 I2) fun fv s3 ⟨z, H3, I3, rz, sx, r, v, ey, hr, hv, q3⟩ => Calls.spliced_nil ?_))))
  subst ey
  obtain ⟨t, rfl⟩ := (show ∃ t, iv = Value.str sx t from ry)
  have hm := PySem.W.mapOf_K (prog := X.prog) (w := X.w) I3.kIn KD.at_ KD.lit
  refine call_meetsIn PySem.F.slot_dict_get hm.typeIs PySem.F.entry_dict_get (PySem.F.args_dict_get_3 _ _ _) (meets_dict_get_default (strKind X.prog X.w) d (strKind_is X.prog X.w sx t) KD.low fv) ⟨_, hm, v, H3, I3.tok _, ?_, q3⟩
  rw [PySem.W.find_K KD.at_ hr]
  exact hv fv rz
end
theorem inV_strs (x : Str) : ∀ ws : List Str, inV (.str x) (ws.map V.str) = ws.contains x
  | [] => rfl
  | w :: ws => by
    have ih := inV_strs x ws
    show (eqV (.str w) (.str x) || inV (.str x) (ws.map V.str)) = ((x == w) || ws.contains x)
    rw [ih]
    congr 1
    show (w == x) = (x == w)
    exact Bool.beq_comm
theorem flat_strs : ∀ ws : List Str, (ws.map V.str).all flatV = true
  | [] => rfl
  | w :: ws => flat_strs ws
section
variable {X : Cx} {a b : Expr} {es : List Expr} {σ : L2.St} {H : Hp} {QB : Bool → Hp → Prop} {pos : Pos}
theorem cont_mem (ws : List Str) (x : Str) : ws.contains x = decide (x ∈ ws) := by
  rw [Bool.eq_iff_iff, decide_eq_true_eq]
  exact List.contains_iff_mem
/-- e in (a tuple of texts) -/
theorem rt_in {ws : List Str} (h : RE X a σ H fun x H1 => ∃ z : Str, x = .str z ∧ RE X b σ H1 fun y H2 => ∃ p, y = .ref p ∧ SqT X.K H2 p (ws.map V.str) ∧ QB (decide (z ∈ ws)) H2) (hm : behindInMarks .In b = false := by rfl) : RT X (.Compare a [.In] [b] pos) σ H QB :=
  rt_cmp op_in_seq (h.mono fun x H1 ⟨z, ex, q⟩ => q.mono fun y H2 ⟨p, ey, sq, q⟩ => ⟨p, _, ey, .inr sq, by rw [ex]; rfl, flat_strs ws, _, by rw [ex]; show V.bl (inV _ _) = _; rw [inV_strs, cont_mem], q⟩) hm
theorem rt_nin {ws : List Str} (h : RE X a σ H fun x H1 => ∃ z : Str, x = .str z ∧ RE X b σ H1 fun y H2 => ∃ p, y = .ref p ∧ SqT X.K H2 p (ws.map V.str) ∧ QB (!decide (z ∈ ws)) H2) (hm : behindInMarks .NotIn b = false := by rfl) : RT X (.Compare a [.NotIn] [b] pos) σ H QB :=
  rt_cmp op_notIn_seq (h.mono fun x H1 ⟨z, ex, q⟩ => q.mono fun y H2 ⟨p, ey, sq, q⟩ => ⟨p, _, ey, .inr sq, by rw [ex]; rfl, flat_strs ws, _, by rw [ex]; show V.bl (!inV _ _) = _; rw [inV_strs, cont_mem], q⟩) hm
end
/-- the items of a list or a tuple -/
def itemsD : PyData → List PyData
  | .list xs => xs
  | .tuple xs => xs
  | _ => []
section
variable {X : Cx} {tg iter a : Expr} {es : List Expr} {σ : L2.St} {H : Hp} {R : It → Hp → Prop} {pos p tpos : Pos} {elts : List Expr} {kk : Nat}
/-- over a list or a tuple -/
theorem ri_data {v : V} {d : PyData} (hd : D X.K H v d) (hl : (isL d || isT d) = true) (h : ∀ J G xs, Walk J xs.length G (YAt xs) → (∀ H', Ex H H' → G H') → DA X.K H xs (itemsD d) → RE X iter σ H fun x H1 => x = v ∧ Ex H H1 ∧ R J H1) : RI X tg iter σ H R := by
  cases hd with
  | lst sq ha => exact ri_list ((h _ _ _ walk_list (fun H' e => Evl.ex_l e sq) ha).mono fun x H1 ⟨ex, e, r⟩ => ⟨_, _, ex, Evl.ex_l e sq, r⟩)
  | tup sq ha => exact ri_tup ((h _ _ _ walk_tup (fun H' e => Evl.ex_t e sq) ha).mono fun x H1 ⟨ex, e, r⟩ => ⟨_, _, ex, Evl.ex_t e sq, r⟩)
  | _ => exact absurd (show false = true from hl) Bool.false_ne_true
theorem ri_enumD {v : V} {d : PyData} (hd : D X.K H v d) (hl : (isL d || isT d) = true) (hm : X.mg "enumerate" = none)
    (h : ∀ J G (xs : List V), Walk J xs.length G (YPair (fun i => some (.int (i : Nat))) (fun i => xs[i]?)) → (∀ H', Ex H H' → G H') → DA X.K H xs (itemsD d) → RE X a σ H fun x H1 => x = v ∧ Ex H H1 ∧ R J H1)
    (hg : Gl X "enumerate" := by rfl) (hs : starEach [a] X.env = [(false, eval a X.env)] := by rfl) : RI X (.Tuple elts kk tpos) (.Call (.Name "enumerate" p) [a] [] pos) σ H R := by
  cases hd with
  | lst sq ha => exact ri_enum hm (ra_cons (hs := hs) ((h _ _ _ walk_enum (fun H' e => Evl.ex_l e sq) ha).mono fun x H1 ⟨ex, e, r⟩ => ra_nil ⟨_, _, by rw [ex], Evl.ex_l e sq, r⟩)) hg hs
  | tup sq ha => exact ri_enumT hm (ra_cons (hs := hs) ((h _ _ _ walk_enumT (fun H' e => Evl.ex_t e sq) ha).mono fun x H1 ⟨ex, e, r⟩ => ra_nil ⟨_, _, by rw [ex], Evl.ex_t e sq, r⟩)) hg hs
  | _ => exact absurd (show false = true from hl) Bool.false_ne_true
end
end Fx
end
section
set_option Elab.async false
set_option linter.all false
set_option maxRecDepth 100000
set_option maxHeartbeats 2000000
namespace Fl
open PySem PySem.Spec PyProof.Rows L2 Fx
open Evl (Ex fresh_back)
/-! ### valid lines -/
theorem fits_reg {d : PyData} (h : fitsD "reg" d = true) : ∃ i : Int, d = .int i ∧ 0 ≤ i ∧ i < 6 := by
  have h : regB d = true := by
    unfold fitsD at h
    rw [if_neg (by decide +kernel), if_neg (by decide +kernel), if_neg (by decide +kernel), if_neg (by rintro ⟨z, _⟩; exact absurd z (by decide +kernel))] at h
    exact h
  cases d with
  | int i =>
    have h : (decide (0 ≤ i) && decide (i < 6)) = true := h
    rw [Bool.and_eq_true, decide_eq_true_eq, decide_eq_true_eq] at h
    exact ⟨i, rfl, h⟩
  | _ => exact absurd (show false = true from h) Bool.false_ne_true
theorem fits_word {d : PyData} (h : fitsD "word" d = true) : ∃ s, d = .str s ∧ isWordS s = true := by
  have h : isWordD d = true := h
  cases d with
  | str s => exact ⟨s, rfl, h⟩
  | _ => exact absurd (show false = true from h) Bool.false_ne_true
theorem fits_num {d : PyData} (h : fitsD "number" d = true) : ∃ i : Int, d = .int i := by
  have h : isNumD d = true := by
    unfold fitsD at h
    rw [if_neg (by decide +kernel), if_pos rfl] at h
    exact h
  cases d with
  | int s => exact ⟨s, rfl⟩
  | _ => exact absurd (show false = true from h) Bool.false_ne_true
structure Valid (d : PyData) (w : Str) (xs : List PyData) (kinds : List Str) : Prop where
  eq : d = .tuple (.str w :: xs)
  form : forms.lookup w = some kinds
  len : xs.length = kinds.length
  fits : ∀ (i : Nat) k x, kinds[i]? = some k → xs[i]? = some x → fitsD k x = true
theorem valid_of {d : PyData} (h : isLineD d = true) : ∃ w xs kinds, Valid d w xs kinds := by
  unfold isLineD at h
  split at h
  · rename_i w xs
    split at h
    · rename_i kinds hk
      rw [Bool.and_eq_true, decide_eq_true_eq, List.all_eq_true] at h
      refine ⟨w, xs, kinds, rfl, hk, h.1, fun i k x h1 h2 => h.2 (k, x) ?_⟩
      have hz : (kinds.zip xs)[i]? = some (k, x) := by
        rw [List.getElem?_zip_eq_some]
        exact ⟨h1, h2⟩
      exact List.mem_of_getElem? hz
    · exact absurd h Bool.false_ne_true
  · exact absurd h Bool.false_ne_true
theorem Valid.at {d : PyData} {w : Str} {xs : List PyData} {kinds : List Str} (v : Valid d w xs kinds) {i : Nat} {k : Str} (h : kinds[i]? = some k) : ∃ x, xs[i]? = some x ∧ fitsD k x = true := by
  have hi : i < xs.length := by
    rw [v.len]
    exact (List.getElem?_eq_some_iff.mp h).1
  exact ⟨xs[i], List.getElem?_eq_getElem hi, v.fits i k _ h (List.getElem?_eq_getElem hi)⟩
/-- its word in the list of the words that are forms -/
def wordD : PyData → Str
  | .tuple (.str w :: _) => w
  | _ => ""
def partD (i : Nat) : PyData → PyData
  | .tuple xs => xs.getD i .none
  | _ => .none
def sizeD (d : PyData) : Int :=
  if wordD d = "num" then (match partD 2 d with | .int n => if -8 ≤ n ∧ n ≤ 7 then 1 else 3 | _ => 0) else (sizes.lookup (wordD d)).getD 1
def nfD (d : PyData) : PyData := if wordD d = "addr" then partD 2 d else if wordD d = "call" ∨ wordD d = "tail" then partD 1 d else .none
def nlD (d : PyData) : PyData := if wordD d = "jump" ∨ wordD d = "if" ∨ wordD d = "unless" then partD 1 d else .none
structure FrmS (K : PySem.W.Frag) (w : World) (mg : Str → Option Value) : Prop where
  sizes : ∃ a es n, mg "SIZES" = some (.ref a) ∧ KDict K w a es n ∧ ∀ z : Str, ∃ r, PySem.W.nsIn K a z = some r ∧ match sizes.lookup z with
    | some i => ∃ t, r = some (.int i t)
    | none => r = none
structure Frm2 (K : PySem.W.Frag) (w : World) (mg : Str → Option Value) : Prop where
  jumpW : ∃ a, mg "JUMP_WORDS" = some (.ref a) ∧ ∀ H, SqT K H a ((["jump", "if", "unless"] : List Str).map V.str)
  stackW : ∃ a, mg "STACK_WORDS" = some (.ref a) ∧ ∀ H, SqT K H a ((["push", "pop", "read", "write"] : List Str).map V.str)
  callW : ∃ a, mg "CALL_WORDS" = some (.ref a) ∧ ∀ H, SqT K H a ((["call", "callr"] : List Str).map V.str)
  endW : ∃ a, mg "END_WORDS" = some (.ref a) ∧ ∀ H, SqT K H a ((["jump", "back", "tail", "stop"] : List Str).map V.str)
section
variable {P : Program} {w : World} {K : PySem.W.Frag} {mg : Str → Option Value} {base : Heap} {f : Addr} {fd : FuncData}
/-- a valid line's word and parts -/
theorem line_word {H : Hp} {v : V} {d : PyData} (hd : D K H v d) (hl : isLineD d = true) : ∃ a xs, v = .ref a ∧ SqT K H a (.str (wordD d) :: xs) := by
  obtain ⟨w', ys, kinds, rfl, _⟩ := valid_of hl
  cases hd with
  | tup sq ha =>
  cases ha with
  | cons h0 ht =>
  cases h0
  exact ⟨_, _, rfl, sq⟩
theorem line_part {H : Hp} {v : V} {d : PyData} (hd : D K H v d) (hl : isLineD d = true) {w : Str} {kinds : List Str} (hw : wordD d = w) (hk : forms.lookup w = some kinds) {i : Nat} {k : Str} (hi : kinds[i]? = some k) :
    ∃ a xs u, v = .ref a ∧ SqT K H a xs ∧ xs[i + 1]? = some u ∧ D K H u (partD (i + 1) d) ∧ fitsD k (partD (i + 1) d) = true := by
  obtain ⟨w', ys, ki, va⟩ := valid_of hl
  have hw' : w' = w := by rw [← hw, va.eq]; rfl
  have hki : ki = kinds := Option.some.inj (va.form.symm.trans (by rw [hw']; exact hk))
  subst hki
  obtain ⟨x, hx, hf⟩ := va.at hi
  have hp : partD (i + 1) d = x := by
    rw [va.eq]
    show (PyData.str w' :: ys).getD (i + 1) .none = _
    rw [List.getD_cons_succ, List.getD_eq_getElem?_getD, hx]; rfl
  obtain ⟨rfl, _⟩ := va
  cases hd with
  | tup sq ha =>
  cases ha with
  | cons h0 ht =>
  obtain ⟨u, hu, hud⟩ := ht.get hx
  exact ⟨_, _, u, rfl, sq, hu, by rw [hp]; exact hud, by rw [hp]; exact hf⟩
/-- line[0] -/
theorem re_word {X : Cx} {a : Expr} {σ : L2.St} {H : Hp} {Q : VK} {pos p : Pos} {j} (h : RE X a σ H fun x H1 => ∃ d, D X.K H1 x d ∧ isLineD d = true ∧ Q (.str (wordD d)) H1) : RE X (.Subscript a (.Constant (.int 0) j p) pos) σ H Q :=
  re_ixT (h.mono fun x H1 ⟨d, hd, hl, q⟩ => by
    obtain ⟨b, xs, rfl, sq⟩ := line_word hd hl
    exact re_int ⟨b, _, 0, _, rfl, rfl, sq, atI_nat (j := 0) rfl, q⟩)
/-- line[1], line[2] -/
theorem re_part1 {X : Cx} {a : Expr} {σ : L2.St} {H : Hp} {Q : VK} {pos p : Pos} {j} (h : RE X a σ H fun x H1 => ∃ d w kinds k, D X.K H1 x d ∧ isLineD d = true ∧ wordD d = w ∧ forms.lookup w = some kinds ∧ kinds[0]? = some k ∧ ∀ u, D X.K H1 u (partD 1 d) → fitsD k (partD 1 d) = true → Q u H1) :
    RE X (.Subscript a (.Constant (.int 1) j p) pos) σ H Q :=
  re_ixT (h.mono fun x H1 ⟨d, w, kinds, k, hd, hl, hw, hf, hk, q⟩ => by
    obtain ⟨b, xs, u, rfl, sq, hu, hd', hfit⟩ := line_part hd hl hw hf hk
    exact re_int ⟨b, _, 1, _, rfl, rfl, sq, atI_nat (j := 1) hu, q u hd' hfit⟩)
theorem re_part2 {X : Cx} {a : Expr} {σ : L2.St} {H : Hp} {Q : VK} {pos p : Pos} {j} (h : RE X a σ H fun x H1 => ∃ d w kinds k, D X.K H1 x d ∧ isLineD d = true ∧ wordD d = w ∧ forms.lookup w = some kinds ∧ kinds[1]? = some k ∧ ∀ u, D X.K H1 u (partD 2 d) → fitsD k (partD 2 d) = true → Q u H1) :
    RE X (.Subscript a (.Constant (.int 2) j p) pos) σ H Q :=
  re_ixT (h.mono fun x H1 ⟨d, w, kinds, k, hd, hl, hw, hf, hk, q⟩ => by
    obtain ⟨b, xs, u, rfl, sq, hu, hd', hfit⟩ := line_part hd hl hw hf hk
    exact re_int ⟨b, _, 2, _, rfl, rfl, sq, atI_nat (j := 2) hu, q u hd' hfit⟩)
theorem form_num : forms.lookup ("num" : Str) = some (["reg", "number"] : List Str) := by decide +kernel
theorem form_addr : forms.lookup ("addr" : Str) = some (["reg", "word"] : List Str) := by decide +kernel
theorem form_call : forms.lookup ("call" : Str) = some (["word"] : List Str) := by decide +kernel
theorem form_tail : forms.lookup ("tail" : Str) = some (["word"] : List Str) := by decide +kernel
theorem form_jump : forms.lookup ("jump" : Str) = some (["word"] : List Str) := by decide +kernel
theorem form_if : forms.lookup ("if" : Str) = some (["word"] : List Str) := by decide +kernel
theorem form_unless : forms.lookup ("unless" : Str) = some (["word"] : List Str) := by decide +kernel
theorem form_mark : forms.lookup ("mark" : Str) = some (["word"] : List Str) := by decide +kernel
abbrev sp_line_size (K : PySem.W.Frag) : Sp := sp1 K (fun d => isLineD d = true) fun d r _ => r = .int (sizeD d)
theorem sc_named_function : FnScope ["line"] ["line"] (defScope s_named_function) := ⟨rfl, rfl, rfl, by decide +kernel, rfl, by decide +kernel, by decide +kernel⟩
abbrev sp_named_function (K : PySem.W.Frag) : Sp := sp1 K (fun d => isLineD d = true) fun d r H' => D K H' r (nfD d)
theorem ok_named_function (F : Fun K "named_function" "named_function" s_named_function f fd) : FnOk P w K mg base CX0 1 f fd ["line"] (sp_named_function K) := by
  refine F.ok sc_named_function (fun vs H Q E h => sp1_len h rfl) (fun cdv A outer s H vs Q E hr h => ⟨RB _ _, pss_RB, ?_⟩)
  obtain ⟨v, d, rfl, hd, hl, q⟩ := h
  refine rb_cons (rs_if (rt_cmp op_eq (re_word (re_var 0 rfl ⟨d, hd, hl, re_str ⟨rfl, _, rfl, ?_⟩⟩))))
  rw [eqK]
  by_cases e : wordD d = "addr"
  · rw [decide_eq_true e]
    refine ifT (rb_one (rs_ret (re_part2 (re_var 0 rfl ⟨d, _, _, _, hd, hl, e, form_addr, rfl, fun u hu hf => q _ _ (Ex.refl _) ?_⟩))))
    show D K H u (nfD d)
    unfold nfD
    rw [if_pos e]
    exact hu
  rw [decide_eq_false e]
  refine ifF (rb_nil (rb_cons (rs_if (rt_in (ws := ["call", "tail"]) (re_word (re_var 0 rfl ⟨d, hd, hl, _, rfl, re_tup (ra_cons (re_str (ra_cons (re_str (ra_nil ⟨(show 2 ≤ 100000 by decide), fun p H2 hp e2 h2 => ⟨p, rfl, .inl (.inl h2), ?_⟩⟩)))))⟩))))))
  have em : wordD d ∈ (["call", "tail"] : List Str) ↔ (wordD d = "call" ∨ wordD d = "tail") := by simp
  by_cases e1 : wordD d = "call" ∨ wordD d = "tail"
  · rw [decide_eq_true (em.mpr e1)]
    have fin : ∀ u, D K H2 u (partD 1 d) → Q u H2 := fun u hu => q _ _ e2 (by
      show D K H2 u (nfD d)
      unfold nfD
      rw [if_neg e, if_pos e1]
      exact hu)
    refine ifT (rb_one (rs_ret ?_))
    rcases e1 with e1 | e1
    · exact re_part1 (re_var 0 rfl ⟨d, _, _, _, hd.mono e2, hl, e1, form_call, rfl, fun u hu hf => fin u hu⟩)
    · exact re_part1 (re_var 0 rfl ⟨d, _, _, _, hd.mono e2, hl, e1, form_tail, rfl, fun u hu hf => fin u hu⟩)
  · rw [decide_eq_false fun z => e1 (em.mp z)]
    refine ifF (rb_nil (rb_one (rs_ret (re_non (q _ _ e2 ?_)))))
    show D K H2 .non (nfD d)
    unfold nfD
    rw [if_neg e, if_neg e1]
    exact .non
theorem sc_named_label : FnScope ["line"] ["line"] (defScope s_named_label) := ⟨rfl, rfl, rfl, by decide +kernel, rfl, by decide +kernel, by decide +kernel⟩
abbrev sp_named_label (K : PySem.W.Frag) : Sp := sp1 K (fun d => isLineD d = true) fun d r H' => D K H' r (nlD d)
theorem ok_named_label (F : Fun K "named_label" "named_label" s_named_label f fd) (T : Frm2 K w mg) : FnOk P w K mg base CX0 1 f fd ["line"] (sp_named_label K) := by
  refine F.ok sc_named_label (fun vs H Q E h => sp1_len h rfl) (fun cdv A outer s H vs Q E hr h => ⟨RB _ _, pss_RB, ?_⟩)
  obtain ⟨v, d, rfl, hd, hl, q⟩ := h
  obtain ⟨ja, mJ, hj⟩ := T.jumpW
  refine rb_one (rs_ret (re_if (rt_in (re_word (re_var 0 rfl ⟨d, hd, hl, _, rfl, re_glob (v := .ref ja) mJ rfl ⟨ja, rfl, hj _, ?_⟩⟩)))))
  have em : wordD d ∈ (["jump", "if", "unless"] : List Str) ↔ (wordD d = "jump" ∨ wordD d = "if" ∨ wordD d = "unless") := by simp
  by_cases e1 : wordD d = "jump" ∨ wordD d = "if" ∨ wordD d = "unless"
  · rw [decide_eq_true (em.mpr e1)]
    have fin : ∀ u, D K H u (partD 1 d) → Q u H := fun u hu => q _ _ (Ex.refl _) (by
      show D K H u (nlD d)
      unfold nlD
      rw [if_pos e1]
      exact hu)
    refine ifT ?_
    rcases e1 with e1 | e1 | e1
    · exact re_part1 (re_var 0 rfl ⟨d, _, _, _, hd, hl, e1, form_jump, rfl, fun u hu hf => fin u hu⟩)
    · exact re_part1 (re_var 0 rfl ⟨d, _, _, _, hd, hl, e1, form_if, rfl, fun u hu hf => fin u hu⟩)
    · exact re_part1 (re_var 0 rfl ⟨d, _, _, _, hd, hl, e1, form_unless, rfl, fun u hu hf => fin u hu⟩)
  · rw [decide_eq_false fun z => e1 (em.mp z)]
    refine ifF (re_non (q _ _ (Ex.refl _) ?_))
    show D K H .non (nlD d)
    unfold nlD
    rw [if_neg e1]
    exact .non
/-! ### lists of lines -/
structure Lines (d : PyData) : Prop where
  isl : (isL d || isT d) = true
  len : (itemsD d).length ≤ 1000
  ok : ∀ x ∈ itemsD d, isLineD x = true
abbrev sp_lines_size (K : PySem.W.Frag) : Sp := sp1 K Lines fun d r _ => r = .int ((itemsD d).map sizeD).sum
end
end Fl
end
section
set_option Elab.async false
set_option linter.all false
set_option maxRecDepth 100000
set_option maxHeartbeats 2000000
/-! Dicts that are made and changed. -/
namespace Fx
open PySem PySem.Spec PyProof.Rows L2
open Evl (Ex fresh_back)
section
variable {X : Cx} {o i e : Expr} {σ : L2.St} {H : Hp} {Q : VK} {QB : Bool → Hp → Prop} {pos p : Pos} {D : Ends}
theorem rt_din (hu : X.A.units + 1 < cLine) (h : RE X i σ H fun y H1 => RE X o σ H1 fun x H2 => ∃ a kvs k, x = .ref a ∧ H2 a = some (.dK kvs) ∧ y = kV k ∧ QB (valV kvs k).isSome H2) (hm : behindInMarks .In o = false := by rfl) : RT X (.Compare i [.In] [o] pos) σ H QB :=
  rt_of (pt_cmp (pc_din hu pe_RE pe_RE) hm) (h.mono fun y H1 q => q.mono fun x H2 ⟨a, kvs, k, ex, hk, ey, q⟩ => ⟨a, _, ex, by rw [ey]; exact DGet.k hk, _, rfl, q⟩)
theorem re_din (hu : X.A.units + 1 < cLine) (h : RE X i σ H fun y H1 => RE X o σ H1 fun x H2 => ∃ a kvs k, x = .ref a ∧ H2 a = some (.dK kvs) ∧ y = kV k ∧ Q (.bl (valV kvs k).isSome) H2) (hm : behindInMarks .In o = false := by rfl) : RE X (.Compare i [.In] [o] pos) σ H Q :=
  re_of (pe_cmp (pc_din hu pe_RE pe_RE) hm) (h.mono fun y H1 q => q.mono fun x H2 ⟨a, kvs, k, ex, hk, ey, q⟩ => ⟨a, _, ex, by rw [ey]; exact DGet.k hk, q⟩)
theorem rt_dnin (hu : X.A.units + 1 < cLine) (h : RE X i σ H fun y H1 => RE X o σ H1 fun x H2 => ∃ a kvs k, x = .ref a ∧ H2 a = some (.dK kvs) ∧ y = kV k ∧ QB (!(valV kvs k).isSome) H2) (hm : behindInMarks .NotIn o = false := by rfl) : RT X (.Compare i [.NotIn] [o] pos) σ H QB :=
  rt_of (pt_cmp (pc_dnotin hu pe_RE pe_RE) hm) (h.mono fun y H1 q => q.mono fun x H2 ⟨a, kvs, k, ex, hk, ey, q⟩ => ⟨a, _, ex, by rw [ey]; exact DGet.k hk, _, rfl, q⟩)
theorem re_dget (hu : X.A.units + 1 < cLine) (h : RE X o σ H fun x H1 => RE X i σ H1 fun y H2 => ∃ a kvs k v, x = .ref a ∧ H2 a = some (.dK kvs) ∧ y = kV k ∧ valV kvs k = some v ∧ Q v H2) (hs : PlainIx i := by exact fun _ _ => rfl) : RE X (.Subscript o i pos) σ H Q :=
  re_of (pe_dget hu pe_RE pe_RE hs) (h.mono fun x H1 q => q.mono fun y H2 ⟨a, kvs, k, v, ex, hk, ey, hv, q⟩ => ⟨a, v, ex, by rw [ey, ← hv]; exact DGet.k hk, q⟩)
theorem rs_dput (hu : X.A.units + 1 < cLine) (h : RE X e σ H fun v H1 => RE X o σ H1 fun x H2 => RE X i σ H2 fun y H3 => ∃ a kvs k, x = .ref a ∧ H3 a = some (.dK kvs) ∧ y = kV k ∧ kvs.length < sizeLine ∧ D.nx σ (upd H3 a (.dK (putK kvs k v))))
    (hs : swapsWith e (some (.Subscript o i p)) pos.line X.env = pure false := by rfl) : RS X (.Assign [.Subscript o i p] e pos) D σ H :=
  rs_of (ps_dput hu pe_RE pe_RE pe_RE hs) (h.mono fun v H1 q => q.mono fun x H2 q => q.mono fun y H3 ⟨a, kvs, k, ex, hk, ey, hl, q⟩ => ⟨a, _, ex, by rw [ey]; exact DPut.k hk hl, q⟩)
theorem re_dnew (h : ∀ p H1, H p = none → Ex H H1 → H1 p = some (.dK []) → Q (.ref p) H1) : RE X (.Dict [] [] pos) σ H Q :=
  re_of pe_dnewK (fun p hp => h p _ hp (Ex.new hp) upd_same)
end
section
variable {X : Cx} {c : Expr} {sts x y : List Stmt} {σ : L2.St} {H : Hp} {pos : Pos} {D D' : Ends}
theorem RB.mono (h : RB X sts D σ H) (k : ∀ σ H, D.nx σ H → D'.nx σ H) (kr : ∀ v H, D.rt v H → D'.rt v H) (kb : ∀ σ H, D.bk σ H → D'.bk σ H) (kc : ∀ σ H, D.ct σ H → D'.ct σ H) : RB X sts D' σ H := RB.made fun pins s I => thn (h.run pins s I) fun f s' z => by
  cases f with
  | next => obtain ⟨a, b, c, d⟩ := z; exact ⟨a, b, c, k _ _ d⟩
  | brk => obtain ⟨a, b, c, d⟩ := z; exact ⟨a, b, c, kb _ _ d⟩
  | cont => obtain ⟨a, b, c, d⟩ := z; exact ⟨a, b, c, kc _ _ d⟩
  | ret u => obtain ⟨v, a, b, c, r, d⟩ := z; exact ⟨v, a, b, c, r, kr _ _ d⟩
/-- an if whose ways meet again -/
theorem rs_ifJ (M : L2.St → Hp → Prop) (h : RT X c σ H fun k H1 => if k = true then RB X x { D with nx := M } σ H1 else RB X y { D with nx := M } σ H1) (hM : ∀ σ' H', M σ' H' → D.nx σ' H') : RS X (.If c x y pos) D σ H :=
  rs_if (h.mono fun k H1 q => by
    cases k with
    | true => exact RB.mono q hM (fun _ _ z => z) (fun _ _ z => z) fun _ _ z => z
    | false => exact RB.mono q hM (fun _ _ z => z) (fun _ _ z => z) fun _ _ z => z)
end
section
variable {X : Cx} {tg iter a : Expr} {es : List Expr} {σ : L2.St} {H H0 : Hp} {R : It → Hp → Prop} {pos p tpos : Pos} {elts : List Expr} {kk : Nat}
/-- over a list or a tuple that was there before -/
theorem ri_data0 {v : V} {d : PyData} (e0 : Ex H0 H) (hd : D X.K H0 v d) (hl : (isL d || isT d) = true) (h : ∀ J G xs, Walk J xs.length G (YAt xs) → (∀ H', Ex H0 H' → G H') → DA X.K H0 xs (itemsD d) → RE X iter σ H fun x H1 => x = v ∧ Ex H H1 ∧ R J H1) : RI X tg iter σ H R := by
  cases hd with
  | lst sq ha => exact ri_list ((h _ _ _ walk_list (fun H' e => Evl.ex_l e sq) ha).mono fun x H1 ⟨ex, e, r⟩ => ⟨_, _, ex, Evl.ex_l (e0.trans e) sq, r⟩)
  | tup sq ha => exact ri_tup ((h _ _ _ walk_tup (fun H' e => Evl.ex_t e sq) ha).mono fun x H1 ⟨ex, e, r⟩ => ⟨_, _, ex, Evl.ex_t (e0.trans e) sq, r⟩)
  | _ => exact absurd (show false = true from hl) Bool.false_ne_true
theorem ri_enumD0 {v : V} {d : PyData} (e0 : Ex H0 H) (hd : D X.K H0 v d) (hl : (isL d || isT d) = true) (hm : X.mg "enumerate" = none)
    (h : ∀ J G (xs : List V), Walk J xs.length G (YPair (fun i => some (.int (i : Nat))) (fun i => xs[i]?)) → (∀ H', Ex H0 H' → G H') → DA X.K H0 xs (itemsD d) → RE X a σ H fun x H1 => x = v ∧ Ex H H1 ∧ R J H1)
    (hg : Gl X "enumerate" := by rfl) (hs : starEach [a] X.env = [(false, eval a X.env)] := by rfl) : RI X (.Tuple elts kk tpos) (.Call (.Name "enumerate" p) [a] [] pos) σ H R := by
  cases hd with
  | lst sq ha => exact ri_enum hm (ra_cons (hs := hs) ((h _ _ _ walk_enum (fun H' e => Evl.ex_l e sq) ha).mono fun x H1 ⟨ex, e, r⟩ => ra_nil ⟨_, _, by rw [ex], Evl.ex_l (e0.trans e) sq, r⟩)) hg hs
  | tup sq ha => exact ri_enumT hm (ra_cons (hs := hs) ((h _ _ _ walk_enumT (fun H' e => Evl.ex_t e sq) ha).mono fun x H1 ⟨ex, e, r⟩ => ra_nil ⟨_, _, by rw [ex], Evl.ex_t (e0.trans e) sq, r⟩)) hg hs
  | _ => exact absurd (show false = true from hl) Bool.false_ne_true
end
theorem val_put {κ : Type} [DecidableEq κ] (kvs : List (κ × V)) (k : κ) (v : V) (j : κ) : valV (putK kvs k v) j = if j = k then some v else valV kvs j := by
  unfold putK valV
  by_cases hk : (kvs.any fun kv => decide (kv.fst = k)) = true
  · rw [if_pos hk]
    induction kvs with
    | nil => simp at hk
    | cons x r ih =>
      rw [List.map_cons, List.find?_cons, List.find?_cons]
      by_cases hx : x.1 = k
      · rw [if_pos hx]
        by_cases hj : j = k
        · rw [if_pos hj]
          have : decide (x.1 = j) = true := decide_eq_true (by rw [hx, hj])
          simp [this]
        · rw [if_neg hj]
          have h1 : decide (x.1 = j) = false := decide_eq_false (by rw [hx]; exact fun z => hj z.symm)
          simp only [h1]
          by_cases hr : (r.any fun kv => decide (kv.fst = k)) = true
          · have := ih hr
            rw [if_neg hj] at this
            exact this
          · congr 1
            have : ∀ (l : List (κ × V)), (l.any fun kv => decide (kv.fst = k)) ≠ true → List.map (fun kv => if kv.1 = k then (kv.1, v) else kv) l = l := by
              intro l
              induction l with
              | nil => intro _; rfl
              | cons y t ih2 =>
                intro hl
                have h1 : ¬ y.1 = k := fun z => hl (by rw [List.any_cons, decide_eq_true z]; rfl)
                have h2 : (t.any fun kv => decide (kv.fst = k)) ≠ true := fun z => hl (by rw [List.any_cons, z, Bool.or_true])
                rw [List.map_cons, ih2 h2, if_neg h1]
            rw [this r hr]
      · rw [if_neg hx]
        have hr : (r.any fun kv => decide (kv.fst = k)) = true := by
          rw [List.any_cons, decide_eq_false hx, Bool.false_or] at hk
          exact hk
        by_cases hj : x.1 = j
        · have hjk : ¬ j = k := fun z => hx (hj.trans z)
          simp [hj, hjk]
        · simp only [decide_eq_false hj]
          exact ih hr
  · rw [if_neg hk, List.find?_append]
    have hn : ∀ x ∈ kvs, x.1 ≠ k := fun x hx z => hk (List.any_eq_true.mpr ⟨x, hx, decide_eq_true z⟩)
    by_cases hj : j = k
    · rw [if_pos hj, List.find?_eq_none.mpr (fun x hx => by simpa [hj] using hn x hx)]
      simp [hj]
    · rw [if_neg hj, List.find?_cons, decide_eq_false (fun z => hj z.symm)]
      simp
end Fx
end
section
set_option Elab.async false
set_option linter.all false
set_option maxRecDepth 100000
set_option maxHeartbeats 2000000
namespace Fl
open PySem PySem.Spec PyProof.Rows L2 Fx
open Evl (Ex fresh_back)
/-! ### marks -/
def labD (d : PyData) : Str := match partD 1 d with | .str s => s | _ => ""
def marksTo (ds : List PyData) : Nat → List (Key × V)
  | 0 => []
  | i + 1 => match ds[i]? with
    | some d => if wordD d = "mark" then putK (marksTo ds i) (.inr (labD d)) (.int (i : Nat)) else marksTo ds i
    | none => marksTo ds i
def marksV (ds : List PyData) : List (Key × V) := marksTo ds ds.length
theorem marks_yes {ds : List PyData} {i : Nat} {d : PyData} (h : ds[i]? = some d) (hw : wordD d = "mark") : marksTo ds (i + 1) = putK (marksTo ds i) (.inr (labD d)) (.int (i : Nat)) := by
  show (match ds[i]? with | some d => _ | none => _) = _
  rw [h]
  exact if_pos hw
theorem marks_no {ds : List PyData} {i : Nat} {d : PyData} (h : ds[i]? = some d) (hw : ¬ wordD d = "mark") : marksTo ds (i + 1) = marksTo ds i := by
  show (match ds[i]? with | some d => _ | none => _) = _
  rw [h]
  exact if_neg hw
theorem mark_lab {d : PyData} (h : fitsD "word" (partD 1 d) = true) : partD 1 d = .str (labD d) := by
  obtain ⟨s, hs, _⟩ := fits_word h
  unfold labD
  rw [hs]
section
variable {P : Program} {w : World} {K : PySem.W.Frag} {mg : Str → Option Value} {base : Heap} {f : Addr} {fd : FuncData}
theorem good_pair {K : PySem.W.Frag} {i j : Nat} : GoodG (gTup K 2 (gCons (gName i) (gCons (gName j) gNil))) := good_tup2
theorem sc_marks_of : FnScope ["lines", "at", "line"] ["lines"] (defScope s_marks_of) := ⟨rfl, rfl, rfl, by decide +kernel, rfl, by decide +kernel, by decide +kernel⟩
abbrev sp_marks_of (K : PySem.W.Frag) : Sp := sp1 K Lines fun d r H' => ∃ p, r = .ref p ∧ H' p = some (.dK (marksV (itemsD d)))
theorem ok_marks_of (F : Fun K "marks_of" "marks_of" s_marks_of f fd) (G : Gb mg) : FnOk P w K mg base CX0 1 f fd ["lines"] (sp_marks_of K) := by
  refine F.ok sc_marks_of (fun vs H Q E h => sp1_len h rfl) (fun cdv A outer s H vs Q E hr h => ⟨RB _ _, pss_RB, ?_⟩)
  obtain ⟨v, d, rfl, hd, hl, q⟩ := h
  refine rb_one (rs_ret ?_)
  refine re_dcIf (own := [("at", 1), ("line", 2)]) (g := gTup K 2 (gCons (gName 1) (gCons (gName 2) gNil))) rfl sc_marks_of.nd (blkOk_by (N := ["lines", "at", "line"]) (sc := defScope s_marks_of) (by decide +kernel))
    (fun _ _ _ _ _ => pg_tup rfl (pgs_cons (pg_name (i := 1) sc_marks_of.nd rfl (Or.inl rfl)) (pgs_cons (pg_name (i := 2) sc_marks_of.nd rfl (Or.inl rfl)) pgs_nil))) good_tup2 ?_
  refine ri_enumD hd hl.isl G.enumerate fun J Gx xs wk hG ha => re_var 0 rfl ⟨rfl, Ex.refl _, _, _, _, fun i ys => ys = marksTo (itemsD d) i, wk, ?_, hG, rfl, ?_, ?_⟩
  · rw [ha.length]; exact Nat.le_trans hl.len (by decide)
  · rintro i x H2 H3 hi e2 ⟨t, x, y, rfl, hT, rfl, hx, hy⟩
    obtain rfl := Option.some.inj hx
    obtain ⟨dy, hdy, hyy⟩ := ha.getV hy
    have hly : isLineD dy = true := hl.ok _ (List.mem_of_getElem? hdy)
    have e3 : Ex H2 (upd H2 t (.tup [V.int (i : Nat), y])) := Ex.new hT
    have hyd := hyy.mono (e2.trans e3)
    refine ⟨e3, t, [V.int (i : Nat), y], rfl, .inl (.inl upd_same), rfl, _, [y], rfl, y, [], rfl, rfl, rfl, Ex.refl _, fun s0 H0 C cl fp => ?_⟩
    refine rt_cmp op_eq (re_word (re_var 2 rfl ⟨dy, hyd, hly, re_str ⟨rfl, _, rfl, Ex.refl _, fun hb acc hacc => ?_, fun hb s0 H0 C cl fp => ?_⟩⟩))
    · rw [eqK] at hb
      subst hacc
      exact (marks_no hdy (of_decide_eq_false hb)).symm
    · rw [eqK] at hb
      have hw := of_decide_eq_true hb
      refine re_part1 (re_var 2 rfl ⟨dy, _, _, _, hyd, hly, hw, form_mark, rfl, fun u hu hf => ?_⟩)
      rw [mark_lab hf] at hu
      cases hu
      refine ⟨Ex.refl _, .inr (labD dy), rfl, fun s0 H0 C cl fp => re_var 1 rfl ⟨Ex.refl _, fun acc hacc => ?_⟩⟩
      subst hacc
      exact (marks_yes hdy hw).symm
  · rintro p ys H2 hp e2 h2 hlen rfl
    refine q _ _ e2 ⟨p, rfl, ?_⟩
    rw [h2, ha.length]
    rfl
/-! ### names that are there -/
def hasK (kvs : List (Key × V)) : PyData → Bool
  | .str s => (valV kvs (.inr s)).isSome
  | _ => true
def thereD (ls fs : List (Key × V)) (d : PyData) : Bool := hasK ls (nlD d) && hasK fs (nfD d)
theorem optS_nl {d : PyData} (h : isLineD d = true) : nlD d = .none ∨ ∃ s, nlD d = .str s := by
  obtain ⟨w', xs, kinds, v⟩ := valid_of h
  have hw : wordD d = w' := by rw [v.eq]; rfl
  have one : ∀ {w : Str}, w' = w → forms.lookup w = some (["word"] : List Str) → ∃ s, partD 1 d = .str s := fun {w} e hf => by
    have hk : kinds = (["word"] : List Str) := Option.some.inj (v.form.symm.trans (by rw [e]; exact hf))
    obtain ⟨x, hx, hf⟩ := v.at (i := 0) (k := "word") (by rw [hk]; rfl)
    obtain ⟨s, rfl, _⟩ := fits_word hf
    refine ⟨s, ?_⟩
    rw [v.eq]
    show (PyData.str w' :: xs).getD 1 .none = _
    rw [List.getD_cons_succ, List.getD_eq_getElem?_getD, hx]; rfl
  unfold nlD
  rw [hw]
  by_cases e : w' = "jump" ∨ w' = "if" ∨ w' = "unless"
  · rw [if_pos e]
    rcases e with e | e | e
    · exact .inr (one e form_jump)
    · exact .inr (one e form_if)
    · exact .inr (one e form_unless)
  · rw [if_neg e]
    exact .inl rfl
theorem optS_nf {d : PyData} (h : isLineD d = true) : nfD d = .none ∨ ∃ s, nfD d = .str s := by
  obtain ⟨w', xs, kinds, v⟩ := valid_of h
  have hw : wordD d = w' := by rw [v.eq]; rfl
  have part : ∀ {w : Str} {ks : List Str} {i : Nat}, w' = w → forms.lookup w = some ks → ks[i]? = some "word" → ∃ s, partD (i + 1) d = .str s := fun {w ks i} e hf hi => by
    have hk : kinds = ks := Option.some.inj (v.form.symm.trans (by rw [e]; exact hf))
    obtain ⟨x, hx, hf⟩ := v.at (i := i) (k := "word") (by rw [hk]; exact hi)
    obtain ⟨s, rfl, _⟩ := fits_word hf
    refine ⟨s, ?_⟩
    rw [v.eq]
    show (PyData.str w' :: xs).getD (i + 1) .none = _
    rw [List.getD_cons_succ, List.getD_eq_getElem?_getD, hx]; rfl
  unfold nfD
  rw [hw]
  by_cases e0 : w' = "addr"
  · rw [if_pos e0]
    exact .inr (part e0 form_addr (i := 1) rfl)
  rw [if_neg e0]
  by_cases e : w' = "call" ∨ w' = "tail"
  · rw [if_pos e]
    rcases e with e | e
    · exact .inr (part e form_call (i := 0) rfl)
    · exact .inr (part e form_tail (i := 0) rfl)
  · rw [if_neg e]
    exact .inl rfl
theorem sc_there : FnScope ["line", "labels", "functions", "label", "name"] ["line", "labels", "functions"] (defScope s_names_are_there) := ⟨rfl, rfl, rfl, by decide +kernel, rfl, by decide +kernel, by decide +kernel⟩
def sp_there (K : PySem.W.Frag) : Sp := fun vs H Q _ => ∃ v d la fa ls fs, vs = [v, .ref la, .ref fa] ∧ D K H v d ∧ isLineD d = true ∧ H la = some (.dK ls) ∧ H fa = some (.dK fs) ∧ ∀ r H', Ex H H' → r = .bl (thereD ls fs d) → Q r H'
/-- x is None or x in (a dict) -/
theorem re_noneOr {X : Cx} {x x' : Expr} {o : Expr} {σ : L2.St} {H : Hp} {Q : VK} {p1 p2 p3 pos : Pos} {j} (hu : X.A.units + 1 < cLine) {v : V} {d : PyData} {a : Addr} {kvs : List (Key × V)} (hd : D X.K H v d) (hs : d = .none ∨ ∃ s, d = .str s) (ha : H a = some (.dK kvs))
    (hx : ∀ Q : VK, Q v H → RE X x σ H Q) (hx' : ∀ Q : VK, Q v H → RE X x' σ H Q) (ho : ∀ Q : VK, Q (.ref a) H → RE X o σ H Q) (q : Q (.bl (hasK kvs d)) H) (hm : behindInMarks .In o = false := by rfl) (hm2 : behindInMarks .Is (.Constant .none j p3) = false := by first | exact nobehind _ (by decide) (by decide) | rfl) : RE X (.BoolOp .Or [.Compare x [.Is] [.Constant .none j p3] p1, .Compare x' [.In] [o] p2] pos) σ H Q := by
  rcases hs with rfl | ⟨s, rfl⟩
  · cases hd
    exact re_or (re_cmp op_isN (hx _ (re_non ⟨rfl, true, by rw [decide_eq_true rfl], ifT q⟩)) hm2)
  · cases hd
    refine re_or (re_cmp op_isN (hx _ (re_non ⟨rfl, false, by rw [decide_eq_false (fun e => nomatch e)], ifF (re_one (re_din hu (hx' _ (ho _ ⟨a, kvs, .inr s, rfl, ha, rfl, q⟩)) hm))⟩)) hm2)
theorem ok_there (F : Fun K "_names_are_there" "_names_are_there" s_names_are_there f fd) (c1 : Cl P w K mg base CX0 1 "named_label" (sp_named_label K)) (c2 : Cl P w K mg base CX0 1 "named_function" (sp_named_function K)) :
    FnOk P w K mg base CX0 2 f fd ["line", "labels", "functions"] (sp_there K) := by
  refine F.ok sc_there (fun vs H Q E h => ?_) (fun cdv A outer s H vs Q E hr h => ⟨RB _ _, pss_RB, ?_⟩)
  · obtain ⟨_, _, _, _, _, _, rfl, _⟩ := h; rfl
  obtain ⟨v, d, la, fa, ls, fs, rfl, hd, hl, hla, hfa, q⟩ := h
  refine rb_cons (rs_set 3 sc_there.nd (re_call c1 hr (ra_cons (re_var 0 rfl (ra_nil ⟨v, d, rfl, hd, hl, fun r H1 e1 h1 => ?_⟩)))))
  refine rb_cons (rs_set 4 sc_there.nd (re_call c2 hr (ra_cons (re_var 0 rfl (ra_nil ⟨v, d, rfl, hd.mono e1, hl, fun r2 H2 e2 h2 => ?_⟩)))))
  have e12 := e1.trans e2
  refine rb_one (rs_ret (re_and ?_))
  refine re_noneOr (hu_of hr) (h1.mono e2) (optS_nl hl) (e12 _ _ hla) (fun Q q => re_var 3 rfl q) (fun Q q => re_var 3 rfl q) (fun Q q => re_var 1 rfl q) ⟨_, rfl, ifB (fun e => ?_) fun e => ?_⟩
  · refine re_one ?_
    refine re_noneOr (hu_of hr) h2 (optS_nf hl) (e12 _ _ hfa) (fun Q q => re_var 4 rfl q) (fun Q q => re_var 4 rfl q) (fun Q q => re_var 2 rfl q) (q _ _ e12 ?_)
    show V.bl _ = V.bl (hasK ls (nlD d) && _)
    rw [e]; rfl
  · refine q _ _ e12 ?_
    show V.bl _ = V.bl (hasK ls (nlD d) && _)
    rw [e]; rfl
end
end Fl
end
section
set_option Elab.async false
set_option linter.all false
set_option maxRecDepth 100000
set_option maxHeartbeats 2000000
namespace Fl
open PySem PySem.Spec PyProof.Rows L2 Fx
open Evl (Ex fresh_back)
/-! ### the first wrong line -/
def stackL : List Str := ["push", "pop", "read", "write"]
def wrongFrom (ls fs : List (Key × V)) (bare : Bool) : List PyData → Nat → List Str → Option Nat
  | [], _, _ => none
  | d :: r, i, m =>
    if isLineD d = false ∨ (bare = true ∧ wordD d ∈ stackL) then some i
    else if wordD d = "mark" ∧ labD d ∈ m then some i
    else if thereD ls fs d = false then some i
    else wrongFrom ls fs bare r (i + 1) (if wordD d = "mark" then m ++ [labD d] else m)
def firstWrong (fs : List (Key × V)) (bare : Bool) (ds : List PyData) : Option Nat := wrongFrom (marksV (ds.filter isLineD)) fs bare ds 0 []
def optV : Option Nat → V
  | none => .non
  | some i => .int (i : Nat)
structure AnyLines (d : PyData) : Prop where
  isl : (isL d || isT d) = true
  len : (itemsD d).length ≤ 1000
  short : ∀ x ∈ itemsD d, shortL x
theorem drop_at {α : Type} {ds : List α} {i : Nat} {d : α} (h : ds[i]? = some d) : ds.drop i = d :: ds.drop (i + 1) := by
  obtain ⟨hi, rfl⟩ := List.getElem?_eq_some_iff.mp h
  exact List.drop_eq_getElem_cons hi
theorem filter_take {α : Type} {ds : List α} {i : Nat} {d : α} (p : α → Bool) (h : ds[i]? = some d) : (ds.take (i + 1)).filter p = (ds.take i).filter p ++ (if p d = true then [d] else []) := by
  rw [take_snoc h, List.filter_append]
  congr 1
  by_cases hp : p d = true
  · rw [if_pos hp, List.filter_cons_of_pos hp]; rfl
  · rw [if_neg hp, List.filter_cons_of_neg hp]; rfl
section
variable {P : Program} {w : World} {K : PySem.W.Frag} {mg : Str → Option Value} {base : Heap} {f : Addr} {fd : FuncData}
theorem sc_first_wrong : FnScope ["lines", "functions", "bare", "line", "labels", "marked", "at"] ["lines", "functions", "bare"] (defScope s_first_wrong) := ⟨rfl, rfl, rfl, by decide +kernel, rfl, by decide +kernel, by decide +kernel⟩
def sp_first_wrong (K : PySem.W.Frag) : Sp := fun vs H Q _ => ∃ v d fa fs b, vs = [v, .ref fa, .bl b] ∧ D K H v d ∧ AnyLines d ∧ H fa = some (.dK fs) ∧ ∀ r H', Ex H H' → r = optV (firstWrong fs b (itemsD d)) → Q r H'
theorem ok_first_wrong (F : Fun K "_first_wrong" "_first_wrong" s_first_wrong f fd) (G : Gb mg) (T : Frm2 K w mg) (c1 : Cl P w K mg base CX0 1 "marks_of" (sp_marks_of K)) (c2 : Cl P w K mg base CX0 4 "is_line" (sp_is_line K)) (c3 : Cl P w K mg base CX0 2 "_names_are_there" (sp_there K)) :
    FnOk P w K mg base CX0 5 f fd ["lines", "functions", "bare"] (sp_first_wrong K) := by
  refine F.ok sc_first_wrong (fun vs H Q E h => ?_) (fun cdv A outer s H vs Q E hr h => ⟨RB _ _, pss_RB, ?_⟩)
  · obtain ⟨_, _, _, _, _, rfl, _⟩ := h; rfl
  obtain ⟨v, d, fa, fs, b, rfl, hd, hl, hfa, q⟩ := h
  obtain ⟨sa, mS, hS⟩ := T.stackW
  generalize eds : itemsD d = ds at *
  refine rb_cons (rs_set 4 sc_first_wrong.nd (re_call c1 hr (ra_cons ?_)))
  refine re_lcIf (own := [("line", 3)]) (g := gName 3) rfl sc_first_wrong.nd (blkOk_by (N := ["lines", "functions", "bare", "line", "labels", "marked", "at"]) (sc := defScope s_first_wrong) (by decide +kernel)) (fun _ _ _ _ _ => pg_name (i := 3) sc_first_wrong.nd rfl (Or.inl rfl)) good_name ?_
  refine ri_data hd hl.isl fun J Gx xs wk hG ha => re_var 0 rfl ⟨rfl, Ex.refl _, _, _, _, fun i ys => DA K H ys ((ds.take i).filter isLineD), wk, ?_, hG, .nil, ?_, ?_⟩
  · rw [ha.length]; exact Nat.le_trans hl.len (by decide)
  · rintro i x H2 H3 hi e2 ⟨rfl, hx⟩
    obtain ⟨dx, hdx, hxx⟩ := ha.getV hx
    rw [eds] at hdx
    refine ⟨Ex.refl _, rfl, Ex.refl _, fun s0 H0 C cl fp => rt_val (re_call c2 hr (ra_cons (re_var 3 rfl (ra_nil ⟨x, dx, rfl, hxx.mono e2, hl.short _ (by rw [eds]; exact List.mem_of_getElem? hdx), fun r H' e' h' => ⟨_, h', e', fun hb s0 H0 C cl fp => re_var 3 rfl ⟨Ex.refl _, fun acc hacc => ?_⟩, fun hb acc hacc => ?_⟩⟩))))⟩
    · show DA K H _ ((ds.take (i + 1)).filter isLineD)
      rw [filter_take isLineD hdx, if_pos hb]
      exact hacc.app (.cons hxx .nil)
    · show DA K H _ ((ds.take (i + 1)).filter isLineD)
      rw [filter_take isLineD hdx, if_neg (by rw [hb]; exact Bool.false_ne_true), List.append_nil]
      exact hacc
  intro p ys H2 hp e2 h2 hlen hys
  rw [show xs.length = ds.length from ha.length.trans (by rw [eds]), List.take_length] at hys
  refine ra_nil ⟨.ref p, .list (ds.filter isLineD), rfl, .lst (.inl (.inl h2)) (hys.mono e2), ⟨rfl, ?_, fun x hx => (List.mem_filter.mp hx).2⟩, fun r H3 e3 h3 => ?_⟩
  · exact Nat.le_trans (List.length_filter_le ..) (by have := hl.len; rw [eds] at this; exact this)
  obtain ⟨lp, rfl, hlp⟩ := h3
  have hlp : H3 lp = some (.dK (marksV (ds.filter isLineD))) := hlp
  have e13 := e2.trans e3
  refine rb_cons (rs_set 5 sc_first_wrong.nd (re_dnew fun mp H4 hmp e4 h4 => ?_))
  have e14 := e13.trans e4
  have nmp : H mp = none := fresh_back e13 hmp
  have nlm : lp ≠ mp := fun z => by rw [z, hmp] at hlp; exact (Option.some_ne_none _ hlp.symm).elim
  generalize els : marksV (ds.filter isLineD) = ls at *
  refine rb_cons ?_
  refine rs_for (g := gTup K 2 (gCons (gName 6) (gCons (gName 3) gNil))) PassesOwn.never rfl (pg_tup rfl (pgs_cons (pg_name (i := 6) sc_first_wrong.nd rfl (Or.inl rfl)) (pgs_cons (pg_name (i := 3) sc_first_wrong.nd rfl (Or.inl rfl)) pgs_nil))) good_tup2 ?_
  refine ri_enumD0 e14 hd hl.isl G.enumerate fun J2 Gx2 xs2 wk2 hG2 ha2 => re_var 0 rfl ⟨rfl, Ex.refl _, _, _, _, fun i σ' H' => ∃ L A' mk m, σ' = [some v, some (.ref fa), some (.bl b), L, some (.ref lp), some (.ref mp), A'] ∧ Ex H H' ∧ Ex H3 H' ∧ H' mp = some (.dK mk) ∧ mk.length ≤ i ∧ (∀ s : Str, (valV mk (.inr s)).isSome = decide (s ∈ m)) ∧ firstWrong fs b ds = wrongFrom ls fs b (ds.drop i) i m, wk2, ?_, ?_, ?_, ?_⟩
  · refine ⟨_, _, [], [], rfl, e14, e4, h4, Nat.le_refl _, fun s => rfl, ?_⟩
    unfold firstWrong
    rw [els, List.drop_zero]
  · rintro i σ' H' hi ⟨_, _, _, _, _, eH, _⟩
    exact hG2 H' eH
  · rintro i x σ' Ha Hb hi ⟨L, A', mk, m, rfl, eH, e3a, hmk, hml, hmm, hfw⟩ ⟨t, x, y, rfl, hT, rfl, hx, hy⟩
    obtain rfl := Option.some.inj hx
    obtain ⟨dy, hdy, hyy⟩ := ha2.getV hy
    rw [eds] at hdy
    have et : Ex Ha (upd Ha t (.tup [V.int (i : Nat), y])) := Ex.new hT
    refine ⟨t, [V.int (i : Nat), y], rfl, .inl (.inl upd_same), rfl, _, [y], rfl, y, [], rfl, rfl, ?_⟩
    have eHb := eH.trans et
    have e3b := e3a.trans et
    have hmkb := et _ _ hmk
    generalize upd Ha t (.tup [V.int (i : Nat), y]) = Hb at *
    have hyd := hyy.mono eHb
    have hshort : shortL dy := hl.short _ (by rw [eds]; exact List.mem_of_getElem? hdy)
    have hstep : firstWrong fs b ds = (if isLineD dy = false ∨ (b = true ∧ wordD dy ∈ stackL) then some i
      else if wordD dy = "mark" ∧ labD dy ∈ m then some i
      else if thereD ls fs dy = false then some i
      else wrongFrom ls fs b (ds.drop (i + 1)) (i + 1) (if wordD dy = "mark" then m ++ [labD dy] else m)) := by rw [hfw, drop_at hdy]; rfl
    refine rb_cons (rs_ifJ (fun σ' H' => σ' = [some v, some (.ref fa), some (.bl b), some y, some (.ref lp), some (.ref mp), some (.int (i : Nat))] ∧ Ex Hb H' ∧ isLineD dy = true ∧ ¬ (isLineD dy = false ∨ (b = true ∧ wordD dy ∈ stackL))) ?_ ?_)
    · refine rt_w (rw_or (rt_not (rt_val (re_call c2 hr (ra_cons (re_var 3 rfl (ra_nil ⟨y, dy, rfl, hyd, hshort, fun r H5 e5 h5 => ⟨_, h5, ifB (fun e => ?_) fun e => ?_⟩⟩)))))))
      · refine ifT (rb_one (rs_ret (re_var 6 rfl (q _ _ (eHb.trans e5) ?_))))
        have e' : isLineD dy = false := by
          cases z : isLineD dy with
          | false => rfl
          | true => rw [z] at e; exact Bool.noConfusion e
        show V.int (i : Nat) = optV (firstWrong fs b ds)
        rw [hstep, if_pos (.inl e')]; rfl
      have hly : isLineD dy = true := by
        cases z : isLineD dy with
        | true => rfl
        | false => rw [z] at e; exact Bool.noConfusion e
      refine rw_or1 (rt_w (rw_and (rt_val (re_var 2 rfl ⟨b, rfl, ifB (fun eb => ?_) fun eb => ?_⟩))))
      · refine rw_and1 (rt_in (ws := stackL) (re_word (re_var 3 rfl ⟨dy, hyd.mono e5, hly, _, rfl, re_glob (v := .ref sa) mS rfl ⟨sa, rfl, hS _, ifB (fun es => ?_) fun es => ?_⟩⟩)))
        · refine rb_one (rs_ret (re_var 6 rfl (q _ _ (eHb.trans e5) ?_)))
          show V.int (i : Nat) = optV (firstWrong fs b ds)
          rw [hstep, if_pos (.inr ⟨eb, of_decide_eq_true es⟩)]; rfl
        · exact rb_nil ⟨rfl, e5, hly, fun z => by
            rcases z with z | z
            · rw [hly] at z; exact Bool.noConfusion z
            · exact of_decide_eq_false es z.2⟩
      · exact ifF (rb_nil ⟨rfl, e5, hly, fun z => by
            rcases z with z | z
            · rw [hly] at z; exact Bool.noConfusion z
            · rw [eb] at z; exact Bool.noConfusion z.1⟩)
    rintro σ' H5 ⟨rfl, e5, hly, hno⟩
    rw [if_neg hno] at hstep
    refine rb_cons (rs_ifJ (fun σ' H' => σ' = [some v, some (.ref fa), some (.bl b), some y, some (.ref lp), some (.ref mp), some (.int (i : Nat))] ∧ Ex H H' ∧ Ex H3 H' ∧ ¬ (wordD dy = "mark" ∧ labD dy ∈ m) ∧ ∃ mk', H' mp = some (.dK mk') ∧ mk'.length ≤ i + 1 ∧ ∀ s : Str, (valV mk' (.inr s)).isSome = decide (s ∈ (if wordD dy = "mark" then m ++ [labD dy] else m))) ?_ ?_)
    · refine rt_cmp op_eq (re_word (re_var 3 rfl ⟨dy, hyd.mono e5, hly, re_str ⟨rfl, _, rfl, ?_⟩⟩))
      rw [eqK]
      by_cases hw : wordD dy = "mark"
      · rw [decide_eq_true hw]
        have part : ∀ (u : V), D K H5 u (partD 1 dy) → fitsD "word" (partD 1 dy) = true → u = .str (labD dy) := fun u hu hf => by
          rw [mark_lab hf] at hu
          cases hu
          rfl
        refine ifT (rb_cons (rs_if (rt_din (hu_of hr) (re_part1 (re_var 3 rfl ⟨dy, _, _, _, hyd.mono e5, hly, hw, form_mark, rfl, fun u hu hf => re_var 5 rfl ⟨mp, mk, .inr (labD dy), rfl, e5 _ _ hmkb, part u hu hf, ?_⟩⟩)))))
        rw [hmm]
        refine ifB (fun em => ?_) fun em => ?_
        · refine rb_one (rs_ret (re_var 6 rfl (q _ _ (eHb.trans e5) ?_)))
          show V.int (i : Nat) = optV (firstWrong fs b ds)
          rw [hstep, if_pos ⟨hw, of_decide_eq_true em⟩]; rfl
        · refine rb_nil (rb_one (rs_dput (hu_of hr) (re_bl (re_var 5 rfl (re_part1 (re_var 3 rfl ⟨dy, _, _, _, hyd.mono e5, hly, hw, form_mark, rfl, fun u hu hf => ⟨mp, mk, .inr (labD dy), rfl, e5 _ _ hmkb, part u hu hf, ?_, ?_⟩⟩))))))
          · exact Nat.lt_of_lt_of_le (show mk.length < 100000 by have h1 := ha2.length; have h2 := hl.len; omega) (by decide)
          · refine ⟨rfl, ex_mut (eHb.trans e5) nmp, ?_, fun z => of_decide_eq_false em z.2, _, upd_same, Nat.le_trans (length_putK _ _ _) (by omega), fun s => ?_⟩
            · exact ex_mut (e3b.trans e5) hmp
            · rw [val_put, if_pos hw]
              by_cases es : s = labD dy
              · rw [if_pos (by rw [es])]
                rw [decide_eq_true (by rw [es]; exact List.mem_append_right _ (List.mem_singleton.mpr rfl))]
                rfl
              · rw [if_neg (fun z => es (Sum.inr.inj z)), hmm]
                exact decide_eq_decide.mpr ⟨fun z => List.mem_append_left _ z, fun z => by
                  rcases List.mem_append.mp z with z | z
                  · exact z
                  · exact absurd (List.mem_singleton.mp z) es⟩
      · rw [decide_eq_false hw]
        exact ifF (rb_nil ⟨rfl, eHb.trans e5, e3b.trans e5, fun z => hw z.1, mk, e5 _ _ hmkb, by omega, fun s => by rw [if_neg hw]; exact hmm s⟩)
    rintro σ' H6 ⟨rfl, e6, e36, hno2, mk', hmk', hml', hmm'⟩
    rw [if_neg hno2] at hstep
    refine rb_one (rs_if (rt_not (rt_val (re_call c3 hr (ra_cons (re_var 3 rfl (ra_cons (re_var 4 rfl (ra_cons (re_var 1 rfl (ra_nil ⟨y, dy, lp, fa, ls, fs, rfl, hyy.mono e6, hly, e36 _ _ hlp, e6 _ _ hfa, fun r H7 e7 h7 => ⟨_, h7, ifB (fun e => ?_) fun e => ?_⟩⟩)))))))))))
    · have e' : thereD ls fs dy = false := by
        cases z : thereD ls fs dy with
        | false => rfl
        | true => rw [z] at e; exact Bool.noConfusion e
      refine rb_one (rs_ret (re_var 6 rfl (q _ _ (e6.trans e7) ?_)))
      show V.int (i : Nat) = optV (firstWrong fs b ds)
      rw [hstep, if_pos e']; rfl
    · have e' : ¬ thereD ls fs dy = false := fun z => by rw [z] at e; exact Bool.noConfusion e
      rw [if_neg e'] at hstep
      exact rb_nil ⟨_, _, mk', _, rfl, e6.trans e7, e36.trans e7, e7 _ _ hmk', hml', hmm', hstep⟩
  · rintro σ' H' ⟨L, A', mk, m, rfl, eH, e3a, hmk, hml, hmm, hfw⟩
    refine rb_one (rs_ret (re_non (q _ _ eH ?_)))
    rw [hfw, show ds.drop xs2.length = [] from List.drop_of_length_le (by rw [ha2.length, eds]; exact Nat.le_refl _)]; rfl
end
end Fl
end
section
set_option Elab.async false
set_option linter.all false
set_option maxRecDepth 100000
set_option maxHeartbeats 2000000
namespace Fx
open PySem PySem.Spec PyProof.Rows L2
open Evl (Ex fresh_back)
section
variable {X : Cx} {e tg iter : Expr} {σ : L2.St} {H : Hp} {Q : VK} {R : It → Hp → Prop} {apos cpos : Pos} {elts : List Expr} {kk : Nat} {tpos : Pos}
theorem re_lock {d : Addr} {u : HO} (hd : H d = some u) (hm : Mut (some u)) (h : ∀ od, RE X e σ (upd H d (.frz od u)) fun v H' => H' d = some (.frz od u) ∧ Q v (upd H' d u)) : RE X e σ H Q := re_of (pe_lock pe_RE) ⟨d, u, hd, hm, h⟩
theorem ri_items (h : RE X e σ H fun x H1 => ∃ d o kvs, x = .ref d ∧ H1 d = some (.frz o (.dK kvs)) ∧ R (Iti d o kvs) H1) (base : attributeBase e (Str.ofString "items") X.env (eval e X.env) = eval e X.env := by rfl) (line : (apos.endLine == cpos.line) = true := by rfl) :
    RI X (.Tuple elts kk tpos) (.Call (.Attribute e "items" apos) [] [] cpos) σ H R := ri_of (pi_items pe_RE base line) h
end
theorem has_key {K : PySem.W.Frag} {H : Hp} (z : Str) : ∀ {kvs : List (Key × V)} {es : List (PyData × PyData)}, DK K H kvs es → (valV kvs (.inr z)).isSome = es.any fun e => strIs z e.1
  | _, _, .nil => rfl
  | _, _, .cons (k := k) (v := v) (vs := r) a t => by
    have ih := has_key z t
    rw [List.any_cons, ← ih]
    unfold valV
    rw [List.find?_cons]
    by_cases e : k = .inr z
    · subst e
      rw [show decide ((Sum.inr z, v).1 = (Sum.inr z : Key)) = true from decide_eq_true rfl]
      show true = (decide (z = z) || _)
      rw [decide_eq_true rfl, Bool.true_or]
    · rw [show decide ((k, v).1 = (Sum.inr z : Key)) = false from decide_eq_false e]
      have e2 : strIs z (kD k) = false := by
        cases k with
        | inl i => rfl
        | inr x => exact decide_eq_false fun y => e (by rw [y])
      show _ = (strIs z (kD k) || _)
      rw [e2, Bool.false_or]
end Fx
namespace Fl
open PySem PySem.Spec PyProof.Rows L2 Fx
open Evl (Ex fresh_back)
def entOk (e : PyData × PyData) : Bool := isWordD e.1 && isFilledD e.2
def areF : PyData → Bool
  | .dict es => decide (1 ≤ es.length) && decide (es.length ≤ 24) && (es.any fun e => strIs "main" e.1) && es.all entOk
  | _ => false
def shortF : PyData → Prop
  | .dict es => ∀ e ∈ es, shortS e.1
  | _ => True
theorem isD_dict {d : PyData} (h : isD d = true) : ∃ z, d = .dict z := by
  cases d with
  | dict z => exact ⟨z, rfl⟩
  | _ => exact absurd (show false = true from h) Bool.false_ne_true
section
variable {P : Program} {w : World} {K : PySem.W.Frag} {mg : Str → Option Value} {base : Heap} {f : Addr} {fd : FuncData}
theorem sc_are_functions : FnScope ["value", "name", "lines"] ["value"] (defScope s_are_functions) := ⟨rfl, rfl, rfl, by decide +kernel, rfl, by decide +kernel, by decide +kernel⟩
def sp_are_functions (K : PySem.W.Frag) : Sp := fun vs H Q _ => ∃ v d, vs = [v] ∧ D K H v d ∧ shortF d ∧ (∀ a o kvs, v = .ref a → H a ≠ some (.frz o (.dK kvs))) ∧ ∀ r H', Ex H H' → r = .bl (areF d) → Q r H'
theorem ok_are_functions (F : Fun K "_are_functions" "_are_functions" s_are_functions f fd) (G : Gb mg) (c1 : Cl P w K mg base CX0 1 "is_word" (sp_is_word K)) (c2 : Cl P w K mg base CX0 2 "is_filled_list" (sp_is_filled_list K)) :
    FnOk P w K mg base CX0 3 f fd ["value"] (sp_are_functions K) := by
  refine F.ok sc_are_functions (fun vs H Q E h => ?_) (fun cdv A outer s H vs Q E hr h => ⟨RB _ _, pss_RB, ?_⟩)
  · obtain ⟨_, _, rfl, _⟩ := h; rfl
  obtain ⟨v, d, rfl, hd, hs, hz, q⟩ := h
  refine rb_cons (rs_if (rt_w (rw_or (rt_not (rt_val (re_isi kit_D G.isinstance G.dict (re_var 0 rfl ⟨d, hd, _, rfl, ifB (fun e => ?_) fun e => ?_⟩)))))))
  · refine ifT (rb_one (rs_ret (re_bl (q _ _ (Ex.refl _) ?_))))
    cases d with
    | dict x => exact absurd (show (false : Bool) = true from e) Bool.false_ne_true
    | _ => rfl
  obtain ⟨es, rfl⟩ : ∃ es, d = .dict es := isD_dict (by cases z : isD d with | true => rfl | false => rw [z] at e; exact Bool.noConfusion e)
  cases hd with
  | dic ha hk =>
  rename_i a kvs
  have hA : H a = some (.dK kvs) := by
    rcases ha with ha | ⟨o, ha⟩
    · exact ha
    · exact absurd ha (hz a o kvs rfl)
  have hlen := hk.length
  refine rw_or (rt_not (rt_chain op_le op_le (re_int (re_cb call_lenD G.len (ra_cons (re_var 0 rfl (ra_nil ⟨a, kvs, rfl, hA, _, _, rfl, rfl, _, rfl, ?_⟩)))))))
  refine ifB (fun e1 => ?_) fun e1 => ?_
  · have e1 := of_decide_eq_true e1
    refine re_gint G.funs ⟨_, _, rfl, rfl, _, rfl, ?_⟩
    by_cases e2 : (kvs.length : Int) ≤ 24
    · rw [decide_eq_true e2]
      refine ifF (rw_or1 (rt_dnin (hu_of hr) (re_str (re_var 0 rfl ⟨a, kvs, .inr "main", rfl, hA, rfl, ?_⟩))))
      rw [has_key "main" hk]
      have h8 : areF (.dict es) = ((es.any fun e => strIs "main" e.1) && es.all entOk) := by
        show (decide _ && decide _ && _ && _) = _
        rw [decide_eq_true (show 1 ≤ es.length by omega), decide_eq_true (show es.length ≤ 24 by omega)]
        rfl
      refine ifB (fun em => ?_) fun em => ?_
      · refine rb_one (rs_ret (re_bl (q _ _ (Ex.refl _) ?_)))
        rw [h8]
        cases z : es.any fun e => strIs "main" e.1 with
        | true => rw [z] at em; exact Bool.noConfusion em
        | false => rfl
      have em : (es.any fun e => strIs "main" e.1) = true := by
        cases z : es.any fun e => strIs "main" e.1 with
        | true => rfl
        | false => rw [z] at em; exact Bool.noConfusion em
      rw [em, Bool.true_and] at h8
      refine rb_nil (rb_one (rs_ret (re_cb (cr_all rfl) G.all (ra_cons (re_lock hA trivial fun od => ?_)))))
      have hz1 : Ez H (upd H a (.frz od (.dK kvs))) := Ez.lock hA (fun o u' z => by cases z)
      refine re_lc (own := [("name", 1), ("lines", 2)]) (g := gTup K 2 (gCons (gName 1) (gCons (gName 2) gNil))) rfl sc_are_functions.nd (blkOk_by (N := ["value", "name", "lines"]) (sc := defScope s_are_functions) (by decide +kernel))
        (fun _ _ _ _ _ => pg_tup rfl (pgs_cons (pg_name (i := 1) sc_are_functions.nd rfl (Or.inl rfl)) (pgs_cons (pg_name (i := 2) sc_are_functions.nd rfl (Or.inl rfl)) pgs_nil))) good_tup2 ?_
      refine ri_items (re_var 0 rfl ⟨a, od, kvs, rfl, upd_same, _, _, _, fun i ys => ys = ((es.take i).map fun e => V.bl (entOk e)), walk_items, by omega, fun H' e => e _ _ upd_same, rfl, ?_, ?_⟩)
      · rintro i x H2 H3 hi e2 ⟨t, x, y, rfl, hT, rfl, hx, hy⟩
        obtain ⟨kv, hkv, rfl⟩ := Option.map_eq_some_iff.mp (show (kvs[i]?.map fun kv => kV kv.1) = some x from hx)
        have hy : kvs[i]?.map Prod.snd = some y := hy
        rw [hkv] at hy
        obtain rfl := Option.some.inj hy
        obtain ⟨k, v'⟩ := kv
        obtain ⟨dv, hdv, hvv⟩ := hk.getV hkv
        have e3 : Ex H2 (upd H2 t (.tup [kV k, v'])) := Ex.new hT
        have hvv' := (hvv.monoZ hz1).mono (e2.trans e3)
        have hkk : D K (upd H2 t (.tup [kV k, v'])) (kV k) (kD k) := kV_kD k
        refine ⟨e3, t, [kV k, v'], rfl, .inl (.inl upd_same), rfl, kV k, [v'], rfl, v', [], rfl, rfl, rfl, Ex.refl _, fun s0 H0 C cl fp => ?_⟩
        have fin : ∀ b : Bool, b = entOk (kD k, dv) → ∀ acc, acc = ((es.take i).map fun e => V.bl (entOk e)) → acc ++ [V.bl b] = ((es.take (i + 1)).map fun e => V.bl (entOk e)) := fun b hb acc hacc => by
          rw [take_snoc hdv, List.map_append, hb, hacc]; rfl
        refine re_and (re_call c1 hr (ra_cons (re_var 1 rfl (ra_nil ⟨kV k, kD k, rfl, hkk, hs _ (List.mem_of_getElem? hdv), fun r H5 e5 h5 => ⟨_, h5, ifB (fun eb => ?_) fun eb => ?_⟩⟩))))
        · refine re_one (re_call c2 hr (ra_cons (re_var 2 rfl (ra_nil ⟨v', dv, rfl, hvv'.mono e5, trivial, fun r2 H6 e6 h6 => ⟨e5.trans e6, ?_⟩⟩))))
          subst h6
          refine fin _ ?_
          show _ = (isWordD _ && isFilledD _)
          rw [eb, Bool.true_and]
        · refine ⟨e5, fin _ ?_⟩
          show _ = (isWordD _ && isFilledD _)
          rw [eb, Bool.false_and]
      · rintro p ys H2 hp e2 h2 hl2 rfl
        have npa : p ≠ a := fun z => by rw [z, upd_same] at hp; exact (Option.some_ne_none _ hp).elim
        refine ⟨e2 _ _ upd_same, ra_nil ⟨p, es.map entOk, rfl, .inl (.inl ?_), q _ _ (ex_unlock hA e2) ?_⟩⟩
        · rw [upd_ne npa, h2, hlen, List.take_length, List.map_map]; rfl
        · rw [h8, List.all_map]; rfl
    · rw [decide_eq_false e2]
      refine ifT (rb_one (rs_ret (re_bl (q _ _ (Ex.refl _) ?_))))
      show V.bl _ = V.bl (decide _ && decide _ && _ && _)
      rw [decide_eq_false (show ¬ es.length ≤ 24 by omega), Bool.and_false, Bool.false_and, Bool.false_and]
  · refine ⟨_, rfl, ifT (rb_one (rs_ret (re_bl (q _ _ (Ex.refl _) ?_))))⟩
    have e1 : ¬ (1 : Int) ≤ kvs.length := fun z => by rw [decide_eq_true z] at e1; exact Bool.noConfusion e1
    show V.bl _ = V.bl (decide _ && decide _ && _ && _)
    rw [decide_eq_false (show ¬ 1 ≤ es.length by omega), Bool.false_and, Bool.false_and, Bool.false_and]
end
end Fl
end
section
set_option Elab.async false
set_option linter.all false
set_option maxRecDepth 100000
set_option maxHeartbeats 2000000
/-! list(d.values()). -/
namespace Fx
open PySem PySem.Spec PyProof.Rows L2
open Evl (Ex fresh_back)
theorem itemsOf_list {P : Nat → Value → Prop} {acc : Array Value} {out : List Value} (h : ItemsOf P acc out.length) (hP : ∀ j v, P j v → out[j]? = some v) : acc.toList = out := items_out h hP
theorem kv_vals : ∀ {kvs : List (Key × V)} {vs : List (Key × Value)}, KV kvs vs → Vals (kvs.map (·.2)) (vs.map (·.2))
  | _, _, .nil => .nil
  | _, _, .cons a t => .cons a.2 (kv_vals t)
section
variable {X : Cx} {e : Expr} {σ : L2.St} {H : Hp} {Q : VK}
theorem re_listVals {p apos cpos pos : Pos} (hc : X.calm = true) (hm : X.mg "list" = none) (h : RE X e σ H fun x H1 => ∃ d kvs, x = .ref d ∧ H1 d = some (.dK kvs) ∧ ∀ p H2, H1 p = none → Ex H1 H2 → H2 p = some (.lst (kvs.map (·.2))) → Q (.ref p) H2)
    (hg : Gl X "list" := by rfl) (hv : bootBuiltins "list" = some (.type "list") := by decide +kernel) (base : attributeBase e "values" X.env (eval e X.env) = eval e X.env := by rfl) (line : (apos.endLine == cpos.line) = true := by rfl)
    (hs : starEach [.Call (.Attribute e "values" apos) [] [] cpos] X.env = (false, eval (.Call (.Attribute e "values" apos) [] [] cpos) X.env) :: starEach [] X.env := by rfl) : RE X (.Call (.Name "list" p) [.Call (.Attribute e "values" apos) [] [] cpos] [] pos) σ H Q := by
  refine RE.made fun pins s I => ?_
  refine wpAny_Call_Name_kw (ld_blt I hg hm hv (PyProof.Rows.callWith_type1 ?_))
  rw [hs]
  refine Calls.spliced_cons (wpAny_Call_method base rfl line PySem.F.plainAttrs_dict PySem.F.slot_dict_values PySem.F.type_dict_values (thn (h.run pins s I) fun u s1 ⟨x, H1, I1, rx, d, kvs, ex, hd, q⟩ => ?_))
  subst ex
  obtain rfl : u = Value.ref d := rx
  obtain ⟨hz, hs0, vs, kv, hdo⟩ := I1.hok d _ hd
  obtain ⟨ep, hat⟩ := hdo.dictAt
  have lk := Paired.length kv
  have I2 : L2.Inv X pins σ H1 { s1 with heap := s1.heap.push { cls := .type "dict_values", data := .fields #[.ref d] } } := I1.kept fun b ob q => Heap.get?_push_of_some _ q
  refine ⟨hdo.typeIs, hdo.mapOf.noDict, method_meetsIn PySem.F.slot_dict_values PySem.F.entry_dict_values rfl (PySem.evalArgs_none ⟨rfl, hdo.typeIs, PySem.F.args_dict_values_1 _, _, meets_dict_values (mixKind X.prog X.w) d hs0, ⟨vs, hdo⟩, Calls.spliced_nil ?_⟩)⟩
  have ok : (s1.heap.push { cls := .type "dict_values", data := .fields #[.ref d] }).IsValuesView s1.heap.objs.size d ∧ Heap.DictAt (mixKind X.prog X.w) (s1.heap.push { cls := .type "dict_values", data := .fields #[.ref d] }) d vs ep := ⟨⟨_, Heap.get?_push_size s1.1 rfl, rfl, rfl⟩, hat.push _⟩
  refine PySem.W.kdl_call (s := { s1 with heap := s1.heap.push { cls := .type "dict_values", data := .fields #[.ref d] } }) (PySem.W.kdl_values (knd := mixKind X.prog X.w) (d := d) (r := s1.heap.objs.size) (kvs := vs) (ep := ep)) (I1.ok.hd hc) ok (by omega) ?_
  intro h' tk acc c hk hS hit
  have hacc : acc.toList = vs.map (·.2) := itemsOf_list (P := fun i v => ∃ k, vs[i]? = some (k, v)) (by rw [List.length_map]; exact hit) fun j v ⟨k, hj⟩ => by rw [List.getElem?_map, hj]; rfl
  generalize s1.heap.push { cls := .type "dict_values", data := .fields #[.ref d] } = hp at *
  have newS : H1 hp.objs.size = none := I2.hok.fresh (Nat.le_refl _)
  have e12 : Ex H1 (upd H1 hp.objs.size (.lst (kvs.map (·.2)))) := Ex.new newS
  refine ⟨.ref hp.objs.size, upd H1 hp.objs.size (.lst (kvs.map (·.2))), ?_, rfl, q _ _ newS e12 upd_same⟩
  refine Inv.call' I2 rfl { keep := fun b o q _ _ _ => hk b o q, slot := fun b o q _ _ _ => ⟨o.slots, hk b o q⟩, free := fun b o q n _ => ?_, there := fun b o q _ => ⟨o, hk b o q⟩, tups := fun b xs q => e12 b _ q, frzs := fun b o u q => e12 b _ q, tbls := fun b ps q => ⟨#[], ?_⟩ } (fun b u q => ?_) I2.bare fun b z => absurd z List.not_mem_nil
  · rw [upd_ne (Nat.ne_of_lt (Heap.lt_size q))]; exact n
  · rw [Array.append_empty]; exact e12 b _ q
  · by_cases hb : b = hp.objs.size
    · subst hb
      rw [upd_same] at q
      cases q
      refine ⟨by rw [List.length_map]; exact hz, acc.toList, c, ?_, ?_⟩
      · rw [hacc]; exact kv_vals kv
      · rw [Array.toArray_toList]; exact hS
    · rw [upd_ne hb] at q
      exact (I2.hok b u q).stay (fun d v x y => hk d v y) (fun d y => e12 _ _ y) fun d xs y => e12 _ _ y
end
end Fx
end
section
set_option Elab.async false
set_option linter.all false
set_option maxRecDepth 100000
set_option maxHeartbeats 2000000
/-! xs.extend(a tuple), xs.pop(), xs.append(e), displays with stars. -/
namespace Fx
open PySem PySem.Spec PyProof.Rows L2
open Evl (Ex fresh_back)
open PySem.SeqAt
theorem list_extend_tup (l : Addr) (items : Array Value) (n : Nat) (b : Addr) (items2 : Array Value) (n2 : Nat) (dd : Option Addr) (sl : Array (Option Value)) (hlong : ¬(!items.isEmpty && Builtin.List.listTooLong (items.size + items2.size)) = true) (h2 : items.size + items2.size ≤ sizeLine + 1) :
    Meets (Builtin.«list.extend» ⟨[.ref l, .ref b], []⟩) (fun _ R s => s.heap.get? l = some { cls := .type "list", data := .seq items n } ∧ s.heap.get? b = some { cls := .type "tuple", dict := dd, data := .seq items2 n2, slots := sl } ∧
      R (.ok (.ret .none)) { s with heap := s.heap.update l (Obj.mapSeq fun x => x ++ items2) }) :=
  .of_wp fun prog w A R s h => by
    obtain ⟨hp, g, d, tk, os⟩ := s
    obtain ⟨hl, hb, h⟩ := h
    have hz' : (items ++ items2).size ≤ sizeLine + 1 := by rw [Array.size_append]; exact h2
    wp_walk using wpAny_loadPart' hl, wpAny_load hl, wpAny_loadPart' hb, wpAny_load hb
    have e : (Obj.mapSeq (fun x => x ++ items2) { cls := Value.type "list", data := Data.seq items n }).data.pastItsLine = none := by
      show (Data.seq (items ++ items2) _).pastItsLine = none
      simp only [Data.pastItsLine]
      rw [if_neg (by omega)]
    rw [e]
    exact wpAny_pure (wpAny_pure ⟨_, rfl, h⟩)
def rExtendT : V → List V → Hp → VK → Prop := fun x vs H Q => ∃ l b xs zs, x = .ref l ∧ vs = [.ref b] ∧ H l = some (.lst xs) ∧ H b = some (.tup zs) ∧ xs.length + zs.length ≤ sizeLine ∧ Q .non (upd H l (.lst (xs ++ zs)))
theorem mt_extendT {X : Cx} : MtM X "list.extend" rExtendT := by
  intro pins s σ H x vs v us Q I rx rv h
  obtain ⟨l, b, xs, zs, rfl, rfl, hH, hB, hz, q⟩ := h
  obtain rfl : v = Value.ref l := rx
  obtain ⟨u, rfl, ru⟩ := rv.one
  obtain rfl : u = Value.ref b := ru
  obtain ⟨z, its, n, r, hl, e⟩ := I.lstM hH
  obtain ⟨hzl, its2, r2, ⟨oc, od, dt, sl⟩, e2, hc, n2, hd⟩ := I.hok b _ hB
  have hc : oc = Value.type "tuple" := hc
  have hd : dt = Data.seq its2.toArray n2 := hd
  subst hc hd
  have hl2 : zs.length = its2.length := r2.length
  have hsz : its.toArray.size + its2.toArray.size ≤ sizeLine := by rw [List.size_toArray, List.size_toArray, ← hl, ← hl2]; exact hz
  have hlong : ¬ (!its.toArray.isEmpty && Builtin.List.listTooLong (its.toArray.size + its2.toArray.size)) = true := by rw [notLongL hsz, Bool.and_false]; exact Bool.false_ne_true
  refine call_meets PySem.F.slot_list_extend ⟨_, e, rfl⟩ PySem.F.entry_list_extend (PySem.F.args_list_extend_2 _ _) (list_extend_tup l its.toArray n b its2.toArray n2 od sl hlong (by omega)) ⟨e, e2, ?_⟩
  exact ⟨.non, upd H l (.lst (xs ++ zs)), I.lset hH e (by rw [List.append_toArray]) (r.append r2) (by rw [List.length_append]; exact hz), rfl, q⟩
section
variable {X : Cx} {o e a b : Expr} {es : List Expr} {σ : L2.St} {H : Hp} {Q : VK} {QA : List V → Hp → Prop} {D : Ends} {pos apos cpos p : Pos}
theorem ra_star (h : RE X e σ H fun x H1 => ∃ p xs, x = .ref p ∧ (SqT X.K H1 p xs ∨ SqL X.K H1 p xs) ∧ RA X es σ H1 fun ys H2 => QA (xs ++ ys) H2) (hs : starEach (.Starred e p :: es) X.env = (true, eval e X.env) :: starEach es X.env := by rfl) : RA X (.Starred e p :: es) σ H QA :=
  ra_of (StX.pa_star pe_RE pa_RA hs) h
end
end Fx
namespace Fx
open PySem PySem.Spec PyProof.Rows L2
open Evl (Ex fresh_back)
theorem ix_lt {X : Cx} : IxR X (fun x y H Q => (∃ p xs i v, x = .ref p ∧ y = .int i ∧ (SqL X.K H p xs ∨ SqT X.K H p xs) ∧ atI xs i = some v ∧ Q v H)) := by
  intro value slice pins s σ H x y v u Q I rx ry h hs
  obtain ⟨p, xs, i, w, e1, e2, h, ha, q⟩ := h
  rcases h with h | h
  · exact ix_list value slice pins s σ H x y v u Q I rx ry ⟨p, xs, i, w, e1, e2, h, ha, q⟩ hs
  · exact ix_tup value slice pins s σ H x y v u Q I rx ry ⟨p, xs, i, w, e1, e2, h, ha, q⟩ hs
section
variable {X : Cx} {o e a b : Expr} {es : List Expr} {σ : L2.St} {H : Hp} {Q : VK} {QA : List V → Hp → Prop} {D' : Ends} {pos apos cpos p : Pos}
/-- an item of a list or a tuple of data -/
theorem re_ixD (h : RE X a σ H fun x H1 => RE X b σ H1 fun y H2 => ∃ d i dx, D X.K H2 x d ∧ (isL d || isT d) = true ∧ y = .int ((i : Nat) : Int) ∧ (itemsD d)[i]? = some dx ∧ ∀ u, D X.K H2 u dx → Q u H2) (hs : PlainIx b := by exact fun _ _ => rfl) : RE X (.Subscript a b pos) σ H Q :=
  re_of (pe_ix ix_lt pe_RE pe_RE hs) (h.mono fun x H1 q0 => q0.mono fun y H2 ⟨d, i, dx, hd, hl, ey, hi, q⟩ => by
    clear q0
    cases hd with
    | lst sq ha =>
      obtain ⟨u, hu, hud⟩ := ha.get hi
      exact ⟨_, _, _, u, rfl, ey, .inl sq, atI_nat hu, q u hud⟩
    | tup sq ha =>
      obtain ⟨u, hu, hud⟩ := ha.get hi
      exact ⟨_, _, _, u, rfl, ey, .inr sq, atI_nat hu, q u hud⟩
    | _ => exact absurd (show false = true from hl) Bool.false_ne_true)
/-- the last one -/
theorem re_pop (h : RE X o σ H fun x H1 => ∃ l xs y, x = .ref l ∧ H1 l = some (.lst (xs ++ [y])) ∧ Q y (upd H1 l (.lst xs))) (base : attributeBase o "pop" X.env (eval o X.env) = eval o X.env := by rfl) (line : (apos.endLine == cpos.line) = true := by rfl) : RE X (.Call (.Attribute o "pop" apos) [] [] cpos) σ H Q :=
  re_of (pe_bm0 PySem.F.plainAttrs_list PySem.F.slot_list_pop PySem.F.type_list_pop mt_pop pe_RE base line) (h.mono fun x H1 ⟨l, xs, y, ex, hl, q⟩ => by
    subst ex
    refine ⟨.inl ⟨rfl, _, SqL.of hl⟩, l, xs ++ [y], y, rfl, rfl, hl, ?_, ?_⟩
    · rw [List.length_append]; simp
    · rw [List.dropLast_concat]; exact q)
theorem re_append (h : RE X o σ H fun x H1 => ∃ l, x = .ref l ∧ (∃ zs, H1 l = some (.lst zs)) ∧ RE X e σ H1 fun y H2 => ∃ xs, H2 l = some (.lst xs) ∧ xs.length < sizeLine ∧ Q .non (upd H2 l (.lst (xs ++ [y])))) (base : attributeBase o "append" X.env (eval o X.env) = eval o X.env := by rfl) (line : (apos.endLine == cpos.line) = true := by rfl)
    (few : (((backTo cpos (starEach [e] X.env)).all (fun x => !x.1) && (backToKw cpos (keywordEach [] X.env)).all (fun x => x.1.isSome)) && decide (([e] : List Expr).length + ([] : List Keyword).length + (if ([] : List Keyword).isEmpty = true then 0 else 1) < 30)) = true := by rfl)
    (h1 : starEach [e] X.env = (false, eval e X.env) :: starEach [] X.env := by rfl) : RE X (.Call (.Attribute o "append" apos) [e] [] cpos) σ H Q :=
  re_of (pe_bm PySem.F.plainAttrs_list PySem.F.slot_list_append PySem.F.type_list_append mt_append pe_RE pa_RA base few line h1 rfl) (h.mono fun x H1 ⟨l, ex, ⟨zs, hz⟩, q⟩ => by
    subst ex
    exact ⟨.inl ⟨rfl, _, SqL.of hz⟩, ra_cons (hs := h1) (q.mono fun y H2 ⟨xs, hl, hx, q⟩ => ra_nil ⟨l, xs, y, rfl, rfl, hl, hx, q⟩)⟩)
theorem re_extendT (h : RE X o σ H fun x H1 => ∃ l, x = .ref l ∧ (∃ zs, H1 l = some (.lst zs)) ∧ RE X e σ H1 fun y H2 => ∃ xs b zs, y = .ref b ∧ H2 l = some (.lst xs) ∧ H2 b = some (.tup zs) ∧ xs.length + zs.length ≤ sizeLine ∧ Q .non (upd H2 l (.lst (xs ++ zs)))) (base : attributeBase o "extend" X.env (eval o X.env) = eval o X.env := by rfl) (line : (apos.endLine == cpos.line) = true := by rfl)
    (few : (((backTo cpos (starEach [e] X.env)).all (fun x => !x.1) && (backToKw cpos (keywordEach [] X.env)).all (fun x => x.1.isSome)) && decide (([e] : List Expr).length + ([] : List Keyword).length + (if ([] : List Keyword).isEmpty = true then 0 else 1) < 30)) = true := by rfl)
    (h1 : starEach [e] X.env = (false, eval e X.env) :: starEach [] X.env := by rfl) : RE X (.Call (.Attribute o "extend" apos) [e] [] cpos) σ H Q :=
  re_of (pe_bm PySem.F.plainAttrs_list PySem.F.slot_list_extend PySem.F.type_list_extend mt_extendT pe_RE pa_RA base few line h1 rfl) (h.mono fun x H1 ⟨l, ex, ⟨zs, hz⟩, q⟩ => by
    subst ex
    exact ⟨.inl ⟨rfl, _, SqL.of hz⟩, ra_cons (hs := h1) (q.mono fun y H2 ⟨xs, b, zs, ey, hl, hb, hx, q⟩ => ra_nil ⟨l, b, xs, zs, rfl, by rw [ey], hl, hb, hx, q⟩)⟩)
end
end Fx
end
section
set_option Elab.async false
set_option linter.all false
set_option maxRecDepth 100000
set_option maxHeartbeats 2000000
namespace Fx
open PySem PySem.Spec PyProof.Rows L2
open Evl (Ex fresh_back)
theorem inV_ints (x : Int) : ∀ ws : List Int, inV (.int x) (ws.map V.int) = decide (x ∈ ws)
  | [] => rfl
  | w :: ws => by
    have ih := inV_ints x ws
    show (eqV (.int w) (.int x) || inV (.int x) (ws.map V.int)) = _
    rw [ih]
    show (decide (w = x) || _) = _
    by_cases e : w = x
    · subst e
      rw [decide_eq_true rfl, Bool.true_or, decide_eq_true List.mem_cons_self]
    · rw [decide_eq_false e, Bool.false_or]
      exact decide_eq_decide.mpr ⟨fun z => List.mem_cons_of_mem _ z, fun z => by
        rcases List.mem_cons.mp z with z | z
        · exact absurd z.symm e
        · exact z⟩
theorem flat_ints : ∀ ws : List Int, (ws.map V.int).all flatV = true
  | [] => rfl
  | w :: ws => flat_ints ws
section
variable {X : Cx} {a b : Expr} {σ : L2.St} {H : Hp} {QB : Bool → Hp → Prop} {pos : Pos}
theorem rt_ninI {ws : List Int} (h : RE X a σ H fun x H1 => ∃ z : Int, x = .int z ∧ RE X b σ H1 fun y H2 => ∃ p, y = .ref p ∧ SqT X.K H2 p (ws.map V.int) ∧ QB (!decide (z ∈ ws)) H2) (hm : behindInMarks .NotIn b = false := by rfl) : RT X (.Compare a [.NotIn] [b] pos) σ H QB :=
  rt_cmp op_notIn_seq (h.mono fun x H1 ⟨z, ex, q⟩ => q.mono fun y H2 ⟨p, ey, sq, q⟩ => ⟨p, _, ey, .inr sq, by rw [ex]; rfl, flat_ints ws, _, by rw [ex]; show V.bl (!inV _ _) = _; rw [inV_ints], q⟩) hm
end
end Fx
namespace Fl
open PySem PySem.Spec PyProof.Rows L2 Fx
open Evl (Ex fresh_back)
/-! ### where lines lead -/
def markN (ds : List PyData) : Nat → Str → Option Nat
  | 0, _ => none
  | i + 1, s => match ds[i]? with
    | some d => if wordD d = "mark" ∧ labD d = s then some i else markN ds i s
    | none => markN ds i s
theorem val_marks (ds : List PyData) (s : Str) : ∀ i, valV (marksTo ds i) (.inr s) = (markN ds i s).map fun n => V.int (n : Nat)
  | 0 => rfl
  | i + 1 => by
    have ih := val_marks ds s i
    show valV (match ds[i]? with | some d => _ | none => _) _ = (match ds[i]? with | some d => _ | none => _ : Option Nat).map _
    cases hd : ds[i]? with
    | none => exact ih
    | some d =>
      show valV (if wordD d = "mark" then _ else _) _ = Option.map _ (if _ then _ else _)
      by_cases hw : wordD d = "mark"
      · rw [if_pos hw, val_put]
        by_cases hs : labD d = s
        · rw [if_pos (by rw [hs]), if_pos ⟨hw, hs⟩]; rfl
        · rw [if_neg (fun z => hs (Sum.inr.inj z).symm), if_neg (fun z => hs z.2)]; exact ih
      · rw [if_neg hw, if_neg (fun z => hw z.1)]; exact ih
theorem markN_lt (ds : List PyData) (s : Str) : ∀ {i k}, markN ds i s = some k → k < i
  | 0, _, h => nomatch h
  | i + 1, k, h => by
    have h : (match ds[i]? with | some d => if wordD d = "mark" ∧ labD d = s then some i else markN ds i s | none => markN ds i s) = some k := h
    cases hd : ds[i]? with
    | none => rw [hd] at h; exact Nat.lt_succ_of_lt (markN_lt ds s h)
    | some d =>
      rw [hd] at h
      have h : (if wordD d = "mark" ∧ labD d = s then some i else markN ds i s) = some k := h
      by_cases c : wordD d = "mark" ∧ labD d = s
      · rw [if_pos c] at h; cases h; exact Nat.lt_succ_self _
      · rw [if_neg c] at h; exact Nat.lt_succ_of_lt (markN_lt ds s h)
def goalN (ds : List PyData) (d : PyData) : Nat := (markN ds ds.length (labD d)).getD 0
def behN (ds : List PyData) (i : Nat) : List Nat := if i + 1 < ds.length then [i + 1] else []
def leadsN (ds : List PyData) (i : Nat) : List Nat :=
  match ds[i]? with
  | none => []
  | some d =>
    if wordD d ∈ (["back", "tail", "stop"] : List Str) then []
    else if wordD d = "jump" then [goalN ds d]
    else if wordD d ∈ (["if", "unless"] : List Str) ∧ goalN ds d ∉ behN ds i then (if goalN ds d ≤ i then goalN ds d :: behN ds i else behN ds i ++ [goalN ds d])
    else behN ds i
/-- lines that are valid, and whose labels are there -/
structure Good (d : PyData) : Prop where
  isl : (isL d || isT d) = true
  pos : 0 < (itemsD d).length
  len : (itemsD d).length ≤ 60
  ok : ∀ x ∈ itemsD d, isLineD x = true
  lab : ∀ x ∈ itemsD d, hasK (marksV (itemsD d)) (nlD x) = true
theorem Good.lines {d : PyData} (g : Good d) : Lines d := ⟨g.isl, Nat.le_trans g.len (by decide), g.ok⟩
theorem word_part {d : PyData} (h : isLineD d = true) {w : Str} (hw : wordD d = w) (hf : forms.lookup w = some (["word"] : List Str)) : partD 1 d = .str (labD d) := by
  obtain ⟨w', xs, kinds, v⟩ := valid_of h
  have hw' : w' = w := by rw [← hw, v.eq]; rfl
  have hk : kinds = (["word"] : List Str) := Option.some.inj (v.form.symm.trans (by rw [hw']; exact hf))
  obtain ⟨x, hx, hf⟩ := v.at (i := 0) (k := "word") (by rw [hk]; rfl)
  obtain ⟨s, rfl, _⟩ := fits_word hf
  have e : partD 1 d = .str s := by
    rw [v.eq]
    show (PyData.str w' :: xs).getD 1 .none = _
    rw [List.getD_cons_succ, List.getD_eq_getElem?_getD, hx]; rfl
  unfold labD
  rw [e]
theorem Good.goal {d x : PyData} (g : Good d) (hx : x ∈ itemsD d) (hw : wordD x = "jump" ∨ wordD x = "if" ∨ wordD x = "unless") : valV (marksV (itemsD d)) (.inr (labD x)) = some (.int (goalN (itemsD d) x : Nat)) ∧ goalN (itemsD d) x < (itemsD d).length := by
  have hp : partD 1 x = .str (labD x) := by
    rcases hw with hw | hw | hw
    · exact word_part (g.ok x hx) hw form_jump
    · exact word_part (g.ok x hx) hw form_if
    · exact word_part (g.ok x hx) hw form_unless
  have h := g.lab x hx
  have e : nlD x = .str (labD x) := by unfold nlD; rw [if_pos hw, hp]
  rw [e] at h
  have h : (valV (marksV (itemsD d)) (.inr (labD x))).isSome = true := h
  unfold marksV at h ⊢
  rw [val_marks] at h ⊢
  unfold goalN
  cases hm : markN (itemsD d) (itemsD d).length (labD x) with
  | none => rw [hm] at h; exact absurd h (by decide)
  | some k => exact ⟨rfl, markN_lt _ _ hm⟩
theorem sort_one {ns : List Int} {a : Int} (h : ns.Perm [a]) : ns = [a] := List.perm_singleton.mp h
theorem sort_two {ns : List Int} {a b : Int} (h : ns.Perm [a, b]) (hs : ns.Pairwise (· ≤ ·)) (hab : a ≤ b) : ns = [a, b] := by
  have hl := h.length_eq
  match ns, hl with
  | [x, y], _ =>
    have hxy : x ≤ y := by
      have := List.pairwise_cons.mp hs
      exact this.1 y (List.mem_singleton.mpr rfl)
    have hx : x ∈ [a, b] := h.mem_iff.mp (List.mem_cons_self)
    rcases List.mem_cons.mp hx with rfl | hx
    · have := List.perm_singleton.mp ((List.perm_cons x).mp h)
      rw [this]
    · obtain rfl := List.mem_singleton.mp hx
      have h2 : [x, y].Perm [x, a] := h.trans (List.Perm.swap ..)
      have := List.perm_singleton.mp ((List.perm_cons x).mp h2)
      obtain rfl : y = a := List.cons.inj this |>.1
      have : x = y := Int.le_antisymm hxy hab
      rw [this]
abbrev intsV (ns : List Nat) : List V := ns.map fun n => V.int (n : Nat)
theorem intsV_map (ns : List Nat) : intsV ns = (ns.map fun n : Nat => (n : Int)).map V.int := by rw [List.map_map]; rfl
theorem sort_beh {ds : List PyData} {i g : Nat} {ns : List Int} (h : ns.Perm ((behN ds i ++ [g]).map fun n : Nat => (n : Int))) (hs : ns.Pairwise (· ≤ ·)) (hg : g ∉ behN ds i) : ns = (if g ≤ i then g :: behN ds i else behN ds i ++ [g]).map fun n : Nat => (n : Int) := by
  unfold behN at *
  by_cases hb : i + 1 < ds.length
  · rw [if_pos hb] at *
    by_cases hi : g ≤ i
    · rw [if_pos hi]
      exact sort_two (h.trans (List.Perm.swap ..)) hs (show ((g : Nat) : Int) ≤ ((i + 1 : Nat) : Int) by omega)
    · rw [if_neg hi]
      have : g ≠ i + 1 := fun z => hg (List.mem_singleton.mpr z)
      exact sort_two h hs (show ((i + 1 : Nat) : Int) ≤ ((g : Nat) : Int) by omega)
  · rw [if_neg hb] at *
    by_cases hi : g ≤ i
    · rw [if_pos hi]; exact sort_one h
    · rw [if_neg hi]; exact sort_one h
/-- line[1] of a line that names a label -/
theorem re_lab {X : Cx} {a : Expr} {σ : L2.St} {H : Hp} {Q : VK} {pos p : Pos} {j} (h : RE X a σ H fun x H1 => ∃ d, D X.K H1 x d ∧ isLineD d = true ∧ (wordD d = "jump" ∨ wordD d = "if" ∨ wordD d = "unless") ∧ Q (.str (labD d)) H1) : RE X (.Subscript a (.Constant (.int 1) j p) pos) σ H Q :=
  re_part1 (h.mono fun x H1 ⟨d, hd, hl, hw, q⟩ => by
    have fin : partD 1 d = .str (labD d) → ∀ u, D X.K H1 u (partD 1 d) → Q u H1 := fun e u hu => by
      rw [e] at hu
      cases hu
      exact q
    rcases hw with hw | hw | hw
    · exact ⟨d, _, _, _, hd, hl, hw, form_jump, rfl, fun u hu _ => fin (word_part hl hw form_jump) u hu⟩
    · exact ⟨d, _, _, _, hd, hl, hw, form_if, rfl, fun u hu _ => fin (word_part hl hw form_if) u hu⟩
    · exact ⟨d, _, _, _, hd, hl, hw, form_unless, rfl, fun u hu _ => fin (word_part hl hw form_unless) u hu⟩)
section
variable {P : Program} {w : World} {K : PySem.W.Frag} {mg : Str → Option Value} {base : Heap} {f : Addr} {fd : FuncData}
theorem sc_leads : FnScope ["lines", "at", "marks", "line", "behind"] ["lines", "at", "marks"] (defScope s_leads) := ⟨rfl, rfl, rfl, by decide +kernel, rfl, by decide +kernel, by decide +kernel⟩
def sp_leads (K : PySem.W.Frag) : Sp := fun vs H Q _ => ∃ v d i m, vs = [v, .int ((i : Nat) : Int), .ref m] ∧ D K H v d ∧ Good d ∧ i < (itemsD d).length ∧ H m = some (.dK (marksV (itemsD d))) ∧ ∀ p H', Ex H H' → H' p = some (.tup (intsV (leadsN (itemsD d) i))) → H p = none → Q (.ref p) H'
theorem ok_leads (F : Fun K "_leads" "_leads" s_leads f fd) (G : Gb mg) : FnOk P w K mg base CX0 1 f fd ["lines", "at", "marks"] (sp_leads K) := by
  refine F.ok sc_leads (fun vs H Q E h => ?_) (fun cdv A outer s H vs Q E hr h => ⟨RB _ _, pss_RB, ?_⟩)
  · obtain ⟨_, _, _, _, rfl, _⟩ := h; rfl
  obtain ⟨v, d, i, m, rfl, hd, g, hi, hm, q⟩ := h
  obtain ⟨x, hx⟩ : ∃ x, (itemsD d)[i]? = some x := ⟨_, List.getElem?_eq_getElem hi⟩
  have hmem := List.mem_of_getElem? hx
  have hlx := g.ok x hmem
  have hgo := g.goal hmem
  have el : leadsN (itemsD d) i = (if wordD x ∈ (["back", "tail", "stop"] : List Str) then [] else if wordD x = "jump" then [goalN (itemsD d) x]
    else if wordD x ∈ (["if", "unless"] : List Str) ∧ goalN (itemsD d) x ∉ behN (itemsD d) i then (if goalN (itemsD d) x ≤ i then goalN (itemsD d) x :: behN (itemsD d) i else behN (itemsD d) i ++ [goalN (itemsD d) x])
    else behN (itemsD d) i) := by unfold leadsN; rw [hx]
  have hlen := hd.lenV g.isl
  have edl : dlen d = (itemsD d).length := by
    cases d with
    | list _ => rfl
    | tuple _ => rfl
    | _ => exact absurd (show false = true from g.isl) Bool.false_ne_true
  generalize eds : itemsD d = ds at *
  refine rb_cons (rs_set 3 sc_leads.nd (re_ixD (re_var 0 rfl (re_var 1 rfl ⟨d, i, x, hd, g.isl, rfl, by rw [eds]; exact hx, fun u hu => ?_⟩))))
  refine rb_cons (rs_if (rt_in (ws := ["back", "tail", "stop"]) (re_word (re_var 3 rfl ⟨x, hu, hlx, _, rfl, re_tup (ra_cons (re_str (ra_cons (re_str (ra_cons (re_str (ra_nil ⟨(show 3 ≤ 100000 by decide), fun p H2 hp e2 h2 => ⟨p, rfl, .inl (.inl h2), ifB (fun e => ?_) fun e => ?_⟩⟩)))))))⟩))))
  · refine rb_one (rs_ret (re_tup (ra_nil ⟨Nat.zero_le _, fun p3 H3 hp3 e3 h3 => q p3 H3 (e2.trans e3) ?_ (fresh_back e2 hp3)⟩)))
    rw [el, if_pos (of_decide_eq_true e)]; exact h3
  rw [if_neg (of_decide_eq_false e)] at el
  have hu2 := hu.mono e2
  refine rb_nil (rb_cons (rs_if (rt_cmp op_eq (re_word (re_var 3 rfl ⟨x, hu2, hlx, re_str ⟨rfl, _, rfl, ?_⟩⟩)))))
  rw [eqK]
  by_cases hj : wordD x = "jump"
  · rw [decide_eq_true hj]
    refine ifT (rb_one (rs_ret (re_tup (ra_cons (re_dget (hu_of hr) (re_var 2 rfl (re_lab (re_var 3 rfl ⟨x, hu2, hlx, .inl hj, m, _, .inr (labD x), _, rfl, e2 _ _ hm, rfl, (hgo (.inl hj)).1, ra_nil ⟨(show 1 ≤ 100000 by decide), fun p3 H3 hp3 e3 h3 => q p3 H3 (e2.trans e3) ?_ (fresh_back e2 hp3)⟩⟩))))))))
    rw [el, if_pos hj]; exact h3
  rw [decide_eq_false hj]
  rw [if_neg hj] at el
  refine ifF (rb_nil (rb_cons (rs_set 4 sc_leads.nd (RE.mono (Q := fun r H3 => ∃ p3, r = .ref p3 ∧ Ex H2 H3 ∧ H2 p3 = none ∧ H3 p3 = some (.tup (intsV (behN ds i)))) ?_ ?_))))
  · refine re_if (rt_cmp op_lt (re_op op_add (re_var 1 rfl (re_int ⟨_, _, rfl, rfl, re_cb call_len G.len (ra_cons (re_var 0 rfl (ra_nil ⟨_, dlen d, rfl, (hd.mono e2).lenV g.isl, _, _, rfl, rfl, _, rfl, ifB (fun eb => ?_) fun eb => ?_⟩)))⟩))))
    · have hb : i + 1 < ds.length := by have := of_decide_eq_true eb; omega
      refine re_tup (ra_cons (re_op op_add (re_var 1 rfl (re_int ⟨_, _, rfl, rfl, ra_nil ⟨(show 1 ≤ 100000 by decide), fun p3 H3 hp3 e3 h3 => ⟨p3, rfl, e3, hp3, ?_⟩⟩⟩))))
      unfold behN
      rw [if_pos hb]; exact h3
    · have hb : ¬ i + 1 < ds.length := by have := of_decide_eq_false eb; omega
      refine re_tup (ra_nil ⟨Nat.zero_le _, fun p3 H3 hp3 e3 h3 => ⟨p3, rfl, e3, hp3, ?_⟩⟩)
      unfold behN
      rw [if_neg hb]; exact h3
  rintro r H3 ⟨p3, rfl, e3, hp3, h3⟩
  have e23 := e2.trans e3
  refine rb_cons (rs_if (rt_w (rw_and (rt_in (ws := ["if", "unless"]) (re_word (re_var 3 rfl ⟨x, hu.mono e23, hlx, _, rfl, re_tup (ra_cons (re_str (ra_cons (re_str (ra_nil ⟨(show 2 ≤ 100000 by decide), fun p4 H4 hp4 e4 h4 => ⟨p4, rfl, .inl (.inl h4), ifB (fun e5 => ?_) fun e5 => ?_⟩⟩)))))⟩))))))
  · have e24 := e23.trans e4
    have hif : wordD x = "if" ∨ wordD x = "unless" := by
      rcases List.mem_cons.mp (of_decide_eq_true e5) with z | z
      · exact .inl z
      · exact .inr (List.mem_singleton.mp z)
    refine rw_and1 (rt_ninI (ws := (behN ds i).map fun n : Nat => (n : Int)) (re_dget (hu_of hr) (re_var 2 rfl (re_lab (re_var 3 rfl ⟨x, hu.mono e24, hlx, .inr hif, m, _, .inr (labD x), _, rfl, e24 _ _ hm, rfl, (hgo (.inr hif)).1, _, rfl, re_var 4 rfl ⟨p3, rfl, .inl (.inl (by rw [← intsV_map]; exact e4 _ _ h3)), ifB (fun e6 => ?_) fun e6 => ?_⟩⟩)))))
    · have hno : goalN ds x ∉ behN ds i := fun z => by
        have : ((goalN ds x : Nat) : Int) ∈ (behN ds i).map fun n : Nat => (n : Int) := List.mem_map.mpr ⟨_, z, rfl⟩
        rw [decide_eq_true this] at e6
        exact Bool.noConfusion e6
      rw [if_pos ⟨of_decide_eq_true e5, hno⟩] at el
      refine rb_one (rs_ret (re_ct call_tuple_of G.tuple (ra_cons (re_cb cr_sorted G.sorted (ra_cons (re_lst (ra_star (re_var 4 rfl ⟨p3, intsV (behN ds i), rfl, .inl (.inl (.inl (e4 _ _ h3))), ra_cons (re_dget (hu_of hr) (re_var 2 rfl (re_lab (re_var 3 rfl ⟨x, hu.mono e24, hlx, .inr hif, m, _, .inr (labD x), _, rfl, e24 _ _ hm, rfl, (hgo (.inr hif)).1, ra_nil ⟨?_, fun p6 H6 hp6 e6 h6 => ra_nil ⟨p6, (behN ds i ++ [goalN ds x]).map fun n : Nat => (n : Int), rfl, .inl (.inl ?_), ?_, fun ns' p7 hperm hsort hp7 => ra_nil ⟨p7, _, rfl, .inl ⟨.inl (.inl upd_same), fun l hl => q l _ ?_ ?_ ?_⟩⟩⟩⟩⟩))))⟩))))))))
      · unfold behN
        split
        · exact (by decide : 2 ≤ 100000)
        · exact (by decide : 1 ≤ 100000)
      · rw [h6, ← intsV_map]
        show some (HO.lst (intsV (behN ds i) ++ [V.int _])) = some (HO.lst (List.map _ (_ ++ _)))
        rw [List.map_append]; rfl
      · unfold behN
        split
        · exact (by decide : 2 < 64)
        · exact (by decide : 1 < 64)
      · exact ((e24.trans e6).trans (Ex.new hp7)).trans (Ex.new hl)
      · rw [upd_same, sort_beh hperm hsort hno, ← intsV_map, el]
      · exact fresh_back ((e24.trans e6).trans (Ex.new hp7)) hl
    · have hno : ¬ goalN ds x ∉ behN ds i := fun z => by
        have : ¬ ((goalN ds x : Nat) : Int) ∈ (behN ds i).map fun n : Nat => (n : Int) := fun y => by
          obtain ⟨n, hn, en⟩ := List.mem_map.mp y
          have : n = goalN ds x := Int.ofNat.inj en
          exact z (this ▸ hn)
        rw [decide_eq_false this] at e6
        exact Bool.noConfusion e6
      rw [if_neg (fun z => hno z.2)] at el
      refine rb_nil (rb_one (rs_ret (re_var 4 rfl (q p3 _ e24 ?_ (fresh_back e2 hp3)))))
      rw [el]; exact e4 _ _ h3
  · rw [if_neg (fun z => of_decide_eq_false e5 z.1)] at el
    refine ifF (rb_nil (rb_one (rs_ret (re_var 4 rfl (q p3 _ (e23.trans e4) ?_ (fresh_back e2 hp3))))))
    rw [el]; exact e4 _ _ h3
end
end Fl
end
section
set_option Elab.async false
set_option linter.all false
set_option maxRecDepth 100000
set_option maxHeartbeats 2000000
namespace Fx
open PySem PySem.Spec PyProof.Rows L2
open Evl (Ex fresh_back)
theorem put_new {κ : Type} [DecidableEq κ] {kvs : List (κ × V)} {k : κ} {v : V} (h : k ∉ kvs.map (·.1)) : putK kvs k v = kvs ++ [(k, v)] := by
  unfold putK
  rw [if_neg]
  intro z
  obtain ⟨x, hx, e⟩ := List.any_eq_true.mp z
  exact h (List.mem_map.mpr ⟨x, hx, of_decide_eq_true e⟩)
theorem val_some {κ : Type} [DecidableEq κ] (kvs : List (κ × V)) (k : κ) : (valV kvs k).isSome = decide (k ∈ kvs.map (·.1)) := by
  unfold valV
  induction kvs with
  | nil => rfl
  | cons x r ih =>
    rw [List.find?_cons, List.map_cons]
    by_cases e : x.1 = k
    · rw [decide_eq_true e, decide_eq_true (by rw [e]; exact List.mem_cons_self)]; rfl
    · rw [decide_eq_false e]
      refine Eq.trans ih (decide_eq_decide.mpr ⟨fun z => List.mem_cons_of_mem _ z, fun z => ?_⟩)
      rcases List.mem_cons.mp z with z | z
      · exact absurd z.symm e
      · exact z
theorem val_iff {κ : Type} [DecidableEq κ] (kvs : List (κ × V)) (k : κ) : (valV kvs k).isSome = true ↔ k ∈ kvs.map (·.1) := by
  rw [val_some]
  exact decide_eq_true_iff
theorem nodup_bound : ∀ (n : Nat) (F : List Nat), F.Nodup → (∀ x ∈ F, x < n) → F.length ≤ n
  | 0, F, _, h => by
    cases F with
    | nil => exact Nat.le_refl _
    | cons x r => exact absurd (h x List.mem_cons_self) (Nat.not_lt_zero _)
  | n + 1, F, hn, h => by
    by_cases e : n ∈ F
    · have h1 := nodup_bound n (F.erase n) (hn.erase n) fun x hx => by
        have := (hn.mem_erase_iff).mp hx
        have := h x this.2
        omega
      rw [List.length_erase_of_mem e] at h1
      omega
    · have := nodup_bound n F hn fun x hx => by
        have h2 := h x hx
        have : x ≠ n := fun z => e (z ▸ hx)
        omega
      omega
section
variable {X : Cx} {e : Expr} {σ : L2.St} {H : Hp} {QB : Bool → Hp → Prop}
/-- a list as a test -/
theorem rt_lst (h : RE X e σ H fun x H1 => ∃ a xs, x = .ref a ∧ SqL X.K H1 a xs ∧ QB (!xs.isEmpty) H1) (he : ∀ whole, isTrue e X.env whole = (do let v ← whole; standAt e.pos; holding [v] (truthy v)) := by intro _; rfl) : RT X e σ H QB :=
  rt_of (pt_truth pe_RE he) (h.mono fun x H1 ⟨a, xs, ex, hx, q⟩ => ⟨_, by rw [ex]; exact .inl ⟨xs, hx, rfl⟩, q⟩)
end
end Fx
namespace Fl
open PySem PySem.Spec PyProof.Rows L2 Fx
open Evl (Ex fresh_back)
inductive Reach (ds : List PyData) : Nat → Prop
  | zero : Reach ds 0
  | step {i j : Nat} : Reach ds i → j ∈ leadsN ds i → Reach ds j
structure Ways (ds : List PyData) (H : Hp) (p : Addr) (R : List Nat) (vf : Nat → Addr) : Prop where
  at_ : H p = some (.dK (R.map fun n : Nat => ((Sum.inl (n : Int) : Key), V.ref (vf n))))
  asc : R.Pairwise (· < ·)
  mem : ∀ n, n ∈ R ↔ Reach ds n
  low : ∀ n ∈ R, n < ds.length
  val : ∀ n ∈ R, H (vf n) = some (.tup (intsV (leadsN ds n)))
theorem Ways.mono {ds : List PyData} {H H' : Hp} {p : Addr} {R : List Nat} {vf : Nat → Addr} (w : Ways ds H p R vf) (e : Ex H H') : Ways ds H' p R vf := ⟨e _ _ w.at_, w.asc, w.mem, w.low, fun n hn => e _ _ (w.val n hn)⟩
theorem leads_len (ds : List PyData) (i : Nat) : (leadsN ds i).length ≤ 2 := by
  have hb : (behN ds i).length ≤ 1 := by unfold behN; split <;> simp
  unfold leadsN
  split
  · simp
  · split
    · simp
    · split
      · simp
      · split
        · split
          · rw [List.length_cons]; omega
          · rw [List.length_append, List.length_singleton]; omega
        · omega
theorem leads_lt {d : PyData} (g : Good d) {i j : Nat} (h : j ∈ leadsN (itemsD d) i) : j < (itemsD d).length := by
  unfold leadsN at h
  cases hx : (itemsD d)[i]? with
  | none => rw [hx] at h; exact absurd h List.not_mem_nil
  | some x =>
    rw [hx] at h
    have h : j ∈ (if wordD x ∈ (["back", "tail", "stop"] : List Str) then [] else if wordD x = "jump" then [goalN (itemsD d) x]
      else if wordD x ∈ (["if", "unless"] : List Str) ∧ goalN (itemsD d) x ∉ behN (itemsD d) i then (if goalN (itemsD d) x ≤ i then goalN (itemsD d) x :: behN (itemsD d) i else behN (itemsD d) i ++ [goalN (itemsD d) x])
      else behN (itemsD d) i) := h
    have hmem := List.mem_of_getElem? hx
    have beh : ∀ {j}, j ∈ behN (itemsD d) i → j < (itemsD d).length := fun {j} hj => by
      unfold behN at hj
      split at hj
      · rw [List.mem_singleton.mp hj]; assumption
      · exact absurd hj List.not_mem_nil
    split at h
    · exact absurd h List.not_mem_nil
    · split at h
      · rename_i hw
        rw [List.mem_singleton.mp h]
        exact (g.goal hmem (.inl hw)).2
      · split at h
        · rename_i hw
          have hgo : goalN (itemsD d) x < (itemsD d).length := by
            rcases List.mem_cons.mp hw.1 with z | z
            · exact (g.goal hmem (.inr (.inl z))).2
            · exact (g.goal hmem (.inr (.inr (List.mem_singleton.mp z)))).2
          split at h
          · rcases List.mem_cons.mp h with z | z
            · rw [z]; exact hgo
            · exact beh z
          · rcases List.mem_append.mp h with z | z
            · exact beh z
            · rw [List.mem_singleton.mp z]; exact hgo
        · exact beh h
section
variable {P : Program} {w : World} {K : PySem.W.Frag} {mg : Str → Option Value} {base : Heap} {f : Addr} {fd : FuncData}
theorem sc_reached_ways : FnScope ["lines", "marks", "found", "todo", "at"] ["lines"] (defScope s_reached_ways) := ⟨rfl, rfl, rfl, by decide +kernel, rfl, by decide +kernel, by decide +kernel⟩
theorem nat_list : ∀ {ys : List Int}, (∀ y ∈ ys, ∃ n : Nat, y = (n : Int)) → ∃ R : List Nat, ys = R.map fun n : Nat => (n : Int)
  | [], _ => ⟨[], rfl⟩
  | y :: ys, h => by
    obtain ⟨n, rfl⟩ := h y List.mem_cons_self
    obtain ⟨R, rfl⟩ := nat_list (ys := ys) fun y hy => h y (List.mem_cons_of_mem _ hy)
    exact ⟨n :: R, rfl⟩
theorem asc_of : ∀ {R : List Nat}, R.Pairwise (fun a b : Nat => (a : Int) ≤ (b : Int)) → R.Nodup → R.Pairwise (· < ·)
  | [], _, _ => .nil
  | a :: r, h1, h2 => by
    have h1 := List.pairwise_cons.mp h1
    have h2 := List.nodup_cons.mp h2
    refine List.pairwise_cons.mpr ⟨fun b hb => ?_, asc_of h1.2 h2.2⟩
    have := h1.1 b hb
    have : a ≠ b := fun z => h2.1 (z ▸ hb)
    omega
theorem asc_take {R : List Nat} (h : R.Pairwise (· < ·)) {i n : Nat} (hi : R[i]? = some n) : ∀ k ∈ R.take i, k < n := fun k hk => by
  rw [← List.take_append_drop i R] at h
  have := (List.pairwise_append.mp h).2.2 k hk n
  rw [drop_at hi] at this
  exact this List.mem_cons_self
theorem nodup_cast {F : List Nat} (h : F.Nodup) : (F.map fun n : Nat => (n : Int)).Nodup := List.pairwise_map.mpr (h.imp fun {a b} z e => z (Int.ofNat.inj e))
theorem sorted_nats {F : List Nat} {ys : List Int} (hp : ys.Perm (F.map fun n : Nat => (n : Int))) (hs : ys.Pairwise (· ≤ ·)) (hn : F.Nodup) : ∃ R : List Nat, ys = (R.map fun n : Nat => (n : Int)) ∧ R.Pairwise (· < ·) ∧ R.length = F.length ∧ ∀ n, n ∈ R ↔ n ∈ F := by
  obtain ⟨R, rfl⟩ := nat_list (ys := ys) fun y hy => by
    obtain ⟨n, _, e⟩ := List.mem_map.mp (hp.mem_iff.mp hy)
    exact ⟨n, e.symm⟩
  have cast : ∀ {L : List Nat} {n : Nat}, (n : Int) ∈ (L.map fun n : Nat => (n : Int)) ↔ n ∈ L := fun {L n} => ⟨fun z => by
    obtain ⟨k, hk, e⟩ := List.mem_map.mp z
    exact Int.ofNat.inj e ▸ hk, fun z => List.mem_map.mpr ⟨n, z, rfl⟩⟩
  have hnR : R.Nodup := (List.pairwise_map.mp (hp.nodup_iff.mpr (nodup_cast hn))).imp fun {a b} z e => z (by rw [e])
  refine ⟨R, rfl, asc_of (List.pairwise_map.mp hs) hnR, ?_, fun n => ?_⟩
  · have := hp.length_eq
    rw [List.length_map, List.length_map] at this
    exact this
  · rw [← cast (L := R), ← cast (L := F)]
    exact hp.mem_iff
def refOf (kvs : List (Key × V)) (n : Nat) : Addr := match valV kvs (.inl (n : Int)) with | some (.ref q) => q | _ => 0
/-- what is known at each turn -/
structure RwI (ds : List PyData) (H H3 H' : Hp) (fa ta : Addr) (kvs : List (Key × V)) (F T : List Nat) (m : Nat) : Prop where
  ex : Ex H H'
  ex3 : ∀ a o, a ≠ fa → a ≠ ta → H3 a = some o → H' a = some o
  fat : H' fa = some (.dK kvs)
  tat : H' ta = some (.lst (intsV T))
  keys : kvs.map (·.1) = F.map fun n : Nat => (Sum.inl (n : Int) : Key)
  nd : F.Nodup
  inF : ∀ n ∈ F, n < ds.length ∧ Reach ds n
  inT : ∀ n ∈ T, n < ds.length ∧ Reach ds n
  zero : 0 ∈ F ∨ 0 ∈ T
  closed : ∀ n ∈ F, ∀ j ∈ leadsN ds n, j ∈ F ∨ j ∈ T
  vals : ∀ n ∈ F, ∃ q, valV kvs (.inl (n : Int)) = some (.ref q) ∧ H' q = some (.tup (intsV (leadsN ds n)))
  low : m ≤ 181
  meas : m = 3 * (ds.length - F.length) + T.length
abbrev sp_reached_ways (K : PySem.W.Frag) : Sp := sp1 K Good fun d r H' => ∃ p R vf, r = .ref p ∧ Ways (itemsD d) H' p R vf
theorem ok_reached_ways (F : Fun K "reached_ways" "reached_ways" s_reached_ways f fd) (G : Gb mg) (c1 : Cl P w K mg base CX0 1 "marks_of" (sp_marks_of K)) (c2 : Cl P w K mg base CX0 1 "_leads" (sp_leads K)) : FnOk P w K mg base CX0 2 f fd ["lines"] (sp_reached_ways K) := by
  refine F.ok sc_reached_ways (fun vs H Q E h => sp1_len h rfl) (fun cdv A outer s H vs Q E hr h => ⟨RB _ _, pss_RB, ?_⟩)
  obtain ⟨v, d, rfl, hd, g, q⟩ := h
  have lt := fun {i j : Nat} (h : j ∈ leadsN (itemsD d) i) => leads_lt g h
  have h0 := g.pos
  have h60 := g.len
  refine rb_cons (rs_set 1 sc_reached_ways.nd (re_call c1 hr (ra_cons (re_var 0 rfl (ra_nil ⟨v, d, rfl, hd, g.lines, fun r H1 e1 h1 => ?_⟩)))))
  obtain ⟨mp, rfl, hmp⟩ := h1
  have hmp : H1 mp = some (.dK (marksV (itemsD d))) := hmp
  generalize eds : itemsD d = ds at *
  refine rb_cons (rs_set 2 sc_reached_ways.nd (re_dnew fun fa H2 hfa e2 h2 => ?_))
  refine rb_cons (rs_set 3 sc_reached_ways.nd (re_lst (ra_cons (re_int (ra_nil ⟨(show 1 ≤ 100000 by decide), fun ta H3 hta e3 h3 => ?_⟩)))))
  have nfa : H fa = none := fresh_back e1 hfa
  have nta : H ta = none := fresh_back (e1.trans e2) hta
  have nft : fa ≠ ta := fun z => by rw [← z, h2] at hta; exact (Option.some_ne_none _ hta).elim
  have nmf : mp ≠ fa := fun z => by rw [z, hfa] at hmp; exact (Option.some_ne_none _ hmp.symm).elim
  have nmt : mp ≠ ta := fun z => by rw [← z, e2 _ _ hmp] at hta; exact (Option.some_ne_none _ hta).elim
  have hm3 := (e2.trans e3) _ _ hmp
  have e13 := (e1.trans e2).trans e3
  refine rb_cons ?_
  refine rs_while (m0 := 3 * (ds.length - 0) + 1) PassesOwn.never (fun m σ' H' => ∃ A' kvs F T, σ' = [some v, some (.ref mp), some (.ref fa), some (.ref ta), A'] ∧ RwI ds H H3 H' fa ta kvs F T m) ?_ ?_
  · refine ⟨none, [], [], [0], rfl, e13, fun a o _ _ h => h, e3 _ _ h2, h3, rfl, List.nodup_nil, fun n hn => absurd hn List.not_mem_nil, fun n hn => ?_, .inr List.mem_cons_self, fun n hn => absurd hn List.not_mem_nil, fun n hn => absurd hn List.not_mem_nil, by omega, rfl⟩
    obtain rfl := List.mem_singleton.mp hn
    exact ⟨h0, .zero⟩
  · rintro m σ' H' ⟨A', kvs, F, T, rfl, I⟩
    refine rt_lst (re_var 3 rfl ⟨ta, _, rfl, SqL.of I.tat, ifB (fun e => ?_) fun e => ?_⟩)
    · refine ⟨fun σ'' H'' => ∃ m', m' < m ∧ ∃ A' kvs F T, σ'' = [some v, some (.ref mp), some (.ref fa), some (.ref ta), A'] ∧ RwI ds H H3 H'' fa ta kvs F T m', fun _ _ h => h, ?_⟩
      obtain ⟨T', y, rfl⟩ : ∃ T' y, T = T' ++ [y] := by
        rcases List.eq_nil_or_concat T with z | ⟨T', y, z⟩
        · rw [z] at e; exact absurd e (by decide)
        · exact ⟨T', y, by rw [z, List.concat_eq_append]⟩
      obtain ⟨hylt, hyr⟩ := I.inT y (List.mem_append_right _ (List.mem_singleton.mpr rfl))
      refine rb_cons (rs_set 4 sc_reached_ways.nd (re_pop (re_var 3 rfl ⟨ta, intsV T', .int (y : Nat), rfl, by rw [I.tat]; unfold intsV; rw [List.map_append]; rfl, ?_⟩)))
      have ex1 : Ex H (upd H' ta (.lst (intsV T'))) := ex_mut I.ex nta
      have hF1 : upd H' ta (.lst (intsV T')) fa = some (.dK kvs) := by rw [upd_ne nft]; exact I.fat
      have ex31 : ∀ a o, a ≠ fa → a ≠ ta → H3 a = some o → upd H' ta (.lst (intsV T')) a = some o := fun a o h1 h2 h => by rw [upd_ne h2]; exact I.ex3 a o h1 h2 h
      have hv1 : ∀ n ∈ F, ∃ q, valV kvs (.inl (n : Int)) = some (.ref q) ∧ upd H' ta (.lst (intsV T')) q = some (.tup (intsV (leadsN ds n))) := fun n hn => by
        obtain ⟨q, h1, h2⟩ := I.vals n hn
        refine ⟨q, h1, ?_⟩
        rw [upd_ne (fun z => by rw [z, I.tat] at h2; cases h2)]; exact h2
      have hT1 : upd H' ta (.lst (intsV T')) ta = some (.lst (intsV T')) := upd_same
      have hmeas := I.meas
      rw [List.length_append, List.length_singleton] at hmeas
      have hFl := nodup_bound ds.length F I.nd fun x hx => (I.inF x hx).1
      have keyd : (valV kvs (.inl (y : Int))).isSome = decide (y ∈ F) := by
        rw [val_some, I.keys]
        refine decide_eq_decide.mpr ⟨fun z => ?_, fun z => List.mem_map.mpr ⟨y, z, rfl⟩⟩
        obtain ⟨n, hn, en⟩ := List.mem_map.mp z
        have : n = y := Int.ofNat.inj (Sum.inl.inj en)
        exact this ▸ hn
      generalize upd H' ta (.lst (intsV T')) = Ha at *
      refine rb_one (rs_if (rt_dnin (hu_of hr) (re_var 4 rfl (re_var 2 rfl ⟨fa, kvs, .inl (y : Int), rfl, hF1, rfl, ?_⟩))))
      rw [keyd]
      by_cases hy : y ∈ F
      · rw [decide_eq_true hy]
        refine ifF (rb_nil ⟨m - 1, by omega, _, kvs, F, T', rfl, ex1, ex31, hF1, hT1, I.keys, I.nd, I.inF, fun n hn => I.inT n (List.mem_append_left _ hn), ?_, fun n hn j hj => ?_, hv1, Nat.le_trans (Nat.sub_le ..) I.low, by omega⟩)
        · rcases I.zero with z | z
          · exact .inl z
          · rcases List.mem_append.mp z with z | z
            · exact .inr z
            · exact .inl (List.mem_singleton.mp z ▸ hy)
        · rcases I.closed n hn j hj with z | z
          · exact .inl z
          · rcases List.mem_append.mp z with z | z
            · exact .inr z
            · exact .inl (List.mem_singleton.mp z ▸ hy)
      · rw [decide_eq_false hy]
        refine ifT (rb_cons (rs_dput (hu_of hr) (re_call c2 hr (ra_cons (re_var 0 rfl (ra_cons (re_var 4 rfl (ra_cons (re_var 1 rfl (ra_nil ⟨v, d, y, mp, rfl, hd.mono ex1, g, by rw [eds]; exact hylt, by rw [eds]; exact ex31 _ _ nmf nmt hm3, fun q2 Hb eb hq2 nq2 => re_var 2 rfl (re_var 4 rfl ⟨fa, kvs, .inl (y : Int), rfl, eb _ _ hF1, rfl, ?_, ?_⟩)⟩))))))))))
        · have : kvs.length = F.length := by have := congrArg List.length I.keys; rw [List.length_map, List.length_map] at this; exact this
          exact Nat.lt_of_lt_of_le (show kvs.length < 100000 by omega) (by decide)
        rw [eds] at hq2
        have hnew : (Sum.inl (y : Int) : Key) ∉ kvs.map (·.1) := fun z => by
          have hs := (val_iff kvs (Sum.inl (y : Int))).mpr z
          rw [keyd, decide_eq_false hy] at hs
          exact Bool.noConfusion hs
        have n2f : q2 ≠ fa := fun z => by rw [z, hF1] at nq2; exact (Option.some_ne_none _ nq2).elim
        have n2t : q2 ≠ ta := fun z => by rw [z, hT1] at nq2; exact (Option.some_ne_none _ nq2).elim
        rw [put_new hnew]
        have hT2 : upd Hb fa (.dK (kvs ++ [(Sum.inl (y : Int), V.ref q2)])) ta = some (.lst (intsV T')) := by rw [upd_ne (fun z => nft z.symm)]; exact eb _ _ hT1
        refine rb_one (rs_expr (re_extendT (re_var 3 rfl ⟨ta, rfl, ⟨_, hT2⟩, re_dget (hu_of hr) (re_var 2 rfl (re_var 4 rfl ⟨fa, _, .inl (y : Int), .ref q2, rfl, upd_same, rfl, ?_, intsV T', q2, intsV (leadsN ds y), rfl, hT2, by rw [upd_ne n2f]; exact hq2, ?_, ?_⟩))⟩)))
        · rw [← put_new hnew, val_put, if_pos rfl]
        · have := leads_len ds y
          have := I.low
          unfold intsV
          rw [List.length_map, List.length_map]
          exact Nat.le_trans (show _ ≤ 1000 by omega) (by decide)
        · have hll := leads_len ds y
          have hFl2 := nodup_bound ds.length (F ++ [y]) (List.nodup_append.mpr ⟨I.nd, (List.pairwise_singleton _ _), fun a ha b hb => by
            obtain rfl := List.mem_singleton.mp hb
            exact fun z => hy (z ▸ ha)⟩) fun x hx => by
              rcases List.mem_append.mp hx with z | z
              · exact (I.inF x z).1
              · exact List.mem_singleton.mp z ▸ hylt
          rw [List.length_append, List.length_singleton] at hFl2
          refine ⟨3 * (ds.length - (F ++ [y]).length) + (T' ++ leadsN ds y).length, ?_, _, kvs ++ [(Sum.inl (y : Int), V.ref q2)], F ++ [y], T' ++ leadsN ds y, rfl, ?_, ?_, ?_, ?_, ?_, ?_, ?_, ?_, ?_, ?_, ?_, ?_, rfl⟩
          · rw [List.length_append, List.length_append, List.length_singleton]; omega
          · exact ex_mut (ex_mut (ex1.trans eb) nfa) nta
          · intro a o h1 h2 h
            rw [upd_ne h2, upd_ne h1]
            exact eb _ _ (ex31 a o h1 h2 h)
          · rw [upd_ne nft]; exact upd_same
          · rw [upd_same]; unfold intsV; rw [List.map_append]
          · rw [List.map_append, List.map_append, I.keys]; rfl
          · exact List.nodup_append.mpr ⟨I.nd, (List.pairwise_singleton _ _), fun a ha b hb => by
              obtain rfl := List.mem_singleton.mp hb
              exact fun z => hy (z ▸ ha)⟩
          · intro n hn
            rcases List.mem_append.mp hn with z | z
            · exact I.inF n z
            · obtain rfl := List.mem_singleton.mp z; exact ⟨hylt, hyr⟩
          · intro n hn
            rcases List.mem_append.mp hn with z | z
            · exact I.inT n (List.mem_append_left _ z)
            · exact ⟨lt z, hyr.step z⟩
          · rcases I.zero with z | z
            · exact .inl (List.mem_append_left _ z)
            · rcases List.mem_append.mp z with z | z
              · exact .inr (List.mem_append_left _ z)
              · exact .inl (List.mem_append_right _ z)
          · intro n hn j hj
            rcases List.mem_append.mp hn with z | z
            · rcases I.closed n z j hj with z | z
              · exact .inl (List.mem_append_left _ z)
              · rcases List.mem_append.mp z with z | z
                · exact .inr (List.mem_append_left _ z)
                · exact .inl (List.mem_append_right _ z)
            · obtain rfl := List.mem_singleton.mp z
              exact .inr (List.mem_append_right _ hj)
          · intro n hn
            rcases List.mem_append.mp hn with z | z
            · obtain ⟨p, h1, h2⟩ := hv1 n z
              refine ⟨p, ?_, ?_⟩
              · rw [← put_new hnew, val_put, if_neg (fun e => hy (by have e2 : n = y := Int.ofNat.inj (Sum.inl.inj e); rw [← e2]; exact z))]; exact h1
              · rw [upd_ne (fun e => by rw [e, hT1] at h2; cases h2), upd_ne (fun e => by rw [e, hF1] at h2; cases h2)]
                exact eb _ _ h2
            · obtain rfl := List.mem_singleton.mp z
              refine ⟨q2, ?_, ?_⟩
              · rw [← put_new hnew, val_put, if_pos rfl]
              · rw [upd_ne n2t, upd_ne n2f]; exact hq2
          · rw [List.length_append, List.length_append, List.length_singleton]
            have := I.low
            omega
    · obtain rfl : T = [] := by
        cases T with
        | nil => rfl
        | cons x r => exact absurd (show false = true from e.symm.trans rfl |>.symm ▸ rfl) Bool.false_ne_true
      have reach : ∀ n, Reach ds n → n ∈ F := fun n hn => by
        induction hn with
        | zero => exact I.zero.resolve_right List.not_mem_nil
        | step _ hj ih => exact (I.closed _ ih _ hj).resolve_right List.not_mem_nil
      have hFl := nodup_bound ds.length F I.nd fun x hx => (I.inF x hx).1
      have hval : ∀ n ∈ F, valV kvs (.inl (n : Int)) = some (.ref (refOf kvs n)) ∧ H' (refOf kvs n) = some (.tup (intsV (leadsN ds n))) := fun n hn => by
        obtain ⟨q, h1, h2⟩ := I.vals n hn
        have : refOf kvs n = q := by unfold refOf; rw [h1]
        rw [this]
        exact ⟨h1, h2⟩
      refine rb_one (rs_ret ?_)
      refine re_dc (own := [("at", 4)]) (g := gName 4) rfl sc_reached_ways.nd (blkOk_by (N := ["lines", "marks", "found", "todo", "at"]) (sc := defScope s_reached_ways) (by decide +kernel)) (fun _ _ _ _ _ => pg_name (i := 4) sc_reached_ways.nd rfl (Or.inl rfl)) good_name ?_
      refine ri_list (re_cb (call_sortedDI rfl) G.sorted (ra_cons (re_var 2 rfl (ra_nil ⟨fa, kvs, F.map fun n : Nat => (n : Int), rfl, .inl I.fat, by rw [I.keys, List.map_map]; rfl, by rw [List.length_map]; omega, fun ys p hperm hs hp => ?_⟩))))
      obtain ⟨R, rfl, asc, hlen, hmem⟩ := sorted_nats hperm hs I.nd
      have e1p : Ex H' (upd H' p (.lst ((R.map fun n : Nat => (n : Int)).map V.int))) := Ex.new hp
      refine ⟨p, _, rfl, .inl (.inl upd_same), _, _, _, fun i acc => acc = (R.take i).map fun n : Nat => ((Sum.inl (n : Int) : Key), V.ref (refOf kvs n)), walk_list, ?_, fun H'' e'' => Evl.ex_l e'' (.inl (.inl upd_same)), rfl, ?_, ?_⟩
      · rw [List.length_map, List.length_map]; omega
      · rintro i x Ha Hb hi ea ⟨rfl, hx⟩
        rw [List.getElem?_map, List.getElem?_map] at hx
        obtain ⟨z, hz, rfl⟩ := Option.map_eq_some_iff.mp hx
        obtain ⟨n, hn, rfl⟩ := Option.map_eq_some_iff.mp hz
        have hnF := (hmem n).mp (List.mem_of_getElem? hn)
        refine ⟨Ex.refl _, rfl, Ex.refl _, fun s0 H0 C cl fp => re_var 4 rfl ⟨Ex.refl _, .inl (n : Int), rfl, fun s0 H0 C cl fp => re_dget (hu_of hr) (re_var 2 rfl (re_var 4 rfl ⟨fa, kvs, .inl (n : Int), _, rfl, ea _ _ (e1p _ _ I.fat), rfl, (hval n hnF).1, Ex.refl _, fun acc hacc => ?_⟩))⟩⟩
        subst hacc
        rw [take_snoc hn, List.map_append]
        refine put_new fun z => ?_
        rw [List.map_map] at z
        obtain ⟨k, hk, ek⟩ := List.mem_map.mp z
        have := asc_take asc hn k hk
        have : k = n := Int.ofNat.inj (Sum.inl.inj ek)
        omega
      · rintro p2 acc Hz hp2 ez hz hl2 rfl
        have eall : Ex H' Hz := e1p.trans ez
        refine q _ _ (I.ex.trans eall) ⟨p2, R, refOf kvs, rfl, ?_⟩
        rw [eds]
        refine ⟨?_, asc, fun n => ?_, fun n hn => (I.inF n ((hmem n).mp hn)).1, fun n hn => eall _ _ (hval n ((hmem n).mp hn)).2⟩
        · rw [hz, List.take_of_length_le (by rw [List.length_map, List.length_map]; exact Nat.le_refl _)]
        · rw [hmem n]
          exact ⟨fun z => (I.inF n z).2, reach n⟩
end
end Fl
end
section
set_option Elab.async false
set_option linter.all false
set_option maxRecDepth 100000
set_option maxHeartbeats 2000000
/-! == of lists and tuples of texts. -/
namespace Fx
open PySem PySem.Spec PyProof.Rows L2
open Evl (Ex fresh_back)
def strsD (ws : List Str) : List PyData := ws.map PyData.str
theorem dp_strs {K : PySem.W.Frag} {H : Hp} : ∀ ws : List Str, DpAll K H (ws.map V.str) (strsD ws)
  | [] => .nil
  | w :: r => .cons (.str w) (dp_strs r)
theorem lay_strs : ∀ ws : List Str, (∀ w ∈ ws, PyData.strOk w = true) → PyData.canLayAll0 (strsD ws) = true
  | [], _ => rfl
  | w :: r, h => by
    show (PyData.strOk w && PyData.canLayAll0 (strsD r)) = true
    rw [h w List.mem_cons_self, lay_strs r fun x hx => h x (List.mem_cons_of_mem _ hx)]; rfl
theorem depth_strs : ∀ ws : List Str, PyData.depthAll (strsD ws) = 0
  | [] => rfl
  | w :: r => by
    show Nat.max 0 (PyData.depthAll (strsD r)) = 0
    rw [depth_strs r]; rfl
theorem shaped_tupS {ws : List Str} (h : ∀ w ∈ ws, PyData.strOk w = true) : SeqAt.shaped (.tuple (strsD ws)) = true := by
  show (PyData.canLayAll0 (strsD ws) && decide (PyData.depthAll (strsD ws) + 1 ≤ 64)) = true
  rw [lay_strs ws h, depth_strs ws]; rfl
theorem eqv_strs : ∀ us ws : List Str, PyData.eqvAll (strsD us) (strsD ws) = decide (us = ws)
  | [], [] => rfl
  | [], _ :: _ => rfl
  | _ :: _, [] => rfl
  | u :: us, w :: ws => by
    show ((u == w) && PyData.eqvAll (strsD us) (strsD ws)) = _
    rw [eqv_strs us ws]
    by_cases e : u = w
    · subst e
      rw [beq_self_eq_true, Bool.true_and]
      exact decide_eq_decide.mpr ⟨fun z => by rw [z], fun z => (List.cons.inj z).2⟩
    · rw [beq_eq_false_iff_ne.mpr e, Bool.false_and, decide_eq_false (fun z => e (List.cons.inj z).1)]
section
variable {X : Cx} {a b : Expr} {σ : L2.St} {H : Hp} {QB : Bool → Hp → Prop} {pos : Pos}
/-- two tuples of texts -/
def TS2 (K : PySem.W.Frag) (H : Hp) (x y : V) (us ws : List Str) : Prop := ∃ p q, x = .ref p ∧ y = .ref q ∧ SqT K H p (us.map V.str) ∧ SqT K H q (ws.map V.str) ∧ (∀ w ∈ us, PyData.strOk w = true) ∧ ∀ w ∈ ws, PyData.strOk w = true
theorem rt_eqT (hu : X.A.units + 64 < cLine) (h : RE X a σ H fun x H1 => RE X b σ H1 fun y H2 => ∃ us ws, TS2 X.K H2 x y us ws ∧ QB (decide (us = ws)) H2) (hm : behindInMarks .Eq b = false := by rfl) : RT X (.Compare a [.Eq] [b] pos) σ H QB :=
  rt_cmp (op_eqD hu) (h.mono fun x H1 q => q.mono fun y H2 ⟨us, ws, ⟨p, q, ex, ey, h1, h2, o1, o2⟩, z⟩ => ⟨.tuple (strsD us), .tuple (strsD ws), by rw [ex]; exact .tup h1 (dp_strs us), by rw [ey]; exact .tup h2 (dp_strs ws), shaped_tupS o1, shaped_tupS o2, _, rfl, by
    show QB (PyData.eqvAll (strsD us) (strsD ws)) H2
    rw [eqv_strs]; exact z⟩) hm
theorem rt_neT (hu : X.A.units + 64 < cLine) (h : RE X a σ H fun x H1 => RE X b σ H1 fun y H2 => ∃ us ws, TS2 X.K H2 x y us ws ∧ QB (!decide (us = ws)) H2) (hm : behindInMarks .NotEq b = false := by rfl) : RT X (.Compare a [.NotEq] [b] pos) σ H QB :=
  rt_cmp (op_neD hu) (h.mono fun x H1 q => q.mono fun y H2 ⟨us, ws, ⟨p, q, ex, ey, h1, h2, o1, o2⟩, z⟩ => ⟨.tuple (strsD us), .tuple (strsD ws), by rw [ex]; exact .tup h1 (dp_strs us), by rw [ey]; exact .tup h2 (dp_strs ws), shaped_tupS o1, shaped_tupS o2, _, rfl, by
    show QB (!PyData.eqvAll (strsD us) (strsD ws)) H2
    rw [eqv_strs]; exact z⟩) hm
end
end Fx
end
section
set_option Elab.async false
set_option linter.all false
set_option maxRecDepth 100000
set_option maxHeartbeats 2000000
namespace Fl
open PySem PySem.Spec PyProof.Rows L2 Fx
open Evl (Ex fresh_back)
theorem _root_.L2.Room.u64 {k : Nat} {A : Around} (h : Room k A) : A.units + 64 < cLine := by have := h.un; omega
/-! ### the parts of a line are ints and texts -/
theorem word_ok {s : Str} (h : isWordS s = true) : PyData.strOk s = true := by
  unfold isWordS at h
  rw [Bool.and_eq_true] at h
  unfold PyData.strOk
  rw [← Array.all_toList] at *
  rw [List.all_eq_true] at *
  intro x hx
  have := h.2 x hx
  rw [Bool.and_eq_true, decide_eq_true_eq, decide_eq_true_eq] at this
  exact decide_eq_true (by omega)
theorem fits_cases {k : Str} {x : PyData} (h : fitsD k x = true) : (∃ i, x = .int i) ∨ ∃ s, x = .str s ∧ PyData.strOk s = true := by
  unfold fitsD at h
  split at h
  · cases x with
    | str s => exact .inr ⟨s, rfl, word_ok h⟩
    | _ => exact absurd (show false = true from h) Bool.false_ne_true
  · split at h
    · cases x with
      | int i => exact .inl ⟨i, rfl⟩
      | _ => exact absurd (show false = true from h) Bool.false_ne_true
    · split at h
      · cases x with
        | int i => exact .inl ⟨i, rfl⟩
        | _ => exact absurd (show false = true from h) Bool.false_ne_true
      · split at h
        · rename_i c
          cases x with
          | str s =>
            have : s = "link" := of_decide_eq_true c.2
            subst this
            exact .inr ⟨_, rfl, by decide +kernel⟩
          | _ => exact absurd (show false = true from c.2) Bool.false_ne_true
        · cases x with
          | int i => exact .inl ⟨i, rfl⟩
          | _ => exact absurd (show false = true from h) Bool.false_ne_true
def flatOk : PyData → Prop
  | .int _ => True
  | .str s => PyData.strOk s = true
  | _ => False
theorem forms_ok : ∀ p ∈ forms, PyData.strOk p.1 = true := by
  intro p hp
  have : forms.all (fun p => PyData.strOk p.1) = true := by decide +kernel
  exact List.all_eq_true.mp this p hp
theorem lookup_mem {w : Str} {ks : List Str} : ∀ {l : List (Str × List Str)}, l.lookup w = some ks → (w, ks) ∈ l
  | [], h => nomatch h
  | (a, b) :: r, h => by
    rw [List.lookup_cons] at h
    by_cases e : w = a
    · subst e
      rw [beq_self_eq_true] at h
      cases h
      exact List.mem_cons_self
    · rw [beq_eq_false_iff_ne.mpr e] at h
      exact List.mem_cons_of_mem _ (lookup_mem h)
theorem line_flat {d : PyData} (h : isLineD d = true) : ∃ w xs, d = .tuple (.str w :: xs) ∧ PyData.strOk w = true ∧ ∀ x ∈ xs, flatOk x := by
  obtain ⟨w, xs, kinds, v⟩ := valid_of h
  refine ⟨w, xs, v.eq, forms_ok _ (lookup_mem v.form), fun x hx => ?_⟩
  obtain ⟨i, hi, rfl⟩ := List.mem_iff_getElem.mp hx
  have hk : i < kinds.length := by rw [← v.len]; exact hi
  rcases fits_cases (v.fits i kinds[i] xs[i] (List.getElem?_eq_getElem hk) (List.getElem?_eq_getElem hi)) with ⟨j, e⟩ | ⟨s, e, o⟩
  · rw [e]; trivial
  · rw [e]; exact o
section
variable {K : PySem.W.Frag} {H : Hp}
theorem dp_flat {v : V} {x : PyData} (h : D K H v x) (f : flatOk x) : Dp K H v x := by
  cases h with
  | int i => exact .int i
  | str s => exact .str s
  | _ => exact f.elim
theorem dp_all : ∀ {vs : List V} {xs : List PyData}, DA K H vs xs → (∀ x ∈ xs, flatOk x) → DpAll K H vs xs
  | _, _, .nil, _ => .nil
  | _, _, .cons a t, f => .cons (dp_flat a (f _ List.mem_cons_self)) (dp_all t fun x hx => f x (List.mem_cons_of_mem _ hx))
theorem lay_flat : ∀ xs : List PyData, (∀ x ∈ xs, flatOk x) → PyData.canLayAll0 xs = true ∧ PyData.depthAll xs = 0
  | [], _ => ⟨rfl, rfl⟩
  | x :: r, f => by
    have ih := lay_flat r fun y hy => f y (List.mem_cons_of_mem _ hy)
    have hx := f x List.mem_cons_self
    cases x with
    | int i => exact ⟨by show (true && _) = true; rw [ih.1]; rfl, by show Nat.max 0 (PyData.depthAll r) = 0; rw [ih.2]; rfl⟩
    | str s => exact ⟨by show (PyData.strOk s && _) = true; rw [show PyData.strOk s = true from hx, ih.1]; rfl, by show Nat.max 0 (PyData.depthAll r) = 0; rw [ih.2]; rfl⟩
    | _ => exact hx.elim
theorem shaped_flat {xs : List PyData} (f : ∀ x ∈ xs, flatOk x) : SeqAt.shaped (.tuple xs) = true := by
  show (PyData.canLayAll0 xs && decide (PyData.depthAll xs + 1 ≤ 64)) = true
  rw [(lay_flat xs f).1, (lay_flat xs f).2]; rfl
end
/-- is the line (a, "link")? -/
def isPair (a b : Str) (d : PyData) : Bool := decide (wordD d = a) && strIs b (partD 1 d)
theorem eqv_pair {a b : Str} {d : PyData} (h : isLineD d = true) {kinds : List Str} (hf : forms.lookup a = some kinds) (h1 : kinds.length = 1) : PyData.eqv d (.tuple [.str a, .str b]) = isPair a b d := by
  obtain ⟨w, xs, ki, v⟩ := valid_of h
  rw [v.eq]
  show ((w == a) && PyData.eqvAll xs [.str b]) = (decide (w = a) && strIs b ((PyData.str w :: xs).getD 1 .none))
  by_cases e : w = a
  · subst e
    have : ki = kinds := Option.some.inj (v.form.symm.trans hf)
    have hl : xs.length = 1 := by rw [v.len, this, h1]
    match xs, hl with
    | [x], _ =>
      rw [beq_self_eq_true, decide_eq_true rfl, Bool.true_and, Bool.true_and]
      show (PyData.eqv x (.str b) && true) = strIs b x
      rw [Bool.and_true]
      cases x with
      | str s =>
        show (s == b) = decide (s = b)
        by_cases e : s = b
        · rw [e, beq_self_eq_true, decide_eq_true rfl]
        · rw [beq_eq_false_iff_ne.mpr e, decide_eq_false e]
      | _ => rfl
  · rw [beq_eq_false_iff_ne.mpr e, decide_eq_false e, Bool.false_and, Bool.false_and]
theorem form_pop : forms.lookup ("pop" : Str) = some (["reg or link"] : List Str) := by decide +kernel
theorem form_push : forms.lookup ("push" : Str) = some (["reg or link"] : List Str) := by decide +kernel
theorem form_read : forms.lookup ("read" : Str) = some (["reg", "entry"] : List Str) := by decide +kernel
theorem form_write : forms.lookup ("write" : Str) = some (["entry", "reg"] : List Str) := by decide +kernel
section
variable {X : Cx} {a : Expr} {σ : L2.St} {H : Hp} {Q : VK} {QB : Bool → Hp → Prop} {pos p1 p2 p3 : Pos} {k : Nat} {j1 j2}
/-- line == ("a", "link") -/
theorem cmp_pair (hu : X.A.units + 64 < cLine) {x y : Str} {kinds : List Str} (hf : forms.lookup x = some kinds) (h1 : kinds.length = 1) (hy : PyData.strOk y = true) {R : VK} (h : RE X a σ H fun v H1 => ∃ d, D X.K H1 v d ∧ isLineD d = true ∧ ∀ H2, Ex H1 H2 → R (.bl (isPair x y d)) H2) (es : List Expr)
    (he : ∀ H1 (Q : List V → Hp → Prop), Q [.str x, .str y] H1 → RA X es σ H1 Q) : RE X a σ H fun v H1 => RE X (.Tuple es k p3) σ H1 fun w H2 => rEqD X.K v w H2 R :=
  h.mono fun v H1 ⟨d, hd, hl, q⟩ => re_tup (he _ _ ⟨(show 2 ≤ 100000 by decide), fun p H2 hp e2 h2 => by
    obtain ⟨w, xs, e, ow, f⟩ := line_flat hl
    have hd2 := hd.mono e2
    have fl : ∀ x ∈ (PyData.str w :: xs), flatOk x := fun x hx => by
      rcases List.mem_cons.mp hx with z | z
      · rw [z]; exact ow
      · exact f x z
    refine ⟨d, .tuple [.str x, .str y], ?_, .tup (.inl (.inl h2)) (.cons (.str _) (.cons (.str _) .nil)), ?_, ?_, ?_⟩
    · subst e
      cases hd2 with
      | tup sq ha => exact .tup sq (dp_all ha fl)
    · rw [e]; exact shaped_flat fl
    · refine shaped_flat fun z hz => ?_
      rcases List.mem_cons.mp hz with z | z
      · rw [z]; exact forms_ok _ (lookup_mem hf)
      · rw [List.mem_singleton.mp z]; exact hy
    · rw [eqv_pair hl hf h1]
      exact q H2 e2⟩)
end
section
variable {P : Program} {w : World} {K : PySem.W.Frag} {mg : Str → Option Value} {base : Heap} {f : Addr} {fd : FuncData}
theorem sc_entry_of : FnScope ["line"] ["line"] (defScope s_entry_of) := ⟨rfl, rfl, rfl, by decide +kernel, rfl, by decide +kernel, by decide +kernel⟩
def entryD (d : PyData) : Str := if strIs "link" (partD 1 d) = true then "link" else "value"
abbrev sp_entry_of (K : PySem.W.Frag) : Sp := sp1 K (fun d => isLineD d = true ∧ (wordD d = "push" ∨ wordD d = "pop")) fun d r _ => r = .str (entryD d)
theorem ok_entry_of (F : Fun K "_entry_of" "_entry_of" s_entry_of f fd) : FnOk P w K mg base CX0 1 f fd ["line"] (sp_entry_of K) := by
  refine F.ok sc_entry_of (fun vs H Q E h => sp1_len h rfl) (fun cdv A outer s H vs Q E hr h => ⟨RB _ _, pss_RB, ?_⟩)
  obtain ⟨v, d, rfl, hd, ⟨hl, hw⟩, q⟩ := h
  have fin : ∀ b, strIs "link" (partD 1 d) = b → Q (.str (if b = true then "link" else "value")) H := fun b hb => q _ _ (Ex.refl _) (by show _ = V.str (entryD d); unfold entryD; rw [hb])
  have go : ∀ (u : V), D K H u (partD 1 d) → RE (cxOf CX0 P w K mg base ["line"] "_entry_of" (defScope s_entry_of) f cdv A outer s H E).nox (.Constant (.str "link") 0 ⟨0, 0, 0, 0⟩) (L2.start ["line"] [v]) H fun y H2 => True := fun _ _ => re_str trivial
  refine rb_one (rs_ret (re_if (rt_cmp (op_eqS hr.units0) ?_)))
  rcases hw with hw | hw
  · refine re_part1 (re_var 0 rfl ⟨d, _, _, _, hd, hl, hw, form_push, rfl, fun u hu hf => re_str ⟨_, _, hu, rfl, _, rfl, ifB (fun e => re_str (by have := fin _ e; rwa [if_pos rfl] at this)) fun e => re_str (by have := fin _ e; rwa [if_neg Bool.false_ne_true] at this)⟩⟩)
  · refine re_part1 (re_var 0 rfl ⟨d, _, _, _, hd, hl, hw, form_pop, rfl, fun u hu hf => re_str ⟨_, _, hu, rfl, _, rfl, ifB (fun e => re_str (by have := fin _ e; rwa [if_pos rfl] at this)) fun e => re_str (by have := fin _ e; rwa [if_neg Bool.false_ne_true] at this)⟩⟩)
theorem sc_own_behind : FnScope ["line", "own"] ["line", "own"] (defScope s_own_behind) := ⟨rfl, rfl, rfl, by decide +kernel, rfl, by decide +kernel, by decide +kernel⟩
def ownB (d : PyData) (own : Bool) : Bool := isPair "pop" "link" d || (own && !decide (wordD d ∈ (["call", "callr"] : List Str)))
def sp_own_behind (K : PySem.W.Frag) : Sp := fun vs H Q _ => ∃ v d b, vs = [v, .bl b] ∧ D K H v d ∧ isLineD d = true ∧ ∀ r H', Ex H H' → r = .bl (ownB d b) → Q r H'
theorem ok_own_behind (F : Fun K "_own_behind" "_own_behind" s_own_behind f fd) (T : Frm2 K w mg) : FnOk P w K mg base CX0 1 f fd ["line", "own"] (sp_own_behind K) := by
  refine F.ok sc_own_behind (fun vs H Q E h => ?_) (fun cdv A outer s H vs Q E hr h => ⟨RB _ _, pss_RB, ?_⟩)
  · obtain ⟨_, _, _, rfl, _⟩ := h; rfl
  obtain ⟨v, d, b, rfl, hd, hl, q⟩ := h
  obtain ⟨ca, mC, hC⟩ := T.callW
  refine rb_cons (rs_if (rt_cmp (op_eqD hr.u64) ?_))
  refine cmp_pair hr.u64 form_pop rfl (by decide +kernel) (re_var 0 rfl ⟨d, hd, hl, fun H2 e2 => ⟨_, rfl, ifB (fun e => ?_) fun e => ?_⟩⟩) _ (fun H1 Q q => ra_cons (re_str (ra_cons (re_str (ra_nil q)))))
  · refine rb_one (rs_ret (re_bl (q _ _ e2 ?_)))
    show V.bl true = V.bl (isPair "pop" "link" d || _)
    rw [e]; rfl
  · refine rb_nil (rb_one (rs_ret (re_and (re_var 1 rfl ⟨b, rfl, ifB (fun eb => ?_) fun eb => ?_⟩))))
    · refine re_one (re_cmp op_notIn_seq (re_word (re_var 0 rfl ⟨d, hd.mono e2, hl, re_glob (v := .ref ca) mC rfl ⟨ca, _, rfl, .inr (hC _), rfl, flat_strs _, q _ _ e2 ?_⟩⟩)))
      show V.bl (!inV _ _) = V.bl (isPair "pop" "link" d || _)
      rw [e, eb, inV_strs, cont_mem]; rfl
    · refine q _ _ e2 ?_
      show V.bl false = V.bl (isPair "pop" "link" d || _)
      rw [e, eb]; rfl
theorem sc_needs_own : FnScope ["line"] ["line"] (defScope s_needs_own) := ⟨rfl, rfl, rfl, by decide +kernel, rfl, by decide +kernel, by decide +kernel⟩
def needsB (d : PyData) : Bool := isPair "push" "link" d || decide (wordD d ∈ (["back", "tail"] : List Str))
abbrev sp_needs_own (K : PySem.W.Frag) : Sp := spB K (fun d => isLineD d = true) needsB
theorem ok_needs_own (F : Fun K "_needs_own" "_needs_own" s_needs_own f fd) : FnOk P w K mg base CX0 1 f fd ["line"] (sp_needs_own K) := by
  refine F.ok sc_needs_own (fun vs H Q E h => sp1_len h rfl) (fun cdv A outer s H vs Q E hr h => ⟨RB _ _, pss_RB, ?_⟩)
  obtain ⟨v, d, rfl, hd, hl, q⟩ := h
  refine rb_one (rs_ret (re_or (re_cmp (op_eqD hr.u64) ?_)))
  refine cmp_pair hr.u64 form_push rfl (by decide +kernel) (re_var 0 rfl ⟨d, hd, hl, fun H2 e2 => ⟨_, rfl, ifB (fun e => ?_) fun e => ?_⟩⟩) _ (fun H1 Q q => ra_cons (re_str (ra_cons (re_str (ra_nil q)))))
  · refine q _ _ e2 ?_
    show V.bl true = V.bl (isPair "push" "link" d || _)
    rw [e]; rfl
  · refine re_one (re_cmp op_in_seq (re_word (re_var 0 rfl ⟨d, hd.mono e2, hl, re_tup (ra_cons (re_str (ra_cons (re_str (ra_nil ⟨(show 2 ≤ 100000 by decide), fun p H3 hp e3 h3 => ⟨p, (["back", "tail"] : List Str).map V.str, rfl, .inr (.inl (.inl h3)), rfl, flat_strs _, q _ _ (e2.trans e3) ?_⟩⟩)))))⟩)))
    show V.bl (inV _ _) = V.bl (isPair "push" "link" d || _)
    rw [e, inV_strs, cont_mem]; rfl
end
end Fl
end
section
set_option Elab.async false
set_option linter.all false
set_option maxRecDepth 100000
set_option maxHeartbeats 2000000
namespace Fl
open PySem PySem.Spec PyProof.Rows L2 Fx
open Evl (Ex fresh_back)
/-! ### rows -/
def rowOk (row : List Str) : Prop := ∀ w ∈ row, PyData.strOk w = true
def hasV (row : List Str) (k : Nat) : Bool := decide (k < row.length) && decide (row[row.length - 1 - k]? = some ("value" : Str))
def natD : PyData → Nat
  | .int i => i.toNat
  | _ => 0
def rowB (d : PyData) (row : List Str) : Option (List Str) :=
  if wordD d = "push" then some (row ++ [entryD d])
  else if wordD d = "pop" then (if row.drop (row.length - 1) = [entryD d] then some row.dropLast else none)
  else if wordD d = "read" then (if hasV row (natD (partD 2 d)) = true then some row else none)
  else if wordD d = "write" then (if hasV row (natD (partD 1 d)) = true then some row else none)
  else if wordD d ∈ (["back", "tail"] : List Str) then (if row = [] then some row else none)
  else some row
def optRow (K : PySem.W.Frag) (H : Hp) (r : V) : Option (List Str) → Prop
  | none => r = .non
  | some row => ∃ p, r = .ref p ∧ SqT K H p (row.map V.str)
theorem entry_ok (d : PyData) : PyData.strOk (entryD d) = true := by
  unfold entryD
  split <;> decide +kernel
theorem fits_entry {d : PyData} (h : fitsD "entry" d = true) : d = .int (natD d : Nat) := by
  have h : entB d = true := by
    unfold fitsD at h
    rw [if_neg (by decide +kernel), if_neg (by decide +kernel), if_pos rfl] at h
    exact h
  cases d with
  | int i =>
    have h : (decide (0 ≤ i) && decide (i ≤ 59)) = true := h
    rw [Bool.and_eq_true, decide_eq_true_eq, decide_eq_true_eq] at h
    show PyData.int i = PyData.int (i.toNat : Nat)
    rw [Int.toNat_of_nonneg h.1]
  | _ => exact absurd (show false = true from h) Bool.false_ne_true
section
variable {X : Cx} {e f : Expr} {σ : L2.St} {H : Hp} {Q : VK} {pos p2 : Pos}
/-- t[lo:], t[:hi] of a tuple -/
theorem re_from (h : RE X e σ H fun x H1 => RE X f σ H1 fun y H2 => ∃ i, y = .int i ∧ ∃ a xs, x = .ref a ∧ SqT X.K H2 a xs ∧ ∀ r H3, Ex H2 H3 → SqT X.K H3 r (cutV xs (some i) none) → Q (.ref r) H3) : RE X (.Subscript e (.Slice (some f) none none p2) pos) σ H Q :=
  re_of (pe_slice sl_tupA pe_RE (po_some pe_RE) po_none) (h.mono fun x H1 q => q.mono fun y H2 ⟨i, ey, a, xs, ex, sq, q⟩ => ⟨i, ey, a, xs, ex, sq, fun z => q a H2 (Ex.refl _) (by
    have : cutV xs (some i) none = xs := by unfold cutV; rw [z.1, z.2]; simp
    rw [this]; exact sq), fun _ p hp => q p _ (Ex.new hp) (.inl (.inl upd_same))⟩)
theorem re_upto (h : RE X e σ H fun x H1 => RE X f σ H1 fun y H2 => ∃ i, y = .int i ∧ ∃ a xs, x = .ref a ∧ SqT X.K H2 a xs ∧ ∀ r H3, Ex H2 H3 → SqT X.K H3 r (cutV xs none (some i)) → Q (.ref r) H3) : RE X (.Subscript e (.Slice none (some f) none p2) pos) σ H Q :=
  re_of (pe_slice sl_tupA pe_RE po_none (po_some pe_RE)) (h.mono fun x H1 q => q.mono fun y H2 ⟨i, ey, a, xs, ex, sq, q⟩ => ⟨i, ey, a, xs, ex, sq, fun z => q a H2 (Ex.refl _) (by
    have : cutV xs none (some i) = xs := by unfold cutV; rw [z.1, z.2]; simp
    rw [this]; exact sq), fun _ p hp => q p _ (Ex.new hp) (.inl (.inl upd_same))⟩)
end
theorem sIx_neg (n d : Nat) : HT.sIx n d (some (-1)) = n - 1 := by
  show (if (-1 : Int) < 0 then ((-1 : Int) + (n : Int)).toNat else min (-1 : Int).toNat n) = n - 1
  rw [if_pos (by decide)]
  omega
theorem cut_last (xs : List V) : cutV xs (some (-1)) none = xs.drop (xs.length - 1) := by
  unfold cutV
  rw [sIx_neg, HT.sIx_none]
  exact List.take_of_length_le (by rw [List.length_drop]; exact Nat.le_refl _)
theorem cut_init (xs : List V) : cutV xs none (some (-1)) = xs.dropLast := by
  unfold cutV
  rw [sIx_neg, HT.sIx_none, List.drop_zero, Nat.sub_zero, List.dropLast_eq_take]
section
variable {P : Program} {w : World} {K : PySem.W.Frag} {mg : Str → Option Value} {base : Heap} {f : Addr} {fd : FuncData}
theorem sc_has_value : FnScope ["row", "k"] ["row", "k"] (defScope s_has_value) := ⟨rfl, rfl, rfl, by decide +kernel, rfl, by decide +kernel, by decide +kernel⟩
def sp_has_value (K : PySem.W.Frag) : Sp := fun vs H Q _ => ∃ rp row k, vs = [.ref rp, .int ((k : Nat) : Int)] ∧ SqT K H rp (row.map V.str) ∧ ∀ r H', Ex H H' → r = .bl (hasV row k) → Q r H'
theorem ok_has_value (F : Fun K "_has_value" "_has_value" s_has_value f fd) (G : Gb mg) : FnOk P w K mg base CX0 1 f fd ["row", "k"] (sp_has_value K) := by
  refine F.ok sc_has_value (fun vs H Q E h => ?_) (fun cdv A outer s H vs Q E hr h => ⟨RB _ _, pss_RB, ?_⟩)
  · obtain ⟨_, _, _, rfl, _⟩ := h; rfl
  obtain ⟨rp, row, k, rfl, sq, q⟩ := h
  have lv : LenV K (.ref rp) H row.length := .inr ⟨_, sq, by rw [List.length_map]⟩
  refine rb_one (rs_ret (re_and (re_cmp op_lt (re_var 1 rfl (re_cb call_len G.len (ra_cons (re_var 0 rfl (ra_nil ⟨_, row.length, rfl, lv, _, _, rfl, rfl, _, rfl, ifB (fun e => ?_) fun e => ?_⟩))))))))
  · have hk : k < row.length := by have := of_decide_eq_true e; omega
    have hi : row.length - 1 - k < row.length := by omega
    refine re_one (re_cmp op_eq (re_ixT (re_var 0 rfl (re_op op_sub (re_op op_sub (re_cb call_len G.len (ra_cons (re_var 0 rfl (ra_nil ⟨_, row.length, rfl, lv, re_int ⟨_, _, rfl, rfl, re_var 1 rfl ⟨_, _, rfl, rfl, rp, _, ((row.length - 1 - k : Nat) : Int), .str row[row.length - 1 - k], rfl, ?_, sq, atI_nat ?_, re_str ⟨rfl, q _ _ (Ex.refl _) ?_⟩⟩⟩⟩)))))))))
    · exact congrArg V.int (by omega)
    · rw [List.getElem?_map, List.getElem?_eq_getElem hi]; rfl
    · rw [eqK]
      show _ = V.bl (decide _ && decide _)
      rw [decide_eq_true hk, Bool.true_and, List.getElem?_eq_getElem hi]
      exact congrArg V.bl (decide_eq_decide.mpr ⟨fun z => by rw [z], fun z => Option.some.inj z⟩)
  · refine q _ _ (Ex.refl _) ?_
    show V.bl false = V.bl (decide _ && _)
    rw [decide_eq_false (show ¬ k < row.length by have := of_decide_eq_false e; omega)]; rfl
theorem sc_row_behind : FnScope ["line", "row", "word"] ["line", "row"] (defScope s_row_behind) := ⟨rfl, rfl, rfl, by decide +kernel, rfl, by decide +kernel, by decide +kernel⟩
def sp_row_behind (K : PySem.W.Frag) : Sp := fun vs H Q _ => ∃ v d rp row, vs = [v, .ref rp] ∧ D K H v d ∧ isLineD d = true ∧ SqT K H rp (row.map V.str) ∧ row.length ≤ 1000 ∧ rowOk row ∧ ∀ r H', Ex H H' → optRow K H' r (rowB d row) → Q r H'
theorem ok_row_behind (F : Fun K "_row_behind" "_row_behind" s_row_behind f fd) (G : Gb mg) (c1 : Cl P w K mg base CX0 1 "_entry_of" (sp_entry_of K)) (c2 : Cl P w K mg base CX0 1 "_has_value" (sp_has_value K)) : FnOk P w K mg base CX0 2 f fd ["line", "row"] (sp_row_behind K) := by
  refine F.ok sc_row_behind (fun vs H Q E h => ?_) (fun cdv A outer s H vs Q E hr h => ⟨RB _ _, pss_RB, ?_⟩)
  · obtain ⟨_, _, _, _, rfl, _⟩ := h; rfl
  obtain ⟨v, d, rp, row, rfl, hd, hl, sq, hn, ok, q⟩ := h
  refine rb_cons (rs_set 2 sc_row_behind.nd (re_word (re_var 0 rfl ⟨d, hd, hl, ?_⟩)))
  refine rb_cons (rs_if (rt_cmp op_eq (re_var 2 rfl (re_str ⟨rfl, _, rfl, ?_⟩))))
  rw [eqK]
  by_cases k1 : wordD d = "push"
  · rw [decide_eq_true k1]
    refine ifT (rb_one (rs_ret (re_tup (ra_star (re_var 1 rfl ⟨rp, _, rfl, .inl sq, ra_cons (re_call c1 hr (ra_cons (re_var 0 rfl (ra_nil ⟨v, d, rfl, hd, ⟨hl, .inl k1⟩, fun r H1 e1 h1 => ra_nil ⟨?_, fun p H2 hp e2 h2 => q _ _ (e1.trans e2) ?_⟩⟩))))⟩)))))
    · rw [List.length_append, List.length_map]; exact Nat.le_trans (Nat.add_le_add_right hn 1) (by decide)
    · subst h1
      unfold rowB
      rw [if_pos k1]
      exact ⟨p, rfl, .inl (.inl (by rw [List.map_append]; exact h2))⟩
  rw [decide_eq_false k1]
  refine ifF (rb_nil (rb_cons (rs_if (rt_cmp op_eq (re_var 2 rfl (re_str ⟨rfl, _, rfl, ?_⟩))))))
  rw [eqK]
  by_cases k2 : wordD d = "pop"
  · rw [decide_eq_true k2]
    have er : rowB d row = if row.drop (row.length - 1) = [entryD d] then some row.dropLast else none := by unfold rowB; rw [if_neg k1, if_pos k2]
    refine ifT (rb_one (rs_ret (re_if (rt_eqT hr.u64 (re_from (re_var 1 rfl (re_un un_neg (re_int ⟨1, rfl, -1, rfl, rp, _, rfl, sq, fun ra H1 e1 h1 => ?_⟩))))))))
    rw [cut_last, List.length_map, ← List.map_drop] at h1
    refine re_tup (ra_cons (re_call c1 hr (ra_cons (re_var 0 rfl (ra_nil ⟨v, d, rfl, hd.mono e1, ⟨hl, .inr k2⟩, fun r H2 e2 h2 => ra_nil ⟨(show 1 ≤ 100000 by decide), fun p H3 hp e3 h3 => ?_⟩⟩)))))
    subst h2
    have e123 := (e1.trans e2).trans e3
    refine ⟨row.drop (row.length - 1), [entryD d], ⟨ra, p, rfl, rfl, Evl.ex_t (e2.trans e3) h1, .inl (.inl h3), fun x hx => ok x (List.mem_of_mem_drop hx), fun x hx => by rw [List.mem_singleton.mp hx]; exact entry_ok d⟩, ifB (fun e => ?_) fun e => ?_⟩
    · refine re_upto (re_var 1 rfl (re_un un_neg (re_int ⟨1, rfl, -1, rfl, rp, _, rfl, Evl.ex_t e123 sq, fun rb H4 e4 h4 => q _ _ (e123.trans e4) ?_⟩)))
      rw [cut_init] at h4
      rw [er, if_pos (of_decide_eq_true e)]
      exact ⟨rb, rfl, by rw [List.map_dropLast]; exact h4⟩
    · refine re_non (q _ _ e123 ?_)
      rw [er, if_neg (of_decide_eq_false e)]; rfl
  rw [decide_eq_false k2]
  refine ifF (rb_nil (rb_cons (rs_if (rt_cmp op_eq (re_var 2 rfl (re_str ⟨rfl, _, rfl, ?_⟩))))))
  rw [eqK]
  by_cases k3 : wordD d = "read"
  · rw [decide_eq_true k3]
    have er : rowB d row = if hasV row (natD (partD 2 d)) = true then some row else none := by unfold rowB; rw [if_neg k1, if_neg k2, if_pos k3]
    refine ifT (rb_one (rs_ret (re_if (rt_val (re_call c2 hr (ra_cons (re_var 1 rfl (ra_cons (re_part2 (re_var 0 rfl ⟨d, _, _, _, hd, hl, k3, form_read, rfl, fun u hu hf => ?_⟩))))))))))
    rw [fits_entry hf] at hu
    cases hu
    refine ra_nil ⟨rp, row, natD (partD 2 d), rfl, sq, fun r H1 e1 h1 => ⟨_, h1, ifB (fun e => ?_) fun e => ?_⟩⟩
    · exact re_var 1 rfl (q _ _ e1 (by rw [er, if_pos e]; exact ⟨rp, rfl, Evl.ex_t e1 sq⟩))
    · exact re_non (q _ _ e1 (by rw [er, if_neg (by rw [e]; exact Bool.false_ne_true)]; rfl))
  rw [decide_eq_false k3]
  refine ifF (rb_nil (rb_cons (rs_if (rt_cmp op_eq (re_var 2 rfl (re_str ⟨rfl, _, rfl, ?_⟩))))))
  rw [eqK]
  by_cases k4 : wordD d = "write"
  · rw [decide_eq_true k4]
    have er : rowB d row = if hasV row (natD (partD 1 d)) = true then some row else none := by unfold rowB; rw [if_neg k1, if_neg k2, if_neg k3, if_pos k4]
    refine ifT (rb_one (rs_ret (re_if (rt_val (re_call c2 hr (ra_cons (re_var 1 rfl (ra_cons (re_part1 (re_var 0 rfl ⟨d, _, _, _, hd, hl, k4, form_write, rfl, fun u hu hf => ?_⟩))))))))))
    rw [fits_entry hf] at hu
    cases hu
    refine ra_nil ⟨rp, row, natD (partD 1 d), rfl, sq, fun r H1 e1 h1 => ⟨_, h1, ifB (fun e => ?_) fun e => ?_⟩⟩
    · exact re_var 1 rfl (q _ _ e1 (by rw [er, if_pos e]; exact ⟨rp, rfl, Evl.ex_t e1 sq⟩))
    · exact re_non (q _ _ e1 (by rw [er, if_neg (by rw [e]; exact Bool.false_ne_true)]; rfl))
  rw [decide_eq_false k4]
  refine ifF (rb_nil (rb_cons (rs_if (rt_in (ws := ["back", "tail"]) (re_var 2 rfl ⟨_, rfl, re_tup (ra_cons (re_str (ra_cons (re_str (ra_nil ⟨(show 2 ≤ 100000 by decide), fun p H1 hp e1 h1 => ⟨p, rfl, .inl (.inl h1), ifB (fun k5 => ?_) fun k5 => ?_⟩⟩)))))⟩)))))
  · have er : rowB d row = if row = [] then some row else none := by unfold rowB; rw [if_neg k1, if_neg k2, if_neg k3, if_neg k4, if_pos (of_decide_eq_true k5)]
    refine rb_one (rs_ret (re_if (rt_eqT hr.u64 (re_var 1 rfl (re_tup (ra_nil ⟨Nat.zero_le _, fun p2 H2 hp2 e2 h2 => ⟨row, [], ⟨rp, p2, rfl, rfl, Evl.ex_t (e1.trans e2) sq, .inl (.inl h2), ok, fun x hx => absurd hx List.not_mem_nil⟩, ifB (fun e => ?_) fun e => ?_⟩⟩))))))
    · exact re_var 1 rfl (q _ _ (e1.trans e2) (by rw [er, if_pos (of_decide_eq_true e)]; exact ⟨rp, rfl, Evl.ex_t (e1.trans e2) sq⟩))
    · exact re_non (q _ _ (e1.trans e2) (by rw [er, if_neg (of_decide_eq_false e)]; rfl))
  · refine rb_nil (rb_one (rs_ret (re_var 1 rfl (q _ _ e1 ?_))))
    unfold rowB
    rw [if_neg k1, if_neg k2, if_neg k3, if_neg k4, if_neg (of_decide_eq_false k5)]
    exact ⟨rp, rfl, Evl.ex_t e1 sq⟩
end
end Fl
end
section
set_option Elab.async false
set_option linter.all false
set_option maxRecDepth 100000
set_option maxHeartbeats 4000000
namespace Fx
open PySem PySem.Spec PyProof.Rows L2
theorem re_dict1 {X : Cx} {kx vx : Expr} {σ : L2.St} {H : Hp} {Q : VK} {pos : Pos} (h : ∀ p, H p = none → RE X kx σ (upd H p (.dK [])) fun x H1 => RE X vx σ H1 fun y H2 => H2 p = some (.dK []) ∧ ∃ k, x = kV k ∧ Q (.ref p) (upd H2 p (.dK [(k, y)]))) : RE X (.Dict [some kx] [vx] pos) σ H Q :=
  re_of (pe_disp (pps_cons pe_RE pe_RE pps_nil) rfl rfl (List.cons_ne_nil _ _) (show 1 ≤ 15 by decide)) (fun p hp => (h p hp).mono fun x H1 q => q.mono fun y H2 ⟨h1, k, ek, q⟩ => ⟨h1, [(k, y)], by rw [ek]; rfl, (show 1 ≤ 15 by decide), q⟩)
end Fx
namespace Fl
open PySem PySem.Spec PyProof.Rows L2 Fx
open Evl (Ex fresh_back)
/-- rows that go together -/
def RowsOk (ds : List PyData) (ρ : Nat → List Str) : Prop := ρ 0 = [] ∧ ∀ i, Reach ds i → ∃ d row, ds[i]? = some d ∧ rowB d (ρ i) = some row ∧ ∀ j ∈ leadsN ds i, ρ j = row
theorem sqt_upd {K : PySem.W.Frag} {H : Hp} {a p : Addr} {xs : List V} {o : HO} (h : SqT K H a xs) (hp : ∀ u, H p = some u → (∀ ys, u ≠ .tup ys) ∧ ∀ ob ys, u ≠ .frz ob (.tup ys)) (hn : H p ≠ none) : SqT K (upd H p o) a xs := by
  rcases h with (h | ⟨ob, h⟩) | h
  · have : a ≠ p := fun z => (hp _ (z ▸ h)).1 _ rfl
    exact .inl (.inl (by rw [upd_ne this]; exact h))
  · have : a ≠ p := fun z => (hp _ (z ▸ h)).2 _ _ rfl
    exact .inl (.inr ⟨ob, by rw [upd_ne this]; exact h⟩)
  · exact .inr h
theorem sqt_dK {K : PySem.W.Frag} {H : Hp} {a p : Addr} {xs : List V} {o : HO} {kvs : List (Key × V)} (h : SqT K H a xs) (hp : H p = some (.dK kvs)) : SqT K (upd H p o) a xs :=
  sqt_upd h (fun u hu => by rw [hp] at hu; cases hu; exact ⟨fun _ z => (by cases z), fun _ _ z => (by cases z)⟩) (by rw [hp]; exact Option.some_ne_none _)
theorem sqt_lst {K : PySem.W.Frag} {H : Hp} {a p : Addr} {xs : List V} {o : HO} {ys : List V} (h : SqT K H a xs) (hp : H p = some (.lst ys)) : SqT K (upd H p o) a xs :=
  sqt_upd h (fun u hu => by rw [hp] at hu; cases hu; exact ⟨fun _ z => (by cases z), fun _ _ z => (by cases z)⟩) (by rw [hp]; exact Option.some_ne_none _)
theorem row_step {d : PyData} {row row' : List Str} (h : rowB d row = some row') : row'.length ≤ row.length + 1 ∧ (rowOk row → rowOk row') := by
  unfold rowB at h
  split at h
  · cases h
    refine ⟨by rw [List.length_append]; exact Nat.le_refl _, fun o w hw => ?_⟩
    rcases List.mem_append.mp hw with z | z
    · exact o w z
    · rw [List.mem_singleton.mp z]; exact entry_ok d
  · split at h
    · split at h
      · cases h
        refine ⟨by rw [List.length_dropLast]; omega, fun o w hw => o w (List.dropLast_subset _ hw)⟩
      · cases h
    · split at h
      · split at h
        · cases h; exact ⟨Nat.le_succ _, fun o => o⟩
        · cases h
      · split at h
        · split at h
          · cases h; exact ⟨Nat.le_succ _, fun o => o⟩
          · cases h
        · split at h
          · split at h
            · cases h; exact ⟨Nat.le_succ _, fun o => o⟩
            · cases h
          · cases h; exact ⟨Nat.le_succ _, fun o => o⟩
/-- what is known of found and todo -/
structure RoI (K : PySem.W.Frag) (ds : List PyData) (H H' : Hp) (fa ta : Addr) (kvs : List (Key × V)) (F T : List Nat) (ρ : Nat → List Str) : Prop where
  ex : Ex H H'
  fat : H' fa = some (.dK kvs)
  tat : H' ta = some (.lst (intsV T))
  keys : kvs.map (·.1) = F.map fun n : Nat => (Sum.inl (n : Int) : Key)
  nd : F.Nodup
  inF : ∀ n ∈ F, n < ds.length ∧ Reach ds n
  inT : ∀ n ∈ T, n ∈ F
  zero : 0 ∈ F
  rows : ∀ n ∈ F, ∃ q, valV kvs (.inl (n : Int)) = some (.ref q) ∧ SqT K H' q ((ρ n).map V.str)
  ok : ∀ n ∈ F, rowOk (ρ n) ∧ (ρ n).length ≤ F.length
  root : ρ 0 = []
  uniq : ∀ ρ', RowsOk ds ρ' → ∀ n ∈ F, ρ' n = ρ n
/-- those behind which all is done -/
def Done (ds : List PyData) (F : List Nat) (ρ : Nat → List Str) (n : Nat) : Prop := ∃ d row, ds[n]? = some d ∧ rowB d (ρ n) = some row ∧ ∀ j ∈ leadsN ds n, j ∈ F ∧ ρ j = row
def rowAt (ρ : Nat → List Str) (g : Nat) (row : List Str) : Nat → List Str := fun n => if n = g then row else ρ n
theorem rowAt_same {ρ g row} : rowAt ρ g row g = row := if_pos rfl
theorem rowAt_ne {ρ g row n} (h : n ≠ g) : rowAt ρ g row n = ρ n := if_neg h
theorem asc_eq : ∀ {R S : List Nat}, R.Pairwise (· < ·) → S.Pairwise (· < ·) → (∀ n, n ∈ R ↔ n ∈ S) → R = S
  | [], [], _, _, _ => rfl
  | [], b :: S, _, _, h => absurd ((h b).mpr List.mem_cons_self) List.not_mem_nil
  | a :: R, [], _, _, h => absurd ((h a).mp List.mem_cons_self) List.not_mem_nil
  | a :: R, b :: S, h1, h2, h => by
    have p1 := List.pairwise_cons.mp h1
    have p2 := List.pairwise_cons.mp h2
    have e : a = b := by
      rcases List.mem_cons.mp ((h a).mp List.mem_cons_self) with z | z
      · exact z
      · rcases List.mem_cons.mp ((h b).mpr List.mem_cons_self) with y | y
        · exact y.symm
        · have := p2.1 a z
          have := p1.1 b y
          omega
    subst e
    congr 1
    refine asc_eq p1.2 p2.2 fun n => ⟨fun z => ?_, fun z => ?_⟩
    · rcases List.mem_cons.mp ((h n).mp (List.mem_cons_of_mem _ z)) with y | y
      · have := p1.1 n z; omega
      · exact y
    · rcases List.mem_cons.mp ((h n).mpr (List.mem_cons_of_mem _ z)) with y | y
      · have := p2.1 n z; omega
      · exact y
theorem val_map (g : Nat → V) (y : Nat) : ∀ {R : List Nat}, y ∈ R → valV (R.map fun n : Nat => ((Sum.inl (n : Int) : Key), g n)) (.inl (y : Int)) = some (g y)
  | [], h => absurd h List.not_mem_nil
  | a :: R, h => by
    unfold valV
    rw [List.map_cons, List.find?_cons]
    by_cases e : a = y
    · subst e
      rw [decide_eq_true rfl]; rfl
    · rw [show decide (((Sum.inl (a : Int) : Key), g a).1 = Sum.inl (y : Int)) = false from decide_eq_false fun z => e (Int.ofNat.inj (Sum.inl.inj z))]
      exact val_map g y ((List.mem_cons.mp h).resolve_left fun z => e z.symm)
theorem Done.mono {ds : List PyData} {F F' : List Nat} {ρ ρ' : Nat → List Str} {n : Nat} (h : Done ds F ρ n) (hn : n ∈ F) (hF : ∀ k ∈ F, k ∈ F' ∧ ρ' k = ρ k) : Done ds F' ρ' n := by
  obtain ⟨d, row, h1, h2, h3⟩ := h
  refine ⟨d, row, h1, by rw [(hF n hn).2]; exact h2, fun j hj => ?_⟩
  obtain ⟨z, e⟩ := h3 j hj
  exact ⟨(hF j z).1, by rw [(hF j z).2]; exact e⟩
theorem key_F {kvs : List (Key × V)} {F : List Nat} (h : kvs.map (·.1) = F.map fun n : Nat => (Sum.inl (n : Int) : Key)) (y : Nat) : (valV kvs (.inl (y : Int))).isSome = decide (y ∈ F) := by
  rw [Bool.eq_iff_iff, val_iff, decide_eq_true_eq, h]
  refine ⟨fun z => ?_, fun z => List.mem_map.mpr ⟨y, z, rfl⟩⟩
  obtain ⟨n, hn, en⟩ := List.mem_map.mp z
  have : n = y := Int.ofNat.inj (Sum.inl.inj en)
  exact this ▸ hn
section
variable {P : Program} {w : World} {K : PySem.W.Frag} {mg : Str → Option Value} {base : Heap} {f : Addr} {fd : FuncData}
abbrev nm_rows_of : List Str := ["lines", "ways", "found", "todo", "at", "row", "goal"]
theorem sc_rows_of : FnScope nm_rows_of ["lines", "ways"] (defScope s_rows_of) := ⟨rfl, rfl, rfl, by decide +kernel, rfl, by decide +kernel, by decide +kernel⟩
structure RowsAt (K : PySem.W.Frag) (H : Hp) (p : Addr) (R : List Nat) (ρ : Nat → List Str) (rf : Nat → Addr) : Prop where
  at_ : H p = some (.dK (R.map fun n : Nat => ((Sum.inl (n : Int) : Key), V.ref (rf n))))
  val : ∀ n ∈ R, SqT K H (rf n) ((ρ n).map V.str)
def sp_rows_of (K : PySem.W.Frag) : Sp := fun vs H Q _ => ∃ v d wp R vf, vs = [v, .ref wp] ∧ D K H v d ∧ Good d ∧ Ways (itemsD d) H wp R vf ∧
  (∀ H', Ex H H' → (¬ ∃ ρ, RowsOk (itemsD d) ρ) → Q .non H') ∧ ∀ p H' ρ rf, Ex H H' → RowsOk (itemsD d) ρ → RowsAt K H' p R ρ rf → Q (.ref p) H'
theorem ok_rows_of (F : Fun K "rows_of" "rows_of" s_rows_of f fd) (G : Gb mg) (c1 : Cl P w K mg base CX0 2 "_row_behind" (sp_row_behind K)) : FnOk P w K mg base CX0 3 f fd ["lines", "ways"] (sp_rows_of K) := by
  refine F.ok sc_rows_of (fun vs H Q E h => ?_) (fun cdv A outer s H vs Q E hr h => ⟨RB _ _, pss_RB, ?_⟩)
  · obtain ⟨_, _, _, _, _, rfl, _⟩ := h; rfl
  obtain ⟨v, d, wp, R, vf, rfl, hd, g, W, qN, qD⟩ := h
  have lt := fun {i j : Nat} (h : j ∈ leadsN (itemsD d) i) => leads_lt g h
  have h0 := g.pos
  have h60 := g.len
  have gok := g.ok
  generalize eds : itemsD d = ds at *
  refine rb_cons (rs_set 2 (by exact sc_rows_of.nd) (re_dict1 fun fa hfa => re_int (re_tup (ra_nil ⟨Nat.zero_le _, fun t H1 ht e1 h1 => ⟨e1 _ _ upd_same, .inl 0, rfl, ?_⟩⟩))))
  have eH1 : Ex H H1 := (Ex.new hfa).trans e1
  have ntf : t ≠ fa := fun z => by rw [z, upd_same] at ht; exact (Option.some_ne_none _ ht).elim
  refine rb_cons (rs_set 3 (by exact sc_rows_of.nd) (re_lst (ra_cons (re_int (ra_nil ⟨(show 1 ≤ 100000 by decide), fun ta H3 hta e3 h3 => ?_⟩)))))
  have eH2 : Ex H (upd H1 fa (.dK [(Sum.inl 0, V.ref t)])) := ex_mut eH1 hfa
  have hfa2 : upd H1 fa (.dK [(Sum.inl 0, V.ref t)]) fa = some (.dK [(Sum.inl 0, V.ref t)]) := upd_same
  have ht2 : upd H1 fa (.dK [(Sum.inl 0, V.ref t)]) t = some (.tup []) := by rw [upd_ne ntf]; exact h1
  have nta : H ta = none := fresh_back eH2 hta
  have nft : fa ≠ ta := fun z => by rw [← z, hfa2] at hta; exact (Option.some_ne_none _ hta).elim
  refine rb_cons ?_
  refine rs_while (m0 := 2 * (ds.length - 1) + 1) PassesOwn.never (fun m σ' H' => ∃ A' B' C' kvs F T ρ, σ' = [some v, some (.ref wp), some (.ref fa), some (.ref ta), A', B', C'] ∧ RoI K ds H H' fa ta kvs F T ρ ∧ (∀ n ∈ F, n ∈ T ∨ Done ds F ρ n) ∧ m = 2 * (ds.length - F.length) + T.length ∧ m ≤ 121) ?_ ?_
  · refine ⟨none, none, none, [(Sum.inl 0, V.ref t)], [0], [0], fun _ => [], rfl, ⟨eH2.trans e3, e3 _ _ hfa2, h3, rfl, List.pairwise_singleton _ _, fun n hn => ?_, fun n hn => hn, List.mem_cons_self, fun n hn => ?_, fun n hn => ⟨fun w hw => absurd hw List.not_mem_nil, Nat.zero_le _⟩, rfl, fun ρ' h n hn => ?_⟩, fun n hn => .inl hn, rfl, by omega⟩
    · obtain rfl := List.mem_singleton.mp hn
      exact ⟨h0, .zero⟩
    · obtain rfl := List.mem_singleton.mp hn
      exact ⟨t, rfl, .inl (.inl (e3 _ _ ht2))⟩
    · obtain rfl := List.mem_singleton.mp hn
      exact h.1
  · rintro m σ' H' ⟨A', B', C', kvs, F, T, ρ, rfl, I, done, hm, hm121⟩
    refine rt_lst (re_var 3 rfl ⟨ta, _, rfl, SqL.of I.tat, ifB (fun e => ?_) fun e => ?_⟩)
    · refine ⟨fun σ'' H'' => ∃ m', m' < m ∧ ∃ A' B' C' kvs F T ρ, σ'' = [some v, some (.ref wp), some (.ref fa), some (.ref ta), A', B', C'] ∧ RoI K ds H H'' fa ta kvs F T ρ ∧ (∀ n ∈ F, n ∈ T ∨ Done ds F ρ n) ∧ m' = 2 * (ds.length - F.length) + T.length ∧ m' ≤ 121, fun _ _ h => h, ?_⟩
      obtain ⟨T', y, rfl⟩ : ∃ T' y, T = T' ++ [y] := by
        rcases List.eq_nil_or_concat T with z | ⟨T', y, z⟩
        · rw [z] at e; exact absurd e (by decide)
        · exact ⟨T', y, by rw [z, List.concat_eq_append]⟩
      have hyF := I.inT y (List.mem_append_right _ (List.mem_singleton.mpr rfl))
      obtain ⟨hylt, hyr⟩ := I.inF y hyF
      have hyR := (W.mem y).mpr hyr
      obtain ⟨dy, hdy⟩ : ∃ dy, ds[y]? = some dy := ⟨_, List.getElem?_eq_getElem hylt⟩
      have hldy := gok dy (List.mem_of_getElem? hdy)
      have hFl := nodup_bound ds.length F I.nd fun x hx => (I.inF x hx).1
      refine rb_cons (rs_set 4 (by exact sc_rows_of.nd) (re_pop (re_var 3 rfl ⟨ta, intsV T', .int (y : Nat), rfl, by rw [I.tat]; unfold intsV; rw [List.map_append]; rfl, ?_⟩)))
      have I1 : RoI K ds H (upd H' ta (.lst (intsV T'))) fa ta kvs F T' ρ := ⟨ex_mut I.ex nta, by rw [upd_ne nft]; exact I.fat, upd_same, I.keys, I.nd, I.inF, fun n hn => I.inT n (List.mem_append_left _ hn), I.zero, fun n hn => by
        obtain ⟨q, h1, h2⟩ := I.rows n hn
        exact ⟨q, h1, sqt_lst h2 I.tat⟩, I.ok, I.root, I.uniq⟩
      rw [List.length_append, List.length_singleton] at hm
      have done1 : ∀ n ∈ F, n ≠ y → n ∈ T' ∨ Done ds F ρ n := fun n hn hy => by
        rcases done n hn with z | z
        · rcases List.mem_append.mp z with z | z
          · exact .inl z
          · exact absurd (List.mem_singleton.mp z) hy
        · exact .inr z
      clear done I
      generalize upd H' ta (.lst (intsV T')) = Ha at *
      obtain ⟨qy, hvy, hsy⟩ := I1.rows y hyF
      refine rb_cons (rs_set 5 (by exact sc_rows_of.nd) (re_call c1 hr (ra_cons (re_ixD (re_var 0 rfl (re_var 4 rfl ⟨d, y, dy, hd.mono I1.ex, g.isl, rfl, by rw [eds]; exact hdy, fun u hu => ra_cons (re_dget (hu_of hr) (re_var 2 rfl (re_var 4 rfl ⟨fa, kvs, .inl (y : Int), _, rfl, I1.fat, rfl, hvy, ra_nil ⟨u, dy, qy, ρ y, rfl, hu, hldy, hsy, Nat.le_trans (I1.ok y hyF).2 (by omega), (I1.ok y hyF).1, fun r H4 e4 h4 => ?_⟩⟩)))⟩))))))
      have I4 : RoI K ds H H4 fa ta kvs F T' ρ := ⟨I1.ex.trans e4, e4 _ _ I1.fat, e4 _ _ I1.tat, I1.keys, I1.nd, I1.inF, I1.inT, I1.zero, fun n hn => by
        obtain ⟨q, h1, h2⟩ := I1.rows n hn
        exact ⟨q, h1, Evl.ex_t e4 h2⟩, I1.ok, I1.root, I1.uniq⟩
      refine rb_cons (rs_if (rt_cmp op_isN (re_var 5 rfl (re_non ⟨rfl, _, rfl, ?_⟩))))
      cases hrow : rowB dy (ρ y) with
      | none =>
        rw [hrow] at h4
        obtain rfl : r = .non := h4
        rw [decide_eq_true rfl]
        refine ifT (rb_one (rs_ret (re_non (qN _ I4.ex ?_))))
        rintro ⟨ρ', hρ⟩
        obtain ⟨d', row', h1, h2, h3⟩ := hρ.2 y hyr
        obtain rfl := Option.some.inj (h1.symm.trans hdy)
        rw [I4.uniq ρ' hρ y hyF, hrow] at h2
        cases h2
      | some row =>
      rw [hrow] at h4
      obtain ⟨rp, rfl, hrp⟩ := h4
      rw [decide_eq_false (fun z => nomatch z)]
      obtain ⟨rl, ro⟩ := row_step hrow
      have ro := ro (I4.ok y hyF).1
      have rl : row.length ≤ F.length + 1 := Nat.le_trans rl (Nat.add_le_add_right (I4.ok y hyF).2 1)
      have must : ∀ ρ', RowsOk ds ρ' → ∀ j ∈ leadsN ds y, ρ' j = row := fun ρ' h j hj => by
        obtain ⟨d', row', h1, h2, h3⟩ := h.2 y hyr
        obtain rfl := Option.some.inj (h1.symm.trans hdy)
        rw [I4.uniq ρ' h y hyF, hrow] at h2
        obtain rfl := Option.some.inj h2
        exact h3 j hj
      refine ifF (rb_nil (rb_one ?_))
      refine rs_for (g := gName 6) PassesOwn.never rfl (pg_name (i := 6) (by exact sc_rows_of.nd) rfl (Or.inl rfl)) good_name ?_
      refine ri_tup (re_dget (hu_of hr) (re_var 1 rfl (re_var 4 rfl ⟨wp, _, .inl (y : Int), .ref (vf y), rfl, I4.ex _ _ W.at_, rfl, val_map (fun n => V.ref (vf n)) y hyR, vf y, intsV (leadsN ds y), rfl, .inl (.inl (I4.ex _ _ (W.val y hyR))), _, _, _, fun k σ' H' => ∃ kvs F' T2 ρ' C2, σ' = [some v, some (.ref wp), some (.ref fa), some (.ref ta), some (.int (y : Nat)), some (.ref rp), C2] ∧ RoI K ds H H' fa ta kvs F' T2 ρ' ∧ SqT K H' rp (row.map V.str) ∧ (∀ n ∈ F, n ∈ F' ∧ ρ' n = ρ n) ∧ F.length ≤ F'.length ∧ (∀ n ∈ F', n ≠ y → n ∈ T2 ∨ Done ds F' ρ' n) ∧ (∀ k' < k, ∀ j, (leadsN ds y)[k']? = some j → j ∈ F' ∧ ρ' j = row) ∧ 2 * (ds.length - F'.length) + T2.length + 1 ≤ m, walk_tup (xs := intsV (leadsN ds y)), ?_, ?_, ?_, ?_⟩)))
      · exact ⟨kvs, F, T', ρ, _, rfl, I4, hrp, fun n hn => ⟨hn, rfl⟩, Nat.le_refl _, done1, fun k' hk => absurd hk (Nat.not_lt_zero _), by omega⟩
      · rintro k σ' H' hk ⟨_, _, _, _, _, _, I5, _⟩
        exact .inl (.inl (I5.ex _ _ (W.val y hyR)))
      · rintro k x σ' Hb Hc hk ⟨kvs5, F5, T5, ρ5, C5, rfl, I5, hrp5, agree, hlen5, done5, all5, m5⟩ ⟨rfl, hx⟩
        unfold intsV at hx
        rw [List.getElem?_map] at hx
        obtain ⟨j, hj, rfl⟩ := Option.map_eq_some_iff.mp hx
        have hjm := List.mem_of_getElem? hj
        have hF5 := nodup_bound ds.length F5 I5.nd fun x hx => (I5.inF x hx).1
        have hk5 : kvs5.length = F5.length := by have := congrArg List.length I5.keys; rw [List.length_map, List.length_map] at this; exact this
        refine rb_one (rs_if (rt_dnin (hu_of hr) (re_var 6 rfl (re_var 2 rfl ⟨fa, kvs5, .inl (j : Int), rfl, I5.fat, rfl, ?_⟩))))
        rw [key_F I5.keys]
        by_cases hjF : j ∈ F5
        · rw [decide_eq_true hjF]
          obtain ⟨qj, hvj, hsj⟩ := I5.rows j hjF
          refine ifF (rb_one (rs_if (rt_neT hr.u64 (re_dget (hu_of hr) (re_var 2 rfl (re_var 6 rfl ⟨fa, kvs5, .inl (j : Int), _, rfl, I5.fat, rfl, hvj, re_var 5 rfl ⟨ρ5 j, row, ⟨qj, rp, rfl, rfl, hsj, hrp5, (I5.ok j hjF).1, ro⟩, ifB (fun e => ?_) fun e => ?_⟩⟩))))))
          · refine rb_one (rs_ret (re_non (qN _ I5.ex ?_)))
            rintro ⟨ρ', hρ⟩
            have : ρ5 j = row := (I5.uniq ρ' hρ j hjF).symm.trans (must ρ' hρ j hjm)
            rw [decide_eq_true this] at e
            exact Bool.noConfusion e
          · have er : ρ5 j = row := by
              by_cases z : ρ5 j = row
              · exact z
              · rw [decide_eq_false z] at e; exact Bool.noConfusion e
            refine rb_nil ⟨kvs5, F5, T5, ρ5, _, rfl, I5, hrp5, agree, hlen5, done5, fun k' hk' i hi => ?_, m5⟩
            by_cases ek : k' = k
            · subst ek
              obtain rfl := Option.some.inj (hi.symm.trans hj)
              exact ⟨hjF, er⟩
            · exact all5 k' (by omega) i hi
        · rw [decide_eq_false hjF]
          have hjlt := lt hjm
          have hjr := hyr.step hjm
          have hnew : (Sum.inl (j : Int) : Key) ∉ kvs5.map (·.1) := fun z => by
            have hs := (val_iff kvs5 (Sum.inl (j : Int))).mpr z
            rw [key_F I5.keys, decide_eq_false hjF] at hs
            exact Bool.noConfusion hs
          have hnd : (F5 ++ [j]).Nodup := List.nodup_append.mpr ⟨I5.nd, List.pairwise_singleton _ _, fun a ha b hb => by
            obtain rfl := List.mem_singleton.mp hb
            exact fun z => hjF (z ▸ ha)⟩
          have hF6 := nodup_bound ds.length (F5 ++ [j]) hnd fun x hx => by
            rcases List.mem_append.mp hx with z | z
            · exact (I5.inF x z).1
            · exact List.mem_singleton.mp z ▸ hjlt
          rw [List.length_append, List.length_singleton] at hF6
          refine ifT (rb_cons (rs_dput (hu_of hr) (re_var 5 rfl (re_var 2 rfl (re_var 6 rfl ⟨fa, kvs5, .inl (j : Int), rfl, I5.fat, rfl, Nat.lt_of_lt_of_le (show kvs5.length < 100000 by omega) (by decide), ?_⟩)))))
          rw [put_new hnew]
          have hT6 : upd Hc fa (.dK (kvs5 ++ [(Sum.inl (j : Int), V.ref rp)])) ta = some (.lst (intsV T5)) := by rw [upd_ne (fun z => nft z.symm)]; exact I5.tat
          refine rb_one (rs_expr (re_append (re_var 3 rfl ⟨ta, rfl, ⟨_, hT6⟩, re_var 6 rfl ⟨_, hT6, ?_, ?_⟩⟩)))
          · unfold intsV
            rw [List.length_map]
            exact Nat.lt_of_lt_of_le (show T5.length < 100000 by omega) (by decide)
          have agree6 : ∀ n ∈ F5, n ∈ F5 ++ [j] ∧ rowAt ρ5 j row n = ρ5 n := fun n hn => ⟨List.mem_append_left _ hn, rowAt_ne fun z => hjF (z ▸ hn)⟩
          refine ⟨kvs5 ++ [(Sum.inl (j : Int), V.ref rp)], F5 ++ [j], T5 ++ [j], rowAt ρ5 j row, _, rfl, ⟨?_, ?_, ?_, ?_, hnd, ?_, ?_, ?_, ?_, ?_, ?_, ?_⟩, ?_, ?_, ?_, ?_, ?_, ?_⟩
          · exact ex_mut (ex_mut I5.ex hfa) nta
          · rw [upd_ne nft]; exact upd_same
          · rw [upd_same]; unfold intsV; rw [List.map_append]; rfl
          · rw [List.map_append, List.map_append, I5.keys]; rfl
          · intro n hn
            rcases List.mem_append.mp hn with z | z
            · exact I5.inF n z
            · obtain rfl := List.mem_singleton.mp z; exact ⟨hjlt, hjr⟩
          · intro n hn
            rcases List.mem_append.mp hn with z | z
            · exact List.mem_append_left _ (I5.inT n z)
            · exact List.mem_append_right _ z
          · exact List.mem_append_left _ I5.zero
          · intro n hn
            rcases List.mem_append.mp hn with z | z
            · obtain ⟨q, h1, h2⟩ := I5.rows n z
              have hnj : n ≠ j := fun y => hjF (y ▸ z)
              refine ⟨q, ?_, ?_⟩
              · rw [← put_new hnew, val_put, if_neg (fun e => hnj (by have e2 : n = j := Int.ofNat.inj (Sum.inl.inj e); exact e2))]; exact h1
              · rw [rowAt_ne hnj]
                exact sqt_lst (sqt_dK h2 I5.fat) hT6
            · obtain rfl := List.mem_singleton.mp z
              refine ⟨rp, ?_, ?_⟩
              · rw [← put_new hnew, val_put, if_pos rfl]
              · rw [rowAt_same]
                exact sqt_lst (sqt_dK hrp5 I5.fat) hT6
          · intro n hn
            rw [List.length_append, List.length_singleton]
            rcases List.mem_append.mp hn with z | z
            · rw [(agree6 n z).2]; exact ⟨(I5.ok n z).1, Nat.le_succ_of_le (I5.ok n z).2⟩
            · obtain rfl := List.mem_singleton.mp z
              rw [rowAt_same]
              exact ⟨ro, by omega⟩
          · rw [(agree6 0 I5.zero).2]; exact I5.root
          · intro ρ' hρ n hn
            rcases List.mem_append.mp hn with z | z
            · rw [(agree6 n z).2]; exact I5.uniq ρ' hρ n z
            · obtain rfl := List.mem_singleton.mp z
              rw [rowAt_same]; exact must ρ' hρ n hjm
          · exact sqt_lst (sqt_dK hrp5 I5.fat) hT6
          · intro n hn
            obtain ⟨h1, h2⟩ := agree n hn
            exact ⟨(agree6 n h1).1, by rw [(agree6 n h1).2]; exact h2⟩
          · rw [List.length_append]; omega
          · intro n hn hny
            rcases List.mem_append.mp hn with z | z
            · rcases done5 n z hny with y | y
              · exact .inl (List.mem_append_left _ y)
              · exact .inr (y.mono z agree6)
            · exact .inl (List.mem_append_right _ z)
          · intro k' hk' i hi
            by_cases ek : k' = k
            · subst ek
              obtain rfl := Option.some.inj (hi.symm.trans hj)
              exact ⟨List.mem_append_right _ (List.mem_singleton.mpr rfl), rowAt_same⟩
            · obtain ⟨h1, h2⟩ := all5 k' (by omega) i hi
              exact ⟨(agree6 i h1).1, by rw [(agree6 i h1).2]; exact h2⟩
          · rw [List.length_append, List.length_append, List.length_singleton]
            omega
      · rintro σ' H' ⟨kvs5, F5, T5, ρ5, C5, rfl, I5, _, agree, hlen5, done5, all5, m5⟩
        refine ⟨2 * (ds.length - F5.length) + T5.length, by omega, _, _, _, kvs5, F5, T5, ρ5, rfl, I5, fun n hn => ?_, rfl, by omega⟩
        by_cases hny : n = y
        · subst hny
          refine .inr ⟨dy, row, hdy, by rw [(agree n hyF).2]; exact hrow, fun j hj => ?_⟩
          obtain ⟨k, hk, rfl⟩ := List.mem_iff_getElem.mp hj
          exact all5 k (by unfold intsV; rw [List.length_map]; exact hk) _ (List.getElem?_eq_getElem hk)
        · exact done5 n hn hny
    · obtain rfl : T = [] := by
        cases T with
        | nil => rfl
        | cons x r => exact absurd (show false = true from e.symm.trans rfl |>.symm ▸ rfl) Bool.false_ne_true
      have done : ∀ n ∈ F, Done ds F ρ n := fun n hn => (done n hn).resolve_left List.not_mem_nil
      have reach : ∀ n, Reach ds n → n ∈ F := fun n hn => by
        induction hn with
        | zero => exact I.zero
        | step _ hj ih =>
          obtain ⟨_, _, _, _, h3⟩ := done _ ih
          exact (h3 _ hj).1
      have rok : RowsOk ds ρ := ⟨I.root, fun i hi => by
        obtain ⟨d', row, h1, h2, h3⟩ := done i (reach i hi)
        exact ⟨d', row, h1, h2, fun j hj => (h3 j hj).2⟩⟩
      have hFl := nodup_bound ds.length F I.nd fun x hx => (I.inF x hx).1
      have hval : ∀ n ∈ F, valV kvs (.inl (n : Int)) = some (.ref (refOf kvs n)) ∧ SqT K H' (refOf kvs n) ((ρ n).map V.str) := fun n hn => by
        obtain ⟨q, h1, h2⟩ := I.rows n hn
        have : refOf kvs n = q := by unfold refOf; rw [h1]
        rw [this]
        exact ⟨h1, h2⟩
      refine rb_one (rs_ret ?_)
      refine re_dc (own := [("at", 4)]) (g := gName 4) rfl (by exact sc_rows_of.nd) (blkOk_by (N := nm_rows_of) (sc := defScope s_rows_of) (by decide +kernel)) (fun _ _ _ _ _ => pg_name (i := 4) (by exact sc_rows_of.nd) rfl (Or.inl rfl)) good_name ?_
      refine ri_list (re_cb (call_sortedDI rfl) G.sorted (ra_cons (re_var 2 rfl (ra_nil ⟨fa, kvs, F.map fun n : Nat => (n : Int), rfl, .inl I.fat, by rw [I.keys, List.map_map]; rfl, by rw [List.length_map]; omega, fun ys p hperm hs hp => ?_⟩))))
      obtain ⟨R', rfl, asc, hlen, hmem⟩ := sorted_nats hperm hs I.nd
      obtain rfl : R' = R := asc_eq asc W.asc fun n => by
        rw [hmem n, W.mem n]
        exact ⟨fun z => (I.inF n z).2, reach n⟩
      have e1p : Ex H' (upd H' p (.lst ((R'.map fun n : Nat => (n : Int)).map V.int))) := Ex.new hp
      refine ⟨p, _, rfl, .inl (.inl upd_same), _, _, _, fun i acc => acc = (R'.take i).map fun n : Nat => ((Sum.inl (n : Int) : Key), V.ref (refOf kvs n)), walk_list, ?_, fun H'' e'' => Evl.ex_l e'' (.inl (.inl upd_same)), rfl, ?_, ?_⟩
      · rw [List.length_map, List.length_map]; omega
      · rintro i x Ha Hb hi ea ⟨rfl, hx⟩
        rw [List.getElem?_map, List.getElem?_map] at hx
        obtain ⟨z, hz, rfl⟩ := Option.map_eq_some_iff.mp hx
        obtain ⟨n, hn, rfl⟩ := Option.map_eq_some_iff.mp hz
        have hnF := (hmem n).mp (List.mem_of_getElem? hn)
        refine ⟨Ex.refl _, rfl, Ex.refl _, fun s0 H0 C cl fp => re_var 4 rfl ⟨Ex.refl _, .inl (n : Int), rfl, fun s0 H0 C cl fp => re_dget (hu_of hr) (re_var 2 rfl (re_var 4 rfl ⟨fa, kvs, .inl (n : Int), _, rfl, ea _ _ (e1p _ _ I.fat), rfl, (hval n hnF).1, Ex.refl _, fun acc hacc => ?_⟩))⟩⟩
        subst hacc
        rw [take_snoc hn, List.map_append]
        refine put_new fun z => ?_
        rw [List.map_map] at z
        obtain ⟨k, hk, ek⟩ := List.mem_map.mp z
        have := asc_take asc hn k hk
        have : k = n := Int.ofNat.inj (Sum.inl.inj ek)
        omega
      · rintro p2 acc Hz hp2 ez hz hl2 rfl
        have eall : Ex H' Hz := e1p.trans ez
        refine qD p2 _ ρ (refOf kvs) (I.ex.trans eall) rok ⟨?_, fun n hn => Evl.ex_t eall (hval n ((hmem n).mp hn)).2⟩
        rw [hz, List.take_of_length_le (by rw [List.length_map, List.length_map]; exact Nat.le_refl _)]
end
end Fl
end
section
set_option Elab.async false
set_option linter.all false
set_option maxRecDepth 100000
set_option maxHeartbeats 4000000
namespace Fx
open PySem PySem.Spec PyProof.Rows L2
open Evl (Ex fresh_back)
section
variable {X : Cx} {e tg : Expr} {σ : L2.St} {H : Hp} {R : It → Hp → Prop} {D : Ends} {pos : Pos}
theorem rs_cont (h : D.ct σ H) : RS X (.Continue pos) D σ H := rs_of ps_continue h
/-- over the keys of a dict, under a lock -/
theorem ri_keys (h : RE X e σ H fun x H1 => ∃ d o kvs, x = .ref d ∧ H1 d = some (.frz o (.dK kvs)) ∧ R (Itk d o kvs) H1) : RI X tg e σ H R :=
  ri_of (pi_keys pe_RE) (h.mono fun x H1 ⟨d, o, kvs, ex, hk, r⟩ => ⟨d, o, ex, .inl ⟨kvs, hk, r⟩⟩)
end
theorem put_map (g : Nat → V) (y : Nat) (v : V) {R : List Nat} (h : y ∈ R) : putK (R.map fun n : Nat => ((Sum.inl (n : Int) : Key), g n)) (.inl (y : Int)) v = R.map fun n : Nat => ((Sum.inl (n : Int) : Key), if n = y then v else g n) := by
  unfold putK
  rw [if_pos (List.any_eq_true.mpr ⟨(Sum.inl (y : Int), g y), List.mem_map.mpr ⟨y, h, rfl⟩, decide_eq_true rfl⟩), List.map_map]
  refine List.map_congr_left fun n _ => ?_
  show (if (Sum.inl (n : Int) : Key) = Sum.inl (y : Int) then ((Sum.inl (n : Int) : Key), v) else (Sum.inl (n : Int), g n)) = (Sum.inl (n : Int), if n = y then v else g n)
  by_cases e : n = y
  · subst e
    rw [if_pos rfl, if_pos rfl]
  · rw [if_neg (fun z => e (by have e2 : n = y := Int.ofNat.inj (Sum.inl.inj z); exact e2)), if_neg e]
end Fx
namespace Fl
open PySem PySem.Spec PyProof.Rows L2 Fx
open Evl (Ex fresh_back)
/-! ### where the link is own -/
/-- not own -/
inductive NotOwn (ds : List PyData) : Nat → Prop
  | call {i j : Nat} {d : PyData} : Reach ds i → ds[i]? = some d → ownB d true = false → j ∈ leadsN ds i → NotOwn ds j
  | step {i j : Nat} {d : PyData} : NotOwn ds i → ds[i]? = some d → ownB d false = false → j ∈ leadsN ds i → NotOwn ds j
abbrev ownV (β : Nat → Bool) (R : List Nat) : List (Key × V) := R.map fun n : Nat => ((Sum.inl (n : Int) : Key), V.bl (β n))
structure OwI (ds : List PyData) (H H' : Hp) (oa ta : Addr) (R T : List Nat) (β : Nat → Bool) : Prop where
  ex : Ex H H'
  oat : H' oa = some (.dK (ownV β R))
  tat : H' ta = some (.lst (intsV T))
  inT : ∀ n ∈ T, n ∈ R
  sound : ∀ n ∈ R, β n = false → NotOwn ds n
def Shut (ds : List PyData) (β : Nat → Bool) (n : Nat) : Prop := ∃ d, ds[n]? = some d ∧ (ownB d (β n) = false → ∀ j ∈ leadsN ds n, β j = false)
def many (β : Nat → Bool) (R : List Nat) : Nat := (R.filter β).length
def offAt (β : Nat → Bool) (g : Nat) : Nat → Bool := fun n => if n = g then false else β n
theorem many_off {β : Nat → Bool} {g : Nat} : ∀ {R : List Nat}, g ∈ R → β g = true → many (offAt β g) R + 1 ≤ many β R
  | [], h, _ => absurd h List.not_mem_nil
  | a :: R, h, hb => by
    have le : ∀ R : List Nat, many (offAt β g) R ≤ many β R := fun R => by
      induction R with
      | nil => exact Nat.le_refl _
      | cons x r ih =>
        unfold many at ih ⊢
        rw [List.filter_cons, List.filter_cons]
        have : offAt β g x = true → β x = true := fun z => by
          unfold offAt at z
          split at z
          · exact absurd z Bool.false_ne_true
          · exact z
        by_cases e : offAt β g x = true
        · rw [if_pos e, if_pos (this e), List.length_cons, List.length_cons]; omega
        · rw [if_neg e]
          split
          · rw [List.length_cons]; omega
          · exact ih
    have lr := le R
    unfold many at lr ⊢
    rw [List.filter_cons, List.filter_cons]
    by_cases e : a = g
    · subst e
      rw [if_pos hb, if_neg (by unfold offAt; rw [if_pos rfl]; exact Bool.false_ne_true), List.length_cons]
      omega
    · have ih := many_off ((List.mem_cons.mp h).resolve_left fun z => e z.symm) hb
      unfold many at ih
      have : offAt β g a = β a := if_neg e
      rw [this]
      split
      · rw [List.length_cons, List.length_cons]; omega
      · exact ih
section
variable {P : Program} {w : World} {K : PySem.W.Frag} {mg : Str → Option Value} {base : Heap} {f : Addr} {fd : FuncData}
abbrev nm_own_indexes : List Str := ["lines", "ways", "at", "own", "todo", "goal"]
theorem sc_own_indexes : FnScope nm_own_indexes ["lines", "ways"] (defScope s_own_indexes) := ⟨rfl, rfl, rfl, by decide +kernel, rfl, by decide +kernel, by decide +kernel⟩
def sp_own_indexes (K : PySem.W.Frag) : Sp := fun vs H Q _ => ∃ v d wp R vf, vs = [v, .ref wp] ∧ D K H v d ∧ Good d ∧ Ways (itemsD d) H wp R vf ∧
  ∀ p H' S, Ex H H' → (∀ n, n ∈ S ↔ n ∈ R ∧ ¬ NotOwn (itemsD d) n) → H' p = some (.tup (intsV S)) → Q (.ref p) H'
theorem ok_own_indexes (F : Fun K "own_indexes" "own_indexes" s_own_indexes f fd) (G : Gb mg) (c1 : Cl P w K mg base CX0 1 "_own_behind" (sp_own_behind K)) : FnOk P w K mg base CX0 2 f fd ["lines", "ways"] (sp_own_indexes K) := by
  refine F.ok sc_own_indexes (fun vs H Q E h => ?_) (fun cdv A outer s H vs Q E hr h => ⟨RB _ _, pss_RB, ?_⟩)
  · obtain ⟨_, _, _, _, _, rfl, _⟩ := h; rfl
  obtain ⟨v, d, wp, R, vf, rfl, hd, g, W, q⟩ := h
  have h60 := g.len
  have gok := g.ok
  generalize eds : itemsD d = ds at *
  have hRn : R.Nodup := W.asc.imp fun {a b} z => Nat.ne_of_lt z
  have hRl := nodup_bound ds.length R hRn W.low
  have wlen : (R.map fun n : Nat => ((Sum.inl (n : Int) : Key), V.ref (vf n))).length = R.length := List.length_map ..
  refine rb_cons (rs_set 3 (by exact sc_own_indexes.nd) (re_lock W.at_ trivial fun od => ?_))
  have hz1 := Ez.lock (od := od) W.at_ (fun o u' z => by cases z)
  refine re_dc (own := [("at", 2)]) (g := gName 2) rfl (by exact sc_own_indexes.nd) (blkOk_by (N := nm_own_indexes) (sc := defScope s_own_indexes) (by decide +kernel)) (fun _ _ _ _ _ => pg_name (i := 2) (by exact sc_own_indexes.nd) rfl (Or.inl rfl)) good_name ?_
  refine ri_keys (re_var 1 rfl ⟨wp, od, _, rfl, upd_same, _, _, _, fun i acc => acc = ownV (fun _ => true) (R.take i), walk_keys, by rw [wlen]; omega, fun H' e => e _ _ upd_same, rfl, ?_, ?_⟩)
  · rintro i x Ha Hb hi ea ⟨rfl, k, u, hk, rfl⟩
    rw [List.getElem?_map] at hk
    obtain ⟨n, hn, ek⟩ := Option.map_eq_some_iff.mp hk
    obtain ⟨rfl, rfl⟩ := Prod.mk.inj ek
    refine ⟨Ex.refl _, rfl, Ex.refl _, fun s0 H0 C cl fp => re_var 2 rfl ⟨Ex.refl _, .inl (n : Int), rfl, fun s0 H0 C cl fp => re_bl ⟨Ex.refl _, fun acc hacc => ?_⟩⟩⟩
    subst hacc
    unfold ownV
    rw [take_snoc hn, List.map_append]
    refine put_new fun z => ?_
    rw [List.map_map] at z
    obtain ⟨k, hk, ek⟩ := List.mem_map.mp z
    have := asc_take W.asc hn k hk
    have : k = n := Int.ofNat.inj (Sum.inl.inj ek)
    omega
  rintro oa acc H2 hoa e2 h2 hl2 rfl
  rw [List.take_of_length_le (by rw [wlen]; exact Nat.le_refl _)] at h2
  have now : oa ≠ wp := fun z => by rw [z, upd_same] at hoa; exact (Option.some_ne_none _ hoa).elim
  refine ⟨e2 _ _ upd_same, ?_⟩
  have eH2 := ex_unlock W.at_ e2
  have noa : H oa = none := by rw [upd_ne now] at hoa; exact hoa
  have h2 : upd H2 wp (.dK (R.map fun n : Nat => ((Sum.inl (n : Int) : Key), V.ref (vf n)))) oa = some (.dK (ownV (fun _ => true) R)) := by rw [upd_ne now]; exact h2
  generalize upd H2 wp (.dK (R.map fun n : Nat => ((Sum.inl (n : Int) : Key), V.ref (vf n)))) = H3 at *
  refine rb_cons (rs_set 4 (by exact sc_own_indexes.nd) (re_ct (call_listD rfl) G.list (ra_cons (re_var 1 rfl (ra_nil ⟨wp, _, rfl, .inl (eH2 _ _ W.at_), fun ta hta => ?_⟩)))))
  have nta : H ta = none := fresh_back eH2 hta
  have not : oa ≠ ta := fun z => by rw [← z, h2] at hta; exact (Option.some_ne_none _ hta).elim
  have e34 : Ex H3 (upd H3 ta (.lst ((R.map fun n : Nat => ((Sum.inl (n : Int) : Key), V.ref (vf n))).map fun kv => kV kv.1))) := Ex.new hta
  have hT : upd H3 ta (.lst ((R.map fun n : Nat => ((Sum.inl (n : Int) : Key), V.ref (vf n))).map fun kv => kV kv.1)) ta = some (.lst (intsV R)) := by rw [upd_same, List.map_map]; rfl
  generalize upd H3 ta (.lst ((R.map fun n : Nat => ((Sum.inl (n : Int) : Key), V.ref (vf n))).map fun kv => kV kv.1)) = H4 at *
  refine rb_cons ?_
  refine rs_while (m0 := 2 * many (fun _ => true) R + R.length) PassesOwn.never (fun m σ' H' => ∃ A' C' T β, σ' = [some v, some (.ref wp), A', some (.ref oa), some (.ref ta), C'] ∧ OwI ds H H' oa ta R T β ∧ (∀ n ∈ R, n ∈ T ∨ Shut ds β n) ∧ m = 2 * many β R + T.length ∧ m ≤ 180) ?_ ?_
  · refine ⟨_, none, R, fun _ => true, rfl, ⟨eH2.trans e34, e34 _ _ h2, hT, fun n hn => hn, fun n hn z => absurd z.symm Bool.false_ne_true⟩, fun n hn => .inl hn, rfl, ?_⟩
    have : many (fun _ => true) R ≤ R.length := List.length_filter_le ..
    omega
  · rintro m σ' H' ⟨A', C', T, β, rfl, I, shut, hm, h180⟩
    refine rt_lst (re_var 4 rfl ⟨ta, _, rfl, SqL.of I.tat, ifB (fun e => ?_) fun e => ?_⟩)
    · refine ⟨fun σ'' H'' => ∃ m', m' < m ∧ ∃ A' C' T β, σ'' = [some v, some (.ref wp), A', some (.ref oa), some (.ref ta), C'] ∧ OwI ds H H'' oa ta R T β ∧ (∀ n ∈ R, n ∈ T ∨ Shut ds β n) ∧ m' = 2 * many β R + T.length ∧ m' ≤ 180, fun _ _ h => h, ?_⟩
      obtain ⟨T', y, rfl⟩ : ∃ T' y, T = T' ++ [y] := by
        rcases List.eq_nil_or_concat T with z | ⟨T', y, z⟩
        · rw [z] at e; exact absurd e (by decide)
        · exact ⟨T', y, by rw [z, List.concat_eq_append]⟩
      have hyR := I.inT y (List.mem_append_right _ (List.mem_singleton.mpr rfl))
      have hyr := (W.mem y).mp hyR
      have hylt := W.low y hyR
      obtain ⟨dy, hdy⟩ : ∃ dy, ds[y]? = some dy := ⟨_, List.getElem?_eq_getElem hylt⟩
      have hldy := gok dy (List.mem_of_getElem? hdy)
      refine rb_cons (rs_set 2 (by exact sc_own_indexes.nd) (re_pop (re_var 4 rfl ⟨ta, intsV T', .int (y : Nat), rfl, by rw [I.tat]; unfold intsV; rw [List.map_append]; rfl, ?_⟩)))
      have I1 : OwI ds H (upd H' ta (.lst (intsV T'))) oa ta R T' β := ⟨ex_mut I.ex nta, by rw [upd_ne not]; exact I.oat, upd_same, fun n hn => I.inT n (List.mem_append_left _ hn), I.sound⟩
      rw [List.length_append, List.length_singleton] at hm
      have shut1 : ∀ n ∈ R, n ≠ y → n ∈ T' ∨ Shut ds β n := fun n hn hy => by
        rcases shut n hn with z | z
        · rcases List.mem_append.mp z with z | z
          · exact .inl z
          · exact absurd (List.mem_singleton.mp z) hy
        · exact .inr z
      clear shut I
      generalize upd H' ta (.lst (intsV T')) = Ha at *
      refine rb_cons (rs_ifJ (fun σ' H' => σ' = [some v, some (.ref wp), some (.int (y : Nat)), some (.ref oa), some (.ref ta), C'] ∧ OwI ds H H' oa ta R T' β ∧ ownB dy (β y) = false) ?_ ?_)
      · refine rt_val (re_call c1 hr (ra_cons (re_ixD (re_var 0 rfl (re_var 2 rfl ⟨d, y, dy, hd.mono I1.ex, g.isl, rfl, by rw [eds]; exact hdy, fun u hu => ra_cons (re_dget (hu_of hr) (re_var 3 rfl (re_var 2 rfl ⟨oa, _, .inl (y : Int), _, rfl, I1.oat, rfl, val_map (fun n => V.bl (β n)) y hyR, ra_nil ⟨u, dy, β y, rfl, hu, hldy, fun r H5 e5 h5 => ⟨_, h5, ifB (fun eb => ?_) fun eb => ?_⟩⟩⟩)))⟩)))))
        · have m1 : OwI ds H H5 oa ta R T' β := ⟨I1.ex.trans e5, e5 _ _ I1.oat, e5 _ _ I1.tat, I1.inT, I1.sound⟩
          refine rb_one (rs_cont ⟨m - 1, by omega, _, _, T', β, rfl, m1, fun n hn => ?_, by omega, by omega⟩)
          by_cases hny : n = y
          · subst hny
            exact .inr ⟨dy, hdy, fun z => absurd (eb.symm.trans z) (fun y => Bool.noConfusion y)⟩
          · exact shut1 n hn hny
        · exact rb_nil ⟨rfl, ⟨I1.ex.trans e5, e5 _ _ I1.oat, e5 _ _ I1.tat, I1.inT, I1.sound⟩, eb⟩
      rintro σ' H5 ⟨rfl, I5, hno⟩
      have bad : ∀ j ∈ leadsN ds y, NotOwn ds j := fun j hj => by
        cases hb : β y with
        | true => rw [hb] at hno; exact .call hyr hdy hno hj
        | false => rw [hb] at hno; exact .step (I5.sound y hyR hb) hdy hno hj
      refine rb_one ?_
      refine rs_for (g := gName 5) PassesOwn.never rfl (pg_name (i := 5) (by exact sc_own_indexes.nd) rfl (Or.inl rfl)) good_name ?_
      refine ri_tup (re_dget (hu_of hr) (re_var 1 rfl (re_var 2 rfl ⟨wp, _, .inl (y : Int), .ref (vf y), rfl, I5.ex _ _ W.at_, rfl, val_map (fun n => V.ref (vf n)) y hyR, vf y, intsV (leadsN ds y), rfl, .inl (.inl (I5.ex _ _ (W.val y hyR))), _, _, _, fun k σ' H' => ∃ C2 T2 β2, σ' = [some v, some (.ref wp), some (.int (y : Nat)), some (.ref oa), some (.ref ta), C2] ∧ OwI ds H H' oa ta R T2 β2 ∧ (∀ n, β2 n = true → β n = true) ∧ (∀ n ∈ R, n ≠ y → n ∈ T2 ∨ Shut ds β2 n) ∧ (y ∈ T2 ∨ β2 y = β y) ∧ (∀ k' < k, ∀ j, (leadsN ds y)[k']? = some j → β2 j = false) ∧ 2 * many β2 R + T2.length + 1 ≤ m, walk_tup (xs := intsV (leadsN ds y)), ?_, ?_, ?_, ?_⟩)))
      · exact ⟨_, T', β, rfl, I5, fun n z => z, shut1, .inr rfl, fun k' hk => absurd hk (Nat.not_lt_zero _), by omega⟩
      · rintro k σ' H' hk ⟨_, _, _, _, I6, _⟩
        exact .inl (.inl (I6.ex _ _ (W.val y hyR)))
      · rintro k x σ' Hb Hc hk ⟨C2, T2, β2, rfl, I6, mono, shut6, hy6, all6, m6⟩ ⟨rfl, hx⟩
        unfold intsV at hx
        rw [List.getElem?_map] at hx
        obtain ⟨j, hj, rfl⟩ := Option.map_eq_some_iff.mp hx
        have hjm := List.mem_of_getElem? hj
        have hjR := (W.mem j).mpr (hyr.step hjm)
        refine rb_one (rs_if (rt_val (re_dget (hu_of hr) (re_var 3 rfl (re_var 5 rfl ⟨oa, _, .inl (j : Int), _, rfl, I6.oat, rfl, val_map (fun n => V.bl (β2 n)) j hjR, _, rfl, ifB (fun eb => ?_) fun eb => ?_⟩)))))
        · refine rb_cons (rs_dput (hu_of hr) (re_bl (re_var 3 rfl (re_var 5 rfl ⟨oa, _, .inl (j : Int), rfl, I6.oat, rfl, ?_, ?_⟩))))
          · unfold ownV
            rw [List.length_map]
            exact Nat.lt_of_lt_of_le (show R.length < 100000 by omega) (by decide)
          have ek : putK (ownV β2 R) (.inl (j : Int)) (.bl false) = ownV (offAt β2 j) R := by
            unfold ownV
            rw [put_map (fun n => V.bl (β2 n)) j (.bl false) hjR]
            refine List.map_congr_left fun n _ => ?_
            unfold offAt
            by_cases e : n = j
            · rw [if_pos e, if_pos e]
            · rw [if_neg e, if_neg e]
          rw [ek]
          have hT6 : upd Hc oa (.dK (ownV (offAt β2 j) R)) ta = some (.lst (intsV T2)) := by rw [upd_ne (fun z => not z.symm)]; exact I6.tat
          have hmany := many_off hjR eb
          refine rb_one (rs_expr (re_append (re_var 4 rfl ⟨ta, rfl, ⟨_, hT6⟩, re_var 5 rfl ⟨_, hT6, ?_, ?_⟩⟩)))
          · unfold intsV
            rw [List.length_map]
            exact Nat.lt_of_lt_of_le (show T2.length < 100000 by omega) (by decide)
          have offle : ∀ n, offAt β2 j n = true → β2 n = true := fun n z => by
            unfold offAt at z
            split at z
            · exact absurd z Bool.false_ne_true
            · exact z
          have offs : ∀ n, β2 n = false → offAt β2 j n = false := fun n z => by
            unfold offAt
            split
            · rfl
            · exact z
          refine ⟨_, T2 ++ [j], offAt β2 j, rfl, ⟨ex_mut (ex_mut I6.ex noa) nta, ?_, ?_, ?_, ?_⟩, fun n z => mono n (offle n z), ?_, ?_, ?_, ?_⟩
          · rw [upd_ne not]; exact upd_same
          · rw [upd_same]; unfold intsV; rw [List.map_append]; rfl
          · intro n hn
            rcases List.mem_append.mp hn with z | z
            · exact I6.inT n z
            · exact List.mem_singleton.mp z ▸ hjR
          · intro n hn z
            by_cases e : n = j
            · rw [e]; exact bad j hjm
            · exact I6.sound n hn (by unfold offAt at z; rw [if_neg e] at z; exact z)
          · intro n hn hny
            by_cases e : n = j
            · exact .inl (List.mem_append_right _ (List.mem_singleton.mpr e))
            · rcases shut6 n hn hny with z | ⟨d', h1, h2⟩
              · exact .inl (List.mem_append_left _ z)
              · refine .inr ⟨d', h1, fun z i hi => offs i (h2 ?_ i hi)⟩
                have : offAt β2 j n = β2 n := if_neg e
                rw [this] at z; exact z
          · by_cases e : y = j
            · exact .inl (List.mem_append_right _ (List.mem_singleton.mpr e))
            · rcases hy6 with z | z
              · exact .inl (List.mem_append_left _ z)
              · exact .inr ((if_neg e).trans z)
          · intro k' hk' i hi
            by_cases ek : k' = k
            · subst ek
              obtain rfl := Option.some.inj (hi.symm.trans hj)
              exact if_pos rfl
            · exact offs i (all6 k' (by omega) i hi)
          · rw [List.length_append, List.length_singleton]; omega
        · refine rb_nil ⟨_, T2, β2, rfl, I6, mono, shut6, hy6, fun k' hk' i hi => ?_, m6⟩
          by_cases ek : k' = k
          · subst ek
            obtain rfl := Option.some.inj (hi.symm.trans hj)
            exact eb
          · exact all6 k' (by omega) i hi
      · rintro σ' H' ⟨C2, T2, β2, rfl, I6, mono, shut6, hy6, all6, m6⟩
        refine ⟨2 * many β2 R + T2.length, by omega, _, _, T2, β2, rfl, I6, fun n hn => ?_, rfl, by omega⟩
        by_cases hny : n = y
        · subst hny
          rcases hy6 with z | z
          · exact .inl z
          · refine .inr ⟨dy, hdy, fun _ i hi => ?_⟩
            obtain ⟨k, hk, rfl⟩ := List.mem_iff_getElem.mp hi
            exact all6 k (by unfold intsV; rw [List.length_map]; exact hk) _ (List.getElem?_eq_getElem hk)
        · exact shut6 n hn hny
    · obtain rfl : T = [] := by
        cases T with
        | nil => rfl
        | cons x r => exact absurd (show false = true from e.symm.trans rfl |>.symm ▸ rfl) Bool.false_ne_true
      have shut : ∀ n ∈ R, Shut ds β n := fun n hn => (shut n hn).resolve_left List.not_mem_nil
      have leadR : ∀ {i j}, Reach ds i → j ∈ leadsN ds i → j ∈ R := fun {i j} hi hj => (W.mem j).mpr (hi.step hj)
      have full : ∀ n, NotOwn ds n → Reach ds n ∧ β n = false := fun n hn => by
        induction hn with
        | call hi hd' ho hj =>
          refine ⟨hi.step hj, ?_⟩
          obtain ⟨d', h1, h2⟩ := shut _ ((W.mem _).mpr hi)
          obtain rfl := Option.some.inj (h1.symm.trans hd')
          refine h2 ?_ _ hj
          rename_i i0 j0
          cases hb : β i0 with
          | true => exact ho
          | false =>
            unfold ownB at ho ⊢
            rw [Bool.or_eq_false_iff] at ho
            rw [ho.1]; rfl
        | step hi hd' ho hj ih =>
          refine ⟨ih.1.step hj, ?_⟩
          obtain ⟨d', h1, h2⟩ := shut _ ((W.mem _).mpr ih.1)
          obtain rfl := Option.some.inj (h1.symm.trans hd')
          exact h2 (by rw [ih.2]; exact ho) _ hj
      refine rb_one (rs_ret (re_ct call_tuple_of G.tuple (ra_cons (re_lock (I.ex _ _ W.at_) trivial fun od2 => ?_))))
      have eI := I.ex
      refine re_lcIf (own := [("at", 2)]) (g := gName 2) rfl (by exact sc_own_indexes.nd) (blkOk_by (N := nm_own_indexes) (sc := defScope s_own_indexes) (by decide +kernel)) (fun _ _ _ _ _ => pg_name (i := 2) (by exact sc_own_indexes.nd) rfl (Or.inl rfl)) good_name ?_
      have now' : oa ≠ wp := now
      refine ri_keys (re_var 1 rfl ⟨wp, od2, _, rfl, upd_same, _, _, _, fun i ys => ys = intsV ((R.take i).filter β), walk_keys, by rw [wlen]; omega, fun H' e => e _ _ upd_same, rfl, ?_, ?_⟩)
      · rintro i x Ha Hb hi ea ⟨rfl, k, u, hk, rfl⟩
        rw [List.getElem?_map] at hk
        obtain ⟨n, hn, ek⟩ := Option.map_eq_some_iff.mp hk
        obtain ⟨rfl, rfl⟩ := Prod.mk.inj ek
        have hnR := List.mem_of_getElem? hn
        refine ⟨Ex.refl _, rfl, Ex.refl _, fun s0 H0 C cl fp => rt_val (re_dget (hu_of hr) (re_var 3 rfl (re_var 2 rfl ⟨oa, _, .inl (n : Int), _, rfl, ea _ _ (by rw [upd_ne now']; exact I.oat), rfl, val_map (fun n => V.bl (β n)) n hnR, _, rfl, Ex.refl _, fun hb s0 H0 C cl fp => re_var 2 rfl ⟨Ex.refl _, fun acc hacc => ?_⟩, fun hb acc hacc => ?_⟩)))⟩
        · subst hacc
          rw [filter_take β hn, if_pos hb]
          unfold intsV
          rw [List.map_append]; rfl
        · subst hacc
          rw [filter_take β hn, if_neg (by rw [hb]; exact Bool.false_ne_true), List.append_nil]
      rintro lp ys Hz hlp ez hz hl3 rfl
      rw [List.take_of_length_le (by rw [wlen]; exact Nat.le_refl _)] at hz
      have nlw : lp ≠ wp := fun z => by rw [z, upd_same] at hlp; exact (Option.some_ne_none _ hlp).elim
      refine ⟨ez _ _ upd_same, ra_nil ⟨lp, _, rfl, .inl ⟨.inl (.inl (by rw [upd_ne nlw]; exact hz)), fun p hp => ?_⟩⟩⟩
      refine q p _ (R.filter β) ((I.ex.trans (ex_unlock (I.ex _ _ W.at_) ez)).trans (Ex.new hp)) (fun n => ?_) upd_same
      rw [List.mem_filter]
      refine ⟨fun z => ⟨z.1, fun y => ?_⟩, fun z => ⟨z.1, ?_⟩⟩
      · rw [(full n y).2] at z; exact Bool.noConfusion z.2
      · cases hb : β n with
        | true => rfl
        | false => exact absurd (I.sound n z.1 hb) z.2
end
end Fl
end
section
set_option Elab.async false
set_option linter.all false
set_option maxRecDepth 100000
set_option maxHeartbeats 4000000
namespace Fx
open PySem PySem.Spec PyProof.Rows L2
open Evl (Ex fresh_back)
theorem atI_last {α : Type} {xs : List α} {v : α} (h : xs[xs.length - 1]? = some v) : atI xs (-1) = some v := by
  have hl : 0 < xs.length := by
    cases xs with
    | nil => simp at h
    | cons x r => exact Nat.succ_pos _
  unfold atI
  have : ixN xs.length (-1) = some (xs.length - 1) := by
    unfold ixN
    rw [if_neg (by decide), if_pos (by omega)]
    congr 1
    omega
  rw [this]
  exact h
section
variable {X : Cx} {a b : Expr} {σ : L2.St} {H : Hp} {Q : VK} {pos : Pos}
/-- the last item -/
theorem re_ixLast (h : RE X a σ H fun x H1 => RE X b σ H1 fun y H2 => ∃ d dx, D X.K H2 x d ∧ (isL d || isT d) = true ∧ y = .int (-1) ∧ (itemsD d)[(itemsD d).length - 1]? = some dx ∧ ∀ u, D X.K H2 u dx → Q u H2) (hs : PlainIx b := by exact fun _ _ => rfl) : RE X (.Subscript a b pos) σ H Q :=
  re_of (pe_ix ix_lt pe_RE pe_RE hs) (h.mono fun x H1 q0 => q0.mono fun y H2 ⟨d, dx, hd, hl, ey, hi, q⟩ => by
    clear q0
    cases hd with
    | lst sq ha =>
      obtain ⟨u, hu, hud⟩ := ha.get hi
      exact ⟨_, _, _, u, rfl, ey, .inl sq, atI_last (by rw [ha.length]; exact hu), q u hud⟩
    | tup sq ha =>
      obtain ⟨u, hu, hud⟩ := ha.get hi
      exact ⟨_, _, _, u, rfl, ey, .inr sq, atI_last (by rw [ha.length]; exact hu), q u hud⟩
    | _ => exact absurd (show false = true from hl) Bool.false_ne_true)
end
end Fx
namespace Fl
open PySem PySem.Spec PyProof.Rows L2 Fx
open Evl (Ex fresh_back)
/-! ### tidiness -/
def endL : List Str := ["jump", "back", "tail", "stop"]
structure Tidy (ds : List PyData) (bare : Bool) : Prop where
  last : Reach ds (ds.length - 1) → ∃ d, ds[ds.length - 1]? = some d ∧ wordD d ∈ endL
  rows : bare = false → ∃ ρ, RowsOk ds ρ
  link : bare = false → ∀ i d, Reach ds i → ds[i]? = some d → needsB d = true → ¬ NotOwn ds i
section
variable {P : Program} {w : World} {K : PySem.W.Frag} {mg : Str → Option Value} {base : Heap} {f : Addr} {fd : FuncData}
abbrev nm_is_tidy : List Str := ["lines", "bare", "ways", "own", "at"]
theorem sc_is_tidy : FnScope nm_is_tidy ["lines", "bare"] (defScope s_is_tidy) := ⟨rfl, rfl, rfl, by decide +kernel, rfl, by decide +kernel, by decide +kernel⟩
def sp_is_tidy (K : PySem.W.Frag) : Sp := fun vs H Q _ => ∃ v d b, vs = [v, .bl b] ∧ D K H v d ∧ Good d ∧ ∀ k H', Ex H H' → (k = true ↔ Tidy (itemsD d) b) → Q (.bl k) H'
theorem ok_is_tidy (F : Fun K "is_tidy" "is_tidy" s_is_tidy f fd) (G : Gb mg) (T : Frm2 K w mg) (c1 : Cl P w K mg base CX0 2 "reached_ways" (sp_reached_ways K)) (c2 : Cl P w K mg base CX0 3 "rows_of" (sp_rows_of K)) (c3 : Cl P w K mg base CX0 2 "own_indexes" (sp_own_indexes K))
    (c4 : Cl P w K mg base CX0 1 "_needs_own" (sp_needs_own K)) : FnOk P w K mg base CX0 4 f fd ["lines", "bare"] (sp_is_tidy K) := by
  refine F.ok sc_is_tidy (fun vs H Q E h => ?_) (fun cdv A outer s H vs Q E hr h => ⟨RB _ _, pss_RB, ?_⟩)
  · obtain ⟨_, _, _, rfl, _⟩ := h; rfl
  obtain ⟨v, d, b, rfl, hd, g, q⟩ := h
  obtain ⟨ea, mE, hE⟩ := T.endW
  have h0 := g.pos
  have h60 := g.len
  have gok := g.ok
  have edl : dlen d = (itemsD d).length := by
    cases d with
    | list _ => rfl
    | tuple _ => rfl
    | _ => exact absurd (show false = true from g.isl) Bool.false_ne_true
  refine rb_cons (rs_set 2 (by exact sc_is_tidy.nd) (re_call c1 hr (ra_cons (re_var 0 rfl (ra_nil ⟨v, d, rfl, hd, g, fun r H1 e1 h1 => ?_⟩)))))
  obtain ⟨wp, R, vf, rfl, W⟩ := h1
  have gg := g
  generalize eds : itemsD d = ds at *
  have W1 : Ways ds H1 wp R vf := W
  clear W
  have keyR : ∀ n : Nat, (valV (R.map fun n : Nat => ((Sum.inl (n : Int) : Key), V.ref (vf n))) (.inl (n : Int))).isSome = decide (n ∈ R) := key_F (by rw [List.map_map]; rfl)
  obtain ⟨dl, hdl⟩ : ∃ dl, ds[ds.length - 1]? = some dl := ⟨_, List.getElem?_eq_getElem (by omega)⟩
  have hll := gok dl (List.mem_of_getElem? hdl)
  refine rb_cons (rs_ifJ (fun σ' H' => σ' = [some v, some (.bl b), some (.ref wp), none, none] ∧ Ex H1 H' ∧ (Reach ds (ds.length - 1) → ∃ d, ds[ds.length - 1]? = some d ∧ wordD d ∈ endL)) ?_ ?_)
  · refine rt_w (rw_and (rt_din (hu_of hr) (re_op op_sub (re_cb call_len G.len (ra_cons (re_var 0 rfl (ra_nil ⟨_, dlen d, rfl, (hd.mono e1).lenV g.isl, re_int ⟨_, _, rfl, rfl, re_var 2 rfl ⟨wp, _, .inl ((ds.length - 1 : Nat) : Int), rfl, W1.at_, ?_, ?_⟩⟩⟩)))))))
    · exact congrArg V.int (by rw [edl]; omega)
    rw [keyR]
    refine ifB (fun e => ?_) fun e => ?_
    · refine rw_and1 (rt_nin (ws := endL) (re_word (re_ixLast (re_var 0 rfl (re_un un_neg (re_int ⟨1, rfl, d, dl, hd.mono e1, g.isl, rfl, by rw [eds]; exact hdl, fun u hu => ⟨dl, hu, hll, _, rfl, re_glob (v := .ref ea) mE rfl ⟨ea, rfl, hE _, ifB (fun e2 => ?_) fun e2 => ?_⟩⟩⟩))))))
      · refine rb_one (rs_ret (re_bl (q false _ e1 ⟨fun z => Bool.noConfusion z, fun t => ?_⟩)))
        obtain ⟨d', h1, h2⟩ := t.last ((W1.mem _).mp (of_decide_eq_true e))
        obtain rfl := Option.some.inj (h1.symm.trans hdl)
        rw [decide_eq_true h2] at e2
        exact Bool.noConfusion e2
      · refine rb_nil ⟨rfl, Ex.refl _, fun _ => ⟨dl, hdl, ?_⟩⟩
        by_cases z : wordD dl ∈ endL
        · exact z
        · rw [decide_eq_false z] at e2; exact Bool.noConfusion e2
    · exact ifF (rb_nil ⟨rfl, Ex.refl _, fun z => absurd ((W1.mem _).mpr z) (of_decide_eq_false e)⟩)
  rintro σ' H2 ⟨rfl, e2, hlast⟩
  have W2 := W1.mono e2
  have e12 := e1.trans e2
  refine rb_cons (rs_if (rt_val (re_var 1 rfl ⟨b, rfl, ifB (fun eb => ?_) fun eb => ?_⟩)))
  · subst eb
    exact rb_one (rs_ret (re_bl (q true _ e12 ⟨fun _ => ⟨hlast, fun z => Bool.noConfusion z, fun z => Bool.noConfusion z⟩, fun _ => rfl⟩)))
  subst eb
  refine rb_nil (rb_cons (rs_if (rt_cmp op_isN (re_call c2 hr (ra_cons (re_var 0 rfl (ra_cons (re_var 2 rfl (ra_nil ⟨v, d, wp, R, vf, rfl, hd.mono e12, gg, by rw [eds]; exact W2, fun H3 e3 hno => ?_, fun p H3 ρ rf e3 hrow _ => ?_⟩)))))))))
  · refine re_non ⟨rfl, _, rfl, ?_⟩
    rw [decide_eq_true rfl]
    rw [eds] at hno
    exact ifT (rb_one (rs_ret (re_bl (q false _ (e12.trans e3) ⟨fun z => Bool.noConfusion z, fun t => absurd (t.rows rfl) hno⟩))))
  refine re_non ⟨rfl, _, rfl, ?_⟩
  rw [decide_eq_false (fun z => nomatch z)]
  rw [eds] at hrow
  have W3 := W2.mono e3
  have e13 := e12.trans e3
  refine ifF (rb_nil (rb_cons (rs_set 3 (by exact sc_is_tidy.nd) (re_call c3 hr (ra_cons (re_var 0 rfl (ra_cons (re_var 2 rfl (ra_nil ⟨v, d, wp, R, vf, rfl, hd.mono e13, gg, by rw [eds]; exact W3, fun op H4 S e4 hS hop => ?_⟩)))))))))
  rw [eds] at hS
  have W4 := W3.mono e4
  have e14 := e13.trans e4
  have wlen : (R.map fun n : Nat => ((Sum.inl (n : Int) : Key), V.ref (vf n))).length = R.length := List.length_map ..
  have hRl := nodup_bound ds.length R (W4.asc.imp fun {a b} z => Nat.ne_of_lt z) W4.low
  have need : Nat → Bool := fun n => match ds[n]? with | some d => needsB d | none => false
  refine rb_one (rs_ret (re_cb (cr_all rfl) G.all (ra_cons (re_lock W4.at_ trivial fun od => ?_))))
  have hz := Ez.lock (od := od) W4.at_ (fun o u' z => by cases z)
  have nop : op ≠ wp := fun z => by rw [z, W4.at_] at hop; cases hop
  refine re_lcIf (own := [("at", 4)]) (g := gName 4) rfl (by exact sc_is_tidy.nd) (blkOk_by (N := nm_is_tidy) (sc := defScope s_is_tidy) (by decide +kernel)) (fun _ _ _ _ _ => pg_name (i := 4) (by exact sc_is_tidy.nd) rfl (Or.inl rfl)) good_name ?_
  refine ri_keys (re_var 2 rfl ⟨wp, od, _, rfl, upd_same, _, _, _, fun i ys => ∃ bs : List Bool, ys = bs.map V.bl ∧ (bs.all id = true ↔ ∀ n ∈ R.take i, ∀ d, ds[n]? = some d → needsB d = true → n ∈ S), walk_keys, by rw [wlen]; omega, fun H' e => e _ _ upd_same, ⟨[], rfl, fun _ n hn => absurd hn List.not_mem_nil, fun _ => rfl⟩, ?_, ?_⟩)
  · rintro i x Ha Hb hi ea ⟨rfl, k, u, hk, rfl⟩
    rw [List.getElem?_map] at hk
    obtain ⟨n, hn, ek⟩ := Option.map_eq_some_iff.mp hk
    obtain ⟨rfl, rfl⟩ := Prod.mk.inj ek
    have hnR := List.mem_of_getElem? hn
    obtain ⟨dn, hdn⟩ : ∃ dn, ds[n]? = some dn := ⟨_, List.getElem?_eq_getElem (W4.low n hnR)⟩
    have hln := gok dn (List.mem_of_getElem? hdn)
    have split : ∀ (P : Nat → Prop), (∀ m ∈ R.take (i + 1), P m) ↔ (∀ m ∈ R.take i, P m) ∧ P n := fun P => by
      rw [take_snoc hn]
      refine ⟨fun z => ⟨fun m hm => z m (List.mem_append_left _ hm), z n (List.mem_append_right _ (List.mem_singleton.mpr rfl))⟩, fun z m hm => ?_⟩
      rcases List.mem_append.mp hm with y | y
      · exact z.1 m y
      · rw [List.mem_singleton.mp y]; exact z.2
    have hdz : D K Hb v d := ((hd.mono e14).monoZ hz).mono ea
    refine ⟨Ex.refl _, rfl, Ex.refl _, fun s0 H0 C cl fp => rt_val (re_call c4 hr (ra_cons (re_ixD (re_var 0 rfl (re_var 4 rfl ⟨d, n, dn, hdz, gg.isl, rfl, by rw [eds]; exact hdn, fun u hu => ra_nil ⟨u, dn, rfl, hu, hln, fun r H5 e5 h5 => ⟨_, h5, e5, fun hb s0 H0 C cl fp => ?_, fun hb acc hacc => ?_⟩⟩⟩)))))⟩
    · refine re_cmp op_in_seq (re_var 4 rfl (re_var 3 rfl ⟨op, (S.map fun n : Nat => (n : Int)).map V.int, rfl, .inr (.inl (.inl ?_)), rfl, flat_ints _, Ex.refl _, fun acc hacc => ?_⟩))
      · rw [← intsV_map]
        exact e5 _ _ (ea _ _ (by rw [upd_ne nop]; exact hop))
      · obtain ⟨bs, rfl, hbs⟩ := hacc
        refine ⟨bs ++ [decide (n ∈ S)], ?_, ?_⟩
        · rw [List.map_append]
          congr 1
          show [V.bl (inV (.int (n : Int)) _)] = [V.bl _]
          rw [inV_ints]
          refine congrArg (fun z => [V.bl z]) (decide_eq_decide.mpr ⟨fun z => ?_, fun z => List.mem_map.mpr ⟨n, z, rfl⟩⟩)
          obtain ⟨m, hm, em⟩ := List.mem_map.mp z
          have : m = n := Int.ofNat.inj em
          exact this ▸ hm
        · rw [split, List.all_append, Bool.and_eq_true, hbs]
          refine and_congr Iff.rfl ⟨fun z d' hd' _ => ?_, fun z => ?_⟩
          · have : decide (n ∈ S) = true := by simpa using z
            exact of_decide_eq_true this
          · simpa using z dn hdn hb
    · obtain ⟨bs, rfl, hbs⟩ := hacc
      refine ⟨bs, rfl, ?_⟩
      rw [split, hbs]
      refine ⟨fun z => ⟨z, fun d' hd' hn' => ?_⟩, fun z => z.1⟩
      obtain rfl := Option.some.inj (hd'.symm.trans hdn)
      rw [hb] at hn'
      exact Bool.noConfusion hn'
  · rintro lp ys Hz hlp ez hzz hl3 ⟨bs, rfl, hbs⟩
    rw [List.take_of_length_le (by rw [wlen]; exact Nat.le_refl _)] at hbs
    have nlw : lp ≠ wp := fun z => by rw [z, upd_same] at hlp; exact (Option.some_ne_none _ hlp).elim
    refine ⟨ez _ _ upd_same, ra_nil ⟨lp, bs, rfl, .inl (.inl (by rw [upd_ne nlw]; exact hzz)), q _ _ (e14.trans (ex_unlock W4.at_ ez)) ?_⟩⟩
    rw [hbs]
    refine ⟨fun z => ⟨hlast, fun _ => ⟨ρ, hrow⟩, fun _ i d' hi hd' hn' => ((hS i).mp (z i ((W4.mem i).mpr hi) d' hd' hn')).2⟩, fun t n hn d' hd' hn' => (hS n).mpr ⟨hn, t.link rfl n d' ((W4.mem n).mp hn) hd' hn'⟩⟩
end
end Fl
end
section
set_option Elab.async false
set_option linter.all false
set_option maxRecDepth 100000
set_option maxHeartbeats 4000000
namespace Fx
open PySem PySem.Spec PyProof.Rows L2
open Evl (Ex fresh_back)
section
variable {X : Cx} {elt tg iter : Expr} {σ : L2.St} {H : Hp} {D : Ends} {pos spos py : Pos} {scope : Scope} {own : List (Str × Nat)} {g : TG} {y : Str}
/-- y = [elt for target in iter], y a plain local -/
theorem rs_setLc (i : Nat) (hc : X.calm = true) (hN : X.N.Nodup) (ok : BlkOk X.N X.env.scope scope own) (hg : ∀ s H C cl fp, PG (Blk X scope s H C cl fp) tg g) (gm : GoodG g)
    (h : RI X tg iter σ H fun J H1 => ∃ (n : Nat) (G : Hp → Prop) (Y : Nat → Hp → V → Hp → Prop) (Acc : Nat → List V → Prop), Walk J n G Y ∧ n ≤ 40000 ∧ (∀ H', Ex H1 H' → G H') ∧ Acc 0 [] ∧
      (∀ i x H2 H3, i < n → Ex H1 H2 → Y i H2 x H3 → Ex H2 H3 ∧ g x (wipe σ (own.map (·.2))) H3 fun σ2 H4 => wipe σ2 (own.map (·.2)) = wipe σ (own.map (·.2)) ∧ Ex H3 H4 ∧ ∀ s0 H0 C cl fp,
        RE (Blk X scope s0 H0 C cl fp) elt σ2 H4 fun y H6 => Ex H4 H6 ∧ ∀ acc, Acc i acc → Acc (i + 1) (acc ++ [y])) ∧
      ∀ p ys H2, H1 p = none → Ex H1 H2 → H2 p = some (.lst ys) → ys.length = n → Acc n ys → D.nx (σ.set i (some (.ref p))) H2)
    (hy : X.N[i]? = some y := by rfl) (hyl : List.lookup y X.env.scope.names = some NameKind.local := by rfl) (hsw : swapsWith (.ListComp elt [⟨tg, iter, [], 0⟩] scope pos) (some (.Name y py)) spos.line X.env = pure true := by rfl)
    (hs : ∀ x, foldedSetIterable iter X.env x = pure x := by intro _; rfl) : RS X (.Assign [.Name y py] (.ListComp elt [⟨tg, iter, [], 0⟩] scope pos) spos) D σ H := by
  refine rs_of (ps_setLc (i := i) (own := own) (g := g) (tt := tYes) (te := fun σ H Q => ∀ s0 H0 C cl fp, RE (Blk X scope s0 H0 C cl fp) elt σ H Q) hc hN hy hyl hsw pi_RI ok hg (fun _ _ _ _ _ => pts_nil) (fun s H C cl fp => ⟨fun pins s' σ H' Q I q => (q s H C cl fp).run pins s' I⟩) hs) ?_
  refine h.mono fun J H1 ⟨n, G, Y, Acc, w, hn, hG, h0, turn, fin⟩ Dl hD => ?_
  refine lc_it w (g := g) (tt := tYes) (te := fun σ H Q => ∀ s0 H0 C cl fp, RE (Blk X scope s0 H0 C cl fp) elt σ H Q) (fun i H' => Ex H1 H' ∧ ∃ acc, H' Dl = some (.lst acc) ∧ acc.length = i ∧ Acc i acc)
    ⟨Evl.Ex.new hD, [], upd_same, rfl, h0⟩ (fun i H' _ p => hG H' p.1) (fun i x H2 H3 hi p y => ?_) fun H' ⟨e, acc, a1, a2, a3⟩ => fin Dl acc H' hD e a1 a2 a3
  obtain ⟨e2, acc, a1, a2, a3⟩ := p
  obtain ⟨e3, t⟩ := turn i x H2 H3 hi e2 y
  refine gm _ _ _ _ _ (fun σ2 H4 ⟨hw, e4, t⟩ => ⟨hw, ?_⟩) t
  simp only [tYes, if_true]
  intro s0 H0 C cl fp
  refine (t s0 H0 C cl fp).mono fun y' H6 ⟨e6, k⟩ => ?_
  have e26 : Ex H2 H6 := (e3.trans e4).trans e6
  exact ⟨acc, e26 _ _ a1, Nat.lt_of_lt_of_le (show acc.length < 100000 by omega) (by decide), ex_mut (e2.trans e26) hD, acc ++ [y'], upd_same, by rw [List.length_append]; simp [a2], k acc a3⟩
end
end Fx
namespace Fl
open PySem PySem.Spec PyProof.Rows L2 Fx
open Evl (Ex fresh_back)
/-! ### lengths -/
structure Short (es : List (PyData × PyData)) : Prop where
  pos : 0 < es.length
  len : es.length ≤ 24
  isl : ∀ e ∈ es, isListD e.2 = true
  each : ∀ e ∈ es, dlen e.2 ≤ 60
  all : (es.map fun e => dlen e.2).sum ≤ 240
theorem sum_cast : ∀ ns : List Nat, (ns.map fun n : Nat => (n : Int)).sum = ((ns.sum : Nat) : Int)
  | [] => rfl
  | n :: r => by
    rw [List.map_cons, List.sum_cons, List.sum_cons, sum_cast r]
    omega
section
variable {P : Program} {w : World} {K : PySem.W.Frag} {mg : Str → Option Value} {base : Heap} {f : Addr} {fd : FuncData}
abbrev nm_check_lengths : List Str := ["functions", "lengths", "lines"]
theorem sc_check_lengths : FnScope nm_check_lengths ["functions"] (defScope s_check_lengths) := ⟨rfl, rfl, rfl, by decide +kernel, rfl, by decide +kernel, by decide +kernel⟩
/-- of functions that are short enough -/
def sp_check_lengths (K : PySem.W.Frag) : Sp := fun vs H Q _ => ∃ fa kvs es, vs = [.ref fa] ∧ H fa = some (.dK kvs) ∧ DK K H kvs es ∧ Short es ∧ ∀ H', Ex H H' → Q .non H'
theorem ok_check_lengths (F : Fun K "_check_lengths" "_check_lengths" s_check_lengths f fd) (G : Gb mg) : FnOk P w K mg base CX0 1 f fd ["functions"] (sp_check_lengths K) := by
  refine F.ok sc_check_lengths (fun vs H Q E h => ?_) (fun cdv A outer s H vs Q E hr h => ⟨RB _ _, pss_RB, ?_⟩)
  · obtain ⟨_, _, _, rfl, _⟩ := h; rfl
  obtain ⟨fa, kvs, es, rfl, hfa, hk, sh, q⟩ := h
  have hlen := hk.length
  have h24 := sh.len
  refine rb_cons ?_
  refine rs_setLc 1 (own := [("lines", 2)]) (g := gName 2) rfl (by exact sc_check_lengths.nd) (blkOk_by (N := nm_check_lengths) (sc := defScope s_check_lengths) (by decide +kernel)) (fun _ _ _ _ _ => pg_name (i := 2) (by exact sc_check_lengths.nd) rfl (Or.inl rfl)) good_name ?_
  refine ri_list (re_listVals rfl G.list (re_var 0 rfl ⟨fa, kvs, rfl, hfa, fun p H2 hp e2 h2 => ⟨p, kvs.map (·.2), rfl, .inl (.inl h2), _, _, _, fun i ys => ys = intsV ((es.take i).map fun e => dlen e.2), walk_list, by rw [List.length_map]; omega, fun H' e' => Evl.ex_l e' (.inl (.inl h2)), rfl, ?_, ?_⟩⟩))
  · rintro i x Ha Hb hi ea ⟨rfl, hx⟩
    rw [List.getElem?_map] at hx
    obtain ⟨⟨k, u⟩, hku, rfl⟩ := Option.map_eq_some_iff.mp hx
    obtain ⟨du, hdu, hud⟩ := hk.getV hku
    refine ⟨Ex.refl _, rfl, Ex.refl _, fun s0 H0 C cl fp => re_cb call_len G.len (ra_cons (re_var 2 rfl (ra_nil ⟨_, dlen du, rfl, (hud.mono (e2.trans ea)).lenV (sh.isl _ (List.mem_of_getElem? hdu)), Ex.refl _, fun acc hacc => ?_⟩)))⟩
    subst hacc
    rw [take_snoc hdu, List.map_append]
    unfold intsV
    rw [List.map_append]; rfl
  rintro lp ys H3 hlp e3 h3 hl rfl
  rw [List.length_map, hlen, List.take_length] at h3
  have e13 := e2.trans e3
  have hin : SqL K H3 lp (((es.map fun e => dlen e.2).map fun n : Nat => (n : Int)).map V.int) := .inl (.inl (by rw [← intsV_map]; exact h3))
  refine rb_cons (rs_if (rt_cmp op_gt (re_cb (cr_max rfl) G.max (ra_cons (re_var 1 rfl (ra_nil ⟨lp, _, rfl, hin, by rw [List.length_map, List.length_map]; exact sh.pos, fun m hm hmax => re_gint G.lines ⟨_, _, rfl, rfl, _, rfl, ?_⟩⟩))))))
  have hm60 : ¬ (60 : Int) < m := by
    obtain ⟨n, hn, rfl⟩ := List.mem_map.mp hm
    obtain ⟨e, he, rfl⟩ := List.mem_map.mp hn
    have := sh.each e he
    omega
  rw [decide_eq_false hm60]
  refine ifF (rb_nil (rb_one (rs_if (rt_cmp op_gt (re_cb (cr_sum rfl) G.sum (ra_cons (re_var 1 rfl (ra_nil ⟨lp, _, rfl, hin, re_gint G.allL ⟨_, _, rfl, rfl, _, rfl, ?_⟩⟩))))))))
  have hs : ¬ (240 : Int) < ((es.map fun e => dlen e.2).map fun n : Nat => (n : Int)).sum := by
    rw [sum_cast]
    have := sh.all
    omega
  rw [decide_eq_false hs]
  exact ifF (rb_nil (q _ e13))
end
end Fl
end
section
set_option Elab.async false
set_option linter.all false
set_option maxRecDepth 100000
set_option maxHeartbeats 2000000
/-! Raising, classes and their methods, as readings that stand as they are. -/
namespace Fx
open PySem PySem.Spec PyProof.Rows L2
open Evl (Ex fresh_back)
section
variable {X : Cx} {e o value : Expr} {es : List Expr} {σ : L2.St} {H : Hp} {Q : VK} {D : Ends} {f x m : Str} {p p' p2 pos apos : Pos}
theorem rs_raise {W : WX} {t : L2.St → Hp → XK → Prop} (hc : X.calm = true) (tk : Takes X W) (he : PMk X e t) (h : t σ H fun cls d H' => W cls d σ H') : RS X (.Raise (some e) none pos) D σ H := rs_of (ps_raise hc tk he) h
/-- self.f = value in the making of an exception -/
theorem rs_ost (h : RE X value σ H fun y H1 => RE X o σ H1 fun x H2 => ∃ a C : Addr, x = .ref a ∧ OexC X.K C ∧ PySem.W.findIn X.K (.ref C) f = some none ∧
    ((H2 a = some (exo a C none) ∧ ∀ dx, H2 dx = none → dx ≠ a → D.nx σ (upd (upd H2 dx (exd dx [(f, y)])) a (exo a C (some dx)))) ∨
      ∃ (dx : Addr) (fs : List (Str × V)), H2 a = some (exo a C (some dx)) ∧ H2 dx = some (exd dx fs) ∧ fs.length ≤ 900 ∧ D.nx σ (upd H2 dx (exd dx ((f, y) :: fs)))))
    (hs : swapsWith value (some (.Attribute o f p')) pos.line X.env = pure false := by rfl) : RS X (.Assign [.Attribute o f p'] value pos) D σ H := rs_of (ps_ost pe_RE pe_RE hs) h
/-- o.f -/
theorem re_fld (h : RE X o σ H fun x H1 => ∃ a C dx fs v, x = .ref a ∧ H1 a = some (.ins C dx fs) ∧ Cls X.K C ∧ NoAttr X.K C f ∧ fs.lookup f = some v ∧ Q v H1)
    (hb : attributeBase o f X.env (eval o X.env) = eval o X.env := by rfl) : RE X (.Attribute o f pos) σ H Q := re_of (pe_fld pe_RE hb) h
/-- o.f, a constant of the class -/
theorem re_con (h : RE X o σ H fun x H1 => ∃ a C dx fs v u, x = .ref a ∧ H1 a = some (.ins C dx fs) ∧ Cls X.K C ∧ Con X.K C f v u ∧ fs.lookup f = none ∧ Q v H1)
    (hb : attributeBase o f X.env (eval o X.env) = eval o X.env := by rfl) : RE X (.Attribute o f pos) σ H Q := re_of (pe_con pe_RE hb) h
/-- o.f = value -/
theorem rs_fld (h : RE X value σ H fun y H1 => RE X o σ H1 fun x H2 => ∃ a C dx fs, x = .ref a ∧ H2 a = some (.ins C dx fs) ∧ Cls X.K C ∧ NoAttr X.K C f ∧ fs.length < 1000 ∧ D.nx σ (upd H2 a (.ins C dx (putF f y fs))))
    (hs : swapsWith value (some (.Attribute o f p')) pos.line X.env = pure false := by rfl) : RS X (.Assign [.Attribute o f p'] value pos) D σ H := rs_of (ps_fld pe_RE pe_RE hs) h
/-- o.m(e, ..) -/
theorem re_meth {CX : CXT} {k : Nat} {C g : Addr} {fd : FuncData} {ps : List Str} {sp : Sp} {E : XK} {pl : Sem Bool} (c : Cls X.K C) (hm : Meth X.K C m g) (F : FnOk X.prog X.w X.K X.mg X.base CX k g fd ps sp) (hr : Room k X.A) (hb : Binds X.K fd ps []) (hx : Passes CX X E)
    (h : RE X o σ H fun x H1 => ∃ a dx fs, x = .ref a ∧ H1 a = some (.ins C dx fs) ∧ fs.lookup m = none ∧ RA X (e :: es) σ H1 fun vs H2 => sp (x :: vs) H2 Q E)
    (hst : starEach (e :: es) X.env = (false, eval e X.env) :: starEach es X.env := by rfl) (hpl : (backTo pos (starEach es X.env)).any (·.1) = false := by rfl)
    (ht : eval (.Call (.Attribute o m apos) (e :: es) [] pos) X.env = (do
      let ov ← eval o X.env
      standAt apos.atName
      let (f, first) ← holding [ov] (getMethod ov m pl)
      callWith pos f first (backTo pos (starEach (e :: es) X.env)) (backToKw pos (keywordEach [] X.env))) := by rfl) :
    RE X (.Call (.Attribute o m apos) (e :: es) [] pos) σ H Q :=
  re_of (pe_meth pe_RE c hm F hr hb .nil hx pa_RA hst hpl ht) (h.mono fun x H1 ⟨a, dx, fs, h1, h2, h3, h4⟩ => ⟨a, dx, fs, h1, h2, h3, h4.mono fun vs H2 q => by rw [List.append_nil]; exact q⟩)
/-- a property -/
theorem re_prop {CX : CXT} {k : Nat} {C g pr : Addr} {fd : FuncData} {ps : List Str} {sp : Sp} {E : XK} (c : Cls X.K C) (hp : PropOf X.K C f pr g) (F : FnOk X.prog X.w X.K X.mg X.base CX k g fd ps sp) (hr : Room (k + 1) X.A) (hb : Binds X.K fd ps []) (hx : Passes CX X.nox E)
    (h : RE X o σ H fun x H1 => ∃ a dx fs, x = .ref a ∧ H1 a = some (.ins C dx fs) ∧ sp [.ref a] H1 Q E)
    (hbs : attributeBase o f X.env (eval o X.env) = eval o X.env := by rfl) : RE X (.Attribute o f pos) σ H Q := re_of (pe_prop pe_RE c hp F hr hb .nil hx hbs) h
/-- C(e, ..), an own class -/
theorem re_make {CX : CXT} {k : Nat} {C g : Addr} {fd : FuncData} {ps : List Str} {sp : Sp} {E : XK} (M : Mk X.K C g) (F : FnOk X.prog X.w X.K X.mg X.base CX k g fd ps sp) (hr : Room (k + 1) X.A) (hm : X.mg x = some (.ref C)) (hb : Binds X.K fd ps []) (hx : Passes CX X E)
    (h : RA X (e :: es) σ H fun vs H1 => ∀ a dx, H1 a = none → H1 dx = none → dx ≠ a → sp (.ref a :: vs) (upd (upd H1 dx (.own a)) a (.ins C dx [])) (fun v H2 => v = .non ∧ Q (.ref a) H2) E)
    (hg : Gl X x := by rfl) (hdb : (x == ("__debug__" : Str)) = false := by decide) (he : starEach (e :: es) X.env = (false, eval e X.env) :: starEach es X.env := by rfl) (hpl : (backTo pos (starEach es X.env)).any (·.1) = false := by rfl) :
    RE X (.Call (.Name x p) (e :: es) [] pos) σ H Q :=
  re_of (pe_make M F hr hg hm hb .nil hx pa_RA hdb he hpl) (h.mono fun vs H1 q a dx h1 h2 h3 => by rw [List.append_nil]; exact q a dx h1 h2 h3)
/-- x(e, ..), x a local that holds an own class -/
theorem re_makeL {CX : CXT} {k i : Nat} {C g : Addr} {fd : FuncData} {ps : List Str} {sp : Sp} {E : XK} (M : Mk X.K C g) (F : FnOk X.prog X.w X.K X.mg X.base CX k g fd ps sp) (hr : Room (k + 1) X.A) (hb : Binds X.K fd ps []) (hx : Passes CX X E) (hs : σ[i]? = some (some (.ref C)))
    (h : RA X (e :: es) σ H fun vs H1 => ∀ a dx, H1 a = none → H1 dx = none → dx ≠ a → sp (.ref a :: vs) (upd (upd H1 dx (.own a)) a (.ins C dx [])) (fun v H2 => v = .non ∧ Q (.ref a) H2) E)
    (hN : X.N[i]? = some x := by rfl) (hv : Vis X.env.scope x := by first | exact Or.inl rfl | exact Or.inr (Or.inl rfl) | exact Or.inr (Or.inr rfl))
    (hd : (x == ("__debug__" : Str)) = false := by decide) (hcd : (x == ("__classdict__" : Str)) = false := by decide) (he : starEach (e :: es) X.env = (false, eval e X.env) :: starEach es X.env := by rfl) (hpl : (backTo pos (starEach es X.env)).any (·.1) = false := by rfl) :
    RE X (.Call (.Name x p) (e :: es) [] pos) σ H Q := by
  refine RE.made fun pins s I => ?_
  refine wpAny_Call_Name_kw (thn ((pe_var (pos := p) (i := i) hN hv hd hcd).run pins s σ H (fun v H1 => v = .ref C ∧ H1 = H) I ⟨.ref C, hs, rfl, rfl⟩) fun u s1 ⟨v, H1, I1, r1, ev, eH⟩ => ?_)
  subst ev
  subst eH
  obtain rfl : u = Value.ref C := r1
  refine PySem.W.callWith_K (h₀ := X.base) I1.ok.mod.kin M.kp (thn (h.run pos pins s1 I1) fun us s2 ⟨vs, H2, I2, r, q⟩ => ⟨I2.kIn, ?_⟩) he hpl
  exact run_make M F hr hb .nil hx I2 r fun a dx h1 h2 h3 => by rw [List.append_nil]; exact q a dx h1 h2 h3
end
/-- C.m is a staticmethod: its record at q, its def at g -/
structure SMet (K : PySem.W.Frag) (C : Addr) (mc : Value) (m : Str) (q g : Addr) : Prop where
  at_ : PySem.W.findCls K (.ref C) mc m = some (.get (.builtin "staticmethod.__get__") (.ref q) .none (.ref C))
  rc : ∃ rest, PySem.W.recIn K q "staticmethod" = some (.ref g :: rest)
  kp : PySem.W.keepIn K (.ref g) = true
section
variable {X : Cx} {e : Expr} {es : List Expr} {σ : L2.St} {H : Hp} {Q : VK} {x m : Str} {p pos apos : Pos}
/-- C.m(e, ..), m a staticmethod -/
theorem re_smeth {CX : CXT} {k : Nat} {C q g : Addr} {mc : Value} {fd : FuncData} {ps : List Str} {sp : Sp} {E : XK} {pl : Sem Bool} (r : ClX.CRead X.K C mc) (c : SMet X.K C mc m q g) (F : FnOk X.prog X.w X.K X.mg X.base CX k g fd ps sp) (hr : Room k X.A) (hm : X.mg x = some (.ref C)) (hb : Binds X.K fd ps []) (hx : Passes CX X E)
    (h : RA X (e :: es) σ H fun vs H1 => sp vs H1 Q E)
    (hg : Gl X x := by rfl) (hdb : (x == ("__debug__" : Str)) = false := by decide)
    (hst : starEach (e :: es) X.env = (false, eval e X.env) :: starEach es X.env := by rfl) (hpl : (backTo pos (starEach es X.env)).any (·.1) = false := by rfl)
    (ht : eval (.Call (.Attribute (.Name x p) m apos) (e :: es) [] pos) X.env = (do
      let ov ← eval (.Name x p) X.env
      standAt apos.atName
      let (f, first) ← holding [ov] (getMethod ov m pl)
      callWith pos f first (backTo pos (starEach (e :: es) X.env)) (backToKw pos (keywordEach [] X.env))) := by rfl) :
    RE X (.Call (.Attribute (.Name x p) m apos) (e :: es) [] pos) σ H Q := by
  refine RE.made fun pins s I => ?_
  refine PySem.W.methodCall_KW (pl := pl) (ld_glob I hg hm ?_ hdb) ht
  obtain ⟨rest, hp⟩ := c.rc
  refine PySem.W.method_cls I.kIn r.ga (PySem.W.cls_bind I.kIn r.rd c.at_ (wpAny_call (PySem.W.sm_get (s := { s with toks := s.toks + 1 }) I.kIn hp (PySem.W.handed_on (handed_of (v := .ref g) rfl) ?_))))
  refine PySem.W.callWith_K (h₀ := X.base) I.ok.mod.kin c.kp (thn (h.run pos pins _ (I.tok _)) fun us s2 ⟨vs, H2, I2, rv, q2⟩ => ⟨I2.kIn, ?_⟩) hst hpl
  exact run_fn F hr hb .nil hx I2 rv (by rw [List.append_nil]; exact q2)
end
end Fx
end
section
set_option Elab.async false
set_option linter.all false
set_option maxRecDepth 100000
set_option maxHeartbeats 4000000
namespace Fl
open PySem PySem.Spec PyProof.Rows L2 Fx
open Evl (Ex fresh_back)
/-! ### InvalidLine -/
def sp_il (K : PySem.W.Frag) : Sp := fun vs H Q _ => ∃ (a C : Addr) (y z : V), vs = [.ref a, y, z] ∧ OexC K C ∧ PySem.W.findIn K (.ref C) "name" = some none ∧ PySem.W.findIn K (.ref C) "index" = some none ∧ H a = some (exo a C none) ∧
  ∀ dx H', H dx = none → dx ≠ a → (∀ b o, H b = some o → b ≠ a → H' b = some o) → H' a = some (exo a C (some dx)) → H' dx = some (exd dx [("index", z), ("name", y)]) → Q .non H'
section
variable {P : Program} {w : World} {K : PySem.W.Frag} {mg : Str → Option Value} {base : Heap} {f : Addr} {fd : FuncData}
theorem sc_il : FnScope ["self", "name", "index"] ["self", "name", "index"] (defScope s_il_init) := ⟨rfl, rfl, rfl, by decide +kernel, rfl, by decide +kernel, by decide +kernel⟩
theorem ok_il (F : Fun K "__init__" "InvalidLine.__init__" s_il_init f fd) : FnOk P w K mg base CX0 1 f fd ["self", "name", "index"] (sp_il K) := by
  refine F.ok sc_il (fun vs H Q E h => ?_) (fun cdv A outer s H vs Q E hr h => ⟨RB _ _, pss_RB, ?_⟩)
  · obtain ⟨_, _, _, _, rfl, _⟩ := h; rfl
  obtain ⟨a, C, y, z, rfl, T, n1, n2, ha, q⟩ := h
  refine rb_cons (rs_ost (re_var 1 rfl (re_var 0 rfl ⟨a, C, rfl, T, n1, .inl ⟨ha, fun dx hdx ne => ?_⟩⟩)))
  refine rb_one (rs_ost (re_var 2 rfl (re_var 0 rfl ⟨a, C, rfl, T, n2, .inr ⟨dx, [("name", y)], upd_same, ?_, Nat.le_of_ble_eq_true rfl, ?_⟩⟩)))
  · rw [upd_ne ne, upd_same]
  · refine q dx _ hdx ne (fun b o hb hba => ?_) ?_ upd_same
    · have hbd : b ≠ dx := fun e => by rw [e, hdx] at hb; cases hb
      rw [upd_ne hbd, upd_ne hba, upd_ne hbd]
      exact hb
    · rw [upd_ne (Ne.symm ne), upd_same]
end
/-- what the written part says of InvalidLine, at C -/
structure IL (P : Program) (w : World) (K : PySem.W.Frag) (mg : Str → Option Value) (base : Heap) (C : Addr) : Prop where
  oex : OexC K C
  n1 : PySem.W.findIn K (.ref C) "name" = some none
  n2 : PySem.W.findIn K (.ref C) "index" = some none
  gm : mg "InvalidLine" = some (.ref C)
  init : ∃ fI fd, PySem.W.findIn K (.ref C) "__init__" = some (some (.ref fI)) ∧ PySem.W.typeIn K (.ref fI) = some (.type "function") ∧ Binds K fd ["self", "name", "index"] [] ∧ FnOk P w K mg base CX0 1 fI fd ["self", "name", "index"] (sp_il K)
section
variable {X : Cx} {e1 e2 : Expr} {σ : L2.St} {H : Hp} {D : Ends} {p p2 p3 : Pos}
theorem rs_raiseIL {C : Addr} {W : WX} (T : IL X.prog X.w X.K X.mg X.base C) (hc : X.calm = true) (hr : Room 2 X.A) (tk : Takes X W)
    (h : RA X [e1, e2] σ H fun vs H1 => ∃ y z, vs = [y, z] ∧ ∀ d H2, H1 d = none → Ex H1 H2 → H2 d = some (.xd [("index", z), ("name", y)]) → W (.ref C) (some d) σ H2) (hg : Gl X "InvalidLine" := by rfl)
    (he : starEach [e1, e2] X.env = (false, eval e1 X.env) :: starEach [e2] X.env := by rfl) (hpl : (backTo p2 (starEach [e2] X.env)).any (·.1) = false := by rfl) :
    RS X (.Raise (some (.Call (.Name "InvalidLine" p) [e1, e2] [] p2)) none p3) D σ H := by
  obtain ⟨fI, fd, iC, tI, hb, F⟩ := T.init
  refine rs_raise hc tk (pmk_oex T.oex iC tI F hr hb .nil pass0 hg T.gm pa_RA (he := he) (hpl := hpl)) ?_
  refine h.mono fun vs H1 ⟨y, z, ev, q⟩ => ⟨by rw [ev]; exact (by decide : 2 ≤ 1000), fun a ha => ?_⟩
  subst ev
  refine ⟨a, C, y, z, rfl, T.oex, T.n1, T.n2, upd_same, fun dx H' hdx ne keep h1 h2 => ⟨rfl, dx, _, h1, h2, ?_, q dx _ ?_ (fun b o hb => ?_) upd_same⟩⟩
  · rw [← hdx, upd_ne ne]
  · rw [← hdx, upd_ne ne]
  · have hdx' : H1 dx = none := by rw [← hdx, upd_ne ne]
    have hba : b ≠ a := fun e => by rw [e, ha] at hb; cases hb
    have hbd : b ≠ dx := fun e => by rw [e, hdx'] at hb; cases hb
    rw [upd_ne hbd, del_ne hba]
    exact keep b o (by rw [upd_ne hba]; exact hb) hba
end
/-! ### check_functions: one function -/
abbrev nm_check : List Str := ["functions", "bare", "name", "wrong"]
theorem sc_check : FnScope nm_check ["functions", "bare"] (defScope s_check_functions) := ⟨rfl, rfl, rfl, by decide +kernel, rfl, by decide +kernel, by decide +kernel⟩
/-- what is asked of the one function main -/
structure OneFn (b : Bool) (v : V) (d : PyData) : Prop where
  any : AnyLines d
  pos : 0 < (itemsD d).length
  len : (itemsD d).length ≤ 60
  good : firstWrong [(.inr "main", v)] b (itemsD d) = none → Good d ∧ Tidy (itemsD d) b
def sp_check (K : PySem.W.Frag) (C : Addr) : Sp := fun vs H Q E => ∃ fa v d b, vs = [.ref fa, .bl b] ∧ H fa = some (.dK [(.inr "main", v)]) ∧ D K H v d ∧ OneFn b v d ∧
  (firstWrong [(.inr "main", v)] b (itemsD d) = none → ∀ H', Ex H H' → Q .non H') ∧
  ∀ i, firstWrong [(.inr "main", v)] b (itemsD d) = some i → ∀ dx H', H dx = none → Ex H H' → H' dx = some (.xd [("index", .int (i : Nat)), ("name", .str "main")]) → E (.ref C) (some dx) H'
theorem re_ra2 {X : Cx} {e1 e2 : Expr} {σ : L2.St} {H : Hp} {QA : List V → Hp → Prop} (h : RE X e1 σ H fun x H1 => RE X e2 σ H1 fun y H2 => QA [x, y] H2) (h1 : starEach [e1, e2] X.env = (false, eval e1 X.env) :: starEach [e2] X.env := by rfl) (h2 : starEach [e2] X.env = (false, eval e2 X.env) :: starEach [] X.env := by rfl) :
    RA X [e1, e2] σ H QA := ra_cons (h.mono fun x H1 q => ra_cons (q.mono fun y H2 q2 => ra_nil q2) h2) h1
theorem isWord_main : isWordS "main" = true := by decide +kernel
theorem one_sorted {ys : List Str} {x : Str} (h : ys.Perm [x]) : ys = [x] := List.perm_singleton.mp h
section
variable {P : Program} {w : World} {K : PySem.W.Frag} {mg : Str → Option Value} {base : Heap} {f : Addr} {fd : FuncData}
theorem ok_check {C : Addr} (F : Fun K "check_functions" "check_functions" s_check_functions f fd) (G : Gb mg) (T : IL P w K mg base C) (c1 : Cl P w K mg base CX0 3 "_are_functions" (sp_are_functions K)) (c2 : Cl P w K mg base CX0 5 "_first_wrong" (sp_first_wrong K))
    (c3 : Cl P w K mg base CX0 1 "_check_lengths" (sp_check_lengths K)) (c4 : Cl P w K mg base CX0 4 "is_tidy" (sp_is_tidy K)) : FnOk P w K mg base (L2.CX P w) 6 f fd ["functions", "bare"] (sp_check K C) := by
  refine F.okX sc_check (fun vs H Q E h => ?_) (fun cdv A outer s H vs Q E hr h => ⟨RB _ _, pss_RB, ?_⟩)
  · obtain ⟨_, _, _, _, rfl, _⟩ := h; rfl
  obtain ⟨fa, v, d, b, rfl, hfa, hd, one, q, qe⟩ := h
  have hDK : DK K H [(.inr "main", v)] [(.str "main", d)] := .cons hd .nil
  have edl : dlen d = (itemsD d).length := by
    have hl := one.any.isl
    cases d with
    | list _ => rfl
    | tuple _ => rfl
    | _ => exact absurd (show false = true from hl) Bool.false_ne_true
  have hfill : isFilledD d = true := by
    have hp := one.pos
    have hl := one.any.isl
    show (isListD d && decide (0 < dlen d)) = true
    rw [edl, decide_eq_true hp, Bool.and_true]
    exact hl
  have hare : areF (.dict [(.str "main", d)]) = true := by
    have h1 : entOk (.str "main", d) = true := by
      show (isWordS "main" && isFilledD d) = true
      rw [isWord_main, hfill]; rfl
    have h2 : strIs "main" (.str "main") = true := by decide +kernel
    unfold areF
    simp only [List.all_cons, List.all_nil, h1, h2, List.any_cons, List.any_nil, List.length_cons, List.length_nil]
    rfl
  have hDD : D K H (.ref fa) (.dict [(.str "main", d)]) := .dic (.inl hfa) hDK
  have tk : Takes (cxOf (L2.CX P w) P w K mg base nm_check "check_functions" (defScope s_check_functions) f cdv A outer s H E) (fun cls d _ H => E cls d H) := takes_of rfl rfl rfl rfl
  refine rb_cons (rs_if (rt_not (rt_val (re_call c1 hr (ra_cons (re_var 0 rfl (ra_nil ⟨.ref fa, _, rfl, hDD, ?_, fun a o kvs z => ?_, fun r H1 e1 h1 => ⟨_, h1, ?_⟩⟩)))))))
  · intro e he
    rw [List.mem_singleton.mp he]
    exact (by decide +kernel : (4 : Nat) ≤ 100000)
  · cases z
    rw [hfa]
    intro z
    cases z
  rw [hare]
  refine ifF (rb_nil ?_)
  -- the lines
  refine rb_cons (rs_for (g := gName 2) (passes_of rfl) rfl (pg_name (i := 2) (by exact sc_check.nd) rfl (Or.inl rfl)) good_name ?_)
  refine ri_list (re_cb (call_sortedD rfl) G.sorted (ra_cons (re_var 0 rfl (ra_nil ⟨fa, _, ["main"], rfl, .inl (e1 _ _ hfa), rfl, (by decide : 1 < 64), fun ys p hperm _ hp => ?_⟩))))
  obtain rfl := one_sorted hperm
  have e2 : Ex H1 (upd H1 p (.lst [.str "main"])) := Ex.new hp
  have hpl : upd H1 p (.lst [V.str "main"]) p = some (.lst [.str "main"]) := upd_same
  have e12 := e1.trans e2
  refine ⟨p, [.str "main"], rfl, .inl (.inl upd_same), _, _, _, fun i σ' H' => ∃ x y, σ' = [some (.ref fa), some (.bl b), x, y] ∧ Ex (upd H1 p (.lst [V.str "main"])) H' ∧ (0 < i → firstWrong [(.inr "main", v)] b (itemsD d) = none), walk_list (xs := [V.str "main"]), ?_, ?_, ?_, ?_⟩
  · exact ⟨_, _, rfl, Ex.refl _, fun z => absurd z (Nat.lt_irrefl 0)⟩
  · rintro i σ' H' hi ⟨_, _, _, e', _⟩
    exact Evl.ex_l e' (.inl (.inl upd_same))
  · rintro i x σ' Ha Hb hi ⟨x1, y1, rfl, e3, _⟩ ⟨rfl, hx⟩
    have hi0 : i = 0 := by
      have : i < 1 := hi
      omega
    subst hi0
    obtain rfl := Option.some.inj hx
    have e13 := e12.trans e3
    refine rb_cons (rs_set 3 (by exact sc_check.nd) (re_call c2 hr (ra_cons (re_dget (hu_of hr) (re_var 0 rfl (re_var 2 rfl ⟨fa, _, .inr "main", v, rfl, e13 _ _ hfa, rfl, rfl, ra_cons (re_var 0 rfl (ra_cons (re_var 1 rfl (ra_nil ⟨v, d, fa, _, b, rfl, hd.mono e13, one.any, e13 _ _ hfa, fun r H4 e4 h4 => ?_⟩))))⟩))))))
    subst h4
    have e14 := e13.trans e4
    refine rb_one (rs_if (rt_cmp op_notN (re_var 3 rfl (re_non ⟨rfl, _, rfl, ?_⟩))))
    cases hfw : firstWrong [(.inr "main", v)] b (itemsD d) with
    | some n =>
      refine ifT (rb_one (rs_raiseIL T rfl (hr.mono (by decide)) tk (re_ra2 (re_var 2 rfl (re_var 3 rfl ⟨.str "main", .int (n : Nat), rfl, fun dx H5 hdx e5 hx => ?_⟩)))))
      exact qe n hfw dx H5 (fresh_back e14 hdx) (e14.trans e5) hx
    | none =>
      exact ifF (rb_nil ⟨_, _, rfl, e3.trans e4, fun _ => rfl⟩)
  · rintro σ' H3 ⟨x1, y1, rfl, e3, hno⟩
    have hfw := hno Nat.one_pos
    have e13 := e12.trans e3
    obtain ⟨good, tidy⟩ := one.good hfw
    have q := q hfw
    refine rb_cons (rs_expr (re_call c3 hr (ra_cons (re_var 0 rfl (ra_nil ⟨fa, _, [(.str "main", d)], rfl, e13 _ _ hfa, .cons (hd.mono e13) .nil, ⟨Nat.one_pos, (by decide : 1 ≤ 24), ?_, ?_, ?_⟩, fun H4 e4 => ?_⟩)))))
    · intro e he
      rw [List.mem_singleton.mp he]
      exact good.isl
    · intro e he
      rw [List.mem_singleton.mp he]
      show dlen d ≤ 60
      rw [edl]; exact one.len
    · show (dlen d :: []).sum ≤ 240
      rw [List.sum_cons, List.sum_nil, edl]
      have := one.len
      omega
    have e14 := e13.trans e4
    refine rb_one (rs_for (g := gName 2) (passes_of rfl) rfl (pg_name (i := 2) (by exact sc_check.nd) rfl (Or.inl rfl)) good_name ?_)
    refine ri_list (re_cb (call_sortedD rfl) G.sorted (ra_cons (re_var 0 rfl (ra_nil ⟨fa, _, ["main"], rfl, .inl (e14 _ _ hfa), rfl, (by decide : 1 < 64), fun ys p2 hperm _ hp2 => ?_⟩))))
    obtain rfl := one_sorted hperm
    have e5 : Ex H4 (upd H4 p2 (.lst [.str "main"])) := Ex.new hp2
    have e15 := e14.trans e5
    refine ⟨p2, [.str "main"], rfl, .inl (.inl upd_same), _, _, _, fun i σ' H' => ∃ x y, σ' = [some (.ref fa), some (.bl b), x, y] ∧ Ex (upd H4 p2 (.lst [V.str "main"])) H', walk_list (xs := [V.str "main"]), ⟨_, _, rfl, Ex.refl _⟩, ?_, ?_, ?_⟩
    · rintro i σ' H' hi ⟨_, _, _, e'⟩
      exact Evl.ex_l e' (.inl (.inl upd_same))
    · rintro i x σ' Ha Hb hi ⟨x1, y1, rfl, e6⟩ ⟨rfl, hx⟩
      have hi0 : i = 0 := by
        have : i < 1 := hi
        omega
      subst hi0
      obtain rfl := Option.some.inj hx
      have e16 := e15.trans e6
      refine rb_one (rs_if (rt_not (rt_val (re_call c4 hr (ra_cons (re_dget (hu_of hr) (re_var 0 rfl (re_var 2 rfl ⟨fa, _, .inr "main", v, rfl, e16 _ _ hfa, rfl, rfl, ra_cons (re_var 1 rfl (ra_nil ⟨v, d, b, rfl, hd.mono e16, good, fun k H7 e7 hk => ⟨_, rfl, ?_⟩⟩))⟩))))))))
      rw [hk.mpr tidy]
      exact ifF (rb_nil ⟨_, _, rfl, e6.trans e7⟩)
    · rintro σ' H' ⟨_, _, _, e'⟩
      exact q _ (e15.trans e')
end
end Fl
end
section
set_option Elab.async false
set_option linter.all false
set_option maxRecDepth 100000
set_option maxHeartbeats 4000000
namespace Fx
open PySem PySem.Spec PyProof.Rows L2
open Evl (Ex fresh_back)
/-- all but the dicts stay -/
def Exd (H H' : Hp) : Prop := ∀ b o, H b = some o → (∀ kvs, o ≠ .dK kvs) → H' b = some o
theorem Exd.of {H H' : Hp} (e : Ex H H') : Exd H H' := fun b o h _ => e b o h
theorem Exd.put {H : Hp} {a : Addr} {kvs : List (Key × V)} {o : HO} (h : H a = some (.dK kvs)) : Exd H (upd H a o) := fun b u hb hn => by
  have : b ≠ a := fun e => by
    rw [e, h] at hb
    exact hn kvs (Option.some.inj hb).symm
  rw [upd_ne this]; exact hb
theorem exd_t {K : PySem.W.Frag} {H H' : Hp} {a : Addr} {xs : List V} (e : Exd H H') (h : SqT K H a xs) : SqT K H' a xs := by
  rcases h with (h | ⟨o, h⟩) | h
  · exact .inl (.inl (e _ _ h (fun _ z => nomatch z)))
  · exact .inl (.inr ⟨o, e _ _ h (fun _ z => nomatch z)⟩)
  · exact .inr h
/-- what can be read stays, but for instances -/
def Ei (H H' : Hp) : Prop := ∀ b u, (∀ C dx fs, u ≠ .ins C dx fs) → Rd H b u → Rd H' b u
section
variable {K : PySem.W.Frag} {H H' : Hp}
theorem ei_l {a : Addr} {xs : List V} (e : Ei H H') (h : SqL K H a xs) : SqL K H' a xs := h.imp (e _ _ (fun _ _ _ z => nomatch z)) id
theorem ei_t {a : Addr} {xs : List V} (e : Ei H H') (h : SqT K H a xs) : SqT K H' a xs := h.imp (e _ _ (fun _ _ _ z => nomatch z)) id
theorem Ei.of (e : Ex H H') : Ei H H' := fun _ _ _ h => Evl.ex_rd e h
theorem Ei.trans {H'' : Hp} (e : Ei H H') (e' : Ei H' H'') : Ei H H'' := fun a u n h => e' a u n (e a u n h)
theorem Ei.put {a C dx : Addr} {fs : List (Str × V)} {o : HO} (h : H a = some (.ins C dx fs)) : Ei H (upd H a o) := fun b u n hb => by
  have ne : b ≠ a := fun e => by
    subst e
    rcases hb with hb | ⟨z, hb⟩
    · exact n _ _ _ (Option.some.inj (hb.symm.trans h))
    · exact nomatch (Option.some.inj (hb.symm.trans h))
  rcases hb with hb | ⟨z, hb⟩
  · exact .inl ((upd_ne ne).trans hb)
  · exact .inr ⟨z, (upd_ne ne).trans hb⟩
mutual
theorem D.monoI (e : Ei H H') {v : V} : ∀ {d : PyData}, D K H v d → D K H' v d
  | .none, h => by cases h; exact .non
  | .bool b, h => by cases h; exact .bl b
  | .int i, h => by cases h; exact .int i
  | .str x, h => by cases h; exact .str x
  | .list ds, h => by cases h with | lst a b => exact .lst (ei_l e a) (DA.monoI e b)
  | .tuple ds, h => by cases h with | tup a b => exact .tup (ei_t e a) (DA.monoI e b)
  | .dict ds, h => by cases h with | dic a b => exact .dic (e _ _ (fun _ _ _ z => nomatch z) a) (DK.monoI e b)
theorem DA.monoI (e : Ei H H') : ∀ {ds : List PyData} {vs : List V}, DA K H vs ds → DA K H' vs ds
  | [], _, h => by cases h; exact .nil
  | d :: ds, _, h => by cases h with | cons a b => exact .cons (D.monoI e a) (DA.monoI e b)
theorem DK.monoI (e : Ei H H') : ∀ {ds : List (PyData × PyData)} {vs : List (Key × V)}, DK K H vs ds → DK K H' vs ds
  | [], _, h => by cases h; exact .nil
  | (_, d) :: ds, _, h => by cases h with | cons a b => exact .cons (D.monoI e a) (DK.monoI e b)
end
end
section
variable {X : Cx} {kx vx c tg iter : Expr} {σ : L2.St} {H : Hp} {Q : VK} {pos : Pos} {scope : Scope} {own : List (Str × Nat)} {g : TG}
/-- {kx: vx for target in iter}, what is said of the made dict told of the heap, too -/
theorem re_dcH (hc : X.calm = true) (hN : X.N.Nodup) (ok : BlkOk X.N X.env.scope scope own) (hg : ∀ s H C cl fp, PG (Blk X scope s H C cl fp) tg g) (gm : GoodG g)
    (h : RI X tg iter σ H fun J H1 => ∃ (n : Nat) (G : Hp → Prop) (Y : Nat → Hp → V → Hp → Prop) (Acc : Nat → Hp → List (Key × V) → Prop), Walk J n G Y ∧ n ≤ 40000 ∧ (∀ H', Ex H1 H' → G H') ∧ (∀ H', Acc 0 H' []) ∧ (∀ i Ha Hb acc, Exd Ha Hb → Acc i Ha acc → Acc i Hb acc) ∧
      (∀ i x H2 H3, i < n → Ex H1 H2 → Y i H2 x H3 → Ex H2 H3 ∧ g x (wipe σ (own.map (·.2))) H3 fun σ2 H4 => wipe σ2 (own.map (·.2)) = wipe σ (own.map (·.2)) ∧ Ex H3 H4 ∧ ∀ s0 H0 C cl fp,
        RE (Blk X scope s0 H0 C cl fp) kx σ2 H4 fun y H5 => Ex H4 H5 ∧ ∃ k, y = kV k ∧ ∀ s0 H0 C cl fp, RE (Blk X scope s0 H0 C cl fp) vx σ2 H5 fun z H6 => Ex H5 H6 ∧ ∀ acc, Acc i H6 acc → Acc (i + 1) H6 (putK acc k z)) ∧
      ∀ p ys H2, H1 p = none → Ex H1 H2 → H2 p = some (.dK ys) → ys.length ≤ n → Acc n H2 ys → Q (.ref p) H2)
    (hs : ∀ x, foldedSetIterable iter X.env x = pure x := by intro _; rfl) : RE X (.DictComp kx vx [⟨tg, iter, [], 0⟩] scope pos) σ H Q := by
  refine re_of (pe_dc (own := own) (g := g) (tt := tYes) (tk := fun σ H Q => ∀ s0 H0 C cl fp, RE (Blk X scope s0 H0 C cl fp) kx σ H Q) (tv := fun σ H Q => ∀ s0 H0 C cl fp, RE (Blk X scope s0 H0 C cl fp) vx σ H Q) hc hN pi_RI ok hg
    (fun _ _ _ _ _ => pts_nil) (fun s H C cl fp => ⟨fun pins s' σ H' Q I q => (q s H C cl fp).run pins s' I⟩) (fun s H C cl fp => ⟨fun pins s' σ H' Q I q => (q s H C cl fp).run pins s' I⟩) hs) ?_
  refine h.mono fun J H1 ⟨n, G, Y, Acc, w, hn, hG, h0, mono, turn, fin⟩ Dl hD => ?_
  refine dc_walk w (g := g) (tt := tYes) (tk := fun σ H Q => ∀ s0 H0 C cl fp, RE (Blk X scope s0 H0 C cl fp) kx σ H Q) (tv := fun σ H Q => ∀ s0 H0 C cl fp, RE (Blk X scope s0 H0 C cl fp) vx σ H Q) (fun i H' => Ex H1 H' ∧ ∃ acc, H' Dl = some (.dK acc) ∧ acc.length ≤ i ∧ Acc i H' acc)
    ⟨Evl.Ex.new hD, [], upd_same, Nat.le_refl _, h0 _⟩ (fun i H' _ p => hG H' p.1) (fun i x H2 H3 hi p y => ?_) fun H' ⟨e, acc, a1, a2, a3⟩ => fin Dl acc H' hD e a1 a2 a3
  obtain ⟨e2, acc, a1, a2, a3⟩ := p
  obtain ⟨e3, t⟩ := turn i x H2 H3 hi e2 y
  refine gm _ _ _ _ _ (fun σ2 H4 ⟨hw, e4, t⟩ => ⟨hw, ?_⟩) t
  simp only [tYes, if_true]
  intro s0 H0 C cl fp
  refine (t s0 H0 C cl fp).mono fun y' H5 ⟨e5, k, ek, t2⟩ => ?_
  intro s1 H1' C1 cl1 fp1
  refine (t2 s1 H1' C1 cl1 fp1).mono fun z' H6 ⟨e6, k2⟩ => ?_
  have e26 : Ex H2 H6 := ((e3.trans e4).trans e5).trans e6
  exact ⟨acc, k, ek, e26 _ _ a1, Nat.lt_of_lt_of_le (show acc.length < 100000 by omega) (by decide), ex_mut (e2.trans e26) hD, putK acc k z', upd_same, Nat.le_trans (length_putK _ _ _) (by omega), mono _ _ _ _ (Exd.put (e26 _ _ a1)) (k2 acc (mono _ _ _ _ (Exd.of e26) a3))⟩
end
end Fx
namespace Fl
open PySem PySem.Spec PyProof.Rows L2 Fx
open Evl (Ex fresh_back)
/-! ### the class Program -/
/-- the attributes of a program at C are read and stored as such -/
structure PC (K : PySem.W.Frag) (C : Addr) : Prop where
  cls : Cls K C
  bare : Con K C "IS_BARE" (.bl false) (.bool false)
  nF : NoAttr K C "_functions"
/-- at H a program of the one function main: its instance, its dict -/
structure Prog1 (K : PySem.W.Frag) (C : Addr) (H : Hp) (a dx g t : Addr) (xs : List V) (ds : List PyData) : Prop where
  ins : H a = some (.ins C dx [("_functions", .ref g)])
  dict : H g = some (.dK [(.inr "main", .ref t)])
  seq : SqT K H t xs
  dat : DA K H xs ds
def exBut (a : Addr) (H H' : Hp) : Prop := ∀ b o, H b = some o → b ≠ a → H' b = some o
theorem D.seqL {K : PySem.W.Frag} {H : Hp} {v : V} {d : PyData} (h : D K H v d) (hl : (isL d || isT d) = true) : ∃ a xs, v = .ref a ∧ (SqL K H a xs ∨ SqT K H a xs) ∧ DA K H xs (itemsD d) := by
  cases h with
  | lst a b => exact ⟨_, _, rfl, .inl a, b⟩
  | tup a b => exact ⟨_, _, rfl, .inr a, b⟩
  | _ => exact absurd (show false = true from hl) Bool.false_ne_true
section
variable {P : Program} {w : World} {K : PySem.W.Frag} {mg : Str → Option Value} {base : Heap} {f : Addr} {fd : FuncData}
abbrev nm_keep : List Str := ["self", "functions", "name"]
theorem sc_keep : FnScope nm_keep ["self", "functions"] (defScope s_keep) := ⟨rfl, rfl, rfl, by decide +kernel, rfl, by decide +kernel, by decide +kernel⟩
def sp_keep (K : PySem.W.Frag) (C : Addr) : Sp := fun vs H Q _ => ∃ a dx fa v d, vs = [.ref a, .ref fa] ∧ H a = some (.ins C dx []) ∧ H fa = some (.dK [(.inr "main", v)]) ∧ D K H v d ∧ (isL d || isT d) = true ∧ (itemsD d).length ≤ 1000 ∧
  ∀ H' g t xs, exBut a H H' → Prog1 K C H' a dx g t xs (itemsD d) → Q .non H'
theorem ok_keep {C : Addr} (F : Fun K "_keep" "Program._keep" s_keep f fd) (G : Gb mg) (T : PC K C) : FnOk P w K mg base CX0 1 f fd ["self", "functions"] (sp_keep K C) := by
  refine F.ok sc_keep (fun vs H Q E h => ?_) (fun cdv A outer s H vs Q E hr h => ⟨RB _ _, pss_RB, ?_⟩)
  · obtain ⟨_, _, _, _, _, rfl, _⟩ := h; rfl
  obtain ⟨a, dx, fa, v, d, rfl, ha, hfa, hd, hl, h1000, q⟩ := h
  obtain ⟨va, xs, rfl, hsq, hda⟩ := D.seqL hd hl
  refine rb_one (rs_fld ?_)
  refine re_dcH (own := [("name", 2)]) (g := gName 2) rfl (by exact sc_keep.nd) (blkOk_by (N := nm_keep) (sc := defScope s_keep) (by decide +kernel)) (fun _ _ _ _ _ => pg_name (i := 2) (by exact sc_keep.nd) rfl (Or.inl rfl)) good_name ?_
  refine ri_list (re_cb (call_sortedD rfl) G.sorted (ra_cons (re_var 1 rfl (ra_nil ⟨fa, _, ["main"], rfl, .inl hfa, rfl, (by decide : 1 < 64), fun ys p hperm _ hp => ?_⟩))))
  obtain rfl := one_sorted hperm
  have e1 : Ex H (upd H p (.lst [.str "main"])) := Ex.new hp
  refine ⟨p, [.str "main"], rfl, .inl (.inl upd_same), _, _, _, fun i H' acc => (i = 0 ∧ acc = []) ∨ (i = 1 ∧ ∃ t, acc = [(.inr "main", .ref t)] ∧ SqT K H' t xs), walk_list (xs := [V.str "main"]), (by decide : 1 ≤ 40000), fun H' e' => Evl.ex_l e' (.inl (.inl upd_same)), fun H' => .inl ⟨rfl, rfl⟩, ?_, ?_, ?_⟩
  · rintro i Ha Hb acc e (z | ⟨z, t, ha, ht⟩)
    · exact .inl z
    · exact .inr ⟨z, t, ha, exd_t e ht⟩
  · rintro i x Ha Hb hi e2 ⟨rfl, hx⟩
    have hi0 : i = 0 := by
      have : i < 1 := hi
      omega
    subst hi0
    obtain rfl := Option.some.inj hx
    have e12 := e1.trans e2
    refine ⟨Ex.refl _, rfl, Ex.refl _, fun s0 H0 C cl fp => re_var 2 rfl ⟨Ex.refl _, .inr "main", rfl, fun s0 H0 C cl fp => ?_⟩⟩
    refine re_ct call_tuple_of G.tuple (ra_cons (re_dget (hu_of hr) (re_var 1 rfl (re_var 2 rfl ⟨fa, _, .inr "main", .ref va, rfl, e12 _ _ hfa, rfl, rfl, ra_nil ⟨va, xs, rfl, ?_⟩⟩))))
    rcases hsq with hsq | hsq
    · refine .inl ⟨Evl.ex_l e12 hsq, fun l hl => ⟨Ex.new hl, fun acc hacc => ?_⟩⟩
      rcases hacc with ⟨_, rfl⟩ | ⟨z, _⟩
      · exact .inr ⟨rfl, l, rfl, .inl (.inl upd_same)⟩
      · cases z
    · refine .inr ⟨Evl.ex_t e12 hsq, Ex.refl _, fun acc hacc => ?_⟩
      rcases hacc with ⟨_, rfl⟩ | ⟨z, _⟩
      · exact .inr ⟨rfl, va, rfl, Evl.ex_t e12 hsq⟩
      · cases z
  · rintro g ys H2 hg e2 h2 _ hacc
    have e12 := e1.trans e2
    rcases hacc with ⟨z, _⟩ | ⟨_, t, rfl, ht⟩
    · cases z
    refine re_var 0 rfl ⟨a, C, dx, _, rfl, e12 _ _ ha, T.cls, T.nF, by decide, ?_⟩
    have nga : g ≠ a := fun z => by rw [z, e12 _ _ ha] at h2; cases h2
    refine q _ g t xs (fun b o hb hba => by rw [upd_ne hba]; exact e12 _ _ hb) ⟨upd_same, by rw [upd_ne nga]; exact h2, ?_, ?_⟩
    · exact ei_t (Ei.put (e12 _ _ ha)) ht
    · exact (hda.mono e12).monoI (Ei.put (e12 _ _ ha))
abbrev nm_init : List Str := ["self", "functions"]
theorem sc_init : FnScope nm_init ["self", "functions"] (defScope s_init) := ⟨rfl, rfl, rfl, by decide +kernel, rfl, by decide +kernel, by decide +kernel⟩
def sp_init (K : PySem.W.Frag) (C CI : Addr) : Sp := fun vs H Q E => ∃ a dx fa v d, vs = [.ref a, .ref fa] ∧ H a = some (.ins C dx []) ∧ H fa = some (.dK [(.inr "main", v)]) ∧ D K H v d ∧ OneFn false v d ∧
  (firstWrong [(.inr "main", v)] false (itemsD d) = none → ∀ H' g t xs, exBut a H H' → Prog1 K C H' a dx g t xs (itemsD d) → Q .non H') ∧
  ∀ i, firstWrong [(.inr "main", v)] false (itemsD d) = some i → ∀ ed H', H ed = none → Ex H H' → H' ed = some (.xd [("index", .int (i : Nat)), ("name", .str "main")]) → E (.ref CI) (some ed) H'
/-- a global def that may raise -/
structure ClX (P : Program) (w : World) (K : PySem.W.Frag) (mg : Str → Option Value) (base : Heap) (k : Nat) (x : Str) (sp : Sp) : Prop where
  ex : Cl P w K mg base (L2.CX P w) k x sp
/-- a method -/
structure Mt (P : Program) (w : World) (K : PySem.W.Frag) (mg : Str → Option Value) (base : Heap) (CX : CXT) (k : Nat) (C : Addr) (m : Str) (ps : List Str) (sp : Sp) : Prop where
  ex : ∃ g fd, Meth K C m g ∧ Binds K fd ps [] ∧ FnOk P w K mg base CX k g fd ps sp
theorem ok_init {C CI : Addr} (F : Fun K "__init__" "Program.__init__" s_init f fd) (T : PC K C) (c1 : Cl P w K mg base (L2.CX P w) 6 "check_functions" (sp_check K CI)) (m1 : Mt P w K mg base CX0 1 C "_keep" ["self", "functions"] (sp_keep K C)) :
    FnOk P w K mg base (L2.CX P w) 7 f fd ["self", "functions"] (sp_init K C CI) := by
  refine F.okX sc_init (fun vs H Q E h => ?_) (fun cdv A outer s H vs Q E hr h => ⟨RB _ _, pss_RB, ?_⟩)
  · obtain ⟨_, _, _, _, _, rfl, _⟩ := h; rfl
  obtain ⟨a, dx, fa, v, d, rfl, ha, hfa, hd, one, q, qe⟩ := h
  obtain ⟨g, gd, hM, hb, FM⟩ := m1.ex
  have tk : Takes (cxOf (L2.CX P w) P w K mg base nm_init "Program.__init__" (defScope s_init) f cdv A outer s H E) (fun cls d _ H => E cls d H) := takes_of rfl rfl rfl rfl
  refine rb_cons (rs_expr (re_callX c1 hr (passes_call tk (fun _ _ _ _ z => z)) (re_ra2 (re_var 1 rfl (re_con (re_var 0 rfl ⟨a, C, dx, [], _, _, rfl, ha, T.cls, T.bare, rfl, ⟨fa, v, d, false, rfl, hfa, hd, one, fun hn H1 e1 => ?_, qe⟩⟩))))))
  refine rb_one (rs_expr (re_meth T.cls hM FM (hr.mono (by decide)) hb pass0 (re_var 0 rfl ⟨a, dx, [], rfl, e1 _ _ ha, rfl, ra_cons (re_var 1 rfl (ra_nil ⟨a, dx, fa, v, d, rfl, e1 _ _ ha, e1 _ _ hfa, hd.mono e1, one.any.isl, one.any.len, fun H' g t xs ex pr => ?_⟩))⟩)))
  exact q hn H' g t xs (fun b o hb hba => ex b o (e1 _ _ hb) hba) pr
end
end Fl
end
section
set_option Elab.async false
set_option linter.all false
set_option maxRecDepth 100000
set_option maxHeartbeats 4000000
namespace Fl
open PySem PySem.Spec PyProof.Rows L2 Fx
open Evl (Ex fresh_back)
/-! ### check_functions: many functions, all of them right -/
/-- a function: its name, the lines' value and data -/
abbrev Fn3 := Str × V × PyData
def bkV (fs : List Fn3) : List (Key × V) := fs.map fun e => (.inr e.1, e.2.1)
def bkD (fs : List Fn3) : List (PyData × PyData) := fs.map fun e => (.str e.1, e.2.2)
def bkN (fs : List Fn3) : List Str := fs.map (·.1)
structure Book (b : Bool) (fs : List Fn3) : Prop where
  word : ∀ e ∈ fs, isWordS e.1 = true
  nodup : (bkN fs).Nodup
  main : ("main" : Str) ∈ bkN fs
  len : fs.length ≤ 24
  any : ∀ e ∈ fs, AnyLines e.2.2
  all : (fs.map fun e => dlen e.2.2).sum ≤ 240
  wrong : ∀ e ∈ fs, firstWrong (bkV fs) b (itemsD e.2.2) = none
  good : ∀ e ∈ fs, Good e.2.2
  tidy : ∀ e ∈ fs, Tidy (itemsD e.2.2) b
theorem dlen_items {d : PyData} (hl : (isL d || isT d) = true) : dlen d = (itemsD d).length := by
  cases d with
  | list _ => rfl
  | tuple _ => rfl
  | _ => exact absurd (show false = true from hl) Bool.false_ne_true
theorem dk_book {K : PySem.W.Frag} {H : Hp} : ∀ {fs : List Fn3}, (∀ e ∈ fs, D K H e.2.1 e.2.2) → DK K H (bkV fs) (bkD fs)
  | [], _ => .nil
  | e :: r, h => .cons (k := .inr e.1) (h e List.mem_cons_self) (dk_book fun x hx => h x (List.mem_cons_of_mem _ hx))
theorem bk_val : ∀ {fs : List Fn3} {e : Fn3}, (bkN fs).Nodup → e ∈ fs → valV (bkV fs) (.inr e.1) = some e.2.1
  | [], _, _, h => nomatch h
  | x :: r, e, hn, h => by
    have hn : (x.1 :: bkN r).Nodup := hn
    rw [List.nodup_cons] at hn
    rcases List.mem_cons.mp h with rfl | h
    · exact valV_pos (p := ((Sum.inr e.1 : Key), e.2.1)) rfl
    · have : ¬ (Sum.inr x.1 : Key) = .inr e.1 := fun z => hn.1 (by rw [Sum.inr.inj z]; exact List.mem_map_of_mem h)
      exact (valV_neg (p := ((Sum.inr x.1 : Key), x.2.1)) this).trans (bk_val hn.2 h)
theorem bk_at {fs : List Fn3} {ys : List Str} {i : Nat} {x : V} (hp : ys.Perm (bkN fs)) (hx : (ys.map V.str)[i]? = some x) : ∃ e ∈ fs, x = .str e.1 := by
  rw [List.getElem?_map] at hx
  cases hy : ys[i]? with
  | none => rw [hy] at hx; cases hx
  | some y =>
    rw [hy] at hx
    obtain rfl : V.str y = x := Option.some.inj hx
    have hm : y ∈ bkN fs := hp.mem_iff.mp (List.mem_of_getElem? hy)
    obtain ⟨e, he, rfl⟩ := List.mem_map.mp hm
    exact ⟨e, he, rfl⟩
theorem bk_keys (fs : List Fn3) : (bkV fs).map (·.1) = (bkN fs).map Sum.inr := by
  unfold bkV bkN
  rw [List.map_map, List.map_map]
  rfl
theorem word_short {w : Str} (h : isWordS w = true) : w.length ≤ 100000 := by
  unfold isWordS at h
  rw [Bool.and_eq_true, Bool.and_eq_true, decide_eq_true_eq, decide_eq_true_eq] at h
  omega
def sp_checkB (K : PySem.W.Frag) : Sp := fun vs H Q _ => ∃ fa fs b, vs = [.ref fa, .bl b] ∧ H fa = some (.dK (bkV fs)) ∧ (∀ e ∈ fs, D K H e.2.1 e.2.2) ∧ Book b fs ∧ ∀ H', Ex H H' → Q .non H'
section
variable {P : Program} {w : World} {K : PySem.W.Frag} {mg : Str → Option Value} {base : Heap} {f : Addr} {fd : FuncData}
abbrev nm_check2 : List Str := ["functions", "bare", "name", "wrong"]
theorem ok_checkB (F : Fun K "check_functions" "check_functions" s_check_functions f fd) (G : Gb mg) (c1 : Cl P w K mg base CX0 3 "_are_functions" (sp_are_functions K)) (c2 : Cl P w K mg base CX0 5 "_first_wrong" (sp_first_wrong K))
    (c3 : Cl P w K mg base CX0 1 "_check_lengths" (sp_check_lengths K)) (c4 : Cl P w K mg base CX0 4 "is_tidy" (sp_is_tidy K)) : FnOk P w K mg base CX0 6 f fd ["functions", "bare"] (sp_checkB K) := by
  refine F.ok sc_check (fun vs H Q E h => ?_) (fun cdv A outer s H vs Q E hr h => ⟨RB _ _, pss_RB, ?_⟩)
  · obtain ⟨_, _, _, rfl, _⟩ := h; rfl
  obtain ⟨fa, fs, b, rfl, hfa, hd, bk, q⟩ := h
  have hDK := dk_book hd
  have hpos : 1 ≤ fs.length := by
    cases fs with
    | nil => exact absurd bk.main List.not_mem_nil
    | cons a r => exact Nat.succ_le_succ (Nat.zero_le _)
  have hare : areF (.dict (bkD fs)) = true := by
    have h1 : (bkD fs).length = fs.length := List.length_map ..
    have h2 : (bkD fs).any (fun e => strIs "main" e.1) = true := by
      obtain ⟨e, he, h⟩ := List.mem_map.mp bk.main
      refine List.any_eq_true.mpr ⟨(.str e.1, e.2.2), List.mem_map_of_mem he, ?_⟩
      show decide (e.1 = "main") = true
      rw [h]; exact decide_eq_true rfl
    have h3 : (bkD fs).all entOk = true := by
      rw [List.all_eq_true]
      intro x hx
      obtain ⟨e, he, rfl⟩ := List.mem_map.mp hx
      show (isWordS e.1 && isFilledD e.2.2) = true
      rw [bk.word e he, Bool.true_and]
      show (isListD e.2.2 && decide (0 < dlen e.2.2)) = true
      have hg := bk.good e he
      rw [dlen_items hg.isl, decide_eq_true hg.pos, Bool.and_true]
      exact hg.isl
    show (decide (1 ≤ (bkD fs).length) && decide ((bkD fs).length ≤ 24) && ((bkD fs).any fun e => strIs "main" e.1) && (bkD fs).all entOk) = true
    rw [h1, h2, h3, decide_eq_true hpos, decide_eq_true bk.len]; rfl
  have hDD : D K H (.ref fa) (.dict (bkD fs)) := .dic (.inl hfa) hDK
  refine rb_cons (rs_if (rt_not (rt_val (re_call c1 hr (ra_cons (re_var 0 rfl (ra_nil ⟨.ref fa, _, rfl, hDD, ?_, fun a o kvs z => ?_, fun r H1 e1 h1 => ⟨_, h1, ?_⟩⟩)))))))
  · intro x hx
    obtain ⟨e, he, rfl⟩ := List.mem_map.mp hx
    exact word_short (bk.word e he)
  · cases z
    rw [hfa]
    intro z
    cases z
  rw [hare]
  refine ifF (rb_nil ?_)
  -- the lines
  have hn64 : (bkN fs).length < 64 := by
    have := bk.len
    show (fs.map _).length < 64
    rw [List.length_map]; omega
  refine rb_cons (rs_for (g := gName 2) PassesOwn.never rfl (pg_name (i := 2) (by exact sc_check.nd) rfl (Or.inl rfl)) good_name ?_)
  refine ri_list (re_cb (call_sortedD rfl) G.sorted (ra_cons (re_var 0 rfl (ra_nil ⟨fa, _, bkN fs, rfl, .inl (e1 _ _ hfa), bk_keys fs, hn64, fun ys p hperm _ hp => ?_⟩))))
  have e2 : Ex H1 (upd H1 p (.lst (ys.map V.str))) := Ex.new hp
  have e12 := e1.trans e2
  refine ⟨p, ys.map V.str, rfl, .inl (.inl upd_same), _, _, _, fun i σ' H' => ∃ x y, σ' = [some (.ref fa), some (.bl b), x, y] ∧ Ex (upd H1 p (.lst (ys.map V.str))) H', walk_list (xs := ys.map V.str), ⟨_, _, rfl, Ex.refl _⟩, ?_, ?_, ?_⟩
  · rintro i σ' H' hi ⟨_, _, _, e'⟩
    exact Evl.ex_l e' (.inl (.inl upd_same))
  · rintro i x σ' Ha Hb hi ⟨x1, y1, rfl, e3⟩ ⟨rfl, hx⟩
    obtain ⟨e, he, rfl⟩ := bk_at hperm hx
    have e13 := e12.trans e3
    refine rb_cons (rs_set 3 (by exact sc_check.nd) (re_call c2 hr (ra_cons (re_dget (hu_of hr) (re_var 0 rfl (re_var 2 rfl ⟨fa, _, .inr e.1, e.2.1, rfl, e13 _ _ hfa, rfl, bk_val bk.nodup he, ra_cons (re_var 0 rfl (ra_cons (re_var 1 rfl (ra_nil ⟨e.2.1, e.2.2, fa, _, b, rfl, (hd e he).mono e13, bk.any e he, e13 _ _ hfa, fun r H4 e4 h4 => ?_⟩))))⟩))))))
    subst h4
    refine rb_one (rs_if (rt_cmp op_notN (re_var 3 rfl (re_non ⟨rfl, _, rfl, ?_⟩))))
    rw [bk.wrong e he]
    exact ifF (rb_nil ⟨_, _, rfl, e3.trans e4⟩)
  rintro σ' H3 ⟨x1, y1, rfl, e3⟩
  have e13 := e12.trans e3
  refine rb_cons (rs_expr (re_call c3 hr (ra_cons (re_var 0 rfl (ra_nil ⟨fa, _, bkD fs, rfl, e13 _ _ hfa, dk_book fun e he => (hd e he).mono e13, ⟨?_, ?_, ?_, ?_, ?_⟩, fun H4 e4 => ?_⟩)))))
  · show 0 < (fs.map _).length
    rw [List.length_map]; exact hpos
  · show (fs.map _).length ≤ 24
    rw [List.length_map]; exact bk.len
  · intro x hx
    obtain ⟨e, he, rfl⟩ := List.mem_map.mp hx
    exact (bk.good e he).isl
  · intro x hx
    obtain ⟨e, he, rfl⟩ := List.mem_map.mp hx
    show dlen e.2.2 ≤ 60
    rw [dlen_items (bk.good e he).isl]
    exact (bk.good e he).len
  · show ((fs.map fun e : Fn3 => ((PyData.str e.1, e.2.2) : PyData × PyData)).map fun e => dlen e.2).sum ≤ 240
    rw [List.map_map]
    exact bk.all
  have e14 := e13.trans e4
  refine rb_one (rs_for (g := gName 2) PassesOwn.never rfl (pg_name (i := 2) (by exact sc_check.nd) rfl (Or.inl rfl)) good_name ?_)
  refine ri_list (re_cb (call_sortedD rfl) G.sorted (ra_cons (re_var 0 rfl (ra_nil ⟨fa, _, bkN fs, rfl, .inl (e14 _ _ hfa), bk_keys fs, hn64, fun zs p2 hperm2 _ hp2 => ?_⟩))))
  have e5 : Ex H4 (upd H4 p2 (.lst (zs.map V.str))) := Ex.new hp2
  have e15 := e14.trans e5
  refine ⟨p2, zs.map V.str, rfl, .inl (.inl upd_same), _, _, _, fun i σ' H' => ∃ x y, σ' = [some (.ref fa), some (.bl b), x, y] ∧ Ex (upd H4 p2 (.lst (zs.map V.str))) H', walk_list (xs := zs.map V.str), ⟨_, _, rfl, Ex.refl _⟩, ?_, ?_, ?_⟩
  · rintro i σ' H' hi ⟨_, _, _, e'⟩
    exact Evl.ex_l e' (.inl (.inl upd_same))
  · rintro i x σ' Ha Hb hi ⟨x1, y1, rfl, e6⟩ ⟨rfl, hx⟩
    obtain ⟨e, he, rfl⟩ := bk_at hperm2 hx
    have e16 := e15.trans e6
    refine rb_one (rs_if (rt_not (rt_val (re_call c4 hr (ra_cons (re_dget (hu_of hr) (re_var 0 rfl (re_var 2 rfl ⟨fa, _, .inr e.1, e.2.1, rfl, e16 _ _ hfa, rfl, bk_val bk.nodup he, ra_cons (re_var 1 rfl (ra_nil ⟨e.2.1, e.2.2, b, rfl, (hd e he).mono e16, bk.good e he, fun k H7 e7 hk => ⟨_, rfl, ?_⟩⟩))⟩))))))))
    rw [hk.mpr (bk.tidy e he)]
    exact ifF (rb_nil ⟨_, _, rfl, e6.trans e7⟩)
  · rintro σ' H' ⟨_, _, _, e'⟩
    exact q _ (e15.trans e')
end
end Fl
end
section
set_option Elab.async false
set_option linter.all false
set_option maxRecDepth 100000
set_option maxHeartbeats 4000000
namespace Fl
open PySem PySem.Spec PyProof.Rows L2 Fx
open Evl (Ex fresh_back)
/-! ### a program of many functions -/
def dN (ys : List Str) (t : Str → Addr) : List (Key × V) := ys.map fun n => (.inr n, .ref (t n))
structure ProgN (K : PySem.W.Frag) (C : Addr) (H : Hp) (a dx g : Addr) (ys : List Str) (t : Str → Addr) (xs : Str → List V) (ls : Str → List PyData) : Prop where
  ins : H a = some (.ins C dx [("_functions", .ref g)])
  dict : H g = some (.dK (dN ys t))
  seq : ∀ n ∈ ys, SqT K H (t n) (xs n)
  dat : ∀ n ∈ ys, DA K H (xs n) (ls n)
structure FitsB (fs : List Fn3) (ys : List Str) (ls : Str → List PyData) : Prop where
  perm : ys.Perm (bkN fs)
  srt : sortedS ys = true
  ls : ∀ e ∈ fs, ls e.1 = itemsD e.2.2
theorem pick_xs {K : PySem.W.Frag} {H : Hp} : ∀ {fs : List Fn3}, (bkN fs).Nodup → (∀ e ∈ fs, D K H e.2.1 e.2.2 ∧ (isL e.2.2 || isT e.2.2) = true) →
    ∃ (xs : Str → List V) (ls : Str → List PyData), ∀ e ∈ fs, ls e.1 = itemsD e.2.2 ∧ ∃ va, e.2.1 = .ref va ∧ (SqL K H va (xs e.1) ∨ SqT K H va (xs e.1)) ∧ DA K H (xs e.1) (ls e.1)
  | [], _, _ => ⟨fun _ => [], fun _ => [], fun _ h => nomatch h⟩
  | e :: r, hn, h => by
    have hn : (e.1 :: bkN r).Nodup := hn
    rw [List.nodup_cons] at hn
    obtain ⟨xs, ls, ih⟩ := pick_xs hn.2 fun x hx => h x (List.mem_cons_of_mem _ hx)
    obtain ⟨hd, hl⟩ := h e List.mem_cons_self
    obtain ⟨va, zs, hv, hs, ha⟩ := D.seqL hd hl
    refine ⟨fun n => if n = e.1 then zs else xs n, fun n => if n = e.1 then itemsD e.2.2 else ls n, fun x hx => ?_⟩
    rcases List.mem_cons.mp hx with rfl | hx
    · simp only [if_pos]
      exact ⟨trivial, va, hv, hs, ha⟩
    · have ne : x.1 ≠ e.1 := fun z => hn.1 (by rw [← z]; exact List.mem_map_of_mem hx)
      simp only [if_neg ne]
      exact ih x hx
theorem dN_val {ys : List Str} {t : Str → Addr} {n : Str} (h : n ∉ ys) : valV (dN ys t) (.inr n) = none := by
  cases hv : valV (dN ys t) (.inr n) with
  | none => rfl
  | some v =>
    obtain ⟨m, hm, z⟩ := List.mem_map.mp (valV_in hv)
    obtain ⟨m', hm', rfl⟩ := List.mem_map.mp hm
    cases z
    exact absurd hm' h
theorem dN_get : ∀ {ys : List Str} {t : Str → Addr} {n : Str}, n ∈ ys → valV (dN ys t) (.inr n) = some (.ref (t n))
  | [], _, _, h => nomatch h
  | y :: r, t, n, h => by
    by_cases e : y = n
    · subst e; exact valV_pos (p := ((Sum.inr y : Key), V.ref (t y))) rfl
    · have : ¬ (Sum.inr y : Key) = .inr n := fun z => e (Sum.inr.inj z)
      rcases List.mem_cons.mp h with z | h
      · exact absurd z.symm e
      · exact (valV_neg (p := ((Sum.inr y : Key), V.ref (t y))) this).trans (dN_get h)
theorem take_mem {α : Type} {ys : List α} {i : Nat} {x : α} (h : x ∈ ys.take i) : x ∈ ys := List.mem_of_mem_take h
/-- a class of programs: bare or not -/
structure PCb (K : PySem.W.Frag) (C : Addr) (b : Bool) : Prop where
  cls : Cls K C
  bare : Con K C "IS_BARE" (.bl b) (.bool b)
  nF : NoAttr K C "_functions"
section
variable {P : Program} {w : World} {K : PySem.W.Frag} {mg : Str → Option Value} {base : Heap} {f : Addr} {fd : FuncData}
def sp_keepB (K : PySem.W.Frag) (C : Addr) : Sp := fun vs H Q _ => ∃ a dx fa fs, vs = [.ref a, .ref fa] ∧ H a = some (.ins C dx []) ∧ H fa = some (.dK (bkV fs)) ∧ (∀ e ∈ fs, D K H e.2.1 e.2.2) ∧ (bkN fs).Nodup ∧ fs.length ≤ 24 ∧ (∀ e ∈ fs, (isL e.2.2 || isT e.2.2) = true ∧ (itemsD e.2.2).length ≤ 1000) ∧
  ∀ H' g ys t xs ls, exBut a H H' → FitsB fs ys ls → ProgN K C H' a dx g ys t xs ls → Q .non H'
theorem ok_keepB {C : Addr} {b : Bool} (F : Fun K "_keep" "Program._keep" s_keep f fd) (G : Gb mg) (T : PCb K C b) : FnOk P w K mg base CX0 1 f fd ["self", "functions"] (sp_keepB K C) := by
  refine F.ok sc_keep (fun vs H Q E h => ?_) (fun cdv A outer s H vs Q E hr h => ⟨RB _ _, pss_RB, ?_⟩)
  · obtain ⟨_, _, _, _, rfl, _⟩ := h; rfl
  obtain ⟨a, dx, fa, fs, rfl, ha, hfa, hd, hnd, h24, hl, q⟩ := h
  obtain ⟨xs, ls, hx⟩ := pick_xs hnd fun e he => ⟨hd e he, (hl e he).1⟩
  have hn64 : (bkN fs).length < 64 := by
    show (fs.map _).length < 64
    rw [List.length_map]; omega
  refine rb_one (rs_fld ?_)
  refine re_dcH (own := [("name", 2)]) (g := gName 2) rfl (by exact sc_keep.nd) (blkOk_by (N := nm_keep) (sc := defScope s_keep) (by decide +kernel)) (fun _ _ _ _ _ => pg_name (i := 2) (by exact sc_keep.nd) rfl (Or.inl rfl)) good_name ?_
  refine ri_list (re_cb (call_sortedD rfl) G.sorted (ra_cons (re_var 1 rfl (ra_nil ⟨fa, _, bkN fs, rfl, .inl hfa, bk_keys fs, hn64, fun ys p hperm hsrt hp => ?_⟩))))
  have e1 : Ex H (upd H p (.lst (ys.map V.str))) := Ex.new hp
  have ysl : ys.length ≤ 24 := by rw [hperm.length_eq]; show (fs.map _).length ≤ 24; rw [List.length_map]; exact h24
  have ysn : ys.Nodup := hperm.nodup_iff.mpr hnd
  refine ⟨p, ys.map V.str, rfl, .inl (.inl upd_same), _, _, _, fun i H' acc => ∃ t : Str → Addr, acc = dN (ys.take i) t ∧ ∀ n ∈ ys.take i, SqT K H' (t n) (xs n), walk_list (xs := ys.map V.str), ?_, fun H' e' => Evl.ex_l e' (.inl (.inl upd_same)), fun H' => ⟨fun _ => 0, rfl, fun n h => nomatch h⟩, ?_, ?_, ?_⟩
  · rw [List.length_map]; omega
  · rintro i Ha Hb acc e ⟨t, h1, h2⟩
    exact ⟨t, h1, fun n hn => exd_t e (h2 n hn)⟩
  · rintro i x Ha Hb hi e2 ⟨rfl, hx'⟩
    obtain ⟨e, he, rfl⟩ := bk_at hperm hx'
    obtain ⟨hls, va, hva, hsq, hda⟩ := hx e he
    have hyi : ys[i]? = some e.1 := by
      rw [List.getElem?_map] at hx'
      cases hy : ys[i]? with
      | none => rw [hy] at hx'; cases hx'
      | some y => rw [hy] at hx'; cases hx'; rfl
    have e12 := e1.trans e2
    have fresh : e.1 ∉ ys.take i := fun hm => by
      have hn := ysn
      rw [← List.take_append_drop i ys, drop_at hyi] at hn
      exact (List.nodup_append.mp hn).2.2 _ hm _ List.mem_cons_self rfl
    have step : ∀ (l : Addr) (H6 : Hp), SqT K H6 l (xs e.1) → ∀ acc, (∃ t : Str → Addr, acc = dN (ys.take i) t ∧ ∀ n ∈ ys.take i, SqT K H6 (t n) (xs n)) → ∃ t : Str → Addr, putK acc (.inr e.1) (.ref l) = dN (ys.take (i + 1)) t ∧ ∀ n ∈ ys.take (i + 1), SqT K H6 (t n) (xs n) := by
      rintro l H6 hl' acc ⟨t, rfl, h2⟩
      have tk : ys.take (i + 1) = ys.take i ++ [e.1] := take_snoc hyi
      refine ⟨fun n => if n = e.1 then l else t n, ?_, fun n hn => ?_⟩
      · rw [putK_new _ (dN_val fresh), tk]
        unfold dN
        rw [List.map_append]
        congr 1
        · refine List.map_congr_left fun n hn => ?_
          have : n ≠ e.1 := fun z => fresh (z ▸ hn)
          simp only [if_neg this]
        · simp
      · rw [tk] at hn
        rcases List.mem_append.mp hn with hn | hn
        · have : n ≠ e.1 := fun z => fresh (z ▸ hn)
          simp only [if_neg this]
          exact h2 n hn
        · rw [List.mem_singleton.mp hn]
          simp only [if_pos]
          exact hl'
    refine ⟨Ex.refl _, rfl, Ex.refl _, fun s0 H0 C cl fp => re_var 2 rfl ⟨Ex.refl _, .inr e.1, rfl, fun s0 H0 C cl fp => ?_⟩⟩
    refine re_ct call_tuple_of G.tuple (ra_cons (re_dget (hu_of hr) (re_var 1 rfl (re_var 2 rfl ⟨fa, _, .inr e.1, .ref va, rfl, e12 _ _ hfa, rfl, by rw [bk_val hnd he, hva], ra_nil ⟨va, xs e.1, rfl, ?_⟩⟩))))
    rcases hsq with hsq | hsq
    · exact .inl ⟨Evl.ex_l e12 hsq, fun l hl => ⟨Ex.new hl, step l _ (.inl (.inl upd_same))⟩⟩
    · exact .inr ⟨Evl.ex_t e12 hsq, Ex.refl _, step va _ (Evl.ex_t e12 hsq)⟩
  · rintro g acc H2 hg e2 h2 _ ⟨t, rfl, hts⟩
    have e12 := e1.trans e2
    have tkall : ys.take (ys.map V.str).length = ys := by rw [List.length_map, List.take_length]
    rw [tkall] at h2 hts
    refine re_var 0 rfl ⟨a, C, dx, _, rfl, e12 _ _ ha, T.cls, T.nF, by decide, ?_⟩
    have nga : g ≠ a := fun z => by rw [z, e12 _ _ ha] at h2; cases h2
    refine q _ g ys t xs ls (fun b o hb hba => by rw [upd_ne hba]; exact e12 _ _ hb) ⟨hperm, hsrt, fun e he => (hx e he).1⟩ ⟨upd_same, by rw [upd_ne nga]; exact h2, fun n hn => ei_t (Ei.put (e12 _ _ ha)) (hts n hn), fun n hn => ?_⟩
    obtain ⟨e, he, rfl⟩ := List.mem_map.mp (hperm.mem_iff.mp hn)
    obtain ⟨_, va, _, _, hda⟩ := hx e he
    exact (hda.mono e12).monoI (Ei.put (e12 _ _ ha))
def sp_initB (K : PySem.W.Frag) (C : Addr) (b : Bool) : Sp := fun vs H Q _ => ∃ a dx fa fs, vs = [.ref a, .ref fa] ∧ H a = some (.ins C dx []) ∧ H fa = some (.dK (bkV fs)) ∧ (∀ e ∈ fs, D K H e.2.1 e.2.2) ∧ Book b fs ∧
  ∀ H' g ys t xs ls, exBut a H H' → FitsB fs ys ls → ProgN K C H' a dx g ys t xs ls → Q .non H'
theorem ok_initB {C : Addr} {b : Bool} (F : Fun K "__init__" "Program.__init__" s_init f fd) (T : PCb K C b) (c1 : Cl P w K mg base CX0 6 "check_functions" (sp_checkB K)) (m1 : Mt P w K mg base CX0 1 C "_keep" ["self", "functions"] (sp_keepB K C)) :
    FnOk P w K mg base CX0 7 f fd ["self", "functions"] (sp_initB K C b) := by
  refine F.ok sc_init (fun vs H Q E h => ?_) (fun cdv A outer s H vs Q E hr h => ⟨RB _ _, pss_RB, ?_⟩)
  · obtain ⟨_, _, _, _, rfl, _⟩ := h; rfl
  obtain ⟨a, dx, fa, fs, rfl, ha, hfa, hd, bk, q⟩ := h
  obtain ⟨g, gd, hM, hb, FM⟩ := m1.ex
  refine rb_cons (rs_expr (re_call c1 hr (re_ra2 (re_var 1 rfl (re_con (re_var 0 rfl ⟨a, C, dx, [], _, _, rfl, ha, T.cls, T.bare, rfl, ⟨fa, fs, b, rfl, hfa, hd, bk, fun H1 e1 => ?_⟩⟩))))))
  refine rb_one (rs_expr (re_meth T.cls hM FM (hr.mono (by decide)) hb pass0 (re_var 0 rfl ⟨a, dx, [], rfl, e1 _ _ ha, rfl, ra_cons (re_var 1 rfl (ra_nil ⟨a, dx, fa, fs, rfl, e1 _ _ ha, e1 _ _ hfa, fun e he => (hd e he).mono e1, bk.nodup, bk.len, fun e he => ⟨(bk.any e he).isl, (bk.any e he).len⟩, fun H' g ys t xs ls ex ft pr => ?_⟩))⟩)))
  exact q H' g ys t xs ls (fun b o hb hba => ex b o (e1 _ _ hb) hba) ft pr
end
end Fl
end
section
set_option Elab.async false
set_option linter.all false
set_option maxRecDepth 100000
set_option maxHeartbeats 1000000
namespace Fl
open PySem PySem.Spec PyProof.Rows L2 Fx
/-! ### the mathematics of tidy lines: rows and the link by going along the text -/
def jumpL : List Str := ["jump", "if", "unless"]
/-- γ: the row at each label; q: whether the link is looked after -/
def Lay (γ : Str → Option (List Str)) (q : Bool) (ns : List Str) : List PyData → List Str → Bool → List Str → Bool → Prop
  | [], r, o, r', o' => r = r' ∧ o = o'
  | d :: ds, r, o, r', o' => isLineD d = true ∧ (∀ s, nfD d = .str s → s ∈ ns) ∧ ((wordD d = "mark" ∨ wordD d ∈ jumpL) → γ (labD d) = some r ∧ (q = true → o = true)) ∧ (needsB d = true → q = true ∧ o = true) ∧
    ∃ r1, rowB d r = some r1 ∧ Lay γ q ns ds r1 (ownB d o) r' o'
theorem Lay.app {γ : Str → Option (List Str)} {q : Bool} {ns : List Str} {r' : List Str} {o' : Bool} {r'' : List Str} {o'' : Bool} {bs : List PyData} (hb : Lay γ q ns bs r' o' r'' o'') : ∀ {as : List PyData} {r : List Str} {o : Bool}, Lay γ q ns as r o r' o' → Lay γ q ns (as ++ bs) r o r'' o''
  | [], r, o, h => by
    obtain ⟨rfl, rfl⟩ := h
    exact hb
  | d :: as, r, o, ⟨h1, h2, h3, h4, r1, h5, h6⟩ => ⟨h1, h2, h3, h4, r1, h5, Lay.app hb h6⟩
theorem Lay.mono {γ γ' : Str → Option (List Str)} {q : Bool} {ns ns' : List Str} (hγ : ∀ s row, γ s = some row → γ' s = some row) (hns : ∀ s ∈ ns, s ∈ ns') : ∀ {as : List PyData} {r r' : List Str} {o o' : Bool}, Lay γ q ns as r o r' o' → Lay γ' q ns' as r o r' o'
  | [], _, _, _, _, h => h
  | d :: as, _, _, _, _, ⟨h1, h2, h3, h4, r1, h5, h6⟩ => ⟨h1, fun s e => hns s (h2 s e), fun z => ⟨hγ _ _ (h3 z).1, (h3 z).2⟩, h4, r1, h5, Lay.mono hγ hns h6⟩
def labelsOf (ds : List PyData) : List Str := (ds.filter fun d => decide (wordD d = "mark")).map labD
theorem labelsOf_app (a b : List PyData) : labelsOf (a ++ b) = labelsOf a ++ labelsOf b := by
  unfold labelsOf
  rw [List.filter_append, List.map_append]
theorem labelsOf_cons (d : PyData) (b : List PyData) : labelsOf (d :: b) = (if wordD d = "mark" then [labD d] else []) ++ labelsOf b := by
  unfold labelsOf
  by_cases h : wordD d = "mark"
  · rw [if_pos h, List.filter_cons_of_pos (by rw [decide_eq_true h])]; rfl
  · rw [if_neg h, List.filter_cons_of_neg (by rw [decide_eq_false h]; exact Bool.false_ne_true)]; rfl
/-- along the text -/
def rowAtN (ds : List PyData) : Nat → List Str
  | 0 => []
  | i + 1 => match ds[i]? with
    | some d => (rowB d (rowAtN ds i)).getD []
    | none => []
def ownAtN (ds : List PyData) : Nat → Bool
  | 0 => true
  | i + 1 => match ds[i]? with
    | some d => ownB d (ownAtN ds i)
    | none => true
/-- a line where it stands -/
structure Here (γ : Str → Option (List Str)) (q : Bool) (ns : List Str) (d : PyData) (r : List Str) (o : Bool) (r1 : List Str) : Prop where
  ok : isLineD d = true
  fn : ∀ s, nfD d = .str s → s ∈ ns
  lab : (wordD d = "mark" ∨ wordD d ∈ jumpL) → γ (labD d) = some r ∧ (q = true → o = true)
  own : needsB d = true → q = true ∧ o = true
  row : rowB d r = some r1
theorem Lay.at {γ : Str → Option (List Str)} {q : Bool} {ns : List Str} {all : List PyData} {r' : List Str} {o' : Bool} : ∀ {ds : List PyData} {k : Nat}, all.drop k = ds → Lay γ q ns ds (rowAtN all k) (ownAtN all k) r' o' → ∀ i d, k ≤ i → all[i]? = some d → Here γ q ns d (rowAtN all i) (ownAtN all i) (rowAtN all (i + 1))
  | [], k, hk, h, i, d, hi, hd => by
    have : all.length ≤ k := List.drop_eq_nil_iff.mp hk
    have := (List.getElem?_eq_some_iff.mp hd).1
    omega
  | x :: ds, k, hk, ⟨h1, h2, h3, h4, r1, h5, h6⟩, i, d, hi, hd => by
    have hx : all[k]? = some x := by
      have : (all.drop k)[0]? = some x := by rw [hk]; rfl
      rwa [List.getElem?_drop, Nat.add_zero] at this
    have hr : rowAtN all (k + 1) = r1 := by
      show (match all[k]? with | some d => (rowB d (rowAtN all k)).getD [] | none => []) = r1
      rw [hx]
      show (rowB x (rowAtN all k)).getD [] = r1
      rw [h5]; rfl
    have ho : ownAtN all (k + 1) = ownB x (ownAtN all k) := by
      show (match all[k]? with | some d => ownB d (ownAtN all k) | none => true) = _
      rw [hx]
    by_cases e : i = k
    · subst e
      rw [hx] at hd
      cases hd
      exact ⟨h1, h2, h3, h4, by rw [hr]; exact h5⟩
    · refine Lay.at (ds := ds) (k := k + 1) (r' := r') (o' := o') ?_ ?_ i d (by omega) hd
      · have := congrArg (List.drop 1) hk
        rw [List.drop_drop] at this
        exact this
      · rw [hr, ho]; exact h6
/-- the whole of a function -/
structure Whole (q : Bool) (ns : List Str) (ds : List PyData) : Prop where
  lay : ∃ γ r' o', Lay γ q ns ds [] true r' o'
  nodup : (labelsOf ds).Nodup
  jumps : ∀ d ∈ ds, wordD d ∈ jumpL → labD d ∈ labelsOf ds
  last : ∃ d, ds[ds.length - 1]? = some d ∧ wordD d ∈ endL
  pos : 0 < ds.length
theorem rowB_flow {d : PyData} {r : List Str} (h : wordD d = "mark" ∨ wordD d ∈ jumpL) : rowB d r = some r := by
  unfold rowB
  have hm : wordD d ∈ (["mark", "jump", "if", "unless"] : List Str) := by
    rcases h with h | h
    · rw [h]; exact List.mem_cons_self
    · exact List.mem_cons_of_mem _ h
  have all : ∀ w ∈ (["push", "pop", "read", "write", "back", "tail"] : List Str), w ∉ (["mark", "jump", "if", "unless"] : List Str) := by decide +kernel
  have ne : ∀ w : Str, w ∈ (["push", "pop", "read", "write", "back", "tail"] : List Str) → wordD d ≠ w := fun w hw e => all w hw (e ▸ hm)
  rw [if_neg (ne _ (by decide +kernel)), if_neg (ne _ (by decide +kernel)), if_neg (ne _ (by decide +kernel)), if_neg (ne _ (by decide +kernel)), if_neg]
  intro hm
  simp only [List.mem_cons, List.not_mem_nil, or_false] at hm
  rcases hm with hm | hm
  · exact ne "back" (by decide +kernel) hm
  · exact ne "tail" (by decide +kernel) hm
theorem markN_some {ds : List PyData} {s : Str} : ∀ {i : Nat}, (∃ j d, j < i ∧ ds[j]? = some d ∧ wordD d = "mark" ∧ labD d = s) → ∃ n d, markN ds i s = some n ∧ ds[n]? = some d ∧ wordD d = "mark" ∧ labD d = s
  | 0, ⟨j, d, h, _⟩ => absurd h (Nat.not_lt_zero _)
  | i + 1, ⟨j, d, hj, hd, hw, hl⟩ => by
    cases hi : ds[i]? with
    | none =>
      have : i ≠ j := fun z => by rw [z, hd] at hi; cases hi
      show ∃ n d, (match ds[i]? with | some d => if wordD d = "mark" ∧ labD d = s then some i else markN ds i s | none => markN ds i s) = some n ∧ _
      rw [hi]
      exact markN_some ⟨j, d, by omega, hd, hw, hl⟩
    | some x =>
      show ∃ n d, (match ds[i]? with | some d => if wordD d = "mark" ∧ labD d = s then some i else markN ds i s | none => markN ds i s) = some n ∧ _
      rw [hi]
      show ∃ n d, (if wordD x = "mark" ∧ labD x = s then some i else markN ds i s) = some n ∧ _
      by_cases c : wordD x = "mark" ∧ labD x = s
      · rw [if_pos c]; exact ⟨i, x, rfl, hi, c⟩
      · rw [if_neg c]
        have : i ≠ j := fun z => by rw [z, hd] at hi; cases hi; exact c ⟨hw, hl⟩
        exact markN_some ⟨j, d, by omega, hd, hw, hl⟩
theorem mem_labels {ds : List PyData} {s : Str} (h : s ∈ labelsOf ds) : ∃ j d, j < ds.length ∧ ds[j]? = some d ∧ wordD d = "mark" ∧ labD d = s := by
  obtain ⟨d, hd, rfl⟩ := List.mem_map.mp h
  rw [List.mem_filter, decide_eq_true_eq] at hd
  obtain ⟨j, hj, rfl⟩ := List.mem_iff_getElem.mp hd.1
  exact ⟨j, _, hj, List.getElem?_eq_getElem hj, hd.2, rfl⟩
namespace Whole
variable {q : Bool} {ns : List Str} {ds : List PyData}
theorem here (W : Whole q ns ds) : ∃ γ, ∀ i d, ds[i]? = some d → Here γ q ns d (rowAtN ds i) (ownAtN ds i) (rowAtN ds (i + 1)) := by
  obtain ⟨γ, r', o', h⟩ := W.lay
  exact ⟨γ, fun i d hd => Lay.at (all := ds) (k := 0) (ds := ds) rfl h i d (Nat.zero_le _) hd⟩
theorem goal (W : Whole q ns ds) {i : Nat} {d : PyData} (hd : ds[i]? = some d) (hw : wordD d ∈ jumpL) : ∃ m, ds[goalN ds d]? = some m ∧ wordD m = "mark" ∧ labD m = labD d := by
  obtain ⟨n, m, h1, h2, h3, h4⟩ := markN_some (mem_labels (W.jumps d (List.mem_of_getElem? hd) hw))
  have : goalN ds d = n := by unfold goalN; rw [h1]; rfl
  exact ⟨m, by rw [this]; exact h2, h3, h4⟩
/-- where a line leads: to the next one, or to its mark -/
theorem leads (W : Whole q ns ds) {i j : Nat} {d : PyData} (hd : ds[i]? = some d) (hj : j ∈ leadsN ds i) : (j = i + 1 ∧ j < ds.length) ∨ (wordD d ∈ jumpL ∧ j = goalN ds d) := by
  have beh : ∀ {j}, j ∈ behN ds i → j = i + 1 ∧ j < ds.length := fun {j} h => by
    unfold behN at h
    by_cases hl : i + 1 < ds.length
    · rw [if_pos hl] at h
      obtain rfl := List.mem_singleton.mp h
      exact ⟨rfl, hl⟩
    · rw [if_neg hl] at h; exact nomatch h
  unfold leadsN at hj
  rw [hd] at hj
  dsimp only at hj
  split at hj
  · exact nomatch hj
  split at hj
  · rename_i _ hw
    exact .inr ⟨by rw [hw]; exact List.mem_cons_self, List.mem_singleton.mp hj⟩
  split at hj
  · rename_i _ _ hw
    have hwj : wordD d ∈ jumpL := List.mem_cons_of_mem _ hw.1
    split at hj
    · rcases List.mem_cons.mp hj with h | h
      · exact .inr ⟨hwj, h⟩
      · exact .inl (beh h)
    · rcases List.mem_append.mp hj with h | h
      · exact .inl (beh h)
      · exact .inr ⟨hwj, List.mem_singleton.mp h⟩
  · exact .inl (beh hj)
theorem rowsOk (W : Whole q ns ds) : RowsOk ds (rowAtN ds) := by
  obtain ⟨γ, H⟩ := W.here
  refine ⟨rfl, fun i hi => ?_⟩
  have hlt : i < ds.length := by
    cases hi with
    | zero => exact W.pos
    | step a b =>
      rename_i i0
      cases hd : ds[i0]? with
      | none =>
        unfold leadsN at b
        rw [hd] at b
        exact nomatch b
      | some d =>
        rcases W.leads hd b with ⟨_, h⟩ | ⟨hw, rfl⟩
        · exact h
        · obtain ⟨m, hm, _⟩ := W.goal hd hw
          exact (List.getElem?_eq_some_iff.mp hm).1
  obtain ⟨d, hd⟩ : ∃ d, ds[i]? = some d := ⟨_, List.getElem?_eq_getElem hlt⟩
  have h := H i d hd
  refine ⟨d, rowAtN ds (i + 1), hd, h.row, fun j hj => ?_⟩
  rcases W.leads hd hj with ⟨rfl, _⟩ | ⟨hw, rfl⟩
  · rfl
  · obtain ⟨m, hm, hmw, hml⟩ := W.goal hd hw
    have g1 := (H _ m hm).lab (.inl hmw)
    have g2 := h.lab (.inr hw)
    rw [hml] at g1
    have e1 := Option.some.inj (g1.1.symm.trans g2.1)
    have e2 := Option.some.inj (h.row.symm.trans (rowB_flow (.inr hw)))
    rw [e1, e2]
theorem notOwn (W : Whole true ns ds) : ∀ {i : Nat}, NotOwn ds i → ownAtN ds i = false := by
  obtain ⟨γ, H⟩ := W.here
  have nxt : ∀ {i : Nat} {d : PyData}, ds[i]? = some d → ownAtN ds (i + 1) = ownB d (ownAtN ds i) := fun {i d} hd => by
    show (match ds[i]? with | some d => ownB d (ownAtN ds i) | none => true) = _
    rw [hd]
  have low : ∀ {d : PyData}, ownB d true = false → ∀ b, ownB d b = false := fun {d} h b => by
    cases b with
    | true => exact h
    | false =>
      unfold ownB at h ⊢
      rw [Bool.or_eq_false_iff] at h
      rw [h.1]; rfl
  intro i h
  induction h with
  | call a hd ho hj =>
    rename_i i j d
    rcases W.leads hd hj with ⟨rfl, _⟩ | ⟨hw, rfl⟩
    · rw [nxt hd]; exact low ho _
    · exfalso
      unfold ownB at ho
      rw [Bool.or_eq_false_iff, Bool.true_and, Bool.not_eq_false', decide_eq_true_eq] at ho
      have := ho.2
      unfold jumpL at hw
      simp only [List.mem_cons, List.not_mem_nil, or_false] at hw this
      rcases hw with e | e | e <;> rw [e] at this <;> revert this <;> decide +kernel
  | step a hd ho hj ih =>
    rename_i i j d
    rcases W.leads hd hj with ⟨rfl, _⟩ | ⟨hw, rfl⟩
    · rw [nxt hd, ih]; exact ho
    · have := ((H _ d hd).lab (.inr hw)).2 rfl
      rw [ih] at this
      cases this
theorem tidy (W : Whole q ns ds) (b : Bool) : Tidy ds b := by
  obtain ⟨γ, H⟩ := W.here
  refine ⟨fun _ => W.last, fun _ => ⟨_, W.rowsOk⟩, fun _ i d hi hd hn hno => ?_⟩
  obtain ⟨rfl, ho⟩ := (H i d hd).own hn
  rw [W.notOwn hno] at ho
  cases ho
theorem ok (W : Whole q ns ds) : ∀ d ∈ ds, isLineD d = true := fun d hd => by
  obtain ⟨γ, H⟩ := W.here
  obtain ⟨j, hj, rfl⟩ := List.mem_iff_getElem.mp hd
  exact (H j _ (List.getElem?_eq_getElem hj)).ok
theorem named (W : Whole q ns ds) : ∀ d ∈ ds, ∀ s, nfD d = .str s → s ∈ ns := fun d hd => by
  obtain ⟨γ, H⟩ := W.here
  obtain ⟨j, hj, rfl⟩ := List.mem_iff_getElem.mp hd
  exact (H j _ (List.getElem?_eq_getElem hj)).fn
theorem labs (W : Whole q ns ds) : ∀ d ∈ ds, hasK (marksV ds) (nlD d) = true := fun d hd => by
  unfold nlD
  by_cases h : wordD d = "jump" ∨ wordD d = "if" ∨ wordD d = "unless"
  · rw [if_pos h]
    have hw : wordD d ∈ jumpL := by
      unfold jumpL
      simpa only [List.mem_cons, List.not_mem_nil, or_false] using h
    have hl := W.jumps d hd hw
    have hp : partD 1 d = .str (labD d) := by
      rcases h with h | h | h
      · exact word_part (W.ok d hd) h (by decide +kernel)
      · exact word_part (W.ok d hd) h (by decide +kernel)
      · exact word_part (W.ok d hd) h (by decide +kernel)
    rw [hp]
    obtain ⟨n, m, h1, _⟩ := markN_some (mem_labels hl)
    show (valV (marksTo ds ds.length) (.inr (labD d))).isSome = true
    rw [val_marks, h1]; rfl
  · rw [if_neg h]; rfl
theorem good {d : PyData} (W : Whole q ns (itemsD d)) (isl : (isL d || isT d) = true) (h60 : (itemsD d).length ≤ 60) : Good d := ⟨isl, W.pos, h60, W.ok, W.labs⟩
theorem wrong (W : Whole q ns ds) {fs : List (Key × V)} {b : Bool} (hns : ∀ s ∈ ns, (valV fs (.inr s)).isSome = true) (hb : b = true → ∀ d ∈ ds, wordD d ∉ stackL) : firstWrong fs b ds = none := by
  have hf : ds.filter isLineD = ds := List.filter_eq_self.mpr W.ok
  have go : ∀ (r : List PyData) (i : Nat) (m : List Str), (∀ d ∈ r, d ∈ ds) → (m ++ labelsOf r).Nodup → wrongFrom (marksV ds) fs b r i m = none := by
    intro r
    induction r with
    | nil => intro i m _ _; rfl
    | cons d r ih =>
      intro i m hm hn
      have hd := hm d List.mem_cons_self
      rw [labelsOf_cons] at hn
      have hthere : thereD (marksV ds) fs d = true := by
        unfold thereD
        rw [W.labs d hd, Bool.true_and]
        unfold hasK
        cases hnf : nfD d with
        | str s => exact hns s (W.named d hd s hnf)
        | _ => rfl
      show (if isLineD d = false ∨ (b = true ∧ wordD d ∈ stackL) then some i
        else if wordD d = "mark" ∧ labD d ∈ m then some i
        else if thereD (marksV ds) fs d = false then some i
        else wrongFrom (marksV ds) fs b r (i + 1) (if wordD d = "mark" then m ++ [labD d] else m)) = none
      rw [if_neg, if_neg, if_neg (by rw [hthere]; exact fun z => nomatch z)]
      · refine ih _ _ (fun x hx => hm x (List.mem_cons_of_mem _ hx)) ?_
        by_cases hw : wordD d = "mark"
        · rw [if_pos hw] at hn ⊢
          rw [List.append_assoc]; exact hn
        · rw [if_neg hw] at hn ⊢
          exact hn
      · rintro ⟨hw, hl⟩
        rw [if_pos hw] at hn
        exact (List.nodup_append.mp hn).2.2 _ hl _ List.mem_cons_self rfl
      · rintro (z | ⟨z, z2⟩)
        · rw [W.ok d hd] at z; cases z
        · exact hb z d hd z2
  unfold firstWrong
  rw [hf]
  exact go ds 0 [] (fun _ h => h) (by simpa using W.nodup)
end Whole
end Fl
end
section
set_option Elab.async false
set_option linter.all false
set_option maxRecDepth 100000
set_option maxHeartbeats 1000000
namespace Fl
open PySem PySem.Spec PyProof.Rows L2 Fx
/-! ### drawn pieces of code that leave the rows as they were -/
structure Item (q : Bool) (ns U : List Str) (ds : List PyData) : Prop where
  lay : ∀ r o, (q = true → o = true) → ∃ γ o', (∀ s row, γ s = some row → s ∈ U) ∧ (q = true → o' = true) ∧ Lay γ q ns ds r o r o'
  nodup : (labelsOf ds).Nodup
  labs : ∀ s ∈ labelsOf ds, s ∈ U
  jumps : ∀ d ∈ ds, wordD d ∈ jumpL → labD d ∈ labelsOf ds
/-- a line without label that leaves each row as it is -/
structure Neut (ns : List Str) (d : PyData) : Prop where
  ok : isLineD d = true
  fn : ∀ s, nfD d = .str s → s ∈ ns
  lab : wordD d ∉ (["mark", "jump", "if", "unless"] : List Str)
  own : needsB d = false
  row : ∀ r, rowB d r = some r
/-- .. that also leaves the link as it is -/
structure Pln (ns : List Str) (d : PyData) : Prop extends Neut ns d where
  call : wordD d ∉ (["call", "callr"] : List Str)
theorem nolab {d : PyData} (h : wordD d ∉ (["mark", "jump", "if", "unless"] : List Str)) : ¬ (wordD d = "mark" ∨ wordD d ∈ jumpL) := fun z => h (by
  rcases z with z | z
  · rw [z]; exact List.mem_cons_self
  · exact List.mem_cons_of_mem _ z)
theorem labels_no {d : PyData} (h : wordD d ∉ (["mark", "jump", "if", "unless"] : List Str)) (ds : List PyData) : labelsOf (d :: ds) = labelsOf ds := by
  rw [labelsOf_cons, if_neg fun z => nolab h (.inl z)]; rfl
theorem pln_own {ns : List Str} {d : PyData} (h : Pln ns d) (o : Bool) (hp : wordD d ≠ "pop") : ownB d o = o := by
  unfold ownB isPair
  rw [decide_eq_false hp, decide_eq_false h.call]
  cases o <;> rfl
theorem lay_neut {γ : Str → Option (List Str)} {q : Bool} {ns : List Str} : ∀ {ds : List PyData} {r : List Str} {o : Bool}, (∀ d ∈ ds, Neut ns d) → ∃ o', Lay γ q ns ds r o r o'
  | [], r, o, _ => ⟨o, rfl, rfl⟩
  | d :: ds, r, o, h => by
    have n := h d List.mem_cons_self
    obtain ⟨o', h'⟩ := lay_neut (γ := γ) (q := q) (r := r) (o := ownB d o) (ds := ds) fun x hx => h x (List.mem_cons_of_mem _ hx)
    exact ⟨o', n.ok, n.fn, fun z => absurd z (nolab n.lab), fun z => absurd (n.own.symm.trans z) Bool.false_ne_true, r, n.row r, h'⟩
theorem lay_pln {γ : Str → Option (List Str)} {q : Bool} {ns : List Str} : ∀ {ds : List PyData} {r : List Str} {o : Bool}, (∀ d ∈ ds, Pln ns d ∧ wordD d ≠ "pop") → Lay γ q ns ds r o r o
  | [], r, o, _ => ⟨rfl, rfl⟩
  | d :: ds, r, o, h => by
    have n := (h d List.mem_cons_self).1
    refine ⟨n.ok, n.fn, fun z => absurd z (nolab n.lab), fun z => absurd (n.own.symm.trans z) Bool.false_ne_true, r, n.row r, ?_⟩
    rw [pln_own n o (h d List.mem_cons_self).2]
    exact lay_pln fun x hx => h x (List.mem_cons_of_mem _ hx)
theorem labels_neut {ns : List Str} : ∀ {ds : List PyData}, (∀ d ∈ ds, Neut ns d) → labelsOf ds = []
  | [], _ => rfl
  | d :: ds, h => by rw [labels_no (h d List.mem_cons_self).lab, labels_neut fun x hx => h x (List.mem_cons_of_mem _ hx)]
theorem jumps_neut {ns : List Str} {ds : List PyData} (h : ∀ d ∈ ds, Neut ns d) : ∀ d ∈ ds, wordD d ∈ jumpL → labD d ∈ labelsOf ds := fun d hd hw => absurd (.inr hw) (nolab (h d hd).lab)
namespace Item
variable {q : Bool} {ns U V W : List Str} {a b c : List PyData}
theorem nil : Item q ns [] [] := ⟨fun r o h => ⟨fun _ => none, o, (fun _ _ z => nomatch z), h, rfl, rfl⟩, List.nodup_nil, (fun _ h => nomatch h), (fun _ h => nomatch h)⟩
/-- plain lines -/
theorem pln (h : ∀ d ∈ a, Pln ns d ∧ wordD d ≠ "pop") : Item q ns [] a := by
  have hn : ∀ d ∈ a, Neut ns d := fun d hd => (h d hd).1.toNeut
  exact ⟨fun r o ho => ⟨fun _ => none, o, fun _ _ z => (nomatch z), ho, lay_pln h⟩, by rw [labels_neut hn]; exact List.nodup_nil, (by rw [labels_neut hn]; exact fun _ h => nomatch h), jumps_neut hn⟩
/-- neutral lines where the link is lost -/
theorem neut (h : ∀ d ∈ a, Neut ns d) : Item false ns [] a := by
  refine ⟨fun r o ho => ?_, by rw [labels_neut h]; exact List.nodup_nil, (by rw [labels_neut h]; exact fun _ h => nomatch h), jumps_neut h⟩
  obtain ⟨o', h'⟩ := lay_neut (γ := fun _ => none) (q := false) (r := r) (o := o) h
  exact ⟨fun _ => none, o', fun _ _ z => (nomatch z), fun z => (nomatch z), h'⟩
theorem mono (h : Item q ns U a) (hU : ∀ s ∈ U, s ∈ V) : Item q ns V a := ⟨fun r o ho => let ⟨γ, o', h1, h2, h3⟩ := h.lay r o ho; ⟨γ, o', fun s row z => hU s (h1 s row z), h2, h3⟩, h.nodup, fun s hs => hU s (h.labs s hs), h.jumps⟩
theorem app (h : Item q ns U a) (k : Item q ns V b) (dis : ∀ s ∈ U, s ∉ V) : Item q ns (U ++ V) (a ++ b) := by
  refine ⟨fun r o ho => ?_, ?_, ?_, ?_⟩
  · obtain ⟨γ1, o1, g1, p1, l1⟩ := h.lay r o ho
    obtain ⟨γ2, o2, g2, p2, l2⟩ := k.lay r o1 p1
    refine ⟨fun s => if s ∈ U then γ1 s else γ2 s, o2, fun s row z => ?_, p2, Lay.app (Lay.mono (fun s row z => ?_) (fun _ h => h) l2) (Lay.mono (fun s row z => ?_) (fun _ h => h) l1)⟩
    · by_cases hs : s ∈ U
      · exact List.mem_append_left _ hs
      · simp only [if_neg hs] at z
        exact List.mem_append_right _ (g2 s row z)
    · have : s ∉ U := fun hu => dis s hu (g2 s row z)
      simp only [if_neg this]; exact z
    · simp only [if_pos (g1 s row z)]; exact z
  · rw [labelsOf_app]
    exact List.nodup_append.mpr ⟨h.nodup, k.nodup, fun x hx y hy e => dis x (h.labs x hx) (k.labs x (e ▸ hy))⟩
  · rw [labelsOf_app]
    intro s hs
    rcases List.mem_append.mp hs with hs | hs
    · exact List.mem_append_left _ (h.labs s hs)
    · exact List.mem_append_right _ (k.labs s hs)
  · rw [labelsOf_app]
    intro d hd hw
    rcases List.mem_append.mp hd with hd | hd
    · exact List.mem_append_left _ (h.jumps d hd hw)
    · exact List.mem_append_right _ (k.jumps d hd hw)
/-- plain lines ahead, behind -/
theorem pre (h : ∀ d ∈ a, Pln ns d ∧ wordD d ≠ "pop") (k : Item q ns V b) : Item q ns V (a ++ b) := (Item.pln h).app k (fun _ z => nomatch z)
theorem post (h : ∀ d ∈ b, Pln ns d ∧ wordD d ≠ "pop") (k : Item q ns V a) : Item q ns V (a ++ b) := by
  have := k.app (Item.pln (q := q) h) (fun _ _ z => nomatch z)
  rwa [List.append_nil] at this
end Item
end Fl
end
section
set_option Elab.async false
set_option linter.all false
set_option maxRecDepth 100000
set_option maxHeartbeats 1000000
namespace Fl
open PySem PySem.Spec PyProof.Rows L2 Fx
/-! ### lines as they are drawn -/
theorem isLine_of {w : Str} {xs : List PyData} {kinds : List Str} (h : forms.lookup w = some kinds) (hl : xs.length = kinds.length) (hf : ((kinds.zip xs).all fun p => fitsD p.1 p.2) = true) : isLineD (.tuple (.str w :: xs)) = true := by
  show (match forms.lookup w with | some kinds => decide (xs.length = kinds.length) && (kinds.zip xs).all fun p => fitsD p.1 p.2 | none => false) = true
  rw [h]
  show (decide (xs.length = kinds.length) && (kinds.zip xs).all fun p => fitsD p.1 p.2) = true
  rw [decide_eq_true hl, hf]; rfl
def isReg (i : Int) : Prop := 0 ≤ i ∧ i < 6
def isNum (i : Int) : Prop := -2147483648 ≤ i ∧ i ≤ 2147483647
theorem fit_reg {i : Int} (h : isReg i) : fitsD "reg" (.int i) = true := by
  show (decide (0 ≤ i) && decide (i < 6)) = true
  rw [decide_eq_true h.1, decide_eq_true h.2]; rfl
theorem fit_regl {i : Int} (h : isReg i) : fitsD "reg or link" (.int i) = true := by
  show (decide (0 ≤ i) && decide (i < 6)) = true
  rw [decide_eq_true h.1, decide_eq_true h.2]; rfl
theorem fit_num {i : Int} (h : isNum i) : fitsD "number" (.int i) = true := by
  have h1 := h.1
  have h2 := h.2
  show isNumD (.int i) = true
  unfold isNumD
  simp only [isIntD, h1, h2, decide_true, Bool.and_true]
theorem fit_word {s : Str} (h : isWordS s = true) : fitsD "word" (.str s) = true := h
theorem fit_entry {n : Nat} (h : n ≤ 59) : fitsD "entry" (.int (n : Nat)) = true := by
  show (decide ((0 : Int) ≤ n) && decide ((n : Int) ≤ 59)) = true
  rw [decide_eq_true (by omega), decide_eq_true (by omega)]; rfl
abbrev lnum (r n : Int) : PyData := .tuple [.str "num", .int r, .int n]
abbrev lrr (w : Str) (r s : Int) : PyData := .tuple [.str w, .int r, .int s]
abbrev lrrr (w : Str) (r s t : Int) : PyData := .tuple [.str w, .int r, .int s, .int t]
abbrev lr (w : Str) (r : Int) : PyData := .tuple [.str w, .int r]
abbrev laddr (r : Int) (f : Str) : PyData := .tuple [.str "addr", .int r, .str f]
abbrev ls1 (w s : Str) : PyData := .tuple [.str w, .str s]
abbrev lread (r : Int) (k : Nat) : PyData := .tuple [.str "read", .int r, .int (k : Nat)]
abbrev lwrite (k : Nat) (r : Int) : PyData := .tuple [.str "write", .int (k : Nat), .int r]
abbrev lend (w : Str) : PyData := .tuple [.str w]
section
variable {ns : List Str} {r s t n : Int} {f : Str}
theorem rowB_plain {d : PyData} (h : wordD d ∉ (["push", "pop", "read", "write", "back", "tail"] : List Str)) (row : List Str) : rowB d row = some row := by
  unfold rowB
  simp only [List.mem_cons, List.not_mem_nil, or_false, not_or] at h
  rw [if_neg h.1, if_neg h.2.1, if_neg h.2.2.1, if_neg h.2.2.2.1, if_neg]
  simp only [List.mem_cons, List.not_mem_nil, or_false, not_or]
  exact h.2.2.2.2
theorem needs_plain {d : PyData} (h : wordD d ∉ (["push", "back", "tail"] : List Str)) : needsB d = false := by
  unfold needsB isPair
  simp only [List.mem_cons, List.not_mem_nil, or_false, not_or] at h
  rw [decide_eq_false h.1, decide_eq_false (by simp only [List.mem_cons, List.not_mem_nil, or_false, not_or]; exact h.2)]; rfl
theorem nf_plain {d : PyData} (h : wordD d ∉ (["addr", "call", "tail"] : List Str)) : ∀ s, nfD d = .str s → s ∈ ns := fun s e => by
  unfold nfD at e
  simp only [List.mem_cons, List.not_mem_nil, or_false, not_or] at h
  rw [if_neg h.1, if_neg (by rw [not_or]; exact h.2)] at e
  cases e
/-- a line of a word that does nothing with rows, links, names -/
theorem pln_of {w : Str} {xs : List PyData} (h : isLineD (.tuple (.str w :: xs)) = true) (hw : w ∈ (["num", "copy", "add", "sub", "mul", "same", "less", "in", "out"] : List Str)) : Pln ns (.tuple (.str w :: xs)) ∧ wordD (.tuple (.str w :: xs)) ≠ "pop" := by
  have go : ∀ v ∈ (["num", "copy", "add", "sub", "mul", "same", "less", "in", "out"] : List Str), v ∉ (["push", "pop", "read", "write", "back", "tail"] : List Str) ∧ v ∉ (["push", "back", "tail"] : List Str) ∧ v ∉ (["addr", "call", "tail"] : List Str) ∧ v ∉ (["mark", "jump", "if", "unless"] : List Str) ∧ v ∉ (["call", "callr"] : List Str) ∧ v ≠ "pop" := by decide +kernel
  obtain ⟨h1, h2, h3, h4, h5, h6⟩ := go w hw
  exact ⟨⟨⟨h, nf_plain h3, h4, needs_plain h2, rowB_plain h1⟩, h5⟩, h6⟩
theorem p_num (hr : isReg r) (hn : isNum n) : Pln ns (lnum r n) ∧ wordD (lnum r n) ≠ "pop" := pln_of (isLine_of (kinds := ["reg", "number"]) (by decide +kernel) rfl (by simp [List.zip, List.zipWith, fit_reg hr, fit_num hn])) (by decide +kernel)
theorem p_rr {w : Str} (hw : w ∈ (["copy", "same", "less"] : List Str)) (hr : isReg r) (hs : isReg s) : Pln ns (lrr w r s) ∧ wordD (lrr w r s) ≠ "pop" := by
  have go : ∀ v ∈ (["copy", "same", "less"] : List Str), forms.lookup v = some (["reg", "reg"] : List Str) ∧ v ∈ (["num", "copy", "add", "sub", "mul", "same", "less", "in", "out"] : List Str) := by decide +kernel
  exact pln_of (isLine_of (kinds := ["reg", "reg"]) (go w hw).1 rfl (by simp [List.zip, List.zipWith, fit_reg hr, fit_reg hs])) (go w hw).2
theorem p_rrr {w : Str} (hw : w ∈ (["add", "sub", "mul"] : List Str)) (hr : isReg r) (hs : isReg s) (ht : isReg t) : Pln ns (lrrr w r s t) ∧ wordD (lrrr w r s t) ≠ "pop" := by
  have go : ∀ v ∈ (["add", "sub", "mul"] : List Str), forms.lookup v = some (["reg", "reg", "reg"] : List Str) ∧ v ∈ (["num", "copy", "add", "sub", "mul", "same", "less", "in", "out"] : List Str) := by decide +kernel
  exact pln_of (isLine_of (kinds := ["reg", "reg", "reg"]) (go w hw).1 rfl (by simp [List.zip, List.zipWith, fit_reg hr, fit_reg hs, fit_reg ht])) (go w hw).2
theorem p_r {w : Str} (hw : w ∈ (["in", "out"] : List Str)) (hr : isReg r) : Pln ns (lr w r) ∧ wordD (lr w r) ≠ "pop" := by
  have go : ∀ v ∈ (["in", "out"] : List Str), forms.lookup v = some (["reg"] : List Str) ∧ v ∈ (["num", "copy", "add", "sub", "mul", "same", "less", "in", "out"] : List Str) := by decide +kernel
  exact pln_of (isLine_of (kinds := ["reg"]) (go w hw).1 rfl (by simp [List.zip, List.zipWith, fit_reg hr])) (go w hw).2
theorem p_addr (hr : isReg r) (hf : f ∈ ns) (hw : isWordS f = true) : Pln ns (laddr r f) ∧ wordD (laddr r f) ≠ "pop" := by
  have e : wordD (laddr r f) = "addr" := rfl
  refine ⟨⟨⟨isLine_of (kinds := ["reg", "word"]) (by decide +kernel) rfl (by simp [List.zip, List.zipWith, fit_reg hr, fit_word hw]), fun s h => ?_, by rw [e]; decide +kernel, needs_plain (by rw [e]; decide +kernel), rowB_plain (by rw [e]; decide +kernel)⟩, by rw [e]; decide +kernel⟩, by rw [e]; decide +kernel⟩
  have : nfD (laddr r f) = .str f := rfl
  rw [this] at h
  cases h
  exact hf
theorem n_call (hf : f ∈ ns) (hw : isWordS f = true) : Neut ns (ls1 "call" f) := by
  have e : wordD (ls1 "call" f) = "call" := rfl
  refine ⟨isLine_of (kinds := ["word"]) (by decide +kernel) rfl (by simp [List.zip, List.zipWith, fit_word hw]), fun s h => ?_, by rw [e]; decide +kernel, needs_plain (by rw [e]; decide +kernel), rowB_plain (by rw [e]; decide +kernel)⟩
  have : nfD (ls1 "call" f) = .str f := rfl
  rw [this] at h
  cases h
  exact hf
theorem n_callr (hr : isReg r) : Neut ns (lr "callr" r) := by
  have e : wordD (lr "callr" r) = "callr" := rfl
  exact ⟨isLine_of (kinds := ["reg"]) (by decide +kernel) rfl (by simp [List.zip, List.zipWith, fit_reg hr]), nf_plain (by rw [e]; decide +kernel), by rw [e]; decide +kernel, needs_plain (by rw [e]; decide +kernel), rowB_plain (by rw [e]; decide +kernel)⟩
end
end Fl
end
section
set_option Elab.async false
set_option linter.all false
set_option maxRecDepth 100000
set_option maxHeartbeats 1000000
namespace Fl
open PySem PySem.Spec PyProof.Rows L2 Fx
/-! ### drawn pieces: calls within link lines, entries of one's own, loops, branches -/
abbrev plink : PyData := ls1 "push" "link"
abbrev poplink : PyData := ls1 "pop" "link"
theorem row_plink (r : List Str) : rowB plink r = some (r ++ [("link" : Str)]) := rfl
theorem drop_last {r : List Str} {e : Str} : (r ++ [e]).drop ((r ++ [e]).length - 1) = [e] := by
  rw [List.length_append, List.length_singleton, Nat.add_sub_cancel, List.drop_left]
theorem row_pop {d : PyData} {r : List Str} {e : Str} (hw : wordD d = "pop") (he : entryD d = e) : rowB d (r ++ [e]) = some r := by
  unfold rowB
  rw [if_neg (by rw [hw]; decide +kernel), if_pos hw, he, drop_last, if_pos rfl, List.dropLast_concat]
theorem lay_lab {γ : Str → Option (List Str)} {q : Bool} {ns : List Str} {d : PyData} {r : List Str} {o : Bool} (ok : isLineD d = true) (hw : wordD d ∈ (["mark", "jump", "if", "unless"] : List Str)) (hγ : γ (labD d) = some r) (hq : q = true → o = true) : Lay γ q ns [d] r o r o := by
  have go : ∀ v ∈ (["mark", "jump", "if", "unless"] : List Str), v ∉ (["push", "back", "tail"] : List Str) ∧ v ∉ (["addr", "call", "tail"] : List Str) ∧ v ∉ (["call", "callr"] : List Str) ∧ v ≠ "pop" ∧ (v = "mark" ∨ v ∈ jumpL) := by decide +kernel
  obtain ⟨h1, h2, h3, h4, h5⟩ := go _ hw
  refine ⟨ok, nf_plain h2, fun _ => ⟨hγ, hq⟩, fun z => absurd ((needs_plain h1).symm.trans z) Bool.false_ne_true, r, rowB_flow h5, rfl, ?_⟩
  unfold ownB isPair
  rw [decide_eq_false h4, decide_eq_false h3]
  cases o <;> rfl
theorem line_lab {w s : Str} (hw : w ∈ (["mark", "jump", "if", "unless"] : List Str)) (hs : isWordS s = true) : isLineD (ls1 w s) = true := by
  have go : ∀ v ∈ (["mark", "jump", "if", "unless"] : List Str), forms.lookup v = some (["word"] : List Str) := by decide +kernel
  exact isLine_of (kinds := ["word"]) (go w hw) rfl (by simp [List.zip, List.zipWith, fit_word hs])
theorem labels_one (s : Str) : labelsOf [ls1 "mark" s] = [s] := rfl
theorem labels_jump {w s : Str} (hw : w ∈ jumpL) : labelsOf [ls1 w s] = [] := by
  have go : ∀ v ∈ jumpL, v ≠ "mark" := by decide +kernel
  rw [labelsOf_cons, if_neg (show ¬ wordD (ls1 w s) = "mark" from go w hw)]; rfl
theorem labels_pln {ns : List Str} {a : List PyData} (h : ∀ d ∈ a, Pln ns d ∧ wordD d ≠ "pop") : labelsOf a = [] := labels_neut (ns := ns) fun d hd => (h d hd).1.toNeut
theorem jump_pln {ns : List Str} {a : List PyData} (h : ∀ d ∈ a, Pln ns d ∧ wordD d ≠ "pop") {d : PyData} (hd : d ∈ a) (hw : wordD d ∈ jumpL) {A : Prop} : A := absurd (.inr hw) (nolab (h d hd).1.lab)
namespace Item
variable {q : Bool} {ns U V W : List Str} {a b c : List PyData}
/-- calls within link lines -/
theorem wrap (h : ∀ d ∈ a, Neut ns d) : Item true ns [] ([plink] ++ a ++ [poplink]) := by
  have hl : labelsOf ([plink] ++ a ++ [poplink]) = [] := by
    rw [labelsOf_app, labelsOf_app, labels_neut h]; rfl
  refine ⟨fun r o ho => ?_, by rw [hl]; exact List.nodup_nil, (by rw [hl]; exact fun _ h => nomatch h), fun d hd hw => ?_⟩
  · obtain ⟨o', h'⟩ := lay_neut (γ := fun _ => none) (q := true) (r := r ++ [("link" : Str)]) (o := o) h
    refine ⟨fun _ => none, true, (fun _ _ z => nomatch z), fun _ => rfl, Lay.app ?_ (Lay.app h' ?_)⟩
    · refine ⟨by decide +kernel, nf_plain (by decide +kernel), fun z => absurd z (by decide +kernel), fun z => absurd z (by decide +kernel), r, row_pop (d := poplink) (e := "link") rfl rfl, rfl, ?_⟩
      rfl
    · refine ⟨by decide +kernel, nf_plain (by decide +kernel), fun z => absurd z (by decide +kernel), fun _ => ⟨rfl, ho rfl⟩, _, row_plink r, rfl, ?_⟩
      rw [ho rfl]; rfl
  · rcases List.mem_append.mp hd with hd | hd
    · rcases List.mem_append.mp hd with hd | hd
      · rw [List.mem_singleton.mp hd] at hw
        exact absurd hw (by decide +kernel)
      · exact absurd (.inr hw) (nolab (h d hd).lab)
    · rw [List.mem_singleton.mp hd] at hw
      exact absurd hw (by decide +kernel)
end Item
theorem lay_push {γ : Str → Option (List Str)} {q : Bool} {ns : List Str} : ∀ {rs : List Int} {r : List Str} {o : Bool}, (∀ x ∈ rs, isReg x) → Lay γ q ns (rs.map (lr "push")) r o (r ++ List.replicate rs.length ("value" : Str)) o
  | [], r, o, _ => ⟨by simp, rfl⟩
  | x :: rs, r, o, h => by
    have hx := h x List.mem_cons_self
    have ih := lay_push (γ := γ) (q := q) (ns := ns) (r := r ++ [("value" : Str)]) (o := o) (rs := rs) fun y hy => h y (List.mem_cons_of_mem _ hy)
    have e : wordD (lr "push" x) = "push" := rfl
    refine ⟨isLine_of (kinds := ["reg or link"]) (by decide +kernel) rfl (by simp [List.zip, List.zipWith, fit_regl hx]), nf_plain (by rw [e]; decide +kernel), fun z => absurd z (by rw [e]; decide +kernel), fun z => ?_, r ++ [("value" : Str)], rfl, ?_⟩
    · exact absurd (show false = true from z) Bool.false_ne_true
    · have ho : ownB (lr "push" x) o = o := by cases o <;> rfl
      rw [ho]
      have hr : r ++ List.replicate (x :: rs).length ("value" : Str) = r ++ [("value" : Str)] ++ List.replicate rs.length ("value" : Str) := by
        rw [List.length_cons, List.replicate_succ, List.append_assoc]; rfl
      rw [hr]; exact ih
theorem lay_pop {γ : Str → Option (List Str)} {q : Bool} {ns : List Str} : ∀ {rs : List Int} {r : List Str} {o : Bool}, (∀ x ∈ rs, isReg x) → Lay γ q ns (rs.map (lr "pop")) (r ++ List.replicate rs.length ("value" : Str)) o r o
  | [], r, o, _ => ⟨by simp, rfl⟩
  | x :: rs, r, o, h => by
    have hx := h x List.mem_cons_self
    have ih := lay_pop (γ := γ) (q := q) (ns := ns) (r := r) (o := o) (rs := rs) fun y hy => h y (List.mem_cons_of_mem _ hy)
    have e : wordD (lr "pop" x) = "pop" := rfl
    refine ⟨isLine_of (kinds := ["reg or link"]) (by decide +kernel) rfl (by simp [List.zip, List.zipWith, fit_regl hx]), nf_plain (by rw [e]; decide +kernel), fun z => absurd z (by rw [e]; decide +kernel), fun z => ?_, r ++ List.replicate rs.length ("value" : Str), ?_, ?_⟩
    · exact absurd (show false = true from z) Bool.false_ne_true
    · have hr : r ++ List.replicate (x :: rs).length ("value" : Str) = (r ++ List.replicate rs.length ("value" : Str)) ++ [("value" : Str)] := by
        rw [List.length_cons, List.replicate_succ', List.append_assoc]
      rw [hr]; exact row_pop rfl rfl
    · have ho : ownB (lr "pop" x) o = o := by cases o <;> rfl
      rw [ho]; exact ih
/-- a read or a write within so many entries -/
def RwL (n : Nat) (d : PyData) : Prop := ∃ (g : Int) (k : Nat), (d = lread g k ∨ d = lwrite k g) ∧ isReg g ∧ k < n ∧ k ≤ 59
theorem hasV_rep {r : List Str} {n k : Nat} (h : k < n) : hasV (r ++ List.replicate n ("value" : Str)) k = true := by
  unfold hasV
  have hl : (r ++ List.replicate n ("value" : Str)).length = r.length + n := by rw [List.length_append, List.length_replicate]
  rw [hl, decide_eq_true (by omega), Bool.true_and, decide_eq_true_eq, List.getElem?_append_right (by omega), List.getElem?_replicate, if_pos (by omega)]
theorem lay_rw {γ : Str → Option (List Str)} {q : Bool} {ns : List Str} {n : Nat} : ∀ {ds : List PyData} {r : List Str} {o : Bool}, (∀ d ∈ ds, RwL n d) → Lay γ q ns ds (r ++ List.replicate n ("value" : Str)) o (r ++ List.replicate n ("value" : Str)) o
  | [], r, o, _ => ⟨rfl, rfl⟩
  | d :: ds, r, o, h => by
    have ih := lay_rw (γ := γ) (q := q) (ns := ns) (r := r) (o := o) (ds := ds) fun y hy => h y (List.mem_cons_of_mem _ hy)
    obtain ⟨g, k, hd, hg, hk, hk2⟩ := h d List.mem_cons_self
    rcases hd with rfl | rfl
    · have e : wordD (lread g k) = "read" := rfl
      refine ⟨isLine_of (kinds := ["reg", "entry"]) (by decide +kernel) rfl (by simp [List.zip, List.zipWith, fit_reg hg, fit_entry hk2]), nf_plain (by rw [e]; decide +kernel), fun z => absurd z (by rw [e]; decide +kernel), fun z => absurd (show false = true from z) Bool.false_ne_true, r ++ List.replicate n ("value" : Str), ?_, ?_⟩
      · show (if hasV (r ++ List.replicate n ("value" : Str)) k = true then some _ else none) = some _
        rw [if_pos (hasV_rep hk)]
      · have ho : ownB (lread g k) o = o := by cases o <;> rfl
        rw [ho]; exact ih
    · have e : wordD (lwrite k g) = "write" := rfl
      refine ⟨isLine_of (kinds := ["entry", "reg"]) (by decide +kernel) rfl (by simp [List.zip, List.zipWith, fit_reg hg, fit_entry hk2]), nf_plain (by rw [e]; decide +kernel), fun z => absurd z (by rw [e]; decide +kernel), fun z => absurd (show false = true from z) Bool.false_ne_true, r ++ List.replicate n ("value" : Str), ?_, ?_⟩
      · show (if hasV (r ++ List.replicate n ("value" : Str)) k = true then some _ else none) = some _
        rw [if_pos (hasV_rep hk)]
      · have ho : ownB (lwrite k g) o = o := by cases o <;> rfl
        rw [ho]; exact ih
theorem labels_of_words {w : Str} (hw : w ∉ (["mark", "jump", "if", "unless"] : List Str)) : ∀ {ds : List PyData}, (∀ d ∈ ds, wordD d = w) → labelsOf ds = []
  | [], _ => rfl
  | d :: ds, h => by rw [labels_no (by rw [h d List.mem_cons_self]; exact hw), labels_of_words hw fun x hx => h x (List.mem_cons_of_mem _ hx)]
theorem labels_rw {n : Nat} : ∀ {ds : List PyData}, (∀ d ∈ ds, RwL n d) → labelsOf ds = []
  | [], _ => rfl
  | d :: ds, h => by
    have : wordD d ∉ (["mark", "jump", "if", "unless"] : List Str) := by
      obtain ⟨g, k, hd, _⟩ := h d List.mem_cons_self
      rcases hd with rfl | rfl
      · show ("read" : Str) ∉ _; decide +kernel
      · show ("write" : Str) ∉ _; decide +kernel
    rw [labels_no this, labels_rw fun x hx => h x (List.mem_cons_of_mem _ hx)]
theorem word_map {w : Str} {rs : List Int} {d : PyData} (h : d ∈ rs.map (lr w)) : wordD d = w := by
  obtain ⟨x, _, rfl⟩ := List.mem_map.mp h
  rfl
namespace Item
variable {q : Bool} {ns U V W : List Str} {a b c : List PyData}
theorem stack {ps qs : List Int} {rw' : List PyData} (h : Item q ns U a) (hp : ∀ x ∈ ps, isReg x) (hq : ∀ x ∈ qs, isReg x) (hl : qs.length = ps.length) (hr : ∀ d ∈ rw', RwL ps.length d) : Item q ns U (ps.map (lr "push") ++ a ++ rw' ++ qs.map (lr "pop")) := by
  have e1 : labelsOf (ps.map (lr "push")) = [] := labels_of_words (w := "push") (by decide +kernel) fun d hd => word_map hd
  have e2 : labelsOf (qs.map (lr "pop")) = [] := labels_of_words (w := "pop") (by decide +kernel) fun d hd => word_map hd
  have hlab : labelsOf (ps.map (lr "push") ++ a ++ rw' ++ qs.map (lr "pop")) = labelsOf a := by
    rw [labelsOf_app, labelsOf_app, labelsOf_app, e1, e2, labels_rw hr]; simp
  refine ⟨fun r o ho => ?_, by rw [hlab]; exact h.nodup, by rw [hlab]; exact h.labs, fun d hd hw => ?_⟩
  · obtain ⟨γ, o', h1, h2, h3⟩ := h.lay (r ++ List.replicate ps.length ("value" : Str)) o ho
    refine ⟨γ, o', h1, h2, Lay.app ?_ (Lay.app (lay_rw hr) (Lay.app h3 (lay_push hp)))⟩
    rw [← hl]; exact lay_pop hq
  · rw [hlab]
    have no : ∀ {w : Str}, wordD d = w → w ∉ jumpL → labD d ∈ labelsOf a := fun e hn => absurd (e ▸ hw) hn
    rcases List.mem_append.mp hd with hd | hd
    · rcases List.mem_append.mp hd with hd | hd
      · rcases List.mem_append.mp hd with hd | hd
        · exact no (word_map hd) (by decide +kernel)
        · exact h.jumps d hd hw
      · obtain ⟨g, k, hd, _⟩ := hr d hd
        rcases hd with rfl | rfl
        · exact no (w := "read") rfl (by decide +kernel)
        · exact no (w := "write") rfl (by decide +kernel)
    · exact no (word_map hd) (by decide +kernel)
end Item
end Fl
end
section
set_option Elab.async false
set_option linter.all false
set_option maxRecDepth 100000
set_option maxHeartbeats 1000000
namespace Fl
open PySem PySem.Spec PyProof.Rows L2 Fx
abbrev PW (ns : List Str) (a : List PyData) : Prop := ∀ d ∈ a, Pln ns d ∧ wordD d ≠ "pop"
theorem word_nf {w s : Str} (hw : w ∈ (["mark", "jump", "if", "unless"] : List Str)) : labD (ls1 w s) = s := rfl
namespace Item
variable {q : Bool} {ns U V W : List Str} {a b c : List PyData} {one two w w2 : Str}
/-- a loop, or lines that are left out -/
theorem ring (h : Item q ns U a) (hw : isWordS one = true) (h1 : one ∉ U) {x y : Str} (hx : x ∈ (["mark", "jump", "if", "unless"] : List Str)) (hy : y ∈ (["mark", "jump", "if", "unless"] : List Str)) (hxy : (x = "mark" ∧ y ∈ jumpL) ∨ (x ∈ jumpL ∧ y = "mark")) {p r : List PyData} (hp : PW ns p) (hr : PW ns r) :
    Item q ns (one :: U) (p ++ [ls1 x one] ++ a ++ r ++ [ls1 y one]) := by
  have hlab : (labelsOf (p ++ [ls1 x one] ++ a ++ r ++ [ls1 y one])).Perm (one :: labelsOf a) := by
    rw [labelsOf_app, labelsOf_app, labelsOf_app, labelsOf_app, labels_pln hp, labels_pln hr]
    rcases hxy with ⟨rfl, hj⟩ | ⟨hj, rfl⟩
    · rw [labels_one, labels_jump hj]; simp
    · rw [labels_one, labels_jump hj]; simp
  have hn1 : one ∉ labelsOf a := fun z => h1 (h.labs _ z)
  refine ⟨fun r0 o ho => ?_, hlab.nodup_iff.mpr (List.nodup_cons.mpr ⟨hn1, h.nodup⟩), fun s hs => ?_, fun d hd hj => ?_⟩
  · obtain ⟨γ, o', g1, g2, g3⟩ := h.lay r0 o ho
    have gg : (fun s => if s = one then some r0 else γ s) one = some r0 := by simp
    refine ⟨fun s => if s = one then some r0 else γ s, o', fun s row z => ?_, g2, ?_⟩
    · by_cases e : s = one
      · rw [e]; exact List.mem_cons_self
      · simp only [if_neg e] at z
        exact List.mem_cons_of_mem _ (g1 s row z)
    · refine Lay.app (lay_lab (line_lab hy hw) hy gg g2) (Lay.app (lay_pln hr) (Lay.app (Lay.mono (fun s row z => ?_) (fun _ h => h) g3) (Lay.app (lay_lab (line_lab hx hw) hx gg ho) (lay_pln hp))))
      have : s ≠ one := fun e => h1 (e ▸ g1 s row z)
      simp only [if_neg this]; exact z
  · rcases List.mem_cons.mp (hlab.mem_iff.mp hs) with rfl | hs
    · exact List.mem_cons_self
    · exact List.mem_cons_of_mem _ (h.labs s hs)
  · refine hlab.mem_iff.mpr ?_
    rcases List.mem_append.mp hd with hd | hd
    · rcases List.mem_append.mp hd with hd | hd
      · rcases List.mem_append.mp hd with hd | hd
        · rcases List.mem_append.mp hd with hd | hd
          · exact jump_pln hp hd hj
          · rw [List.mem_singleton.mp hd]; exact List.mem_cons_self
        · exact List.mem_cons_of_mem _ (h.jumps d hd hj)
      · exact jump_pln hr hd hj
    · rw [List.mem_singleton.mp hd]; exact List.mem_cons_self
/-- one of two -/
theorem either (h : Item q ns U a) (k : Item q ns V b) (dis : ∀ s ∈ U, s ∉ V) (hw : isWordS one = true) (hw2 : isWordS two = true) (ne : one ≠ two) (h1 : one ∉ U) (h1' : one ∉ V) (h2 : two ∉ U) (h2' : two ∉ V) {p : List PyData} (hp : PW ns p) {x : Str} (hx : x ∈ (["if", "unless"] : List Str)) :
    Item q ns (one :: two :: (U ++ V)) (p ++ [ls1 x one] ++ a ++ [ls1 "jump" two, ls1 "mark" one] ++ b ++ [ls1 "mark" two]) := by
  have hxj : x ∈ jumpL := List.mem_cons_of_mem _ hx
  have hx4 : x ∈ (["mark", "jump", "if", "unless"] : List Str) := List.mem_cons_of_mem _ hxj
  have hj4 : ("jump" : Str) ∈ (["mark", "jump", "if", "unless"] : List Str) := by decide +kernel
  have hm4 : ("mark" : Str) ∈ (["mark", "jump", "if", "unless"] : List Str) := by decide +kernel
  have ab := h.app k dis
  have hlab : (labelsOf (p ++ [ls1 x one] ++ a ++ [ls1 "jump" two, ls1 "mark" one] ++ b ++ [ls1 "mark" two])).Perm (one :: two :: labelsOf (a ++ b)) := by
    rw [labelsOf_app, labelsOf_app, labelsOf_app, labelsOf_app, labelsOf_app, labels_pln hp, labels_jump hxj, labels_one, labelsOf_app a b, show labelsOf [ls1 "jump" two, ls1 "mark" one] = [one] from rfl]
    simp only [List.nil_append]
    refine List.perm_iff_count.mpr fun z => ?_
    simp only [List.count_append, List.count_cons, List.count_nil]
    omega
  refine ⟨fun r0 o ho => ?_, hlab.nodup_iff.mpr (List.nodup_cons.mpr ⟨fun z => ?_, List.nodup_cons.mpr ⟨fun z => ?_, ab.nodup⟩⟩), fun s hs => ?_, fun d hd hj => ?_⟩
  · obtain ⟨γ1, o1, g1, p1, l1⟩ := h.lay r0 o ho
    obtain ⟨γ2, o2, g2, p2, l2⟩ := k.lay r0 o1 p1
    have gA : (fun s => if s = one ∨ s = two then some r0 else if s ∈ U then γ1 s else γ2 s) one = some r0 := by simp
    have gB : (fun s => if s = one ∨ s = two then some r0 else if s ∈ U then γ1 s else γ2 s) two = some r0 := by simp
    refine ⟨fun s => if s = one ∨ s = two then some r0 else if s ∈ U then γ1 s else γ2 s, o2, fun s row z => ?_, p2, ?_⟩
    · by_cases e : s = one ∨ s = two
      · rcases e with e | e
        · rw [e]; exact List.mem_cons_self
        · rw [e]; exact List.mem_cons_of_mem _ List.mem_cons_self
      · simp only [if_neg e] at z
        refine List.mem_cons_of_mem _ (List.mem_cons_of_mem _ ?_)
        by_cases hs : s ∈ U
        · exact List.mem_append_left _ hs
        · simp only [if_neg hs] at z
          exact List.mem_append_right _ (g2 s row z)
    · refine Lay.app (lay_lab (line_lab hm4 hw2) hm4 gB p2) (Lay.app (Lay.mono (fun s row z => ?_) (fun _ h => h) l2) (Lay.app (Lay.app (as := [ls1 "jump" two]) (lay_lab (line_lab hm4 hw) hm4 gA p1) (lay_lab (line_lab hj4 hw2) hj4 gB p1)) (Lay.app (Lay.mono (fun s row z => ?_) (fun _ h => h) l1) (Lay.app (lay_lab (line_lab hx4 hw) hx4 gA ho) (lay_pln hp)))))
      · have hv := g2 s row z
        have e : ¬ (s = one ∨ s = two) := by
          rintro (e | e)
          · exact h1' (e ▸ hv)
          · exact h2' (e ▸ hv)
        have hu : s ∉ U := fun hu => dis s hu hv
        simp only [if_neg e, if_neg hu]; exact z
      · have hu := g1 s row z
        have e : ¬ (s = one ∨ s = two) := by
          rintro (e | e)
          · exact h1 (e ▸ hu)
          · exact h2 (e ▸ hu)
        simp only [if_neg e, if_pos hu]; exact z
  · rcases List.mem_cons.mp z with e | z
    · exact ne e
    · rcases List.mem_append.mp (ab.labs _ z) with z | z
      · exact h1 z
      · exact h1' z
  · rcases List.mem_append.mp (ab.labs _ z) with z | z
    · exact h2 z
    · exact h2' z
  · rcases List.mem_cons.mp (hlab.mem_iff.mp hs) with rfl | hs
    · exact List.mem_cons_self
    · refine List.mem_cons_of_mem _ ?_
      rcases List.mem_cons.mp hs with rfl | hs
      · exact List.mem_cons_self
      · exact List.mem_cons_of_mem _ (ab.labs s hs)
  · refine hlab.mem_iff.mpr ?_
    have inOne : one ∈ one :: two :: labelsOf (a ++ b) := List.mem_cons_self
    have inTwo : two ∈ one :: two :: labelsOf (a ++ b) := List.mem_cons_of_mem _ List.mem_cons_self
    have inAB : labD d ∈ labelsOf (a ++ b) → labD d ∈ one :: two :: labelsOf (a ++ b) := fun z => List.mem_cons_of_mem _ (List.mem_cons_of_mem _ z)
    rcases List.mem_append.mp hd with hd | hd
    · rcases List.mem_append.mp hd with hd | hd
      · rcases List.mem_append.mp hd with hd | hd
        · rcases List.mem_append.mp hd with hd | hd
          · rcases List.mem_append.mp hd with hd | hd
            · exact jump_pln hp hd hj
            · rw [List.mem_singleton.mp hd]; exact inOne
          · exact inAB (ab.jumps d (List.mem_append_left _ hd) hj)
        · rcases List.mem_cons.mp hd with rfl | hd
          · exact inTwo
          · rw [List.mem_singleton.mp hd]; exact inOne
      · exact inAB (ab.jumps d (List.mem_append_right _ hd) hj)
    · rw [List.mem_singleton.mp hd]; exact inTwo
end Item
/-! ### whole functions -/
/-- a line that leaves a function -/
structure Leave (q : Bool) (ns : List Str) (d : PyData) : Prop where
  ok : isLineD d = true
  word : wordD d ∈ (["back", "tail", "stop"] : List Str)
  fn : ∀ s, nfD d = .str s → s ∈ ns
  own : wordD d ∈ (["back", "tail"] : List Str) → q = true
theorem leave_back {ns : List Str} : Leave true ns (lend "back") := ⟨by decide +kernel, by decide +kernel, nf_plain (by decide +kernel), fun _ => rfl⟩
theorem leave_stop {q : Bool} {ns : List Str} : Leave q ns (lend "stop") := ⟨by decide +kernel, by decide +kernel, nf_plain (by decide +kernel), fun h => absurd h (by decide +kernel)⟩
theorem leave_tail {ns : List Str} {f : Str} (hf : f ∈ ns) (hw : isWordS f = true) : Leave true ns (ls1 "tail" f) := by
  refine ⟨isLine_of (kinds := ["word"]) (by decide +kernel) rfl (by simp [List.zip, List.zipWith, fit_word hw]), (by show ("tail" : Str) ∈ _; decide +kernel), fun s h => ?_, fun _ => rfl⟩
  have : nfD (ls1 "tail" f) = .str f := rfl
  rw [this] at h
  cases h
  exact hf
theorem lay_leave {γ : Str → Option (List Str)} {q : Bool} {ns : List Str} {d : PyData} {o : Bool} (h : Leave q ns d) (ho : q = true → o = true) : Lay γ q ns [d] [] o [] o := by
  have go : ∀ v ∈ (["back", "tail", "stop"] : List Str), v ∉ (["mark", "jump", "if", "unless"] : List Str) ∧ v ∉ (["call", "callr"] : List Str) ∧ v ≠ "pop" ∧ v ≠ "push" ∧ v ≠ "read" ∧ v ≠ "write" := by decide +kernel
  obtain ⟨h1, h2, h3, h4, h5, h6⟩ := go _ h.word
  refine ⟨h.ok, h.fn, fun z => absurd z (nolab h1), fun z => ?_, [], ?_, rfl, ?_⟩
  · unfold needsB isPair at z
    rw [decide_eq_false h4, Bool.false_and, Bool.false_or, decide_eq_true_eq] at z
    exact ⟨h.own z, ho (h.own z)⟩
  · unfold rowB
    rw [if_neg h4, if_neg h3, if_neg h5, if_neg h6]
    split
    · rfl
    · rfl
  · unfold ownB isPair
    rw [decide_eq_false h3, decide_eq_false h2]
    cases o <;> rfl
theorem leave_lab {q : Bool} {ns : List Str} {d : PyData} (h : Leave q ns d) : wordD d ∉ (["mark", "jump", "if", "unless"] : List Str) := by
  have go : ∀ v ∈ (["back", "tail", "stop"] : List Str), v ∉ (["mark", "jump", "if", "unless"] : List Str) := by decide +kernel
  exact go _ h.word
theorem leave_end {q : Bool} {ns : List Str} {d : PyData} (h : Leave q ns d) : wordD d ∈ endL := List.mem_cons_of_mem _ h.word
theorem labels_leave {q : Bool} {ns : List Str} {d : PyData} (h : Leave q ns d) : labelsOf [d] = [] := by
  rw [labels_no (leave_lab h)]; rfl
section
variable {q : Bool} {ns U V W : List Str} {a b c : List PyData} {l e : PyData} {one : Str}
theorem last_app (a : List PyData) (l : PyData) : (a ++ [l])[(a ++ [l]).length - 1]? = some l := by
  rw [List.length_append, List.length_singleton, Nat.add_sub_cancel, List.getElem?_append_right (Nat.le_refl _), Nat.sub_self]; rfl
theorem whole_item (h : Item q ns U a) (hl : Leave q ns l) : Whole q ns (a ++ [l]) := by
  obtain ⟨γ, o', g1, g2, g3⟩ := h.lay [] true (fun _ => rfl)
  have e : labelsOf (a ++ [l]) = labelsOf a := by rw [labelsOf_app, labels_leave hl, List.append_nil]
  refine ⟨⟨γ, [], o', Lay.app (lay_leave hl g2) g3⟩, by rw [e]; exact h.nodup, fun d hd hj => ?_, ⟨l, last_app a l, leave_end hl⟩, by rw [List.length_append]; exact Nat.succ_pos _⟩
  rw [e]
  rcases List.mem_append.mp hd with hd | hd
  · exact h.jumps d hd hj
  · rw [List.mem_singleton.mp hd] at hj
    exact absurd (.inr hj) (nolab (leave_lab hl))
/-- with an early end -/
theorem whole_early (ha : Item q ns U a) (hb : Item q ns V b) (hc : Item q ns W c) (d1 : ∀ s ∈ U, s ∉ V) (d2 : ∀ s ∈ U, s ∉ W) (d3 : ∀ s ∈ V, s ∉ W) (hw : isWordS one = true) (o1 : one ∉ U) (o2 : one ∉ V) (o3 : one ∉ W) (he : Leave q ns e) (hl : Leave q ns l) {p : List PyData} (hp : PW ns p) :
    Whole q ns (a ++ (p ++ [ls1 "if" one] ++ b ++ [e, ls1 "mark" one]) ++ c ++ [l]) := by
  have hi4 : ("if" : Str) ∈ (["mark", "jump", "if", "unless"] : List Str) := by decide +kernel
  have hm4 : ("mark" : Str) ∈ (["mark", "jump", "if", "unless"] : List Str) := by decide +kernel
  obtain ⟨γ1, x1, g1, p1, l1⟩ := ha.lay [] true (fun _ => rfl)
  obtain ⟨γ2, x2, g2, p2, l2⟩ := hb.lay [] x1 p1
  obtain ⟨γ3, x3, g3, p3, l3⟩ := hc.lay [] x2 p2
  let γ : Str → Option (List Str) := fun s => if s = one then some [] else if s ∈ U then γ1 s else if s ∈ V then γ2 s else γ3 s
  have k0 : γ one = some [] := by simp [γ]
  have k1 : ∀ s row, γ1 s = some row → γ s = some row := fun s row z => by
    have hu := g1 s row z
    have e : s ≠ one := fun e => o1 (e ▸ hu)
    simp only [γ, if_neg e, if_pos hu]; exact z
  have k2 : ∀ s row, γ2 s = some row → γ s = some row := fun s row z => by
    have hv := g2 s row z
    have e : s ≠ one := fun e => o2 (e ▸ hv)
    have hu : s ∉ U := fun hu => d1 s hu hv
    simp only [γ, if_neg e, if_neg hu, if_pos hv]; exact z
  have k3 : ∀ s row, γ3 s = some row → γ s = some row := fun s row z => by
    have hv := g3 s row z
    have e : s ≠ one := fun e => o3 (e ▸ hv)
    have hu : s ∉ U := fun hu => d2 s hu hv
    have hv' : s ∉ V := fun hu => d3 s hu hv
    simp only [γ, if_neg e, if_neg hu, if_neg hv']; exact z
  have habc := (ha.app hb d1).app hc (fun s hs hw => by
    rcases List.mem_append.mp hs with h | h
    · exact d2 s h hw
    · exact d3 s h hw)
  have hlab : (labelsOf (a ++ (p ++ [ls1 "if" one] ++ b ++ [e, ls1 "mark" one]) ++ c ++ [l])).Perm (one :: labelsOf (a ++ b ++ c)) := by
    rw [labelsOf_app, labelsOf_app, labelsOf_app, labelsOf_app, labelsOf_app, labelsOf_app, labels_pln hp, labels_leave hl, labels_jump (w := "if") (by decide +kernel), labels_no (leave_lab he), labels_one, labelsOf_app (a ++ b), labelsOf_app a b]
    simp only [List.nil_append, List.append_nil]
    refine List.perm_iff_count.mpr fun z => ?_
    simp only [List.count_append, List.count_cons, List.count_nil]
    omega
  have no1 : one ∉ labelsOf (a ++ b ++ c) := fun z => by
    rcases List.mem_append.mp (habc.labs _ z) with z | z
    · rcases List.mem_append.mp z with z | z
      · exact o1 z
      · exact o2 z
    · exact o3 z
  refine ⟨⟨γ, [], x3, Lay.app (lay_leave hl p3) (Lay.app (Lay.mono k3 (fun _ h => h) l3) (Lay.app (Lay.app (Lay.app (as := [e]) (lay_lab (line_lab hm4 hw) hm4 k0 p2) (lay_leave he p2)) (Lay.app (Lay.mono k2 (fun _ h => h) l2) (Lay.app (lay_lab (line_lab hi4 hw) hi4 k0 p1) (lay_pln hp)))) (Lay.mono k1 (fun _ h => h) l1)))⟩, hlab.nodup_iff.mpr (List.nodup_cons.mpr ⟨no1, habc.nodup⟩), fun d hd hj => ?_, ⟨l, last_app _ l, leave_end hl⟩, by rw [List.length_append]; exact Nat.succ_pos _⟩
  refine hlab.mem_iff.mpr ?_
  have inAB : labD d ∈ labelsOf (a ++ b ++ c) → labD d ∈ one :: labelsOf (a ++ b ++ c) := fun z => List.mem_cons_of_mem _ z
  rcases List.mem_append.mp hd with hd | hd
  · rcases List.mem_append.mp hd with hd | hd
    · rcases List.mem_append.mp hd with hd | hd
      · exact inAB (habc.jumps d (List.mem_append_left _ (List.mem_append_left _ hd)) hj)
      · rcases List.mem_append.mp hd with hd | hd
        · rcases List.mem_append.mp hd with hd | hd
          · rcases List.mem_append.mp hd with hd | hd
            · exact jump_pln hp hd hj
            · rw [List.mem_singleton.mp hd]; exact List.mem_cons_self
          · exact inAB (habc.jumps d (List.mem_append_left _ (List.mem_append_right _ hd)) hj)
        · rcases List.mem_cons.mp hd with rfl | hd
          · exact absurd (.inr hj) (nolab (leave_lab he))
          · rw [List.mem_singleton.mp hd]; exact List.mem_cons_self
    · exact inAB (habc.jumps d (List.mem_append_right _ hd) hj)
  · rw [List.mem_singleton.mp hd] at hj
    exact absurd (.inr hj) (nolab (leave_lab hl))
end
end Fl
end
section
set_option Elab.async false
set_option linter.all false
set_option maxRecDepth 100000
set_option maxHeartbeats 1000000
namespace Fl
open PySem PySem.Spec PyProof.Rows L2 Fx
open Evl (Ex fresh_back)
/-! ### a line's parts are leaves -/
def leafD (d : PyData) : Prop := (∃ i, d = .int i) ∨ ∃ s, d = .str s
theorem fits_leaf {k : Str} {d : PyData} (h : fitsD k d = true) : leafD d := by
  cases d with
  | int i => exact .inl ⟨i, rfl⟩
  | str s => exact .inr ⟨s, rfl⟩
  | _ =>
    exfalso
    revert h
    unfold fitsD
    split
    · exact fun h => Bool.false_ne_true h
    split
    · exact fun h => Bool.false_ne_true h
    split
    · exact fun h => Bool.false_ne_true h
    split
    · rename_i h4
      exact fun _ => Bool.false_ne_true h4.2
    · exact fun h => Bool.false_ne_true h
theorem fits_leaves : ∀ {ks : List Str} {xs : List PyData}, xs.length = ks.length → ((ks.zip xs).all fun p => fitsD p.1 p.2) = true → ∀ x ∈ xs, leafD x
  | [], [], _, _, _, h => nomatch h
  | [], _ :: _, h, _, _, _ => nomatch h
  | _ :: _, [], h, _, _, _ => nomatch h
  | k :: ks, x :: xs, hl, h, y, hy => by
    rw [List.zip_cons_cons, List.all_cons, Bool.and_eq_true] at h
    rcases List.mem_cons.mp hy with rfl | hy
    · exact fits_leaf h.1
    · exact fits_leaves (Nat.succ.inj hl) h.2 y hy
theorem line_leaf {d : PyData} (h : isLineD d = true) : ∃ w xs, d = .tuple (.str w :: xs) ∧ (∀ x ∈ xs, leafD x) ∧ xs.length ≤ 3 ∧ w.length ≤ 6 := by
  cases d with
  | tuple ys =>
    cases ys with
    | nil => exact absurd (show false = true from h) Bool.false_ne_true
    | cons y xs =>
      cases y with
      | str w =>
        have h : (match forms.lookup w with | some kinds => decide (xs.length = kinds.length) && (kinds.zip xs).all fun p => fitsD p.1 p.2 | none => false) = true := h
        cases hf : forms.lookup w with
        | none => rw [hf] at h; exact absurd h Bool.false_ne_true
        | some kinds =>
          rw [hf] at h
          have h : (decide (xs.length = kinds.length) && (kinds.zip xs).all fun p => fitsD p.1 p.2) = true := h
          rw [Bool.and_eq_true, decide_eq_true_eq] at h
          have hm : (w, kinds) ∈ forms := by
            have go : ∀ {l : List (Str × List Str)}, l.lookup w = some kinds → (w, kinds) ∈ l := by
              intro l
              induction l with
              | nil => exact fun z => nomatch z
              | cons a r ih =>
                intro z
                obtain ⟨a1, a2⟩ := a
                rw [List.lookup_cons] at z
                by_cases e : w = a1
                · subst e
                  rw [beq_self_eq_true] at z
                  cases z
                  exact List.mem_cons_self
                · rw [beq_eq_false_iff_ne.mpr e] at z
                  exact List.mem_cons_of_mem _ (ih z)
            exact go hf
          have lim : ∀ e ∈ forms, e.2.length ≤ 3 ∧ e.1.length ≤ 6 := by decide +kernel
          exact ⟨w, xs, rfl, fits_leaves h.1 h.2, by rw [h.1]; exact (lim _ hm).1, (lim _ hm).2⟩
      | _ => exact absurd (show false = true from h) Bool.false_ne_true
  | _ => exact absurd (show false = true from h) Bool.false_ne_true
section
variable {K : PySem.W.Frag} {H H' : Hp}
theorem D.leaf {v : V} {d : PyData} (hl : leafD d) (h : D K H v d) : D K H' v d := by
  rcases hl with ⟨i, rfl⟩ | ⟨s, rfl⟩
  · cases h; exact .int i
  · cases h; exact .str s
theorem DA.leaf : ∀ {ds : List PyData} {vs : List V}, (∀ d ∈ ds, leafD d) → DA K H vs ds → DA K H' vs ds
  | [], _, _, h => by cases h; exact .nil
  | d :: ds, _, hl, h => by cases h with | cons a b => exact .cons (D.leaf (hl d List.mem_cons_self) a) (DA.leaf (fun x hx => hl x (List.mem_cons_of_mem _ hx)) b)
/-- a line is a tuple of leaves: it stays where its tuple stays -/
theorem D.line {v : V} {d : PyData} (hl : isLineD d = true) (h : D K H v d) (e : ∀ a xs, SqT K H a xs → SqT K H' a xs) : D K H' v d := by
  obtain ⟨w, xs, rfl, hx, _⟩ := line_leaf hl
  cases h with
  | tup a b =>
    refine .tup (e _ _ a) (DA.leaf (fun d hd => ?_) b)
    rcases List.mem_cons.mp hd with rfl | hd
    · exact .inr ⟨w, rfl⟩
    · exact hx d hd
theorem DA.lines : ∀ {ds : List PyData} {vs : List V}, (∀ d ∈ ds, isLineD d = true) → DA K H vs ds → (∀ a xs, SqT K H a xs → SqT K H' a xs) → DA K H' vs ds
  | [], _, _, h, _ => by cases h; exact .nil
  | d :: ds, _, hl, h, e => by cases h with | cons a b => exact .cons (D.line (hl d List.mem_cons_self) a e) (DA.lines (fun x hx => hl x (List.mem_cons_of_mem _ hx)) b e)
end
/-! ### the lines of drawn code -/
theorem Lay.ok {γ : Str → Option (List Str)} {q : Bool} {ns : List Str} : ∀ {ds : List PyData} {r r' : List Str} {o o' : Bool}, Lay γ q ns ds r o r' o' → ∀ d ∈ ds, isLineD d = true
  | [], _, _, _, _, _, _, h => nomatch h
  | d :: ds, _, _, _, _, ⟨h1, _, _, _, r1, _, h6⟩, x, hx => by
    rcases List.mem_cons.mp hx with rfl | hx
    · exact h1
    · exact Lay.ok h6 x hx
theorem Item.ok {q : Bool} {ns U : List Str} {ds : List PyData} (h : Item q ns U ds) : ∀ d ∈ ds, isLineD d = true := by
  obtain ⟨γ, o', _, _, l⟩ := h.lay [] true (fun _ => rfl)
  exact Lay.ok l
/-- what wants a last line alone -/
structure Pre (q : Bool) (ns : List Str) (ds : List PyData) : Prop where
  whole : ∀ l, Leave q ns l → Whole q ns (ds ++ [l])
  ok : ∀ d ∈ ds, isLineD d = true
theorem pre_item {q : Bool} {ns U : List Str} {ds : List PyData} (h : Item q ns U ds) : Pre q ns ds := ⟨fun l hl => whole_item h hl, h.ok⟩
theorem pre_early {q : Bool} {ns U V W : List Str} {a b c p : List PyData} {e : PyData} {one : Str} (ha : Item q ns U a) (hb : Item q ns V b) (hc : Item q ns W c) (d1 : ∀ s ∈ U, s ∉ V) (d2 : ∀ s ∈ U, s ∉ W) (d3 : ∀ s ∈ V, s ∉ W) (hw : isWordS one = true) (o1 : one ∉ U) (o2 : one ∉ V) (o3 : one ∉ W) (he : Leave q ns e) (hp : PW ns p) :
    Pre q ns (a ++ (p ++ [ls1 "if" one] ++ b ++ [e, ls1 "mark" one]) ++ c) := by
  refine ⟨fun l hl => whole_early ha hb hc d1 d2 d3 hw o1 o2 o3 he hl hp, fun d hd => ?_⟩
  rcases List.mem_append.mp hd with hd | hd
  · rcases List.mem_append.mp hd with hd | hd
    · exact ha.ok d hd
    · rcases List.mem_append.mp hd with hd | hd
      · rcases List.mem_append.mp hd with hd | hd
        · rcases List.mem_append.mp hd with hd | hd
          · exact (hp d hd).1.ok
          · rw [List.mem_singleton.mp hd]; exact line_lab (by decide +kernel) hw
        · exact hb.ok d hd
      · rcases List.mem_cons.mp hd with rfl | hd
        · exact he.ok
        · rw [List.mem_singleton.mp hd]; exact line_lab (by decide +kernel) hw
  · exact hc.ok d hd
end Fl
end
section
set_option Elab.async false
set_option linter.all false
set_option maxRecDepth 100000
set_option maxHeartbeats 4000000
namespace Fl
open PySem PySem.Spec PyProof.Rows L2 Fx
open Evl (Ex fresh_back)
/-! ### the shapes of lines -/
inductive Shape : PyData → Prop
  | num {r n : Int} : isReg r → isNum n → Shape (lnum r n)
  | rr {w : Str} {r s : Int} : w ∈ (["copy", "same", "less"] : List Str) → isReg r → isReg s → Shape (lrr w r s)
  | rrr {w : Str} {r s t : Int} : w ∈ (["add", "sub", "mul"] : List Str) → isReg r → isReg s → isReg t → Shape (lrrr w r s t)
  | addr {r : Int} {f : Str} : isReg r → isWordS f = true → Shape (laddr r f)
  | r1 {w : Str} {r : Int} : w ∈ (["in", "out", "callr"] : List Str) → isReg r → Shape (lr w r)
  | s1 {w s : Str} : w ∈ (["mark", "jump", "if", "unless", "call", "tail"] : List Str) → isWordS s = true → Shape (ls1 w s)
  | stk {w : Str} {r : Int} : w ∈ (["push", "pop"] : List Str) → isReg r → Shape (lr w r)
  | lnk {w : Str} : w ∈ (["push", "pop"] : List Str) → Shape (ls1 w "link")
  | read {r : Int} {k : Nat} : isReg r → Shape (lread r k)
  | write {r : Int} {k : Nat} : isReg r → Shape (lwrite k r)
  | fin {w : Str} : w ∈ (["back", "stop"] : List Str) → Shape (lend w)
theorem fits_numD {i : Int} (h : fitsD "number" (.int i) = true) : isNum i := by
  unfold fitsD at h
  rw [if_neg (by decide +kernel), if_pos rfl] at h
  have h : (decide (-2147483648 ≤ i) && decide (i ≤ 2147483647)) = true := h
  rw [Bool.and_eq_true, decide_eq_true_eq, decide_eq_true_eq] at h
  exact h
theorem fits_rl {d : PyData} (h : fitsD "reg or link" d = true) : d = .str "link" ∨ ∃ i : Int, d = .int i ∧ isReg i := by
  unfold fitsD at h
  rw [if_neg (by decide +kernel), if_neg (by decide +kernel), if_neg (by decide +kernel)] at h
  by_cases z : strIs "link" d = true
  · left
    cases d with
    | str s =>
      have : s = "link" := of_decide_eq_true z
      rw [this]
    | _ => exact absurd (show false = true from z) Bool.false_ne_true
  · rw [if_neg (fun y => z y.2)] at h
    right
    cases d with
    | int i =>
      have h : (decide (0 ≤ i) && decide (i < 6)) = true := h
      rw [Bool.and_eq_true, decide_eq_true_eq, decide_eq_true_eq] at h
      exact ⟨i, rfl, h⟩
    | _ => exact absurd (show false = true from h) Bool.false_ne_true
theorem lk_mem {α : Type} {w : Str} {k : α} : ∀ {l : List (Str × α)}, l.lookup w = some k → (w, k) ∈ l
  | [], h => nomatch h
  | (a, b) :: r, h => by
    rw [List.lookup_cons] at h
    by_cases e : w = a
    · subst e
      rw [beq_self_eq_true] at h
      cases h
      exact List.mem_cons_self
    · rw [beq_eq_false_iff_ne.mpr e] at h
      exact List.mem_cons_of_mem _ (lk_mem h)
theorem len1 {α : Type} {xs : List α} (h : xs.length = 1) : ∃ a, xs = [a] := by
  match xs, h with
  | [a], _ => exact ⟨a, rfl⟩
theorem len2 {α : Type} {xs : List α} (h : xs.length = 2) : ∃ a b, xs = [a, b] := by
  match xs, h with
  | [a, b], _ => exact ⟨a, b, rfl⟩
theorem len3 {α : Type} {xs : List α} (h : xs.length = 3) : ∃ a b c, xs = [a, b, c] := by
  match xs, h with
  | [a, b, c], _ => exact ⟨a, b, c, rfl⟩
section
variable {d : PyData} {w : Str} {xs : List PyData}
theorem sh_rr (v : Valid d w xs ["reg", "reg"]) (hw : w ∈ (["copy", "same", "less"] : List Str)) : Shape d := by
  obtain ⟨a, b, rfl⟩ := len2 v.len
  obtain ⟨i, rfl, h1, h2⟩ := fits_reg (v.fits 0 _ _ rfl rfl)
  obtain ⟨j, rfl, h3, h4⟩ := fits_reg (v.fits 1 _ _ rfl rfl)
  rw [v.eq]; exact .rr hw ⟨h1, h2⟩ ⟨h3, h4⟩
theorem sh_rrr (v : Valid d w xs ["reg", "reg", "reg"]) (hw : w ∈ (["add", "sub", "mul"] : List Str)) : Shape d := by
  obtain ⟨a, b, c, rfl⟩ := len3 v.len
  obtain ⟨i, rfl, h1, h2⟩ := fits_reg (v.fits 0 _ _ rfl rfl)
  obtain ⟨j, rfl, h3, h4⟩ := fits_reg (v.fits 1 _ _ rfl rfl)
  obtain ⟨k, rfl, h5, h6⟩ := fits_reg (v.fits 2 _ _ rfl rfl)
  rw [v.eq]; exact .rrr hw ⟨h1, h2⟩ ⟨h3, h4⟩ ⟨h5, h6⟩
theorem sh_r1 (v : Valid d w xs ["reg"]) (hw : w ∈ (["in", "out", "callr"] : List Str)) : Shape d := by
  obtain ⟨a, rfl⟩ := len1 v.len
  obtain ⟨i, rfl, h1, h2⟩ := fits_reg (v.fits 0 _ _ rfl rfl)
  rw [v.eq]; exact .r1 hw ⟨h1, h2⟩
theorem sh_s1 (v : Valid d w xs ["word"]) (hw : w ∈ (["mark", "jump", "if", "unless", "call", "tail"] : List Str)) : Shape d := by
  obtain ⟨a, rfl⟩ := len1 v.len
  obtain ⟨s, rfl, hs⟩ := fits_word (v.fits 0 _ _ rfl rfl)
  rw [v.eq]; exact .s1 hw hs
theorem sh_stk (v : Valid d w xs ["reg or link"]) (hw : w ∈ (["push", "pop"] : List Str)) : Shape d := by
  obtain ⟨a, rfl⟩ := len1 v.len
  rw [v.eq]
  rcases fits_rl (v.fits 0 _ _ rfl rfl) with rfl | ⟨i, rfl, hi⟩
  · exact .lnk hw
  · exact .stk hw hi
theorem sh_fin (v : Valid d w xs []) (hw : w ∈ (["back", "stop"] : List Str)) : Shape d := by
  obtain rfl := List.eq_nil_of_length_eq_zero v.len
  rw [v.eq]; exact .fin hw
theorem shape_of (h : isLineD d = true) : Shape d := by
  obtain ⟨w, xs, kinds, v⟩ := valid_of h
  have hm := lk_mem v.form
  unfold forms at hm
  simp only [List.mem_cons, Prod.mk.injEq, List.not_mem_nil, or_false] at hm
  rcases hm with ⟨rfl, rfl⟩ | ⟨rfl, rfl⟩ | ⟨rfl, rfl⟩ | ⟨rfl, rfl⟩ | ⟨rfl, rfl⟩ | ⟨rfl, rfl⟩ | ⟨rfl, rfl⟩ | ⟨rfl, rfl⟩ | ⟨rfl, rfl⟩ | ⟨rfl, rfl⟩ | ⟨rfl, rfl⟩ | ⟨rfl, rfl⟩ | ⟨rfl, rfl⟩ | ⟨rfl, rfl⟩ | ⟨rfl, rfl⟩ | ⟨rfl, rfl⟩ | ⟨rfl, rfl⟩ | ⟨rfl, rfl⟩ | ⟨rfl, rfl⟩ | ⟨rfl, rfl⟩ | ⟨rfl, rfl⟩ | ⟨rfl, rfl⟩ | ⟨rfl, rfl⟩
  · obtain ⟨a, b, rfl⟩ := len2 v.len
    obtain ⟨i, rfl, h1, h2⟩ := fits_reg (v.fits 0 _ _ rfl rfl)
    have hf := v.fits 1 _ _ rfl rfl
    obtain ⟨j, rfl⟩ := fits_num hf
    rw [v.eq]; exact .num ⟨h1, h2⟩ (fits_numD hf)
  · exact sh_rr v (by decide +kernel)
  · exact sh_rrr v (by decide +kernel)
  · exact sh_rrr v (by decide +kernel)
  · exact sh_rrr v (by decide +kernel)
  · obtain ⟨a, b, rfl⟩ := len2 v.len
    obtain ⟨i, rfl, h1, h2⟩ := fits_reg (v.fits 0 _ _ rfl rfl)
    obtain ⟨s, rfl, hs⟩ := fits_word (v.fits 1 _ _ rfl rfl)
    rw [v.eq]; exact .addr ⟨h1, h2⟩ hs
  · exact sh_rr v (by decide +kernel)
  · exact sh_rr v (by decide +kernel)
  · exact sh_r1 v (by decide +kernel)
  · exact sh_r1 v (by decide +kernel)
  · exact sh_stk v (by decide +kernel)
  · exact sh_stk v (by decide +kernel)
  · obtain ⟨a, b, rfl⟩ := len2 v.len
    obtain ⟨i, rfl, h1, h2⟩ := fits_reg (v.fits 0 _ _ rfl rfl)
    have e := fits_entry (v.fits 1 _ _ rfl rfl)
    rw [v.eq, e]; exact .read ⟨h1, h2⟩
  · obtain ⟨a, b, rfl⟩ := len2 v.len
    obtain ⟨i, rfl, h1, h2⟩ := fits_reg (v.fits 1 _ _ rfl rfl)
    have e := fits_entry (v.fits 0 _ _ rfl rfl)
    rw [v.eq, e]; exact .write ⟨h1, h2⟩
  · exact sh_s1 v (by decide +kernel)
  · exact sh_s1 v (by decide +kernel)
  · exact sh_s1 v (by decide +kernel)
  · exact sh_s1 v (by decide +kernel)
  · exact sh_s1 v (by decide +kernel)
  · exact sh_r1 v (by decide +kernel)
  · exact sh_s1 v (by decide +kernel)
  · exact sh_fin v (by decide +kernel)
  · exact sh_fin v (by decide +kernel)
end
end Fl
end
section
set_option Elab.async false
set_option linter.all false
set_option maxRecDepth 100000
set_option maxHeartbeats 4000000
namespace Fx
open PySem PySem.Spec PyProof.Rows L2
open Evl (Ex fresh_back)
section
variable {X : Cx} {o i e : Expr} {σ : L2.St} {H : Hp} {Q : VK} {pos : Pos}
/-- d[k], d perhaps locked -/
theorem re_dgetR (hu : X.A.units + 1 < cLine) (h : RE X o σ H fun x H1 => RE X i σ H1 fun y H2 => ∃ a kvs k v, x = .ref a ∧ Rd H2 a (.dK kvs) ∧ y = kV k ∧ valV kvs k = some v ∧ Q v H2) (hs : PlainIx i := by exact fun _ _ => rfl) : RE X (.Subscript o i pos) σ H Q :=
  re_of (pe_dget hu pe_RE pe_RE hs) (h.mono fun x H1 q => q.mono fun y H2 ⟨a, kvs, k, v, ex, hk, ey, hv, q⟩ => ⟨a, v, ex, .inl ⟨kvs, k, hk, ey, hv.symm⟩, q⟩)
end
end Fx
namespace Fl
open PySem PySem.Spec PyProof.Rows L2 Fx
open Evl (Ex fresh_back)
section
variable {P : Program} {w : World} {K : PySem.W.Frag} {mg : Str → Option Value} {base : Heap} {f : Addr} {fd : FuncData}
theorem sc_functions : FnScope ["self"] ["self"] (defScope s_functions) := ⟨rfl, rfl, rfl, by decide +kernel, rfl, by decide +kernel, by decide +kernel⟩
def sp_functions (K : PySem.W.Frag) (C : Addr) : Sp := fun vs H Q _ => ∃ a dx g t xs ds, vs = [.ref a] ∧ Prog1 K C H a dx g t xs ds ∧ ∀ p, H p = none → Q (.ref p) (upd H p (.dK [(.inr "main", .ref t)]))
theorem ok_functions {C : Addr} (F : Fun K "functions" "Program.functions" s_functions f fd) (G : Gb mg) (T : PC K C) : FnOk P w K mg base CX0 1 f fd ["self"] (sp_functions K C) := by
  refine F.ok sc_functions (fun vs H Q E h => ?_) (fun cdv A outer s H vs Q E hr h => ⟨RB _ _, pss_RB, ?_⟩)
  · obtain ⟨_, _, _, _, _, _, rfl, _⟩ := h; rfl
  obtain ⟨a, dx, g, t, xs, ds, rfl, pr, q⟩ := h
  exact rb_one (rs_ret (re_ct call_dictD G.dict (ra_cons (re_fld (re_var 0 rfl ⟨a, C, dx, _, _, rfl, pr.ins, T.cls, T.nF, rfl, ra_nil ⟨g, _, rfl, .inl pr.dict, fun p hp => q p hp⟩⟩)))))
abbrev nm_size : List Str := ["self", "name"]
def sp_size (K : PySem.W.Frag) (C : Addr) : Sp := fun vs H Q _ => ∃ a dx g t xs ds, vs = [.ref a] ∧ Prog1 K C H a dx g t xs ds ∧ Lines (.tuple ds) ∧ ∀ H', Ex H H' → Q (.int (ds.map sizeD).sum) H'
/-- the class as a global name: what it takes to be made -/
structure CM (P : Program) (w : World) (K : PySem.W.Frag) (mg : Str → Option Value) (base : Heap) (C CI : Addr) : Prop where
  gm : mg "Program" = some (.ref C)
  made : ∃ g fd, Mk K C g ∧ Binds K fd ["self", "functions"] [] ∧ FnOk P w K mg base (L2.CX P w) 7 g fd ["self", "functions"] (sp_init K C CI)
/-- what Program({'main': v}) gives -/
def makeR (K : PySem.W.Frag) (C CI : Addr) (v : V) (d : PyData) (H : Hp) (Q : VK) (E : XK) : Prop := OneFn false v d ∧
  (firstWrong [(.inr "main", v)] false (itemsD d) = none → ∀ H' a dx g t xs, Ex H H' → Prog1 K C H' a dx g t xs (itemsD d) → Q (.ref a) H') ∧
  ∀ i, firstWrong [(.inr "main", v)] false (itemsD d) = some i → ∀ ed H', H ed = none → Ex H H' → H' ed = some (.xd [("index", .int (i : Nat)), ("name", .str "main")]) → E (.ref CI) (some ed) H'
section
variable {H : Hp} {Q : VK} {E : XK}
/-- at the new instance __init__'s promise -/
theorem makeR.init {C CI a dx fa : Addr} {v : V} {d : PyData} (hd : D K H v d) (hf : H fa = some (.dK [(.inr "main", v)])) (h1 : H a = none) (h2 : H dx = none) (ne : dx ≠ a) (m : makeR K C CI v d H Q E) :
    sp_init K C CI [.ref a, .ref fa] (upd (upd H dx (.own a)) a (.ins C dx [])) (fun v H2 => v = .non ∧ Q (.ref a) H2) E := by
  obtain ⟨one, q, qe⟩ := m
  have e : Ex H (upd (upd H dx (.own a)) a (.ins C dx [])) := fun b o hb => by
    rw [upd_ne (ne_of_none hb h1), upd_ne (ne_of_none hb h2)]; exact hb
  refine ⟨a, dx, fa, v, d, rfl, upd_same, e _ _ hf, hd.mono e, one, fun hn H' g t xs ex pr => ⟨rfl, q hn H' a dx g t xs (fun b o hb => ex b o (e _ _ hb) (ne_of_none hb h1)) pr⟩, fun i hi ed H' hed ex hx => qe i hi ed H' (fresh_back e hed) (e.trans ex) hx⟩
end
theorem sc_of : FnScope ["cls", "lines"] ["cls", "lines"] (defScope s_of) := ⟨rfl, rfl, rfl, by decide +kernel, rfl, by decide +kernel, by decide +kernel⟩
def sp_of (K : PySem.W.Frag) (C CI : Addr) : Sp := fun vs H Q E => ∃ t d, vs = [.ref C, .ref t] ∧ D K H (.ref t) d ∧ ∀ H1, Ex H H1 → makeR K C CI (.ref t) d H1 Q E
theorem ok_of {C CI : Addr} (F : Fun K "of" "Program.of" s_of f fd) (M : CM P w K mg base C CI) : FnR P w K mg base (L2.CX P w) 9 f (fun vs H Q E => ∃ ws rest, vs = ws ++ rest ∧ ws.length = ["cls"].length ∧ rest.length ≤ sizeLine ∧ ∀ p, H p = Option.none → sp_of K C CI (ws ++ [V.ref p]) (upd H p (.tup rest)) Q E) := by
  obtain ⟨oc, od, kV, doc, pm, an, cdv, ct, osl, rfl, lk, hcd⟩ := F.ex
  refine StX.fn_star (ps := ["cls"]) (pv := "lines") lk hcd sc_of StX.cxUp (StX.bind_star1 (B := fun us => bindArgs (PySem.W.fnOf "of" "Program.of" (defArgs s_of) (defBody s_of) (defScope s_of) .none kV doc pm an cdv ct) ⟨us, []⟩) (p1 := "cls") (pv := "lines") (fun a => rfl) (fun a r rs => rfl)) (fun A outer s H vs Q E hr h => ⟨RB _ _, pss_RB, ?_⟩)
  obtain ⟨t, d, rfl, hd, mr⟩ := h
  obtain ⟨g, gd, hM, hb, FM⟩ := M.made
  have tk : Takes (cxOf (L2.CX P w) P w K mg base ["cls", "lines"] "Program.of" (defScope s_of) f cdv A outer s H E) (fun cls d _ H => E cls d H) := takes_of rfl rfl rfl rfl
  refine rb_one (rs_ret (re_makeL (i := 0) hM FM hr hb (passes_call tk (fun _ _ _ _ z => z)) rfl (ra_cons (re_dict1 fun p hp => re_str (re_var 1 rfl ⟨upd_same, .inr "main", rfl, ra_nil fun a dx h1 h2 ne => ?_⟩)))))
  have e1 : Ex H (upd (upd H p (.dK [])) p (.dK [(.inr "main", .ref t)])) := fun b o hb => by
    rw [upd_ne (ne_of_none hb hp), upd_ne (ne_of_none hb hp)]; exact hb
  exact makeR.init (hd.mono e1) upd_same h1 h2 ne (mr _ e1)
end
end Fl
namespace Fx
open PySem PySem.Spec PyProof.Rows L2
section
variable {X : Cx} {o e : Expr} {es : List Expr} {σ : L2.St} {H : Hp} {Q : VK} {m : Str} {pos apos : Pos}
/-- C.m(e, ..), m a classmethod -/
theorem re_cmeth {CX : CXT} {k : Nat} {C p g : Addr} {mc : Value} {sp : Sp} {E : XK} {pl : Sem Bool} (r : ClX.CRead X.K C mc) (c : ClX.CMet X.K C mc m p g) (F : FnR X.prog X.w X.K X.mg X.base CX k g sp) (hr : Room k X.A) (hx : Passes CX X E)
    (h : RE X o σ H fun x H1 => x = .ref C ∧ RA X (e :: es) σ H1 fun vs H2 => sp (.ref C :: vs) H2 Q E)
    (hst : starEach (e :: es) X.env = (false, eval e X.env) :: starEach es X.env := by rfl) (hpl : (backTo pos (starEach es X.env)).any (·.1) = false := by rfl)
    (ht : eval (.Call (.Attribute o m apos) (e :: es) [] pos) X.env = (do
      let ov ← eval o X.env
      standAt apos.atName
      let (f, first) ← holding [ov] (getMethod ov m pl)
      callWith pos f first (backTo pos (starEach (e :: es) X.env)) (backToKw pos (keywordEach [] X.env))) := by rfl) : RE X (.Call (.Attribute o m apos) (e :: es) [] pos) σ H Q :=
  re_of (ClX.pe_cmeth pe_RE r c F hr hx pa_RA hst hpl ht) h
end
end Fx
end
section
set_option Elab.async false
set_option linter.all false
set_option maxRecDepth 100000
set_option maxHeartbeats 4000000
namespace Fx
open PySem PySem.Spec PyProof.Rows L2
open Evl (Ex fresh_back)
section
variable {X : Cx} {o : Expr} {σ : L2.St} {H : Hp} {Q : VK} {D : Ends} {m : Str} {pos apos : Pos}
theorem rs_break (h : D.bk σ H) : RS X (.Break pos) D σ H := rs_of ps_break h
/-- o.m() -/
theorem re_meth0 {CX : CXT} {k : Nat} {C g : Addr} {fd : FuncData} {ps : List Str} {sp : Sp} {E : XK} {pl : Sem Bool} (c : Cls X.K C) (hm : Meth X.K C m g) (F : FnOk X.prog X.w X.K X.mg X.base CX k g fd ps sp) (hr : Room k X.A) (hb : Binds X.K fd ps []) (hx : Passes CX X E)
    (h : RE X o σ H fun x H1 => ∃ a dx fs, x = .ref a ∧ H1 a = some (.ins C dx fs) ∧ fs.lookup m = none ∧ sp [x] H1 Q E)
    (ht : eval (.Call (.Attribute o m apos) [] [] pos) X.env = (do
      let ov ← eval o X.env
      standAt apos.atName
      let (f, first) ← holding [ov] (getMethod ov m pl)
      callWith pos f first (backTo pos (starEach [] X.env)) (backToKw pos (keywordEach [] X.env))) := by rfl) :
    RE X (.Call (.Attribute o m apos) [] [] pos) σ H Q :=
  re_of (pe_meth0 pe_RE c hm F hr hb .nil hx ht) (h.mono fun x H1 ⟨a, dx, fs, h1, h2, h3, h4⟩ => ⟨a, dx, fs, h1, h2, h3, by subst h1; exact h4⟩)
end
end Fx
namespace Fl
open PySem PySem.Spec PyProof.Rows L2 Fx
open Evl (Ex fresh_back)
/-! ### the lines of a bare function -/
theorem word_len {s : Str} (h : isWordS s = true) : s.length ≤ 100000 := word_short h
theorem line_short {d : PyData} (h : isLineD d = true) : shortL d := by
  cases shape_of h with
  | num => exact ⟨Nat.le_of_ble_eq_true rfl, fun x hx => by
      simp only [List.mem_cons, List.not_mem_nil, or_false] at hx
      rcases hx with rfl | rfl | rfl
      · exact Nat.le_of_ble_eq_true rfl
      · trivial
      · trivial⟩
  | rr hw =>
    simp only [List.mem_cons, List.not_mem_nil, or_false] at hw
    exact ⟨Nat.le_of_ble_eq_true rfl, fun x hx => by
      simp only [List.mem_cons, List.not_mem_nil, or_false] at hx
      rcases hx with rfl | rfl | rfl
      · rcases hw with rfl | rfl | rfl <;> exact Nat.le_of_ble_eq_true rfl
      · trivial
      · trivial⟩
  | rrr hw =>
    simp only [List.mem_cons, List.not_mem_nil, or_false] at hw
    exact ⟨Nat.le_of_ble_eq_true rfl, fun x hx => by
      simp only [List.mem_cons, List.not_mem_nil, or_false] at hx
      rcases hx with rfl | rfl | rfl | rfl
      · rcases hw with rfl | rfl | rfl <;> exact Nat.le_of_ble_eq_true rfl
      · trivial
      · trivial
      · trivial⟩
  | addr hr hf => exact ⟨Nat.le_of_ble_eq_true rfl, fun x hx => by
      simp only [List.mem_cons, List.not_mem_nil, or_false] at hx
      rcases hx with rfl | rfl | rfl
      · exact Nat.le_of_ble_eq_true rfl
      · trivial
      · exact word_len hf⟩
  | r1 hw =>
    simp only [List.mem_cons, List.not_mem_nil, or_false] at hw
    exact ⟨Nat.le_of_ble_eq_true rfl, fun x hx => by
      simp only [List.mem_cons, List.not_mem_nil, or_false] at hx
      rcases hx with rfl | rfl
      · rcases hw with rfl | rfl | rfl <;> exact Nat.le_of_ble_eq_true rfl
      · trivial⟩
  | s1 hw hs =>
    simp only [List.mem_cons, List.not_mem_nil, or_false] at hw
    exact ⟨Nat.le_of_ble_eq_true rfl, fun x hx => by
      simp only [List.mem_cons, List.not_mem_nil, or_false] at hx
      rcases hx with rfl | rfl
      · rcases hw with rfl | rfl | rfl | rfl | rfl | rfl <;> exact Nat.le_of_ble_eq_true rfl
      · exact word_len hs⟩
  | stk hw =>
    simp only [List.mem_cons, List.not_mem_nil, or_false] at hw
    exact ⟨Nat.le_of_ble_eq_true rfl, fun x hx => by
      simp only [List.mem_cons, List.not_mem_nil, or_false] at hx
      rcases hx with rfl | rfl
      · rcases hw with rfl | rfl <;> exact Nat.le_of_ble_eq_true rfl
      · trivial⟩
  | lnk hw =>
    simp only [List.mem_cons, List.not_mem_nil, or_false] at hw
    exact ⟨Nat.le_of_ble_eq_true rfl, fun x hx => by
      simp only [List.mem_cons, List.not_mem_nil, or_false] at hx
      rcases hx with rfl | rfl
      · rcases hw with rfl | rfl <;> exact Nat.le_of_ble_eq_true rfl
      · exact Nat.le_of_ble_eq_true rfl⟩
  | read => exact ⟨Nat.le_of_ble_eq_true rfl, fun x hx => by
      simp only [List.mem_cons, List.not_mem_nil, or_false] at hx
      rcases hx with rfl | rfl | rfl
      · exact Nat.le_of_ble_eq_true rfl
      · trivial
      · trivial⟩
  | write => exact ⟨Nat.le_of_ble_eq_true rfl, fun x hx => by
      simp only [List.mem_cons, List.not_mem_nil, or_false] at hx
      rcases hx with rfl | rfl | rfl
      · exact Nat.le_of_ble_eq_true rfl
      · trivial
      · trivial⟩
  | fin hw =>
    simp only [List.mem_cons, List.not_mem_nil, or_false] at hw
    exact ⟨Nat.le_of_ble_eq_true rfl, fun x hx => by
      simp only [List.mem_cons, List.not_mem_nil, or_false] at hx
      subst hx
      rcases hw with rfl | rfl <;> exact Nat.le_of_ble_eq_true rfl⟩
/-- the letter stands for nothing: it keeps the form of Whole -/
structure WholeB (q : Bool) (ns : List Str) (ds : List PyData) : Prop where
  ok : ∀ d ∈ ds, isLineD d = true
  bare : ∀ d ∈ ds, wordD d ∉ stackL
  named : ∀ d ∈ ds, ∀ s, nfD d = .str s → s ∈ ns
  nodup : (labelsOf ds).Nodup
  jumps : ∀ d ∈ ds, wordD d ∈ jumpL → labD d ∈ labelsOf ds
  last : ∃ d, ds[ds.length - 1]? = some d ∧ wordD d ∈ endL
  pos : 0 < ds.length
theorem last_not {q : Bool} {ns : List Str} {ds : List PyData} (W : WholeB q ns ds) {i : Nat} {l : PyData} (h : ds[i]? = some l) (hw : wordD l ∉ endL) : i + 1 < ds.length := by
  have hi := (List.getElem?_eq_some_iff.mp h).1
  obtain ⟨x, hx, hxw⟩ := W.last
  by_cases z : i = ds.length - 1
  · rw [← z, h] at hx
    cases hx
    exact absurd hxw hw
  · omega
namespace WholeB
variable {q : Bool} {ns : List Str} {ds : List PyData}
theorem tidy (W : WholeB q ns ds) : Tidy ds true := ⟨fun _ => W.last, fun z => (nomatch z), fun z => (nomatch z)⟩
theorem labs (W : WholeB q ns ds) : ∀ d ∈ ds, hasK (marksV ds) (nlD d) = true := fun d hd => by
  unfold nlD
  by_cases h : wordD d = "jump" ∨ wordD d = "if" ∨ wordD d = "unless"
  · rw [if_pos h]
    have hw : wordD d ∈ jumpL := by
      unfold jumpL
      simpa only [List.mem_cons, List.not_mem_nil, or_false] using h
    have hl := W.jumps d hd hw
    have hp : partD 1 d = .str (labD d) := by
      rcases h with h | h | h
      · exact word_part (W.ok d hd) h (by decide +kernel)
      · exact word_part (W.ok d hd) h (by decide +kernel)
      · exact word_part (W.ok d hd) h (by decide +kernel)
    rw [hp]
    obtain ⟨n, m, h1, _⟩ := markN_some (mem_labels hl)
    show (valV (marksTo ds ds.length) (.inr (labD d))).isSome = true
    rw [val_marks, h1]; rfl
  · rw [if_neg h]; rfl
theorem good {d : PyData} (W : WholeB q ns (itemsD d)) (isl : (isL d || isT d) = true) (h60 : (itemsD d).length ≤ 60) : Good d := ⟨isl, W.pos, h60, W.ok, W.labs⟩
theorem wrong (W : WholeB q ns ds) {fs : List (Key × V)} {b : Bool} (hns : ∀ s ∈ ns, (valV fs (.inr s)).isSome = true) : firstWrong fs b ds = none := by
  have hf : ds.filter isLineD = ds := List.filter_eq_self.mpr W.ok
  have go : ∀ (r : List PyData) (i : Nat) (m : List Str), (∀ d ∈ r, d ∈ ds) → (m ++ labelsOf r).Nodup → wrongFrom (marksV ds) fs b r i m = none := by
    intro r
    induction r with
    | nil => intro i m _ _; rfl
    | cons d r ih =>
      intro i m hm hn
      have hd := hm d List.mem_cons_self
      rw [labelsOf_cons] at hn
      have hthere : thereD (marksV ds) fs d = true := by
        unfold thereD
        rw [W.labs d hd, Bool.true_and]
        unfold hasK
        cases hnf : nfD d with
        | str s => exact hns s (W.named d hd s hnf)
        | _ => rfl
      show (if isLineD d = false ∨ (b = true ∧ wordD d ∈ stackL) then some i
        else if wordD d = "mark" ∧ labD d ∈ m then some i
        else if thereD (marksV ds) fs d = false then some i
        else wrongFrom (marksV ds) fs b r (i + 1) (if wordD d = "mark" then m ++ [labD d] else m)) = none
      rw [if_neg, if_neg, if_neg (by rw [hthere]; exact fun z => nomatch z)]
      · refine ih _ _ (fun x hx => hm x (List.mem_cons_of_mem _ hx)) ?_
        by_cases hw : wordD d = "mark"
        · rw [if_pos hw] at hn ⊢
          rw [List.append_assoc]; exact hn
        · rw [if_neg hw] at hn ⊢
          exact hn
      · rintro ⟨hw, hl⟩
        rw [if_pos hw] at hn
        exact (List.nodup_append.mp hn).2.2 _ hl _ List.mem_cons_self rfl
      · rintro (z | ⟨z, z2⟩)
        · rw [W.ok d hd] at z; cases z
        · exact W.bare d hd z2
  unfold firstWrong
  rw [hf]
  exact go ds 0 [] (fun _ h => h) (by simpa using W.nodup)
end WholeB
end Fl
end
section
set_option Elab.async false
set_option linter.all false
set_option maxRecDepth 100000
set_option maxHeartbeats 4000000
namespace Fx
open PySem PySem.Spec PyProof.Rows L2
open Evl (Ex fresh_back)
theorem atI_in {α : Type} {xs : List α} {i : Int} (h0 : 0 ≤ i) (h1 : i < xs.length) : ∃ v, atI xs i = some v ∧ v ∈ xs := by
  obtain ⟨n, rfl⟩ := Int.eq_ofNat_of_zero_le h0
  have hn : n < xs.length := by omega
  exact ⟨xs[n], atI_nat (List.getElem?_eq_getElem hn), List.getElem_mem hn⟩
section
variable {X : Cx} {a b : Expr} {σ : L2.St} {H : Hp} {Q : VK} {pos : Pos}
theorem re_add (h : RE X a σ H fun x H1 => RE X b σ H1 fun y H2 => ∃ i j : Int, x = .int i ∧ y = .int j ∧ Q (.int (i + j)) H2) : RE X (.BinOp a .Add b pos) σ H Q := re_op op_add h
theorem re_sub (h : RE X a σ H fun x H1 => RE X b σ H1 fun y H2 => ∃ i j : Int, x = .int i ∧ y = .int j ∧ Q (.int (i - j)) H2) : RE X (.BinOp a .Sub b pos) σ H Q := re_op op_sub h
theorem re_mul (h : RE X a σ H fun x H1 => RE X b σ H1 fun y H2 => ∃ i j : Int, x = .int i ∧ y = .int j ∧ CMul i j ∧ Q (.int (i * j)) H2) : RE X (.BinOp a .Mult b pos) σ H Q := re_op op_mul h
theorem re_mod (h : RE X a σ H fun x H1 => RE X b σ H1 fun y H2 => ∃ i j : Int, x = .int i ∧ y = .int j ∧ 0 < j ∧ Q (.int (i % j)) H2) : RE X (.BinOp a .Mod b pos) σ H Q := re_op op_mod h
theorem re_fdiv (h : RE X a σ H fun x H1 => RE X b σ H1 fun y H2 => ∃ i j : Int, x = .int i ∧ y = .int j ∧ (0 < j ∧ j < 1073741824) ∧ Q (.int (i / j)) H2) : RE X (.BinOp a .FloorDiv b pos) σ H Q := re_op op_fdiv h
theorem re_int1 {p : Pos} (hm : X.mg "int" = none) (h : RE X a σ H fun x H1 => ∃ i, x = .int i ∧ Q (.int i) H1) (hg : Gl X "int" := by rfl) (h1 : starEach [a] X.env = (false, eval a X.env) :: starEach [] X.env := by rfl) :
    RE X (.Call (.Name "int" p) [a] [] pos) σ H Q := re_ct call_int1 hm (ra_cons (h.mono fun x H1 ⟨i, e, q⟩ => ra_nil (.inl ⟨i, by rw [e], q⟩)) h1) (by decide +kernel) hg (by decide) (by decide) h1
end
end Fx
namespace Fl
open PySem PySem.Spec PyProof.Rows L2 Fx
open Evl (Ex fresh_back)
/-! ### the law's pen -/
def penV (c : Addr) (t l : Int) : List (Key × V) := [(.inr "cells", .ref c), (.inr "turn", .int t), (.inr "left", .int l)]
def primesL : List Int := [2147483629, 2147483647, 2147483587, 2147483563, 2147483579]
theorem primes_ok : ∀ p ∈ primesL, 0 < p ∧ p < 2147483648 := by decide
theorem primes_at {i : Int} (h0 : 0 ≤ i) (h1 : i < 5) : ∃ p : Int, atI (primesL.map V.int) i = some (.int p) ∧ 0 < p ∧ p < 2147483648 := by
  obtain ⟨v, hv, hm⟩ := atI_in (xs := primesL.map V.int) (i := i) h0 (by rw [List.length_map]; exact h1)
  obtain ⟨p, hp, rfl⟩ := List.mem_map.mp hm
  exact ⟨p, hv, primes_ok p hp⟩
theorem hu64 {k : Nat} {A : Around} (hr : Room k A) : A.units + 64 < cLine := by
  have := hr.un
  omega
theorem dpa_ints {K : PySem.W.Frag} {H : Hp} : ∀ ns : List Int, DpAll K H (ns.map V.int) (ns.map PyData.int)
  | [] => .nil
  | n :: r => .cons (.int n) (dpa_ints r)
theorem lay_ints : ∀ ns : List Int, PyData.canLayAll0 (ns.map PyData.int) = true
  | [] => rfl
  | n :: r => by
    show (PyData.canLay0 (.int n) && PyData.canLayAll0 (r.map PyData.int)) = true
    rw [lay_ints r]; rfl
theorem depth_ints : ∀ ns : List Int, PyData.depthAll (ns.map PyData.int) = 0
  | [] => rfl
  | n :: r => by
    show max (PyData.depth (.int n)) (PyData.depthAll (r.map PyData.int)) = 0
    rw [depth_ints r]; rfl
theorem shaped_ints (ns : List Int) : SeqAt.shaped (.list (ns.map PyData.int)) = true := by
  show (PyData.canLayAll0 (ns.map PyData.int) && decide (PyData.depthAll (ns.map PyData.int) + 1 ≤ 64)) = true
  rw [lay_ints, depth_ints]; rfl
theorem pen_cells {c t l} : valV (penV c t l) (.inr "cells") = some (.ref c) := rfl
theorem pen_turn {c t l} : valV (penV c t l) (.inr "turn") = some (.int t) := rfl
theorem pen_left {c t l} : valV (penV c t l) (.inr "left") = some (.int l) := rfl
theorem put_turn {c t l} (t' : Int) : putK (penV c t l) (.inr "turn") (.int t') = penV c t' l := rfl
theorem put_left {c t l} (l' : Int) : putK (penV c t l) (.inr "left") (.int l') = penV c t l' := rfl
structure Pen (K : PySem.W.Frag) (H : Hp) (pa : Addr) (n : Nat) : Prop where
  ex : ∃ (c : Addr) (ns : List Int) (t l : Int), H pa = some (.dK (penV c t l)) ∧ Rd H c (.lst (ns.map V.int)) ∧ ns.length ≤ 63 ∧ 0 ≤ t ∧ t ≤ n ∧ 0 ≤ l
theorem rd_put {H : Hp} {a p : Addr} {xs : List V} {kvs : List (Key × V)} {o : HO} (hp : H p = some (.dK kvs)) (h : Rd H a (.lst xs)) : Rd (upd H p o) a (.lst xs) := by
  rcases h with h | ⟨o', h⟩
  · exact .inl (by rw [upd_ne (ne_of h hp (fun z => nomatch z))]; exact h)
  · exact .inr ⟨o', by rw [upd_ne (ne_of h hp (fun z => nomatch z))]; exact h⟩
theorem Pen.mono {K : PySem.W.Frag} {H H' : Hp} {pa : Addr} {n : Nat} (p : Pen K H pa n) (e : Ex H H') : Pen K H' pa n := by
  obtain ⟨c, ns, t, l, h1, h2, h3⟩ := p.ex
  exact ⟨c, ns, t, l, e _ _ h1, Evl.ex_rd e h2, h3⟩
theorem Pen.dict {K : PySem.W.Frag} {H : Hp} {pa : Addr} {n : Nat} (p : Pen K H pa n) : ∃ kvs, H pa = some (.dK kvs) := by
  obtain ⟨c, ns, t, l, h1, _⟩ := p.ex
  exact ⟨_, h1⟩
theorem exBut.refl {a : Addr} {H : Hp} : exBut a H H := fun _ _ h _ => h
theorem exBut.trans {a : Addr} {H H1 H2 : Hp} (e : exBut a H H1) (e' : exBut a H1 H2) : exBut a H H2 := fun b o h n => e' b o (e b o h n) n
theorem exBut.of {a : Addr} {H H1 : Hp} (e : Ex H H1) : exBut a H H1 := fun b o h _ => e b o h
theorem exBut.put {a : Addr} {H : Hp} {o : HO} : exBut a H (upd H a o) := fun b u h n => by rw [upd_ne n]; exact h
/-- all but the pen stays, and its cells -/
structure exP (a : Addr) (H H' : Hp) : Prop where
  but : exBut a H H'
  cells : ∀ c t l, H a = some (.dK (penV c t l)) → ∃ t' l', H' a = some (.dK (penV c t' l'))
theorem exP.refl {a : Addr} {H : Hp} : exP a H H := ⟨exBut.refl, fun c t l h => ⟨t, l, h⟩⟩
theorem exP.trans {a : Addr} {H H1 H2 : Hp} (e : exP a H H1) (e' : exP a H1 H2) : exP a H H2 := ⟨e.but.trans e'.but, fun c t l h => by
  obtain ⟨t1, l1, h1⟩ := e.cells c t l h
  exact e'.cells c t1 l1 h1⟩
theorem exP.of {a : Addr} {H H1 : Hp} (e : Ex H H1) : exP a H H1 := ⟨exBut.of e, fun c t l h => ⟨t, l, e _ _ h⟩⟩
theorem exP.put {a c : Addr} {t l t' l' : Int} {H : Hp} (h : H a = some (.dK (penV c t l))) : exP a H (upd H a (.dK (penV c t' l'))) := ⟨exBut.put, fun c2 t2 l2 h2 => by
  rw [h] at h2
  have e := HO.dK.inj (Option.some.inj h2)
  have e := (List.cons.inj e).1
  have e := V.ref.inj (Prod.mk.inj e).2
  subst e
  exact ⟨t', l', upd_same⟩⟩
section
variable {P : Program} {w : World} {K : PySem.W.Frag} {mg : Str → Option Value} {base : Heap} {f : Addr} {fd : FuncData}
/-- built-in names of the law -/
structure Gb2 (mg : Str → Option Value) : Prop where
  abs : mg "abs" = none
  range : mg "range" = none
  min : mg "min" = none
  repr : mg "repr" = none
  veE : mg "ValueError" = none
abbrev nm_draw : List Str := ["_law_pen_here", "_law_many", "_law_digit", "_law_turn", "_law_cell", "_law_primes", "_law_prime", "_law_drawn"]
theorem sc_draw : FnScope nm_draw ["_law_pen_here", "_law_many"] (defScope s_draw) := ⟨rfl, rfl, rfl, by decide +kernel, rfl, by decide +kernel, by decide +kernel⟩
def sp_draw (K : PySem.W.Frag) : Sp := fun vs H Q _ => ∃ pa m n, vs = [.ref pa, .int m] ∧ 0 < m ∧ m ≤ 1000 ∧ n ≤ 1000000 ∧ Pen K H pa n ∧ ∀ r H', 0 ≤ r → r < m → exP pa H H' → Pen K H' pa (n + 1) → Q (.int r) H'
theorem ok_draw (F : Fun K "_law_draw" "_law_draw" s_draw f fd) (G : Gb mg) (G2 : Gb2 mg) : FnOk P w K mg base CX0 1 f fd ["_law_pen_here", "_law_many"] (sp_draw K) := by
  refine F.ok sc_draw (fun vs H Q E h => ?_) (fun cdv A outer s H vs Q E hr h => ⟨RB _ _, pss_RB, ?_⟩)
  · obtain ⟨_, _, _, rfl, _⟩ := h; rfl
  obtain ⟨pa, m, n, rfl, m0, m1, n1, pen, q⟩ := h
  obtain ⟨c, ns, t, l, hpa, hc, hns, t0, t1, l0⟩ := pen.ex
  have hm30 : 0 < m ∧ m < 1073741824 := ⟨m0, by omega⟩
  have len3 : ∀ {c t l}, (penV c t l).length < sizeLine := by intro c t l; exact Nat.lt_of_lt_of_le (show 3 < 100000 by decide) (by decide)
  refine rb_cons (rs_if (rt_cmp op_gt (re_dget (hu_of hr) (re_var 0 rfl (re_str ⟨pa, _, .inr "left", _, rfl, hpa, rfl, pen_left, re_int ⟨l, 0, rfl, rfl, _, rfl, ifB (fun e => ?_) fun e => ?_⟩⟩)))))
  · refine rb_cons (rs_set 2 (by exact sc_draw.nd) (re_mod (re_int1 G.int (re_dget (hu_of hr) (re_var 0 rfl (re_str ⟨pa, _, .inr "left", _, rfl, hpa, rfl, pen_left, l, rfl, re_var 1 rfl ⟨l, m, rfl, rfl, m0, ?_⟩⟩))))))
    refine rb_cons (rs_dput (hu_of hr) (re_fdiv (re_dget (hu_of hr) (re_var 0 rfl (re_str ⟨pa, _, .inr "left", _, rfl, hpa, rfl, pen_left, re_var 1 rfl ⟨l, m, rfl, rfl, hm30, re_var 0 rfl (re_str ⟨pa, _, .inr "left", rfl, hpa, rfl, len3, ?_⟩)⟩⟩)))))
    rw [put_left]
    refine rb_one (rs_ret (re_var 2 rfl (q _ _ (Int.emod_nonneg _ (by omega)) (Int.emod_lt_of_pos _ m0) (exP.put hpa) ⟨c, ns, t, l / m, upd_same, rd_put hpa hc, hns, t0, by omega, Int.ediv_nonneg l0 (by omega)⟩)))
  refine rb_nil ?_
  refine rb_cons (rs_set 3 (by exact sc_draw.nd) (re_dget (hu_of hr) (re_var 0 rfl (re_str ⟨pa, _, .inr "turn", _, rfl, hpa, rfl, pen_turn, ?_⟩))))
  refine rb_cons (rs_dput (hu_of hr) (re_add (re_var 3 rfl (re_int ⟨t, 1, rfl, rfl, re_var 0 rfl (re_str ⟨pa, _, .inr "turn", rfl, hpa, rfl, len3, ?_⟩)⟩))))
  rw [put_turn]
  have eH : exP pa H (upd H pa (.dK (penV c (t + 1) l))) := exP.put hpa
  have hpa1 : upd H pa (.dK (penV c (t + 1) l)) pa = some (.dK (penV c (t + 1) l)) := upd_same
  have hc1 := rd_put (o := .dK (penV c (t + 1) l)) hpa hc
  generalize upd H pa (.dK (penV c (t + 1) l)) = H1 at *
  have tb : CMul t (30011 * t + 8117) := .inl ⟨by omega, by omega⟩
  refine rb_cons (rs_set 4 (by exact sc_draw.nd) (re_add (re_mul (re_int (re_var 3 rfl ⟨43, t, rfl, rfl, .inl ⟨by decide, by decide⟩, re_int ⟨_, 19, rfl, rfl, ?_⟩⟩)))))
  refine rb_cons (rs_ifJ (fun σ' H' => ∃ z : Int, σ' = [some (.ref pa), some (.int m), none, some (.int t), some (.int z), none, none, none] ∧ Ex H1 H') ?_ ?_)
  · refine rt_cmp (op_neD (hu64 hr)) (re_dget (hu_of hr) (re_var 0 rfl (re_str ⟨pa, _, .inr "cells", _, rfl, hpa1, rfl, pen_cells, re_lst (ra_nil ⟨(by decide), fun p H2 hp e2 h2 => ?_⟩)⟩)))
    refine ⟨.list (ns.map PyData.int), .list [], .lst (.inl (Evl.ex_rd e2 hc1)) (dpa_ints ns), .lst (.inl (.inl h2)) .nil, shaped_ints ns, rfl, _, rfl, ?_⟩
    cases ns with
    | nil => exact ifF (rb_nil ⟨_, rfl, e2⟩)
    | cons n0 nr =>
      have hlen : ((n0 :: nr).map V.int).length = (n0 :: nr).length := List.length_map ..
      have lpos : (0 : Int) < ((n0 :: nr).length : Nat) := by rw [List.length_cons]; omega
      obtain ⟨v, hv, hmem⟩ := atI_in (xs := (n0 :: nr).map V.int) (i := t % ((n0 :: nr).length : Nat)) (Int.emod_nonneg _ (by omega)) (by rw [hlen]; exact Int.emod_lt_of_pos _ lpos)
      obtain ⟨z, _, rfl⟩ := List.mem_map.mp hmem
      refine ifT (rb_one (rs_set 4 (by exact sc_draw.nd) (re_ixL (re_dget (hu_of hr) (re_var 0 rfl (re_str ⟨pa, _, .inr "cells", _, rfl, e2 _ _ hpa1, rfl, pen_cells, ?_⟩))))))
      refine re_mod (re_int1 G.int (re_var 3 rfl ⟨t, rfl, re_cb call_len G.len (ra_cons (re_dget (hu_of hr) (re_var 0 rfl (re_str ⟨pa, _, .inr "cells", _, rfl, e2 _ _ hpa1, rfl, pen_cells, ra_nil ⟨_, (n0 :: nr).length, rfl, .inl ⟨_, .inl (Evl.ex_rd e2 hc1), hlen.symm⟩, t, _, rfl, rfl, lpos, c, _, _, _, rfl, rfl, .inl (Evl.ex_rd e2 hc1), hv, z, rfl, e2⟩⟩))))⟩))
  rintro σ' H2 ⟨z, rfl, e2⟩
  have hpa2 := e2 _ _ hpa1
  have hc2 := Evl.ex_rd e2 hc1
  have fin : ∀ (H' : Hp) (l' r : Int), exP pa H2 H' → H' pa = some (.dK (penV c (t + 1) l')) → Rd H' c (.lst (ns.map V.int)) → 0 ≤ l' → 0 ≤ r → r < m → Q (.int r) H' := fun H' l' r ex hp' hc' l'0 r0 r1 =>
    q r H' r0 r1 (eH.trans ((exP.of e2).trans ex)) ⟨c, ns, t + 1, l', hp', hc', hns, by omega, by omega, l'0⟩
  have hlenN : (ns.map V.int).length = ns.length := List.length_map ..
  have rest : RB (cxOf CX0 P w K mg base nm_draw "_law_draw" (defScope s_draw) f cdv A outer s H E).nox ((defBody s_draw).drop 6) { nx := fun _ H' => Q .non H', rt := Q } [some (.ref pa), some (.int m), none, some (.int t), some (.int z), none, none, none] H2 := by
    refine rb_cons <| rs_set 5 (by exact sc_draw.nd) <| re_lst <| ra_cons <| re_int <| ra_cons <| re_int <| ra_cons <| re_int <| ra_cons <| re_int <| ra_cons <| re_int <| ra_nil ⟨(by decide : 5 ≤ 100000), fun lp H3 hlp e3 h3 => ?_⟩
    have hL : SqL K H3 lp (primesL.map V.int) := .inl (.inl h3)
    obtain ⟨p1, hp1, p10, p11⟩ := primes_at (Int.emod_nonneg t (by decide : (5 : Int) ≠ 0)) (Int.emod_lt_of_pos t (by decide : (0 : Int) < 5))
    obtain ⟨p2, hp2, p20, p21⟩ := primes_at (Int.emod_nonneg (t + 2) (by decide : (5 : Int) ≠ 0)) (Int.emod_lt_of_pos (t + 2) (by decide : (0 : Int) < 5))
    have fiv : (0 : Int) < 5 := by decide
    refine rb_cons <| rs_set 6 (by exact sc_draw.nd) <| re_ixL <| re_var 5 rfl <| re_mod <| re_int1 G.int <| re_var 3 rfl ⟨t, rfl, re_int ⟨t, 5, rfl, rfl, fiv, lp, _, _, _, rfl, rfl, hL, hp1, ?_⟩⟩
    have b1 := Int.emod_nonneg z (by omega : p1 ≠ 0)
    have b2 := Int.emod_lt_of_pos z p10
    refine rb_cons <| rs_set 7 (by exact sc_draw.nd) <| re_mod <| re_int1 G.int <| re_add <| re_add <| re_mul <| re_mod <| re_int1 G.int <| re_var 4 rfl ⟨z, rfl, re_var 6 rfl ⟨z, p1, rfl, rfl, p10, re_int ⟨_, 39373, rfl, rfl, .inl ⟨by omega, by omega⟩, ?_⟩⟩⟩
    refine re_mul <| re_var 3 rfl <| re_add <| re_mul <| re_int <| re_var 3 rfl ⟨30011, t, rfl, rfl, .inl ⟨by decide, by decide⟩, re_int ⟨_, 8117, rfl, rfl, t, _, rfl, rfl, tb, _, _, rfl, rfl, re_int ⟨_, 23, rfl, rfl, _, rfl, re_var 6 rfl ⟨_, p1, rfl, rfl, p10, ?_⟩⟩⟩⟩
    generalize hd1 : (z % p1 * 39373 + t * (30011 * t + 8117) + 23) % p1 = d1
    have b3 : 0 ≤ d1 := by rw [← hd1]; exact Int.emod_nonneg _ (by omega)
    have b4 : d1 < p1 := by rw [← hd1]; exact Int.emod_lt_of_pos _ p10
    refine rb_cons <| rs_set 7 (by exact sc_draw.nd) <| re_mod <| re_int1 G.int <| re_mul <| re_var 7 rfl <| re_add <| re_var 7 rfl <| re_int ⟨d1, 69621, rfl, rfl, d1, _, rfl, rfl, .inl ⟨by omega, by omega⟩, _, rfl, ?_⟩
    refine re_ixL <| re_var 5 rfl <| re_mod <| re_int1 G.int <| re_add <| re_var 3 rfl <| re_int ⟨t, 2, rfl, rfl, _, rfl, re_int ⟨_, 5, rfl, rfl, fiv, lp, _, _, _, rfl, rfl, hL, hp2, _, p2, rfl, rfl, p20, ?_⟩⟩
    generalize hd2 : d1 * (d1 + 69621) % p2 = d2
    have b5 : 0 ≤ d2 := by rw [← hd2]; exact Int.emod_nonneg _ (by omega)
    have b6 : d2 < p2 := by rw [← hd2]; exact Int.emod_lt_of_pos _ p20
    refine rb_one <| rs_ret <| re_mod <| re_int1 G.int <| re_fdiv <| re_mod <| re_int1 G.int <| re_add <| re_add <| re_mul <| re_var 7 rfl <| re_var 7 rfl ⟨d2, d2, rfl, rfl, .inl ⟨by omega, by omega⟩, re_mul <| re_int <| re_var 7 rfl ⟨16807, d2, rfl, rfl, .inl ⟨by decide, by decide⟩, _, _, rfl, rfl, re_var 3 rfl ⟨_, t, rfl, rfl, _, rfl, re_int ⟨_, 2147483549, rfl, rfl, by decide, re_int ⟨_, 64, rfl, rfl, ⟨by decide, by decide⟩, _, rfl, re_var 1 rfl ⟨_, m, rfl, rfl, m0, ?_⟩⟩⟩⟩⟩⟩
    exact fin _ _ _ (exP.of e3) (e3 _ _ hpa2) (Evl.ex_rd e3 hc2) l0 (Int.emod_nonneg _ (by omega)) (Int.emod_lt_of_pos _ m0)
  refine rb_cons <| rs_if <| rt_w <| rw_and <| rt_cmp op_lt <| re_var 3 rfl <| re_cb call_len G.len <| ra_cons <| re_dget (hu_of hr) <| re_var 0 rfl <| re_str ⟨pa, _, .inr "cells", _, rfl, hpa2, rfl, pen_cells, ra_nil ⟨_, ns.length, rfl, .inl ⟨_, .inl hc2, hlenN.symm⟩, t, _, rfl, rfl, _, rfl, ifB (fun e => ?_) fun e => ?_⟩⟩
  · refine rw_and1 <| rt_cmp op_ge <| re_cb call_abs G2.abs <| ra_cons <| re_var 4 rfl <| ra_nil ⟨z, rfl, re_op op_pow <| re_int <| re_int ⟨10, 18, rfl, rfl, ⟨by decide, by decide, by decide⟩, _, _, rfl, rfl, _, rfl, ifB (fun e => ?_) fun e => rb_nil rest⟩⟩
    have hge : (10 : Int) ^ (18 : Int).toNat ≤ (if z < 0 then -z else z) := of_decide_eq_true e
    generalize hz' : (if z < 0 then -z else z) = az at *
    refine rb_cons <| rs_dput (hu_of hr) <| re_fdiv <| re_sub <| re_cb call_abs G2.abs <| ra_cons <| re_var 4 rfl <| ra_nil ⟨z, rfl, re_op op_pow <| re_int <| re_int ⟨10, 18, rfl, rfl, ⟨by decide, by decide, by decide⟩, _, _, rfl, rfl, re_var 1 rfl ⟨_, m, rfl, rfl, hm30, re_var 0 rfl <| re_str ⟨pa, _, .inr "left", rfl, hpa2, rfl, len3, ?_⟩⟩⟩⟩
    rw [put_left, hz']
    refine rb_one <| rs_ret <| re_mod <| re_sub <| re_cb call_abs G2.abs <| ra_cons <| re_var 4 rfl <| ra_nil ⟨z, rfl, re_op op_pow <| re_int <| re_int ⟨10, 18, rfl, rfl, ⟨by decide, by decide, by decide⟩, _, _, rfl, rfl, re_var 1 rfl ⟨_, m, rfl, rfl, m0, ?_⟩⟩⟩
    rw [hz']
    exact fin _ _ _ (exP.put hpa2) upd_same (rd_put hpa2 hc2) (Int.ediv_nonneg (by omega) (by omega)) (Int.emod_nonneg _ (by omega)) (Int.emod_lt_of_pos _ m0)
  · exact ifF (rb_nil rest)
end
end Fl
end
section
set_option Elab.async false
set_option linter.all false
set_option maxRecDepth 100000
set_option maxHeartbeats 4000000
namespace Fx
open PySem PySem.Spec PyProof.Rows L2
open Evl (Ex fresh_back)
/-- d.update(another dict) -/
theorem mt_dupd {X : Cx} : MtR X "dict.update" (fun x vs H Q => ∃ (d o : Addr) (kvs more : List (Key × V)), x = .ref d ∧ vs = [.ref o] ∧ H d = some (.dK kvs) ∧ H o = some (.dK more) ∧ d ≠ o ∧ kvs.length + more.length ≤ 1000 ∧ (mergeK kvs more).length ≤ 1000 ∧
    Q .non (upd H d (.dK (mergeK kvs more)))) := by
  intro pins s σ H x xs v us Q I rx rxs h
  obtain ⟨d, o, kvs, more, rfl, rfl, hd, ho, hne, hl1, hl2, q⟩ := h
  cases rx
  obtain ⟨u, rfl, ru⟩ := rxs.one
  cases ru
  obtain ⟨z, lo, vs, rel, dd⟩ := dk_of I.hok hd
  obtain ⟨z2, lo2, vs2, rel2, dd2⟩ := dk_of I.hok ho
  have e1 := rel.length
  have e2 := rel2.length
  refine call_meetsIn PySem.F.slot_dict_update dd.typeIs PySem.F.entry_dict_update (PySem.F.args_dict_update_2 _ _) (meets_dict_update (mixKind X.prog X.w) d o hne lo2)
    ⟨vs, vs2, dd, dd2, by rw [sizeLine_eq]; omega, fun h' dd' _ hs => ?_⟩
  have he : ∃ q, h'.get? d = some q := let ⟨q, _, _, hq, _⟩ := dd'; ⟨q, hq⟩
  exact ⟨.non, _, d_write I (by rw [hd]; exact True.intro) hs he (dk_new (by rw [sizeLine_eq]; omega) lo (rel2.merge rel) dd'), rfl, q⟩
section
variable {X : Cx} {e o : Expr} {σ : L2.St} {H : Hp} {Q : VK} {pos apos cpos : Pos}
theorem re_update (h : RE X o σ H fun x H1 => ∃ d, x = .ref d ∧ (∃ kvs, H1 d = some (.dK kvs)) ∧ RE X e σ H1 fun y H2 => ∃ p kvs more, y = .ref p ∧ H2 d = some (.dK kvs) ∧ H2 p = some (.dK more) ∧ d ≠ p ∧ kvs.length + more.length ≤ 1000 ∧ (mergeK kvs more).length ≤ 1000 ∧ Q .non (upd H2 d (.dK (mergeK kvs more))))
    (base : attributeBase o "update" X.env (eval o X.env) = eval o X.env := by rfl) (line : (apos.endLine == cpos.line) = true := by rfl)
    (few : (((backTo cpos (starEach [e] X.env)).all (fun x => !x.1) && (backToKw cpos (keywordEach [] X.env)).all (fun x => x.1.isSome)) && decide (([e] : List Expr).length + ([] : List Keyword).length + (if ([] : List Keyword).isEmpty = true then 0 else 1) < 30)) = true := by rfl)
    (h1 : starEach [e] X.env = (false, eval e X.env) :: starEach [] X.env := by rfl) : RE X (.Call (.Attribute o "update" apos) [e] [] cpos) σ H Q :=
  re_of (pe_bm PySem.F.plainAttrs_dict PySem.F.slot_dict_update PySem.F.type_dict_update mt_dupd pe_RE pa_RA base few line h1 rfl) (h.mono fun x H1 ⟨d, ex, ⟨kvs0, hd⟩, q⟩ => by
    subst ex
    exact ⟨.inr (.inr (.inl ⟨rfl, .inl ⟨_, hd⟩⟩)), ra_cons (hs := h1) (q.mono fun y H2 ⟨p, kvs, more, ey, a, b, c, l1, l2, q⟩ => ra_nil ⟨d, p, kvs, more, rfl, by rw [ey], a, b, c, l1, l2, q⟩)⟩)
/-- what is just evaluated is locked for good -/
theorem re_freshLock (h : RE X e σ H fun v H1 => ∃ d u, v = .ref d ∧ H1 d = some u ∧ Mut (some u) ∧ ∀ od, Q v (upd H1 d (.frz od u))) : RE X e σ H Q := RE.made fun pins s I => thn (h.run pins s I) fun v s1 ⟨x, H1, I1, r, d, u, ex, hd, mu, q⟩ => by
  obtain ⟨od, I2⟩ := I1.lock hd mu
  exact ⟨x, _, I2, r, q od⟩
end
end Fx
end
section
set_option Elab.async false
set_option linter.all false
set_option maxRecDepth 100000
set_option maxHeartbeats 4000000
namespace Fl
open PySem PySem.Spec PyProof.Rows L2 Fx
open Evl (Ex fresh_back)
/-! ### the drawn main -/
abbrev lineOut : PyData := .tuple [.str "out", .int 0]
abbrev jumpB : PyData := .tuple [.str "jump", .str "b"]
abbrev markA : PyData := .tuple [.str "mark", .str "a"]
abbrev markB : PyData := .tuple [.str "mark", .str "b"]
abbrev stopL : PyData := .tuple [.str "stop"]
def drawn (n : Nat) (d : PyData) : List PyData := List.replicate n lineOut ++ [jumpB, d, markA, markB, stopL]
theorem il_out : isLineD lineOut = true := by decide +kernel
theorem il_jump : isLineD jumpB = true := by decide +kernel
theorem il_markA : isLineD markA = true := by decide +kernel
theorem il_markB : isLineD markB = true := by decide +kernel
theorem il_stop : isLineD stopL = true := by decide +kernel
theorem markN_here {ds : List PyData} {i : Nat} {d : PyData} {s : Str} (h : ds[i]? = some d) (hw : wordD d = "mark") (hl : labD d = s) : markN ds (i + 1) s = some i := by
  show (match ds[i]? with | some d => if wordD d = "mark" ∧ labD d = s then some i else markN ds i s | none => markN ds i s) = _
  rw [h]
  exact if_pos ⟨hw, hl⟩
theorem markN_skip {ds : List PyData} {i : Nat} {d : PyData} {s : Str} (h : ds[i]? = some d) (hn : ¬ (wordD d = "mark" ∧ labD d = s)) : markN ds (i + 1) s = markN ds i s := by
  show (match ds[i]? with | some d => if wordD d = "mark" ∧ labD d = s then some i else markN ds i s | none => markN ds i s) = _
  rw [h]
  exact if_neg hn
theorem markN_none {ds : List PyData} {s : Str} : ∀ {i : Nat}, (∀ j d, j < i → ds[j]? = some d → wordD d ≠ "mark") → markN ds i s = none
  | 0, _ => rfl
  | i + 1, h => by
    cases hd : ds[i]? with
    | none =>
      show (match ds[i]? with | some d => if wordD d = "mark" ∧ labD d = s then some i else markN ds i s | none => markN ds i s) = _
      rw [hd]
      exact markN_none fun j d hj => h j d (by omega)
    | some d =>
      rw [markN_skip hd fun z => h i d (Nat.lt_succ_self _) hd z.1]
      exact markN_none fun j d hj => h j d (by omega)
/-- a list without marks, and then the three last lines -/
theorem markN_tail {xs : List PyData} (hx : ∀ d ∈ xs, wordD d ≠ "mark") (s : Str) : markN (xs ++ [markA, markB, stopL]) (xs ++ [markA, markB, stopL]).length s = if s = "b" then some (xs.length + 1) else if s = "a" then some xs.length else none := by
  have hl : (xs ++ [markA, markB, stopL]).length = xs.length + 1 + 1 + 1 := by rw [List.length_append]; rfl
  have at_ : ∀ k, (xs ++ [markA, markB, stopL])[xs.length + k]? = [markA, markB, stopL][k]? := fun k => by
    rw [List.getElem?_append_right (Nat.le_add_right _ _), Nat.add_sub_cancel_left]
  rw [hl, markN_skip (d := stopL) (i := xs.length + 1 + 1) (at_ 2) (by
    rintro ⟨z, _⟩
    exact absurd z (by decide +kernel))]
  by_cases hb : s = "b"
  · subst hb
    rw [if_pos rfl, markN_here (d := markB) (s := "b") (at_ 1) rfl rfl]
  rw [if_neg hb, markN_skip (d := markB) (at_ 1) (fun z => hb z.2.symm)]
  by_cases ha : s = "a"
  · subst ha
    rw [if_pos rfl]
    exact markN_here (d := markA) (at_ 0) rfl rfl
  rw [if_neg ha, markN_skip (i := xs.length) (d := markA) (at_ 0) (fun z => ha z.2.symm)]
  refine markN_none fun j d hj hd => ?_
  rw [List.getElem?_append_left hj] at hd
  exact hx d (List.mem_of_getElem? hd)
theorem val_tail {xs : List PyData} (hx : ∀ d ∈ xs, wordD d ≠ "mark") (s : Str) : (valV (marksV (xs ++ [markA, markB, stopL])) (.inr s)).isSome = (decide (s = "b") || decide (s = "a")) := by
  unfold marksV
  rw [val_marks, markN_tail hx]
  by_cases hb : s = "b"
  · rw [if_pos hb, decide_eq_true hb]; rfl
  · rw [if_neg hb, decide_eq_false hb]
    by_cases ha : s = "a"
    · rw [if_pos ha, decide_eq_true ha]; rfl
    · rw [if_neg ha, decide_eq_false ha]; rfl
/-- names that are there where a and b are the labels and main the function -/
def hereD (d : PyData) : Bool := (match nlD d with | .str s => decide (s = "b") || decide (s = "a") | _ => true) && (match nfD d with | .str s => decide (s = "main") | _ => true)
theorem there_tail {xs : List PyData} (hx : ∀ d ∈ xs, wordD d ≠ "mark") {v : V} (d : PyData) : thereD (marksV (xs ++ [markA, markB, stopL])) [(.inr "main", v)] d = hereD d := by
  unfold thereD hereD
  congr 1
  · unfold hasK
    cases nlD d with
    | str s => exact val_tail hx s
    | _ => rfl
  · unfold hasK
    cases nfD d with
    | str s =>
      show (valV [((Sum.inr "main" : Key), v)] (.inr s)).isSome = decide (s = "main")
      by_cases e : s = "main"
      · rw [decide_eq_true e, show [((Sum.inr "main" : Key), v)] = putK [] (.inr "main") v from rfl, val_put, if_pos (by rw [e])]; rfl
      · rw [decide_eq_false e, show [((Sum.inr "main" : Key), v)] = putK [] (.inr "main") v from rfl, val_put, if_neg (fun z => e (Sum.inr.inj z))]; rfl
    | _ => rfl
theorem wrong_pre {ls fs : List (Key × V)} {m : List Str} : ∀ {pre r : List PyData} {i : Nat}, (∀ d ∈ pre, isLineD d = true ∧ wordD d ≠ "mark" ∧ thereD ls fs d = true) → wrongFrom ls fs false (pre ++ r) i m = wrongFrom ls fs false r (i + pre.length) m
  | [], r, i, _ => rfl
  | d :: pre, r, i, h => by
    obtain ⟨h1, h2, h3⟩ := h d List.mem_cons_self
    show (if isLineD d = false ∨ (false = true ∧ wordD d ∈ stackL) then some i
      else if wordD d = "mark" ∧ labD d ∈ m then some i
      else if thereD ls fs d = false then some i
      else wrongFrom ls fs false (pre ++ r) (i + 1) (if wordD d = "mark" then m ++ [labD d] else m)) = _
    rw [if_neg (by rw [h1]; rintro (z | ⟨z, _⟩) <;> exact nomatch z), if_neg (fun z => h2 z.1), if_neg (by rw [h3]; exact fun z => nomatch z), if_neg h2, wrong_pre fun x hx => h x (List.mem_cons_of_mem _ hx), List.length_cons]
    congr 1
    omega
theorem wrong_end {ls fs : List (Key × V)} {i : Nat} : wrongFrom ls fs false [markA, markB, stopL] i [] = none := by
  have step : ∀ {d : PyData} {r : List PyData} {i : Nat} {m : List Str}, isLineD d = true → thereD ls fs d = true → ¬ (wordD d = "mark" ∧ labD d ∈ m) → wrongFrom ls fs false (d :: r) i m = wrongFrom ls fs false r (i + 1) (if wordD d = "mark" then m ++ [labD d] else m) := fun {d r i m} h1 h3 h2 => by
    show (if isLineD d = false ∨ (false = true ∧ wordD d ∈ stackL) then some i
      else if wordD d = "mark" ∧ labD d ∈ m then some i
      else if thereD ls fs d = false then some i
      else wrongFrom ls fs false r (i + 1) (if wordD d = "mark" then m ++ [labD d] else m)) = _
    rw [if_neg (by rw [h1]; rintro (z | ⟨z, _⟩) <;> exact nomatch z), if_neg h2, if_neg (by rw [h3]; exact fun z => nomatch z)]
  rw [step il_markA rfl (by rintro ⟨_, z⟩; exact nomatch z), if_pos (show wordD markA = "mark" from rfl)]
  rw [step il_markB rfl (by
    rintro ⟨_, z⟩
    rcases List.mem_cons.mp z with z | z
    · exact absurd z (by decide +kernel)
    · exact nomatch z), if_pos (show wordD markB = "mark" from rfl)]
  rw [step il_stop rfl (by rintro ⟨z, _⟩; exact absurd z (by decide +kernel))]
  rfl
theorem drawn_split (n : Nat) (d : PyData) : drawn n d = (List.replicate n lineOut ++ [jumpB]) ++ (d :: [markA, markB, stopL]) := by
  unfold drawn; rw [List.append_assoc]; rfl
theorem drawn_split2 (n : Nat) (d : PyData) : drawn n d = (List.replicate n lineOut ++ [jumpB, d]) ++ [markA, markB, stopL] := by
  unfold drawn; rw [List.append_assoc]; rfl
theorem mem_pre {n : Nat} {x : PyData} (h : x ∈ List.replicate n lineOut ++ [jumpB]) : x = lineOut ∨ x = jumpB := by
  rcases List.mem_append.mp h with h | h
  · exact .inl (List.eq_of_mem_replicate h)
  · exact .inr (List.mem_singleton.mp h)
theorem filter_drawn {n : Nat} {d : PyData} : ∃ xs, (drawn n d).filter isLineD = xs ++ [markA, markB, stopL] ∧ ∀ x ∈ xs, x = lineOut ∨ x = jumpB ∨ x = d := by
  refine ⟨(List.replicate n lineOut ++ [jumpB, d]).filter isLineD, ?_, fun x hx => ?_⟩
  · rw [drawn_split2, List.filter_append]
    congr 1
  · have hx := (List.mem_filter.mp hx).1
    rcases List.mem_append.mp hx with h | h
    · exact .inl (List.eq_of_mem_replicate h)
    · rcases List.mem_cons.mp h with h | h
      · exact .inr (.inl h)
      · exact .inr (.inr (List.mem_singleton.mp h))
theorem first_drawn {n : Nat} {d : PyData} {v : V} (hm : wordD d ≠ "mark") : firstWrong [(.inr "main", v)] false (drawn n d) = if isLineD d = true ∧ hereD d = true then none else some (n + 1) := by
  obtain ⟨xs, hf, hxs⟩ := filter_drawn (n := n) (d := d)
  have hno : ∀ x ∈ xs, wordD x ≠ "mark" := fun x hx => by
    rcases hxs x hx with rfl | rfl | rfl
    · exact (by decide +kernel)
    · exact (by decide +kernel)
    · exact hm
  unfold firstWrong
  rw [hf, drawn_split, wrong_pre]
  · have hl : (List.replicate n lineOut ++ [jumpB]).length = n + 1 := by rw [List.length_append, List.length_replicate]; rfl
    rw [hl, Nat.zero_add]
    show (if isLineD d = false ∨ (false = true ∧ wordD d ∈ stackL) then some (n + 1)
      else if wordD d = "mark" ∧ labD d ∈ ([] : List Str) then some (n + 1)
      else if thereD _ _ d = false then some (n + 1)
      else wrongFrom _ _ false [markA, markB, stopL] (n + 1 + 1) (if wordD d = "mark" then [] ++ [labD d] else [])) = _
    rw [there_tail hno]
    by_cases h1 : isLineD d = true
    · rw [if_neg (by rw [h1]; rintro (z | ⟨z, _⟩) <;> exact nomatch z), if_neg (fun z => hm z.1)]
      by_cases h2 : hereD d = true
      · rw [if_neg (by rw [h2]; exact fun z => nomatch z), if_neg hm, wrong_end, if_pos ⟨h1, h2⟩]
      · rw [if_pos (by simpa using h2), if_neg (fun z => h2 z.2)]
    · rw [if_pos (.inl (by simpa using h1)), if_neg (fun z => h1 z.1)]
  · intro x hx
    rw [there_tail hno]
    rcases mem_pre hx with rfl | rfl
    · exact ⟨il_out, by decide +kernel, by decide +kernel⟩
    · exact ⟨il_jump, by decide +kernel, by decide +kernel⟩
theorem drawn_len (n : Nat) (d : PyData) : (drawn n d).length = n + 5 := by
  unfold drawn; rw [List.length_append, List.length_replicate]; rfl
theorem drawn_low {n i : Nat} {d : PyData} (h : i < n) : (drawn n d)[i]? = some lineOut := by
  unfold drawn
  rw [List.getElem?_append_left (by rw [List.length_replicate]; exact h), List.getElem?_replicate, if_pos h]
theorem drawn_at (n k : Nat) (d : PyData) : (drawn n d)[n + k]? = [jumpB, d, markA, markB, stopL][k]? := by
  unfold drawn
  rw [List.getElem?_append_right (by rw [List.length_replicate]; exact Nat.le_add_right _ _), List.length_replicate, Nat.add_sub_cancel_left]
theorem goal_drawn (n : Nat) (d : PyData) : goalN (drawn n d) jumpB = n + 3 := by
  unfold goalN
  rw [drawn_len, markN_skip (i := n + 4) (drawn_at n 4 d) (by
    rintro ⟨z, _⟩
    exact absurd z (by decide +kernel)), markN_here (i := n + 3) (d := markB) (s := labD jumpB) (drawn_at n 3 d) rfl rfl]
  rfl
theorem beh_lt {ds : List PyData} {i : Nat} (h : i + 1 < ds.length) : behN ds i = [i + 1] := if_pos h
theorem leads_plain {ds : List PyData} {i : Nat} {d : PyData} (h : ds[i]? = some d) (h1 : wordD d ∉ (["back", "tail", "stop"] : List Str)) (h2 : wordD d ≠ "jump") (h3 : wordD d ∉ (["if", "unless"] : List Str)) : leadsN ds i = behN ds i := by
  unfold leadsN
  rw [h]
  show (if _ then _ else _) = _
  rw [if_neg h1, if_neg h2, if_neg (fun z => h3 z.1)]
theorem leads_end {ds : List PyData} {i : Nat} {d : PyData} (h : ds[i]? = some d) (h1 : wordD d ∈ (["back", "tail", "stop"] : List Str)) : leadsN ds i = [] := by
  unfold leadsN
  rw [h]
  exact if_pos h1
theorem leads_jump {ds : List PyData} {i : Nat} {d : PyData} (h : ds[i]? = some d) (h1 : wordD d = "jump") : leadsN ds i = [goalN ds d] := by
  unfold leadsN
  rw [h]
  show (if _ then _ else _) = _
  rw [if_neg (by rw [h1]; decide +kernel), if_pos h1]
theorem leads_low {n i : Nat} {d : PyData} (h : i < n) : leadsN (drawn n d) i = [i + 1] := by
  rw [leads_plain (drawn_low h) (by decide +kernel) (by decide +kernel) (by decide +kernel), beh_lt (by rw [drawn_len]; omega)]
theorem leads_at0 (n : Nat) (d : PyData) : leadsN (drawn n d) n = [n + 3] := by
  have h : (drawn n d)[n]? = some jumpB := drawn_at n 0 d
  rw [leads_jump h rfl, goal_drawn]
theorem leads_at3 (n : Nat) (d : PyData) : leadsN (drawn n d) (n + 3) = [n + 4] := by
  rw [leads_plain (drawn_at n 3 d) (by decide +kernel) (by decide +kernel) (by decide +kernel), beh_lt (by rw [drawn_len]; omega)]
theorem leads_at4 (n : Nat) (d : PyData) : leadsN (drawn n d) (n + 4) = [] := leads_end (drawn_at n 4 d) (by decide +kernel)
theorem reach_drawn {n i : Nat} {d : PyData} (h : Reach (drawn n d) i) : i < n ∨ i = n ∨ i = n + 3 ∨ i = n + 4 := by
  induction h with
  | zero => omega
  | step h hj ih =>
    rcases ih with h | rfl | rfl | rfl
    · rw [leads_low h] at hj
      have := List.mem_singleton.mp hj
      omega
    · rw [leads_at0] at hj
      have := List.mem_singleton.mp hj
      omega
    · rw [leads_at3] at hj
      have := List.mem_singleton.mp hj
      omega
    · rw [leads_at4] at hj
      exact nomatch hj
theorem tidy_drawn (n : Nat) (d : PyData) : Tidy (drawn n d) false where
  last _ := by
    rw [drawn_len]
    exact ⟨stopL, drawn_at n 4 d, by decide +kernel⟩
  rows _ := by
    refine ⟨fun _ => [], rfl, fun i hi => ?_⟩
    rcases reach_drawn hi with h | rfl | rfl | rfl
    · exact ⟨lineOut, [], drawn_low h, (by show rowB lineOut [] = some []; decide +kernel), fun _ _ => rfl⟩
    · exact ⟨jumpB, [], drawn_at i 0 d, (by show rowB jumpB [] = some []; decide +kernel), fun _ _ => rfl⟩
    · exact ⟨markB, [], drawn_at n 3 d, (by show rowB markB [] = some []; decide +kernel), fun _ _ => rfl⟩
    · exact ⟨stopL, [], drawn_at n 4 d, (by show rowB stopL [] = some []; decide +kernel), fun _ _ => rfl⟩
  link _ i x hi hx hb := by
    rcases reach_drawn hi with h | rfl | rfl | rfl
    · rw [drawn_low h] at hx; cases hx; exact absurd hb (by decide +kernel)
    · rw [show (drawn i d)[i]? = some jumpB from drawn_at i 0 d] at hx; cases hx; exact absurd hb (by decide +kernel)
    · rw [drawn_at n 3 d] at hx; cases hx; exact absurd hb (by decide +kernel)
    · rw [drawn_at n 4 d] at hx; cases hx; exact absurd hb (by decide +kernel)
theorem mem_drawn {n : Nat} {d x : PyData} (h : x ∈ drawn n d) : x = lineOut ∨ x = jumpB ∨ x = d ∨ x = markA ∨ x = markB ∨ x = stopL := by
  rcases List.mem_append.mp h with h | h
  · exact .inl (List.eq_of_mem_replicate h)
  · simp only [List.mem_cons, List.not_mem_nil, or_false] at h
    exact .inr h
theorem short_str (s : Str) (h : s.length ≤ 100000) : shortS (.str s) := h
theorem good_drawn {n : Nat} {d D : PyData} (hn : n ≤ 2) (hm : wordD d ≠ "mark") (hD : (isL D || isT D) = true) (hi : itemsD D = drawn n d) (h1 : isLineD d = true) (h2 : hereD d = true) : Good D where
  isl := hD
  pos := by rw [hi, drawn_len]; omega
  len := by rw [hi, drawn_len]; omega
  ok x hx := by
    rw [hi] at hx
    rcases mem_drawn hx with rfl | rfl | rfl | rfl | rfl | rfl
    · exact il_out
    · exact il_jump
    · exact h1
    · exact il_markA
    · exact il_markB
    · exact il_stop
  lab x hx := by
    rw [hi] at hx ⊢
    have hno : ∀ y ∈ List.replicate n lineOut ++ [jumpB, d], wordD y ≠ "mark" := fun y hy => by
      rcases List.mem_append.mp hy with h | h
      · rw [List.eq_of_mem_replicate h]; decide +kernel
      · rcases List.mem_cons.mp h with rfl | h
        · decide +kernel
        · rw [List.mem_singleton.mp h]; exact hm
    have hh : ∀ y, hereD y = true → hasK (marksV (drawn n d)) (nlD y) = true := fun y hy => by
      have := there_tail hno (v := .non) y
      rw [hy] at this
      unfold thereD at this
      rw [Bool.and_eq_true] at this
      rw [drawn_split2]
      exact this.1
    rcases mem_drawn hx with rfl | rfl | rfl | rfl | rfl | rfl
    · exact hh _ (by decide +kernel)
    · exact hh _ (by decide +kernel)
    · exact hh _ h2
    · exact hh _ (by decide +kernel)
    · exact hh _ (by decide +kernel)
    · exact hh _ (by decide +kernel)
theorem short_tup1 {w : Str} (h : w.length ≤ 100000) : shortL (.tuple [.str w]) := ⟨by show 1 ≤ 1000; decide, fun x hx => by
  rw [List.mem_singleton.mp hx]; exact h⟩
theorem short_tup2 {w : Str} {y : PyData} (h : w.length ≤ 100000) (hy : shortS y) : shortL (.tuple [.str w, y]) := ⟨by show 2 ≤ 1000; decide, fun x hx => by
  rcases List.mem_cons.mp hx with rfl | hx
  · exact h
  · rw [List.mem_singleton.mp hx]; exact hy⟩
theorem one_drawn {n : Nat} {d D : PyData} {v : V} (hn : n ≤ 2) (hm : wordD d ≠ "mark") (hs : shortL d) (hD : (isL D || isT D) = true) (hi : itemsD D = drawn n d) : OneFn false v D where
  any := ⟨hD, by rw [hi, drawn_len]; omega, fun x hx => by
    rw [hi] at hx
    rcases mem_drawn hx with rfl | rfl | rfl | rfl | rfl | rfl
    · exact short_tup2 (by decide +kernel) trivial
    · exact short_tup2 (by decide +kernel) (short_str _ (by decide +kernel))
    · exact hs
    · exact short_tup2 (by decide +kernel) (short_str _ (by decide +kernel))
    · exact short_tup2 (by decide +kernel) (short_str _ (by decide +kernel))
    · exact short_tup1 (by decide +kernel)⟩
  pos := by rw [hi, drawn_len]; omega
  len := by rw [hi, drawn_len]; omega
  good h := by
    rw [hi] at h ⊢
    rw [first_drawn hm] at h
    by_cases hh : isLineD d = true ∧ hereD d = true
    · exact ⟨good_drawn hn hm hD hi hh.1 hh.2, tidy_drawn n d⟩
    · rw [if_neg hh] at h
      exact nomatch h
/-! ### the other main -/
abbrev againL : List PyData := [markA, lineOut, markA, stopL]
theorem first_again {v : V} : firstWrong [(.inr "main", v)] false againL = some 2 := by
  have hf : againL.filter isLineD = againL := by
    refine List.filter_eq_self.mpr fun x hx => ?_
    simp only [List.mem_cons, List.not_mem_nil, or_false] at hx
    rcases hx with rfl | rfl | rfl | rfl
    · exact il_markA
    · exact il_out
    · exact il_markA
    · exact il_stop
  unfold firstWrong
  rw [hf]
  generalize marksV againL = ls
  have step : ∀ {d : PyData} {r : List PyData} {i : Nat} {m : List Str}, isLineD d = true → thereD ls [((Sum.inr "main" : Key), v)] d = true → ¬ (wordD d = "mark" ∧ labD d ∈ m) → wrongFrom ls [(.inr "main", v)] false (d :: r) i m = wrongFrom ls [(.inr "main", v)] false r (i + 1) (if wordD d = "mark" then m ++ [labD d] else m) := fun {d r i m} h1 h3 h2 => by
    show (if isLineD d = false ∨ (false = true ∧ wordD d ∈ stackL) then some i
      else if wordD d = "mark" ∧ labD d ∈ m then some i
      else if thereD ls _ d = false then some i
      else wrongFrom ls _ false r (i + 1) (if wordD d = "mark" then m ++ [labD d] else m)) = _
    rw [if_neg (by rw [h1]; rintro (z | ⟨z, _⟩) <;> exact nomatch z), if_neg h2, if_neg (by rw [h3]; exact fun z => nomatch z)]
  rw [step il_markA rfl (by rintro ⟨_, z⟩; exact nomatch z), if_pos (show wordD markA = "mark" from rfl)]
  rw [step il_out rfl (by rintro ⟨z, _⟩; exact absurd z (by decide +kernel)), if_neg (by decide +kernel)]
  show (if isLineD markA = false ∨ _ then some 2 else if wordD markA = "mark" ∧ labD markA ∈ [labD markA] then some 2 else _) = some 2
  rw [if_neg (by rw [il_markA]; rintro (z | ⟨z, _⟩) <;> exact nomatch z), if_pos ⟨rfl, List.mem_cons_self⟩]
theorem one_again {v : V} {D : PyData} (hD : (isL D || isT D) = true) (hi : itemsD D = againL) : OneFn false v D where
  any := ⟨hD, by rw [hi]; decide, fun x hx => by
    rw [hi] at hx
    simp only [List.mem_cons, List.not_mem_nil, or_false] at hx
    rcases hx with rfl | rfl | rfl | rfl
    · exact short_tup2 (by decide +kernel) (short_str _ (by decide +kernel))
    · exact short_tup2 (by decide +kernel) trivial
    · exact short_tup2 (by decide +kernel) (short_str _ (by decide +kernel))
    · exact short_tup1 (by decide +kernel)⟩
  pos := by rw [hi]; decide
  len := by rw [hi]; decide
  good h := by
    rw [hi, first_again] at h
    exact nomatch h
end Fl
end
section
set_option Elab.async false
set_option linter.all false
set_option maxRecDepth 100000
set_option maxHeartbeats 4000000
namespace Fx
open PySem PySem.Spec PyProof.Rows L2
open Evl (Ex fresh_back)
end Fx
namespace Fl
open PySem PySem.Spec PyProof.Rows L2 Fx
open Evl (Ex fresh_back)
/-! ### the law's choices -/
/-- all but what stands at pa -/
def hide (pa : Addr) (H : Hp) : Hp := fun b => if b = pa then none else H b
section
variable {pa b : Addr} {H H' : Hp} {K : PySem.W.Frag}
theorem hide_ne (h : b ≠ pa) : hide pa H b = H b := if_neg h
theorem hide_ex (e : exP pa H H') : Ex (hide pa H) (hide pa H') := fun b o h => by
  by_cases hb : b = pa
  · unfold hide at h
    rw [if_pos hb] at h
    cases h
  · rw [hide_ne hb] at h ⊢
    exact e.but b o h hb
theorem hide_sub : Ex (hide pa H) H := fun b o h => by
  by_cases hb : b = pa
  · unfold hide at h
    rw [if_pos hb] at h
    cases h
  · rwa [hide_ne hb] at h
abbrev Dh (K : PySem.W.Frag) (pa : Addr) (H : Hp) (v : V) (d : PyData) : Prop := D K (hide pa H) v d
theorem Dh.mono {v : V} {d : PyData} (h : Dh K pa H v d) (e : exP pa H H') : Dh K pa H' v d := D.mono (hide_ex e) h
theorem Dh.d {v : V} {d : PyData} (h : Dh K pa H v d) : D K H v d := D.mono hide_sub h
theorem sql_but {a : Addr} {xs : List V} {kvs : List (Key × V)} (hp : H pa = some (.dK kvs)) (e : exP pa H H') (h : SqL K H a xs) : SqL K H' a xs := by
  rcases h with (h | ⟨o', h⟩) | h
  · exact .inl (.inl (e.but _ _ h (ne_of h hp (fun z => nomatch z))))
  · exact .inl (.inr ⟨o', e.but _ _ h (ne_of h hp (fun z => nomatch z))⟩)
  · exact .inr h
end
section
variable {P : Program} {w : World} {K : PySem.W.Frag} {mg : Str → Option Value} {base : Heap} {f : Addr} {fd : FuncData}
abbrev nm_pick : List Str := ["_law_pen_here", "_law_options"]
theorem sc_pick : FnScope nm_pick nm_pick (defScope s_pick) := ⟨rfl, rfl, rfl, by decide +kernel, rfl, by decide +kernel, by decide +kernel⟩
def sp_pick (K : PySem.W.Frag) : Sp := fun vs H Q _ => ∃ pa o xs n, vs = [.ref pa, .ref o] ∧ SqL K H o xs ∧ 0 < xs.length ∧ xs.length ≤ 1000 ∧ n ≤ 1000000 ∧ Pen K H pa n ∧ ∀ v H', v ∈ xs → exP pa H H' → Pen K H' pa (n + 1) → Q v H'
theorem ok_pick (F : Fun K "_law_pick" "_law_pick" s_pick f fd) (G : Gb mg) (c1 : Cl P w K mg base CX0 1 "_law_draw" (sp_draw K)) : FnOk P w K mg base CX0 2 f fd nm_pick (sp_pick K) := by
  refine F.ok sc_pick (fun vs H Q E h => ?_) (fun cdv A outer s H vs Q E hr h => ⟨RB _ _, pss_RB, ?_⟩)
  · obtain ⟨_, _, _, _, rfl, _⟩ := h; rfl
  obtain ⟨pa, o, xs, n, rfl, ho, h0, h1, hn, pen, q⟩ := h
  obtain ⟨kvs, hpa⟩ := pen.dict
  refine rb_one <| rs_ret <| re_ixL <| re_var 1 rfl <| re_call c1 hr <| ra_cons <| re_var 0 rfl <| ra_cons <| re_cb call_len G.len <| ra_cons <| re_var 1 rfl <| ra_nil ⟨_, xs.length, rfl, .inl ⟨_, ho, rfl⟩, ra_nil ⟨pa, (xs.length : Nat), n, rfl, by omega, by omega, hn, pen, fun r H' r0 r1 e pen' => ?_⟩⟩
  obtain ⟨v, hv, hm⟩ := atI_in r0 r1
  exact ⟨o, xs, r, v, rfl, rfl, sql_but hpa e ho, hv, q v H' hm e pen'⟩
abbrev nm_number : List Str := ["_law_pen_here", "_law_small"]
theorem sc_number : FnScope nm_number ["_law_pen_here"] (defScope s_number) := ⟨rfl, rfl, rfl, by decide +kernel, rfl, by decide +kernel, by decide +kernel⟩
def sp_number (K : PySem.W.Frag) : Sp := fun vs H Q _ => ∃ pa n, vs = [.ref pa] ∧ n ≤ 900000 ∧ Pen K H pa n ∧ ∀ z H', -2147483648 ≤ z → z ≤ 2147483647 → exP pa H H' → Pen K H' pa (n + 2) → Q (.int z) H'
theorem ok_number (F : Fun K "_law_number" "_law_number" s_number f fd) (G : Gb mg) (c1 : Cl P w K mg base CX0 1 "_law_draw" (sp_draw K)) (c2 : Cl P w K mg base CX0 2 "_law_pick" (sp_pick K)) : FnOk P w K mg base CX0 3 f fd ["_law_pen_here"] (sp_number K) := by
  refine F.ok sc_number (fun vs H Q E h => ?_) (fun cdv A outer s H vs Q E hr h => ⟨RB _ _, pss_RB, ?_⟩)
  · obtain ⟨_, _, rfl, _⟩ := h; rfl
  obtain ⟨pa, n, rfl, hn, pen, q⟩ := h
  obtain ⟨kvs, hpa⟩ := pen.dict
  refine rb_cons <| rs_set 1 (by exact sc_number.nd) <| re_sub <| re_call c1 hr <| ra_cons <| re_var 0 rfl <| ra_cons <| re_int <| ra_nil ⟨pa, 16, n, rfl, by decide, by decide, by omega, pen, fun r H1 r0 r1 e1 pen1 => ?_⟩
  refine re_int ⟨r, 8, rfl, rfl, ?_⟩
  have p31 : (2 : Int) ^ (31 : Int).toNat = 2147483648 := by decide
  refine rb_one <| rs_ret <| re_call c2 hr <| ra_cons <| re_var 0 rfl <| ra_cons <| re_lst <| ra_cons <| re_var 1 rfl <| ra_cons <| re_var 1 rfl <| ra_cons <| re_var 1 rfl <| ra_cons <| re_var 1 rfl <| ra_cons <| re_int <| ra_cons <| re_un un_neg <| re_int ⟨9, rfl, ?_⟩
  refine ra_cons <| re_add <| re_int <| re_var 1 rfl ⟨1000, _, rfl, rfl, ?_⟩
  refine ra_cons <| re_sub <| re_op op_pow <| re_int <| re_int ⟨2, 31, rfl, rfl, ⟨by decide, by decide, by decide⟩, re_int ⟨_, 1, rfl, rfl, ?_⟩⟩
  refine ra_cons <| re_sub <| re_int <| re_op op_pow <| re_int <| re_int ⟨2, 31, rfl, rfl, ⟨by decide, by decide, by decide⟩, 0, _, rfl, rfl, ra_nil ⟨Nat.le_of_ble_eq_true rfl, fun p H2 hp e2 h2 => ra_nil ⟨pa, p, _, n + 1, rfl, .inl (.inl h2), Nat.le_of_ble_eq_true rfl, Nat.le_of_ble_eq_true rfl, by omega, pen1.mono e2, fun v H3 hv e3 pen3 => ?_⟩⟩⟩
  have e13 := e1.trans ((exP.of e2).trans e3)
  simp only [List.mem_cons, List.not_mem_nil, or_false, p31] at hv
  have go : ∀ z : Int, v = .int z → -2147483648 ≤ z → z ≤ 2147483647 → Q v H3 := fun z ez z0 z1 => by
    rw [ez]; exact q z H3 z0 z1 e13 pen3
  rcases hv with h | h | h | h | h | h | h | h | h
  · exact go _ h (by omega) (by omega)
  · exact go _ h (by omega) (by omega)
  · exact go _ h (by omega) (by omega)
  · exact go _ h (by omega) (by omega)
  · exact go _ h (by omega) (by omega)
  · exact go _ h (by omega) (by omega)
  · exact go _ h (by omega) (by omega)
  · exact go _ h (by omega) (by omega)
  · exact go _ h (by omega) (by omega)
end
end Fl
end
section
set_option Elab.async false
set_option linter.all false
set_option maxRecDepth 100000
set_option maxHeartbeats 4000000
namespace Fx
open PySem PySem.Spec PyProof.Rows L2
open Evl (Ex fresh_back)
section
variable {X : Cx} {σ : L2.St} {H : Hp} {Q : VK} {pos : Pos}
/-- the pairs of a display, one behind the other -/
def RPairs (X : Cx) (σ : L2.St) : List (Option Expr) → List Expr → Hp → (List (V × V) → Hp → Prop) → Prop
  | some k :: ks, v :: vs, H, QA => RE X k σ H fun x H1 => RE X v σ H1 fun y H2 => RPairs X σ ks vs H2 fun ps H3 => QA ((x, y) :: ps) H3
  | _, _, H, QA => QA [] H
theorem rp_cons {k v : Expr} {ks : List (Option Expr)} {vs : List Expr} {QA} (h : RE X k σ H fun x H1 => RE X v σ H1 fun y H2 => RPairs X σ ks vs H2 fun ps H3 => QA ((x, y) :: ps) H3) : RPairs X σ (some k :: ks) (v :: vs) H QA := h
theorem rp_nil {QA : List (V × V) → Hp → Prop} (h : QA [] H) : RPairs X σ [] [] H QA := h
theorem pps_of : ∀ (keys : List (Option Expr)) (values : List Expr), keys.all (·.isSome) = true → keys.length = values.length → ∃ trs, PPs X pos keys values trs ∧ ∀ σ H QA, RPairs X σ keys values H QA → tPairs trs σ H QA
  | [], [], _, _ => ⟨[], pps_nil, fun _ _ _ h => h⟩
  | [], _ :: _, _, h => nomatch h
  | _ :: _, [], _, h => nomatch h
  | none :: _, _ :: _, h, _ => nomatch h
  | some k :: ks, v :: vs, ha, hl => by
    obtain ⟨trs, hp, hq⟩ := pps_of ks vs (by simpa using ha) (by simpa using hl)
    exact ⟨_, pps_cons pe_RE pe_RE hp, fun σ H QA h => h.mono fun x H1 q => q.mono fun y H2 q => hq _ _ _ q⟩
theorem re_disp {keys : List (Option Expr)} {values : List Expr} (h : ∀ p, H p = none → RPairs X σ keys values (upd H p (.dK [])) fun ps H2 => H2 p = some (.dK []) ∧ ∃ kvs : List (Key × V), ps = kvs.map (fun kv => (kV kv.1, kv.2)) ∧ kvs.length ≤ 15 ∧ Q (.ref p) (upd H2 p (.dK (mergeK [] kvs))))
    (ha : keys.all (·.isSome) = true := by rfl) (hl : keys.length = values.length := by rfl) (h0 : keys ≠ [] := by exact List.cons_ne_nil _ _) (h15 : keys.length ≤ 15 := by exact Nat.le_of_ble_eq_true rfl) : RE X (.Dict keys values pos) σ H Q := by
  obtain ⟨trs, hp, hq⟩ := pps_of (X := X) (pos := pos) keys values ha hl
  exact re_of (pe_disp hp ha hl h0 h15) fun p hp' => hq _ _ _ (h p hp')
/-- a call of a def without arguments -/
theorem re_call0 {k j : Nat} {x : Str} {sp : Sp} {p : Pos} (c : Fl.Cl X.prog X.w X.K X.mg X.base CX0 k x sp) (hr : Room j X.A) (h : sp [] H Q E0) (hk : k ≤ j := by decide) (hg : Gl X x := by rfl)
    (hd : (x == ("__debug__" : Str)) = false := by decide) : RE X (.Call (.Name x p) [] [] pos) σ H Q := by
  obtain ⟨f, fd, ps, hm, hk', hb, F⟩ := c.ex
  exact re_of (pe_call0 F (hr.mono hk) hg hm hk' hb .nil pass0 (hdb := hd)) h
end
end Fx

namespace Fx
open PySem PySem.Spec PyProof.Rows L2
open Evl (Ex fresh_back)
section
variable {X : Cx} {a b : Expr} {σ : L2.St} {H : Hp} {Q : VK} {pos : Pos}
/-- == of a tuple with the empty one -/
theorem op_eqT0 (hu : X.A.units < cLine) : OpR X (compareOp .Eq) (fun x y H Q => ∃ a xs b, x = .ref a ∧ y = .ref b ∧ SqT X.K H a xs ∧ SqT X.K H b [] ∧ Q (.bl xs.isEmpty) H) := by
  intro pins s σ H x y v u Q I rx ry h
  obtain ⟨a, xs, b, rfl, rfl, ha, hb, q⟩ := h
  obtain rfl : v = Value.ref a := rx
  obtain rfl : u = Value.ref b := ry
  obtain ⟨its, e1, ⟨o, h1, h2, n, h3⟩, _⟩ := I.tuple ha
  obtain ⟨jts, e2, ⟨o', g1, g2, m, g3⟩, _⟩ := I.tuple hb
  have hj : jts = [] := by
    cases jts with
    | nil => rfl
    | cons x r => cases e2
  subst hj
  refine SeqAt.RcAt.tuples (items := its.toArray) (items2 := #[]) (e := fun _ => true) ⟨o, h1, h2, n, h3⟩ ⟨o', g1, g2, m, g3⟩ hu (fun j _ hj => absurd hj (Nat.not_lt_zero _)) _ _ _ _ ⟨.bl xs.isEmpty, H, I, ?_, q⟩
  show Value.bool _ = Value.bool _
  congr 1
  have hl : xs.length = its.length := e1.length
  cases xs with
  | nil =>
    have : its = [] := List.eq_nil_of_length_eq_zero hl.symm
    subst this
    rfl
  | cons x r =>
    cases its with
    | nil => cases hl
    | cons y its => simp
theorem re_ixS (h : RE X a σ H fun x H1 => RE X b σ H1 fun y H2 => ∃ z i c, x = .str z ∧ y = .int i ∧ z.length ≤ sizeLine ∧ atI z.cps.toList i = some c ∧ Q (.str ⟨#[c]⟩) H2) (hs : PlainIx b := by exact fun _ _ => rfl) : RE X (.Subscript a b pos) σ H Q := re_of (pe_ix ix_str pe_RE pe_RE hs) h
end
end Fx

namespace Fx
open PySem PySem.Spec PyProof.Rows L2
open Evl (Ex fresh_back)
section
variable {X : Cx} {e f o i value : Expr} {σ : L2.St} {H : Hp} {Q : VK} {D : Ends} {pos apos cpos pos' : Pos}
theorem re_insert (h : RE X o σ H fun x H1 => ∃ l, x = .ref l ∧ (∃ zs, H1 l = some (.lst zs)) ∧ RE X e σ H1 fun y H2 => RE X f σ H2 fun z H3 => ∃ xs i, y = .int i ∧ H3 l = some (.lst xs) ∧ xs.length < sizeLine ∧ 0 ≤ i ∧ i < 2 ^ 63 ∧ Q .non (upd H3 l (.lst (xs.take i.toNat ++ [z] ++ xs.drop i.toNat)))) (base : attributeBase o "insert" X.env (eval o X.env) = eval o X.env := by rfl) (line : (apos.endLine == cpos.line) = true := by rfl)
    (few : (((backTo cpos (starEach [e, f] X.env)).all (fun x => !x.1) && (backToKw cpos (keywordEach [] X.env)).all (fun x => x.1.isSome)) && decide (([e, f] : List Expr).length + ([] : List Keyword).length + (if ([] : List Keyword).isEmpty = true then 0 else 1) < 30)) = true := by rfl)
    (h1 : starEach [e, f] X.env = (false, eval e X.env) :: starEach [f] X.env := by rfl) (h2 : starEach [f] X.env = (false, eval f X.env) :: starEach [] X.env := by rfl) (h3 : (backTo cpos (starEach [f] X.env)).any (·.1) = false := by rfl) : RE X (.Call (.Attribute o "insert" apos) [e, f] [] cpos) σ H Q :=
  re_of (pe_bm PySem.F.plainAttrs_list PySem.F.slot_list_insert PySem.F.type_list_insert mt_insert pe_RE pa_RA base few line h1 h3) (h.mono fun x H1 ⟨l, ex, ⟨zs, hz⟩, q⟩ => by
    subst ex
    exact ⟨.inl ⟨rfl, _, SqL.of hz⟩, ra_cons (hs := h1) (q.mono fun y H2 q => ra_cons (hs := h2) (q.mono fun z H3 ⟨xs, i, ey, hl, a, b, c, q⟩ => ra_nil ⟨l, xs, i, z, rfl, by rw [ey], hl, a, b, c, q⟩))⟩)
theorem re_popAt (h : RE X o σ H fun x H1 => ∃ l, x = .ref l ∧ (∃ zs, H1 l = some (.lst zs)) ∧ RE X e σ H1 fun y H2 => ∃ xs i v, y = .int i ∧ H2 l = some (.lst xs) ∧ 0 ≤ i ∧ i < xs.length ∧ xs.length ≤ 1000 ∧ xs[i.toNat]? = some v ∧ Q v (upd H2 l (.lst (xs.eraseIdx i.toNat)))) (base : attributeBase o "pop" X.env (eval o X.env) = eval o X.env := by rfl) (line : (apos.endLine == cpos.line) = true := by rfl)
    (few : (((backTo cpos (starEach [e] X.env)).all (fun x => !x.1) && (backToKw cpos (keywordEach [] X.env)).all (fun x => x.1.isSome)) && decide (([e] : List Expr).length + ([] : List Keyword).length + (if ([] : List Keyword).isEmpty = true then 0 else 1) < 30)) = true := by rfl)
    (h1 : starEach [e] X.env = (false, eval e X.env) :: starEach [] X.env := by rfl) (h3 : (backTo cpos (starEach [] X.env)).any (·.1) = false := by rfl) : RE X (.Call (.Attribute o "pop" apos) [e] [] cpos) σ H Q :=
  re_of (pe_bm PySem.F.plainAttrs_list PySem.F.slot_list_pop PySem.F.type_list_pop mt_popAt pe_RE pa_RA base few line h1 h3) (h.mono fun x H1 ⟨l, ex, ⟨zs, hz⟩, q⟩ => by
    subst ex
    refine ⟨.inl ⟨rfl, _, SqL.of hz⟩, ra_cons (hs := h1) (q.mono fun y H2 ⟨xs, i, v, ey, hl, a, b, c, hv, q⟩ => ra_nil ⟨l, xs, i, i.toNat, v, rfl, by rw [ey], hl, by omega, by omega, ?_, hv, q⟩)⟩
    unfold seqIndex?
    simp only [a, b]
    first | rfl | (simp; omega))
theorem rs_setItem (h : RE X value σ H fun v H1 => RE X o σ H1 fun x H2 => RE X i σ H2 fun y H3 => ∃ p xs k, x = .ref p ∧ y = .int k ∧ H3 p = some (.lst xs) ∧ 0 ≤ k ∧ k < xs.length ∧ D.nx σ (upd H3 p (.lst (xs.set k.toNat v))))
    (hs : swapsWithSole [.Subscript o i pos'] value pos.line X.env = pure false := by rfl) (ha : swappedStores [.Subscript o i pos'] value X.env = pure none := by rfl) (hb : (assignEach [.Subscript o i pos'] X.env).map (·.2) = [assign (.Subscript o i pos') X.env] := by rfl)
    (hp : PG X (.Subscript o i pos') (gSub (RE X o) (RE X i) rSetL) := by exact pg_sub pe_RE pe_RE set_list) : RS X (.Assign [.Subscript o i pos'] value pos) D σ H :=
  rs_of (ps_asg pe_RE hp hs ha hb) (h.mono fun v H1 q => q.mono fun x H2 q => q.mono fun y H3 ⟨p, xs, k, ex, ey, hp, h0, h1, q⟩ => ⟨p, xs, k, k.toNat, ex, ey, hp, by
    unfold ixN
    rw [if_pos h0, if_pos h1], q⟩)
end
section
variable {X : Cx} {elt : Expr} {scope : Scope} {own : List (Str × Nat)} {g : TG} {tg iter : Expr} {σ : L2.St} {H : Hp} {Q : VK} {pos : Pos}
/-- [elt for target in iter] whose turns change what stands in the heap -/
theorem re_lcS (hc : X.calm = true) (hN : X.N.Nodup) (ok : BlkOk X.N X.env.scope scope own) (hg : ∀ s H C cl fp, PG (Blk X scope s H C cl fp) tg g) (gm : GoodG g)
    (h : RI X tg iter σ H fun J H1 => ∃ (n : Nat) (G : Hp → Prop) (Y : Nat → Hp → V → Hp → Prop) (S : Addr → Nat → Hp → List V → Prop), Walk J n G Y ∧ n ≤ 40000 ∧ (∀ Dl i H' acc, S Dl i H' acc → G H') ∧ (∀ Dl, H1 Dl = none → S Dl 0 (upd H1 Dl (.lst [])) []) ∧
      (∀ Dl i x H2 H3 acc, H1 Dl = none → i < n → H2 Dl = some (.lst acc) → acc.length = i → S Dl i H2 acc → Y i H2 x H3 → g x (wipe σ (own.map (·.2))) H3 fun σ2 H4 => wipe σ2 (own.map (·.2)) = wipe σ (own.map (·.2)) ∧ ∀ s0 H0 C cl fp,
        RE (Blk X scope s0 H0 C cl fp) elt σ2 H4 fun y H6 => H6 Dl = some (.lst acc) ∧ S Dl (i + 1) (upd H6 Dl (.lst (acc ++ [y]))) (acc ++ [y])) ∧
      ∀ Dl acc H2, H1 Dl = none → H2 Dl = some (.lst acc) → acc.length = n → S Dl n H2 acc → Q (.ref Dl) H2)
    (hs : ∀ x, foldedSetIterable iter X.env x = pure x := by intro _; rfl) : RE X (.ListComp elt [⟨tg, iter, [], 0⟩] scope pos) σ H Q := by
  refine re_of (pe_lc (own := own) (g := g) (tt := tYes) (te := fun σ H Q => ∀ s0 H0 C cl fp, RE (Blk X scope s0 H0 C cl fp) elt σ H Q) hc hN pi_RI ok hg (fun _ _ _ _ _ => pts_nil) (fun s H C cl fp => ⟨fun pins s' σ H' Q I q => (q s H C cl fp).run pins s' I⟩) hs) ?_
  refine h.mono fun J H1 ⟨n, G, Y, S, w, hn, hG, h0, turn, fin⟩ Dl hD => ?_
  refine lc_it w (g := g) (tt := tYes) (te := fun σ H Q => ∀ s0 H0 C cl fp, RE (Blk X scope s0 H0 C cl fp) elt σ H Q) (fun i H' => ∃ acc, H' Dl = some (.lst acc) ∧ acc.length = i ∧ S Dl i H' acc)
    ⟨[], upd_same, rfl, h0 Dl hD⟩ (fun i H' _ ⟨acc, _, _, p⟩ => hG Dl i H' acc p) (fun i x H2 H3 hi p y => ?_) fun H' ⟨acc, a1, a2, a3⟩ => fin Dl acc H' hD a1 a2 a3
  obtain ⟨acc, a1, a2, a3⟩ := p
  refine gm _ _ _ _ _ (fun σ2 H4 ⟨hw, t⟩ => ⟨hw, ?_⟩) (turn Dl i x H2 H3 acc hD hi a1 a2 a3 y)
  simp only [tYes, if_true]
  intro s0 H0 C cl fp
  refine (t s0 H0 C cl fp).mono fun y' H6 ⟨h6, k⟩ => ?_
  exact ⟨acc, h6, Nat.lt_of_lt_of_le (show acc.length < 100000 by omega) (by decide), acc ++ [y'], upd_same, by rw [List.length_append]; simp [a2], k⟩
end
end Fx
end
section
set_option Elab.async false
set_option linter.all false
set_option maxRecDepth 100000
set_option maxHeartbeats 4000000
namespace Fx
open PySem PySem.Spec PyProof.Rows L2
open Evl (Ex fresh_back)
section
variable {X : Cx} {a b o e f lo hi : Expr} {es : List Expr} {σ : L2.St} {H : Hp} {Q : VK} {pos p p2 apos : Pos} {D : Ends}
/-- pieces of a text -/
theorem re_sto (h : RE X e σ H fun x H1 => RE X f σ H1 fun y H2 => ∃ i z, y = .int i ∧ x = .str z ∧ z.length ≤ sizeLine ∧ Q (.str (cutS z none (some i))) H2) : RE X (.Subscript e (.Slice none (some f) none p2) pos) σ H Q :=
  re_of (pe_slice sl_str pe_RE po_none (po_some pe_RE)) (h.mono fun x H1 q => q.mono fun y H2 ⟨i, z, ey, ex, hz, q⟩ => ⟨i, ey, z, ex, hz, q⟩)
theorem re_sfrom (h : RE X e σ H fun x H1 => RE X f σ H1 fun y H2 => ∃ i z, y = .int i ∧ x = .str z ∧ z.length ≤ sizeLine ∧ Q (.str (cutS z (some i) none)) H2) : RE X (.Subscript e (.Slice (some f) none none p2) pos) σ H Q :=
  re_of (pe_slice sl_str pe_RE (po_some pe_RE) po_none) (h.mono fun x H1 q => q.mono fun y H2 ⟨i, z, ey, ex, hz, q⟩ => ⟨i, ey, z, ex, hz, q⟩)
/-- pieces of a list -/
theorem re_lto (h : RE X e σ H fun x H1 => RE X f σ H1 fun y H2 => ∃ i l xs, y = .int i ∧ x = .ref l ∧ SqL X.K H2 l xs ∧ ∀ p, H2 p = none → Q (.ref p) (upd H2 p (.lst (cutV xs none (some i))))) : RE X (.Subscript e (.Slice none (some f) none p2) pos) σ H Q :=
  re_of (pe_slice sl_list pe_RE po_none (po_some pe_RE)) (h.mono fun x H1 q => q.mono fun y H2 ⟨i, l, xs, ey, ex, hs, q⟩ => ⟨i, ey, l, xs, ex, hs, q⟩)
theorem re_lfrom (h : RE X e σ H fun x H1 => RE X f σ H1 fun y H2 => ∃ i l xs, y = .int i ∧ x = .ref l ∧ SqL X.K H2 l xs ∧ ∀ p, H2 p = none → Q (.ref p) (upd H2 p (.lst (cutV xs (some i) none)))) : RE X (.Subscript e (.Slice (some f) none none p2) pos) σ H Q :=
  re_of (pe_slice sl_list pe_RE (po_some pe_RE) po_none) (h.mono fun x H1 q => q.mono fun y H2 ⟨i, l, xs, ey, ex, hs, q⟩ => ⟨i, ey, l, xs, ex, hs, q⟩)
theorem re_join (h : RE X o σ H fun x H1 => (∃ a, x = .str a) ∧ RE X e σ H1 fun y H2 => ∃ a p ys, x = .str a ∧ y = .ref p ∧ SqL X.K H2 p (ys.map V.str) ∧ (ys.map (·.length)).sum + ys.length * a.length ≤ 16777216 ∧ Q (.str (Str.join a ys)) H2)
    (hs : starEach [e] X.env = [(false, eval e X.env)] := by rfl) (hbase : attributeBase o "join" X.env (eval o X.env) = eval o X.env := by rfl) (hline : (apos.endLine == pos.line) = true := by rfl) : RE X (.Call (.Attribute o "join" apos) [e] [] pos) σ H Q :=
  re_of (pe_join pe_RE pe_RE hs hbase hline) (h.mono fun x H1 ⟨hx, q⟩ => ⟨hx, q.mono fun y H2 ⟨a, p, ys, ex, ey, hl, hz, q⟩ => ⟨a, p, ys, ex, by rw [ey], .inl hl, hz, by rw [TL.join_eq]; exact q⟩⟩)
/-- target = value, stored in order -/
theorem rs_asg {tg : Expr} {g : TG} (hg : PG X tg g) (h : RE X e σ H fun x H1 => g x σ H1 D.nx) (hs : swapsWithSole [tg] e pos.line X.env = pure false := by rfl) (hw : swappedStores [tg] e X.env = pure none := by rfl)
    (h1 : (assignEach [tg] X.env).map (·.2) = [assign tg X.env] := by rfl) : RS X (.Assign [tg] e pos) D σ H := rs_of (ps_asg pe_RE hg hs hw h1) h
end
end Fx
end
section
set_option Elab.async false
set_option linter.all false
set_option maxRecDepth 100000
set_option maxHeartbeats 4000000
namespace Fl
open PySem PySem.Spec PyProof.Rows L2 Fx
open Evl (Ex fresh_back)
/-! ### drawn words: mathematics -/
def small (c : Nat) : Prop := 97 ≤ c ∧ c ≤ 122
theorem isWord_tl {s : Str} : isWordS s = true ↔ 1 ≤ (TL.tl s).length ∧ (TL.tl s).length ≤ 8 ∧ ∀ c ∈ TL.tl s, small c := by
  unfold isWordS small
  have : s.length = (TL.tl s).length := (Array.length_toList).symm
  rw [Bool.and_eq_true, Bool.and_eq_true, decide_eq_true_eq, decide_eq_true_eq, List.all_eq_true, this, and_assoc]
  refine and_congr Iff.rfl (and_congr Iff.rfl (forall_congr' fun c => ?_))
  refine imp_congr Iff.rfl ?_
  rw [Bool.and_eq_true, decide_eq_true_eq, decide_eq_true_eq]
def lettersS : Str := "abcdefghijklmnopqrstuvwxyz"
theorem letters_tl : TL.tl lettersS = List.range' 97 26 := by decide +kernel
theorem letter_at {i : Nat} {c : Nat} (h : (TL.tl lettersS)[i]? = some c) : c = 97 + i ∧ i < 26 := by
  rw [letters_tl] at h
  have hi : i < 26 := by
    have := (List.getElem?_eq_some_iff.mp h).1
    rwa [List.length_range'] at this
  rw [List.getElem?_range' hi] at h
  have := Option.some.inj h
  exact ⟨by omega, hi⟩
theorem tl_one (c : Nat) : TL.tl ⟨#[c]⟩ = [c] := rfl
theorem tl_len (s : Str) : (TL.tl s).length = s.length := Array.length_toList
theorem tl_cut_to {z : Str} {i : Nat} (h : i ≤ z.length) : TL.tl (cutS z none (some (i : Int))) = (TL.tl z).take i := by
  show ((z.cps.toList.drop (HT.sIx z.length 0 none)).take (HT.sIx z.length z.length (some (i : Int)) - HT.sIx z.length 0 none)) = _
  rw [HT.sIx_none, HT.sIx_nat, List.drop_zero, Nat.sub_zero, Nat.min_eq_left h]
theorem tl_cut_from {z : Str} {i : Nat} (h : i ≤ z.length) : TL.tl (cutS z (some (i : Int)) none) = (TL.tl z).drop i := by
  show ((z.cps.toList.drop (HT.sIx z.length 0 (some (i : Int)))).take (HT.sIx z.length z.length none - HT.sIx z.length 0 (some (i : Int)))) = _
  rw [HT.sIx_none, HT.sIx_nat, Nat.min_eq_left h]
  refine List.take_of_length_le ?_
  rw [List.length_drop]
  exact Nat.le_of_eq (by rw [← tl_len])
/-- the word of a letter -/
def wordK (stem : Str) (at_ : Nat) (c : Nat) : Str := cutS stem none (some (at_ : Int)) ++ ⟨#[c]⟩ ++ cutS stem (some (at_ : Int)) none
theorem wordK_tl {stem : Str} {at_ c : Nat} (h : at_ ≤ stem.length) : TL.tl (wordK stem at_ c) = (TL.tl stem).take at_ ++ [c] ++ (TL.tl stem).drop at_ := by
  unfold wordK
  rw [TL.tl_append, TL.tl_append, tl_cut_to h, tl_cut_from h, tl_one]
theorem wordK_word {stem : Str} {at_ c : Nat} (h : at_ ≤ stem.length) (h3 : stem.length ≤ 7) (hs : ∀ x ∈ TL.tl stem, small x) (hc : small c) : isWordS (wordK stem at_ c) = true := by
  rw [isWord_tl, wordK_tl h]
  have hl := tl_len stem
  refine ⟨?_, ?_, fun x hx => ?_⟩
  · rw [List.length_append, List.length_append, List.length_singleton]; omega
  · rw [List.length_append, List.length_append, List.length_singleton, List.length_take, List.length_drop]; omega
  · rcases List.mem_append.mp hx with hx | hx
    · rcases List.mem_append.mp hx with hx | hx
      · exact hs x (List.mem_of_mem_take hx)
      · rw [List.mem_singleton.mp hx]; exact hc
    · exact hs x (List.mem_of_mem_drop hx)
theorem wordK_inj {stem : Str} {at_ c c' : Nat} (h : at_ ≤ stem.length) (e : wordK stem at_ c = wordK stem at_ c') : c = c' := by
  have e := congrArg TL.tl e
  rw [wordK_tl h, wordK_tl h] at e
  have e := List.append_inj_left' e rfl
  have e := List.append_inj_right' e rfl
  exact (List.cons.inj e).1
/-- the letters are unlike: the step has no part in common with 26 -/
def letK (first step k : Int) : Nat := (97 + (first + step * k) % 26).toNat
def stepsL : List Int := [1, 3, 5, 7, 9, 11, 15, 17]
theorem letK_small (first step k : Int) : small (letK first step k) := by
  unfold small letK
  have h0 := Int.emod_nonneg (first + step * k) (by decide : (26 : Int) ≠ 0)
  have h1 := Int.emod_lt_of_pos (first + step * k) (by decide : (0 : Int) < 26)
  omega
theorem letK_inj {first step : Int} (hs : step ∈ stepsL) {j k : Nat} (hj : j < 26) (hk : k < 26) (e : letK first step j = letK first step k) : j = k := by
  unfold letK at e
  have h0 := Int.emod_nonneg (first + step * j) (by decide : (26 : Int) ≠ 0)
  have h2 := Int.emod_nonneg (first + step * k) (by decide : (26 : Int) ≠ 0)
  have e' : (first + step * j) % 26 = (first + step * k) % 26 := by omega
  unfold stepsL at hs
  simp only [List.mem_cons, List.not_mem_nil, or_false] at hs
  rcases hs with rfl | rfl | rfl | rfl | rfl | rfl | rfl | rfl <;> omega
def wordsAll (stem : Str) (at_ : Nat) (first step : Int) (n : Nat) : List Str := (List.range n).map fun k : Nat => wordK stem at_ (letK first step (k : Nat))
theorem wordsAll_nodup {stem : Str} {at_ : Nat} {first step : Int} (h : at_ ≤ stem.length) (hs : step ∈ stepsL) : (wordsAll stem at_ first step 26).Nodup := by
  unfold wordsAll
  refine List.pairwise_map.mpr (List.Pairwise.imp_of_mem (fun {j k} hj hk ne e => ne ?_) (List.nodup_range (n := 26)))
  exact letK_inj hs (List.mem_range.mp hj) (List.mem_range.mp hk) (wordK_inj h e)
end Fl
end
section
set_option Elab.async false
set_option linter.all false
set_option maxRecDepth 100000
set_option maxHeartbeats 4000000
namespace Fl
open PySem PySem.Spec PyProof.Rows L2 Fx
open Evl (Ex fresh_back)
theorem pen_c {H : Hp} {pa c c' : Addr} {t l t' l' : Int} (h : H pa = some (.dK (penV c t l))) (h' : H pa = some (.dK (penV c' t' l'))) : c = c' := by
  rw [h] at h'
  have e := HO.dK.inj (Option.some.inj h')
  exact V.ref.inj (Prod.mk.inj (List.cons.inj e).1).2
/-- the pen's cells stand elsewhere -/
def Away (H : Hp) (pa la : Addr) : Prop := ∃ c t l, H pa = some (.dK (penV c t l)) ∧ c ≠ la
section
variable {K : PySem.W.Frag} {H H' : Hp} {pa la : Addr} {n : Nat}
theorem Pen.away (p : Pen K H pa n) (h : H la = none) : Away H pa la := by
  obtain ⟨c, ns, t, l, h1, h2, _⟩ := p.ex
  refine ⟨c, t, l, h1, fun e => ?_⟩
  subst e
  rcases h2 with h2 | ⟨_, h2⟩
  · rw [h] at h2; cases h2
  · rw [h] at h2; cases h2
theorem Away.step (a : Away H pa la) (e : exP pa H H') : Away H' pa la := by
  obtain ⟨c, t, l, h1, h2⟩ := a
  obtain ⟨t', l', h⟩ := e.cells _ _ _ h1
  exact ⟨c, t', l', h, h2⟩
theorem Away.mut {o : HO} (a : Away H pa la) (hne : pa ≠ la) : Away (upd H la o) pa la := by
  obtain ⟨c, t, l, h1, h2⟩ := a
  exact ⟨c, t, l, by rw [upd_ne hne]; exact h1, h2⟩
theorem Pen.mut {o : HO} (p : Pen K H pa n) (a : Away H pa la) (hne : pa ≠ la) : Pen K (upd H la o) pa n := by
  obtain ⟨c, ns, t, l, h1, h2, h3⟩ := p.ex
  obtain ⟨c', t', l', g1, g2⟩ := a
  have e := pen_c h1 g1
  rw [← e] at g2
  refine ⟨c, ns, t, l, by rw [upd_ne hne]; exact h1, ?_, h3⟩
  rcases h2 with h2 | ⟨ob, h2⟩
  · exact .inl (by rw [upd_ne g2]; exact h2)
  · exact .inr ⟨ob, by rw [upd_ne g2]; exact h2⟩
theorem Pen.ne_new (p : Pen K H pa n) (h : H la = none) : pa ≠ la := fun e => by
  obtain ⟨kvs, hp⟩ := p.dict
  rw [e, h] at hp
  cases hp
theorem exP.mut {H0 : Hp} {o : HO} (e : exP pa H0 H) (h0 : H0 la = none) (hne : pa ≠ la) : exP pa H0 (upd H la o) := ⟨fun b u hb hn => by
  rw [upd_ne (ne_of_none hb h0)]; exact e.but b u hb hn, fun c t l h => by
  obtain ⟨t', l', h⟩ := e.cells c t l h
  exact ⟨t', l', by rw [upd_ne hne]; exact h⟩⟩
end
section
variable {K : PySem.W.Frag} {H : Hp}
theorem DA.take : ∀ {vs : List V} {ds : List PyData} (i : Nat), DA K H vs ds → DA K H (vs.take i) (ds.take i)
  | [], _, i, h => by cases h; simp only [List.take_nil]; exact .nil
  | v :: vs, _, 0, h => by cases h; exact .nil
  | v :: vs, _, i + 1, h => by cases h with | cons a b => exact .cons a (DA.take i b)
theorem DA.drop : ∀ {vs : List V} {ds : List PyData} (i : Nat), DA K H vs ds → DA K H (vs.drop i) (ds.drop i)
  | [], _, i, h => by cases h; simp only [List.drop_nil]; exact .nil
  | v :: vs, _, 0, h => h
  | v :: vs, _, i + 1, h => by cases h with | cons a b => exact DA.drop i b
theorem DA.set {v : V} {d : PyData} (hd : D K H v d) : ∀ {vs : List V} {ds : List PyData} (i : Nat), DA K H vs ds → DA K H (vs.set i v) (ds.set i d)
  | [], _, i, h => by cases h; exact .nil
  | x :: vs, _, 0, h => by cases h with | cons a b => exact .cons hd b
  | x :: vs, _, i + 1, h => by cases h with | cons a b => exact .cons a (DA.set hd i b)
end
end Fl
end
section
set_option Elab.async false
set_option linter.all false
set_option maxRecDepth 100000
set_option maxHeartbeats 4000000
namespace Fl
open PySem PySem.Spec PyProof.Rows L2 Fx
open Evl (Ex fresh_back)
/-! ### drawn words: the law's def -/
theorem Pen.upto {K : PySem.W.Frag} {H : Hp} {pa : Addr} {n m : Nat} (p : Pen K H pa n) (h : n ≤ m) : Pen K H pa m := by
  obtain ⟨c, ns, t, l, h1, h2, h3, h4, h5, h6⟩ := p.ex
  exact ⟨c, ns, t, l, h1, h2, h3, h4, by omega, h6⟩
section
variable {P : Program} {w : World} {K : PySem.W.Frag} {mg : Str → Option Value} {base : Heap} {f : Addr} {fd : FuncData}
/-- a pick from a text -/
def sp_pickS (K : PySem.W.Frag) : Sp := fun vs H Q _ => ∃ pa z n, vs = [.ref pa, .str z] ∧ 0 < z.length ∧ z.length ≤ 1000 ∧ n ≤ 1000000 ∧ Pen K H pa n ∧ ∀ c H', c ∈ TL.tl z → exP pa H H' → Pen K H' pa (n + 1) → Q (.str ⟨#[c]⟩) H'
theorem ok_pickS (F : Fun K "_law_pick" "_law_pick" s_pick f fd) (G : Gb mg) (c1 : Cl P w K mg base CX0 1 "_law_draw" (sp_draw K)) : FnOk P w K mg base CX0 2 f fd nm_pick (sp_pickS K) := by
  refine F.ok sc_pick (fun vs H Q E h => ?_) (fun cdv A outer s H vs Q E hr h => ⟨RB _ _, pss_RB, ?_⟩)
  · obtain ⟨_, _, _, rfl, _⟩ := h; rfl
  obtain ⟨pa, z, n, rfl, h0, h1, hn, pen, q⟩ := h
  have hz : z.length ≤ sizeLine := Nat.le_trans h1 (by rw [sizeLine_eq]; decide)
  refine rb_one <| rs_ret <| re_ixS <| re_var 1 rfl <| re_call c1 hr <| ra_cons <| re_var 0 rfl <| ra_cons <| re_cb call_len G.len <| ra_cons <| re_var 1 rfl <| ra_nil ⟨_, z.length, rfl, ⟨hz, rfl⟩, ra_nil ⟨pa, (z.length : Nat), n, rfl, by omega, by omega, hn, pen, fun r H' r0 r1 e pen' => ?_⟩⟩
  obtain ⟨c, hc, hm⟩ := atI_in (xs := TL.tl z) r0 (by rw [tl_len]; exact r1)
  exact ⟨z, r, c, rfl, rfl, hz, hc, q c H' hm e pen'⟩
abbrev nm_words : List Str := ["_law_pen_here", "_law_many", "_law_letters", "_law_stem", "_law_at", "_law_first", "_law_step", "_law_found", "_law_k", "_law_word"]
theorem sc_words : FnScope nm_words ["_law_pen_here", "_law_many"] (defScope s_words) := ⟨rfl, rfl, rfl, by decide +kernel, rfl, by decide +kernel, by decide +kernel⟩
def Words (ws : List Str) (m : Nat) : Prop := (∀ x ∈ ws, isWordS x = true ∧ x ≠ ("main" : Str)) ∧ ws.Nodup ∧ ws.length ≤ m ∧ ws.length ≤ 26
def sp_words (K : PySem.W.Frag) : Sp := fun vs H Q _ => ∃ (pa : Addr) (m : Nat) (n : Nat), vs = [.ref pa, .int (m : Nat)] ∧ n ≤ 900000 ∧ Pen K H pa n ∧ ∀ l ws H', Words ws m → H l = none → H' l = some (.lst (ws.map V.str)) → exP pa H H' → Pen K H' pa (n + 10) → Q (.ref l) H'
/-- texts of one small letter -/
def Ones (ys : List Str) : Prop := ∀ y ∈ ys, ∃ c, y = ⟨#[c]⟩ ∧ small c
theorem ones_len : ∀ {ys : List Str}, Ones ys → (ys.map (·.length)).sum = ys.length
  | [], _ => rfl
  | y :: r, h => by
    obtain ⟨c, rfl, _⟩ := h y List.mem_cons_self
    rw [List.map_cons, List.sum_cons, ones_len fun x hx => h x (List.mem_cons_of_mem _ hx), List.length_cons, Nat.add_comm]; rfl
theorem ones_join : ∀ {ys : List Str}, Ones ys → (TL.tl (Str.join "" ys)).length = ys.length ∧ ∀ c ∈ TL.tl (Str.join "" ys), small c
  | [], _ => ⟨rfl, fun c h => nomatch h⟩
  | [y], h => by
    obtain ⟨c, rfl, hc⟩ := h y List.mem_cons_self
    exact ⟨rfl, fun x hx => by rw [List.mem_singleton.mp hx]; exact hc⟩
  | y :: z :: r, h => by
    obtain ⟨c, rfl, hc⟩ := h y List.mem_cons_self
    obtain ⟨ih1, ih2⟩ := ones_join (ys := z :: r) fun x hx => h x (List.mem_cons_of_mem _ hx)
    have e : TL.tl (Str.join "" (⟨#[c]⟩ :: z :: r)) = [c] ++ TL.tl (Str.join "" (z :: r)) := by
      show TL.tl (⟨#[c]⟩ ++ "" ++ Str.join "" (z :: r)) = _
      rw [TL.tl_append, TL.tl_append]; rfl
    rw [e]
    refine ⟨?_, fun x hx => ?_⟩
    · rw [List.length_append, ih1]; simp; omega
    · rcases List.mem_append.mp hx with hx | hx
      · rw [List.mem_singleton.mp hx]; exact hc
      · exact ih2 x hx
theorem ok_words (F : Fun K "_law_words" "_law_words" s_words f fd) (G : Gb mg) (G2 : Gb2 mg) (c1 : Cl P w K mg base CX0 1 "_law_draw" (sp_draw K)) (c2 : Cl P w K mg base CX0 2 "_law_pick" (sp_pick K)) (c3 : Cl P w K mg base CX0 2 "_law_pick" (sp_pickS K)) : FnOk P w K mg base CX0 3 f fd ["_law_pen_here", "_law_many"] (sp_words K) := by
  refine F.ok sc_words (fun vs H Q E h => ?_) (fun cdv A outer s H vs Q E hr h => ⟨RB _ _, pss_RB, ?_⟩)
  · obtain ⟨_, _, _, rfl, _⟩ := h; rfl
  obtain ⟨pa, m, n, rfl, hn, pen, q⟩ := h
  obtain ⟨kvs, hpa⟩ := pen.dict
  refine rb_cons <| rs_set 2 (by exact sc_words.nd) <| re_str ?_
  -- the stem
  refine rb_cons <| rs_set 3 (by exact sc_words.nd) <| re_join <| re_str ⟨⟨_, rfl⟩, ?_⟩
  refine re_lcS (own := [("_law_k", 8)]) (g := gName 8) rfl (by exact sc_words.nd) (blkOk_by (N := nm_words) (sc := defScope s_words) (by decide +kernel)) (fun _ _ _ _ _ => pg_name (i := 8) (by exact sc_words.nd) rfl (Or.inl rfl)) good_name ?_
  refine ri_range (n := 0) G2.range <| ra_cons <| re_call c1 hr <| ra_cons <| re_var 0 rfl <| ra_cons <| re_int <| ra_nil ⟨pa, 4, n, rfl, by decide, by decide, by omega, pen, fun r H1 r0 r1 e1 pen1 => ra_nil ⟨r, rfl, by omega, by omega, ?_⟩⟩
  refine ⟨_, _, _, fun Dl i H' acc => ∃ ys, acc = ys.map V.str ∧ Ones ys ∧ ys.length = i ∧ exP pa H H' ∧ Pen K H' pa (n + 1 + i) ∧ Away H' pa Dl, walk_range, by omega, fun _ _ _ _ _ => trivial, fun Dl hD => ?_, ?_, ?_⟩
  · have hD0 : H Dl = none := by
      cases hh : H Dl with
      | none => rfl
      | some o =>
        by_cases e : Dl = pa
        · subst e
          obtain ⟨k1, g1⟩ := pen1.dict
          rw [hD] at g1; cases g1
        · rw [e1.but _ _ hh e] at hD; cases hD
    exact ⟨[], rfl, (fun _ h => nomatch h), rfl, e1.mut hD0 (pen1.ne_new hD), pen1.mut (pen1.away hD) (pen1.ne_new hD), (pen1.away hD).mut (pen1.ne_new hD)⟩
  · rintro Dl i x H2 H3 acc hD hi hDl hlen ⟨ys, rfl, ho, hyl, e2, pen2, aw2⟩ ⟨rfl, rfl⟩
    have hi4 : i < 4 := by omega
    refine ⟨rfl, fun s0 H0 C cl fp => ?_⟩
    refine re_call c3 hr <| ra_cons <| re_var 0 rfl <| ra_cons <| re_var 2 rfl <| ra_nil ⟨pa, lettersS, n + 1 + i, rfl, by decide +kernel, by decide +kernel, by omega, pen2, fun c H4 hc e4 pen4 => ?_⟩
    have neD : Dl ≠ pa := (pen1.ne_new hD).symm
    have hD0 : H Dl = none := by
      cases hh : H Dl with
      | none => rfl
      | some o => rw [e1.but _ _ hh neD] at hD; cases hD
    refine ⟨e4.but _ _ hDl neD, ys ++ [⟨#[c]⟩], by rw [List.map_append]; rfl, fun y hy => ?_, by rw [List.length_append, hyl]; rfl, (e2.trans e4).mut hD0 neD.symm, pen4.mut (aw2.step e4) neD.symm, (aw2.step e4).mut neD.symm⟩
    rcases List.mem_append.mp hy with hy | hy
    · exact ho y hy
    · rw [List.mem_singleton.mp hy]
      obtain ⟨j, hj, hje⟩ := List.mem_iff_getElem.mp hc
      obtain ⟨h1, h2⟩ := letter_at (i := j) (c := c) (by rw [List.getElem?_eq_getElem hj, hje])
      exact ⟨c, rfl, by unfold small; omega⟩
  rintro Dl acc H2 hD hDl hlen ⟨ys, rfl, ho, hyl, e2, pen2, aw2⟩
  have hys : ys.length ≤ 3 := by omega
  obtain ⟨j1, j2⟩ := ones_join ho
  refine ⟨"", Dl, ys, rfl, rfl, .inl (.inl hDl), (by rw [ones_len ho, show ("" : Str).length = 0 from rfl]; omega), ?_⟩
  have hstem : (Str.join "" ys).length = ys.length := by rw [← tl_len, j1]
  generalize hst : Str.join "" ys = stem at *
  have pen2 : Pen K H2 pa (n + 4) := pen2.upto (by omega)
  -- where, the first letter, the step
  refine rb_cons <| rs_asg (g := gTup K 3 (gCons (gName 4) (gCons (gName 5) (gCons (gName 6) gNil)))) (pg_tup rfl (pgs_cons (pg_name (i := 4) (by exact sc_words.nd) rfl (Or.inr rfl)) (pgs_cons (pg_name (i := 5) (by exact sc_words.nd) rfl (Or.inr rfl)) (pgs_cons (pg_name (i := 6) (by exact sc_words.nd) rfl (Or.inr rfl)) pgs_nil)))) ?_
  refine re_tup <| ra_cons <| re_call c1 hr <| ra_cons <| re_var 0 rfl <| ra_cons <| re_add <| re_cb call_len G.len <| ra_cons <| re_var 3 rfl <| ra_nil ⟨_, stem.length, rfl, ⟨Nat.le_trans (m := 10) (by omega) (by rw [sizeLine_eq]; decide), rfl⟩, re_int ⟨(stem.length : Nat), 1, rfl, rfl, ra_nil ⟨pa, (stem.length : Nat) + 1, n + 4, rfl, by omega, by omega, by omega, pen2, fun at_ H3 a0 a1 e3 pen3 => ?_⟩⟩⟩
  refine ra_cons <| re_call c1 hr <| ra_cons <| re_var 0 rfl <| ra_cons <| re_int <| ra_nil ⟨pa, 26, n + 5, rfl, by decide, by decide, by omega, pen3, fun first H4 f0 f1 e4 pen4 => ?_⟩
  refine ra_cons <| re_call c2 hr <| ra_cons <| re_var 0 rfl <| ra_cons <| re_lst <| ra_cons <| re_int <| ra_cons <| re_int <| ra_cons <| re_int <| ra_cons <| re_int <| ra_cons <| re_int <| ra_cons <| re_int <| ra_nil ⟨Nat.le_of_ble_eq_true rfl, fun p5 H5 hp5 e5 h5 => ra_nil ⟨pa, p5, _, n + 6, rfl, .inl (.inl h5), Nat.le_of_ble_eq_true rfl, Nat.le_of_ble_eq_true rfl, by omega, pen4.mono e5, fun v H6a hv e6a pen6a => ra_nil ⟨Nat.le_of_ble_eq_true rfl, fun p6 H6 hp6 e6t h6 => ⟨p6, _, rfl, .inl (.inl h6), rfl, _, _, rfl, _, _, rfl, _, _, rfl, rfl, ?_⟩⟩⟩⟩
  have e6 := e6a.trans (exP.of e6t)
  have pen6 := pen6a.mono e6t
  have hstep : ∃ step, v = .int step ∧ step ∈ stepsL := by
    simp only [List.mem_cons, List.not_mem_nil, or_false] at hv
    rcases hv with h | h | h | h | h | h <;> exact ⟨_, h, by decide⟩
  obtain ⟨step, rfl, hs⟩ := hstep
  obtain ⟨a, rfl⟩ := Int.eq_ofNat_of_zero_le a0
  have ha : a ≤ stem.length := by omega
  have e06 : exP pa H H6 := (((e2.trans e3).trans e4).trans (exP.of e5)).trans e6
  have hstep11 : 0 ≤ step ∧ step ≤ 17 := by
    revert hs; unfold stepsL
    intro hs
    simp only [List.mem_cons, List.not_mem_nil, or_false] at hs
    omega
  -- all words
  refine rb_cons <| rs_setLc (own := [("_law_k", 8)]) (g := gName 8) 7 rfl (by exact sc_words.nd) (blkOk_by (N := nm_words) (sc := defScope s_words) (by decide +kernel)) (fun _ _ _ _ _ => pg_name (i := 8) (by exact sc_words.nd) rfl (Or.inl rfl)) good_name ?_
  refine ri_range (n := 0) G2.range <| ra_cons <| re_int <| ra_nil ⟨26, rfl, by decide, by decide, ?_⟩
  refine ⟨_, _, _, fun i ys => ys = (wordsAll stem a first step i).map V.str, walk_range, by decide, fun _ _ => trivial, rfl, ?_, ?_⟩
  · rintro i x Ha Hb hi ea ⟨rfl, rfl⟩
    have hi26 : i < 26 := hi
    refine ⟨Ex.refl _, rfl, Ex.refl _, fun s0 H0 C cl fp => ?_⟩
    have hz : stem.length ≤ sizeLine := Nat.le_trans (m := 10) (by omega) (by rw [sizeLine_eq]; decide)
    have him : (0 : Int) ≤ (first + step * (0 + (i : Nat))) % 26 := Int.emod_nonneg _ (by decide)
    have him2 : (first + step * (0 + (i : Nat))) % 26 < 26 := Int.emod_lt_of_pos _ (by decide)
    obtain ⟨c, hc, _⟩ := atI_in (xs := TL.tl lettersS) (i := (first + step * (0 + (i : Nat))) % 26) him (by rw [letters_tl, List.length_range']; exact him2)
    have hcl : c = letK first step (i : Nat) := by
      obtain ⟨kk, hk⟩ := Int.eq_ofNat_of_zero_le him
      rw [hk] at hc him2
      have hc' : (TL.tl lettersS)[kk]? = some c := by
        have hlt : kk < (TL.tl lettersS).length := by rw [letters_tl, List.length_range']; omega
        have h1 := atI_nat (List.getElem?_eq_getElem hlt)
        rw [h1] at hc
        rw [List.getElem?_eq_getElem hlt]; exact hc
      have h2 := (letter_at hc').1
      unfold letK
      have : (first + step * ((i : Nat) : Int)) % 26 = kk := by rw [← hk]; congr 2; rw [Int.zero_add]
      rw [this, h2]; omega
    refine re_op op_add_str <| re_op op_add_str <| re_sto <| re_var 3 rfl <| re_var 4 rfl ⟨(a : Nat), stem, rfl, rfl, hz, ?_⟩
    refine re_ixS <| re_var 2 rfl <| re_mod <| re_int1 G.int <| re_add <| re_var 5 rfl <| re_mul <| re_var 6 rfl <| re_var 8 rfl ⟨step, _, rfl, rfl, .inl ⟨by omega, by omega⟩, first, _, rfl, rfl, _, rfl, re_int ⟨_, 26, rfl, rfl, by decide, lettersS, _, c, rfl, rfl, by decide +kernel, hc, ?_⟩⟩
    have l1 : (cutS stem none (some (a : Int))).length ≤ 3 := Nat.le_trans (cutS_length ..) (by omega)
    have l2 : (cutS stem (some (a : Int)) none).length ≤ 3 := Nat.le_trans (cutS_length ..) (by omega)
    have l3 : (⟨#[c]⟩ : Str).length = 1 := rfl
    refine ⟨_, _, rfl, rfl, Nat.le_trans (m := 10) (by omega) (by rw [sizeLine_eq]; decide), ?_⟩
    refine re_sfrom <| re_var 3 rfl <| re_var 4 rfl ⟨(a : Nat), stem, rfl, rfl, hz, _, _, rfl, rfl, ?_, Ex.refl _, fun acc hacc => ?_⟩
    · rw [Str.length_append]
      exact Nat.le_trans (m := 10) (by omega) (by rw [sizeLine_eq]; decide)
    · subst hacc
      unfold wordsAll
      rw [List.range_succ, List.map_append, List.map_append, hcl]
      rfl
  rintro lp ys H7 hlp e7 h7 _ rfl
  -- but main, and so many
  let all := wordsAll stem a first step 26
  have hall : all.length = 26 := by simp [all, wordsAll]
  have okw : ∀ x ∈ all, isWordS x = true := fun x hx => by
    obtain ⟨k, hk, rfl⟩ := List.mem_map.mp hx
    exact wordK_word ha (by omega) j2 (letK_small _ _ _)
  refine rb_one <| rs_ret <| re_lto ?_
  refine re_lcIf (own := [("_law_word", 9)]) (g := gName 9) rfl (by exact sc_words.nd) (blkOk_by (N := nm_words) (sc := defScope s_words) (by decide +kernel)) (fun _ _ _ _ _ => pg_name (i := 9) (by exact sc_words.nd) rfl (Or.inl rfl)) good_name ?_
  refine ri_list <| re_var 7 rfl ⟨lp, all.map V.str, rfl, .inl (.inl h7), _, _, _, fun i ys => ys = ((all.take i).filter fun x => decide (x ≠ ("main" : Str))).map V.str, walk_list (xs := all.map V.str), ?_, fun H' e' => Evl.ex_l e' (.inl (.inl h7)), rfl, ?_, ?_⟩
  · rw [List.length_map, hall]; decide
  · rintro i x Ha Hb hi ea ⟨rfl, hx⟩
    rw [List.getElem?_map] at hx
    cases hy : all[i]? with
    | none => rw [hy] at hx; cases hx
    | some y =>
      rw [hy] at hx
      obtain rfl := Option.some.inj hx
      have tk : all.take (i + 1) = all.take i ++ [y] := take_snoc hy
      refine ⟨Ex.refl _, rfl, Ex.refl _, fun s0 H0 C cl fp => rt_cmp op_ne <| re_var 9 rfl <| re_str ⟨rfl, _, rfl, Ex.refl _, fun hk s0 H0 C cl fp => re_var 9 rfl ⟨Ex.refl _, fun acc hacc => ?_⟩, fun hk acc hacc => ?_⟩⟩
      · subst hacc
        have hne : y ≠ "main" := fun z => by rw [z] at hk; simp at hk
        rw [tk, List.filter_append, List.map_append, List.filter_cons_of_pos (by simpa using hne)]; rfl
      · subst hacc
        have he : y = "main" := by
          by_cases z : y = "main"
          · exact z
          · exfalso
            rw [decide_eq_false fun e : V.str y = V.str "main" => z (V.str.inj e)] at hk
            cases hk
        rw [tk, List.filter_append, List.filter_cons_of_neg (by simp [he])]; simp
  rintro Dl2 acc H8 hD2 e8 h8 _ rfl
  have tkall : all.take (all.map V.str).length = all := by rw [List.length_map, List.take_length]
  rw [tkall] at h8
  refine re_var 1 rfl ⟨(m : Nat), Dl2, _, rfl, rfl, .inl (.inl h8), fun p9 hp9 => ?_⟩
  let flt := all.filter fun x => decide (x ≠ ("main" : Str))
  have hcut : cutV (flt.map V.str) none (some (m : Int)) = (flt.take m).map V.str := by
    unfold cutV
    rw [HT.sIx_none, HT.sIx_nat, List.drop_zero, Nat.sub_zero, List.map_take]
    by_cases hm : m ≤ (flt.map V.str).length
    · rw [Nat.min_eq_left hm]
    · rw [Nat.min_eq_right (by omega), List.take_length, List.take_of_length_le (by omega)]
  have e08 : exP pa H H8 := (e06.trans (exP.of e7)).trans (exP.of e8)
  have pen8 := (pen6.mono e7).mono e8
  have h90 : H p9 = none := by
    cases hh : H p9 with
    | none => rfl
    | some o => rw [e08.but _ _ hh (pen8.ne_new hp9).symm] at hp9; cases hp9
  refine q p9 (flt.take m) _ ⟨fun x hx => ?_, ?_, ?_, ?_⟩ h90 (by rw [← hcut]; exact upd_same) (e08.trans (exP.of (Ex.new hp9))) ((pen8.mono (Ex.new hp9)).upto (by omega))
  · have hx := List.mem_of_mem_take hx
    rw [List.mem_filter, decide_eq_true_eq] at hx
    exact ⟨okw x hx.1, hx.2⟩
  · exact ((wordsAll_nodup ha hs).sublist List.filter_sublist).sublist (List.take_sublist _ _)
  · rw [List.length_take]; exact Nat.min_le_left _ _
  · rw [List.length_take]
    have hfl : flt.length ≤ all.length := List.length_filter_le _ _
    omega
end
end Fl
end
section
set_option Elab.async false
set_option linter.all false
set_option maxRecDepth 100000
set_option maxHeartbeats 4000000
namespace Fl
open PySem PySem.Spec PyProof.Rows L2 Fx
open Evl (Ex fresh_back)
/-! ### the world that is drawn from -/
def hideL (S : List Addr) (H : Hp) : Hp := fun b => if b ∈ S then none else H b
section
variable {S S' : List Addr} {H H' : Hp} {b : Addr} {o : HO}
theorem hideL_at (hb : b ∉ S) (h : H b = some o) : hideL S H b = some o := (if_neg hb).trans h
theorem hideL_of (h : hideL S H b = some o) : b ∉ S ∧ H b = some o := by
  unfold hideL at h
  by_cases hb : b ∈ S
  · rw [if_pos hb] at h; cases h
  · rw [if_neg hb] at h; exact ⟨hb, h⟩
theorem hideL_ex (e : ∀ b o, H b = some o → b ∉ S → H' b = some o) : Ex (hideL S H) (hideL S H') := fun b o h => by
  obtain ⟨h1, h2⟩ := hideL_of h
  exact hideL_at h1 (e b o h2 h1)
theorem hideL_sub (h : ∀ x ∈ S, x ∈ S') : Ex (hideL S' H) (hideL S H) := fun b o hb => by
  obtain ⟨h1, h2⟩ := hideL_of hb
  exact hideL_at (fun z => h1 (h _ z)) h2
theorem hideL_ex0 : Ex (hideL S H) H := fun b o h => (hideL_of h).2
theorem hideL_new {p : Addr} (h : H p = none) : Ex (hideL S H) (hideL (p :: S) H) := fun b o hb => by
  obtain ⟨h1, h2⟩ := hideL_of hb
  refine hideL_at (fun z => ?_) h2
  rcases List.mem_cons.mp z with z | z
  · rw [z, h] at h2; cases h2
  · exact h1 z
end
def wdV (na po : Addr) (at_ : Nat) (q : Bool) (la : Addr) : List (Key × V) := [(.inr "names", .ref na), (.inr "pool", .ref po), (.inr "at", .int (at_ : Nat)), (.inr "lost", .bl (!q)), (.inr "labels", .ref la)]
/-- what is known of the names and labels -/
structure Nms (names : List Str) : Prop where
  word : ∀ f ∈ names, isWordS f = true
  len : names.length ≤ 30
abbrev PWd (names : List Str) (d : PyData) : Prop := Pln names d ∧ wordD d ≠ "pop"
structure Wd (K : PySem.W.Frag) (H : Hp) (pa wa la na po : Addr) (names : List Str) (at_ : Nat) (q : Bool) (L : List Str) (n : Nat) : Prop where
  pen : Pen K H pa n
  away : Away H pa la
  wd : H wa = some (.dK (wdV na po at_ q la))
  wp : wa ≠ pa
  nm : H na = some (.lst (names.map V.str))
  nl : na ≠ la
  pl : po ≠ la
  pool : ∃ ps : List Addr, H po = some (.lst (ps.map V.ref)) ∧ 0 < ps.length ∧ ps.length ≤ 3 ∧ ∀ p ∈ ps, ∃ ds, D K (hideL [pa, wa, la] H) (.ref p) (.list ds) ∧ (∀ d ∈ ds, PWd names d) ∧ ds.length ≤ 10
  lab : H la = some (.lst (L.map V.str))
  ok : Nms names
  at_lt : at_ < names.length
  labs : (∀ s ∈ L, isWordS s = true) ∧ L.Nodup ∧ L.length ≤ 30
section
variable {K : PySem.W.Frag} {H H' : Hp} {pa wa la na po : Addr} {names : List Str} {at_ : Nat} {q : Bool} {L : List Str} {n m : Nat}
theorem ne_kind {a b : Addr} {x y : HO} (ha : H a = some x) (hb : H b = some y) (h : x ≠ y) : a ≠ b := fun e => by
  rw [e, hb] at ha
  exact h (Option.some.inj ha).symm
theorem Wd.lp (W : Wd K H pa wa la na po names at_ q L n) : la ≠ pa := by
  obtain ⟨kvs, h⟩ := W.pen.dict
  exact ne_kind W.lab h (fun z => nomatch z)
theorem Wd.np (W : Wd K H pa wa la na po names at_ q L n) : na ≠ pa := by
  obtain ⟨kvs, h⟩ := W.pen.dict
  exact ne_kind W.nm h (fun z => nomatch z)
theorem Wd.wl (W : Wd K H pa wa la na po names at_ q L n) : wa ≠ la := ne_kind W.wd W.lab (fun z => nomatch z)
/-- draws alone -/
theorem Wd.step (W : Wd K H pa wa la na po names at_ q L n) (e : exP pa H H') (p : Pen K H' pa m) : Wd K H' pa wa la na po names at_ q L m := by
  obtain ⟨kvs, hpa⟩ := W.pen.dict
  obtain ⟨ps, h1, h2, h3, h4⟩ := W.pool
  refine ⟨p, W.away.step e, e.but _ _ W.wd W.wp, W.wp, e.but _ _ W.nm W.np, W.nl, W.pl, ⟨ps, e.but _ _ h1 (ne_kind h1 hpa (fun z => nomatch z)), h2, h3, fun p hp => ?_⟩, e.but _ _ W.lab W.lp, W.ok, W.at_lt, W.labs⟩
  obtain ⟨ds, g1, g2, g3⟩ := h4 p hp
  exact ⟨ds, g1.mono (hideL_ex fun b o hb hn => e.but b o hb fun z => hn (by rw [z]; exact List.mem_cons_self)), g2, g3⟩
theorem Wd.le (W : Wd K H pa wa la na po names at_ q L n) (h : n ≤ m) : Wd K H pa wa la na po names at_ q L m := ⟨W.pen.upto h, W.away, W.wd, W.wp, W.nm, W.nl, W.pl, W.pool, W.lab, W.ok, W.at_lt, W.labs⟩
/-- what is made anew is none of the three -/
theorem Wd.new (W : Wd K H pa wa la na po names at_ q L n) {b : Addr} (h : H b = none) : b ∉ [pa, wa, la] := fun z => by
  obtain ⟨kvs, hp⟩ := W.pen.dict
  simp only [List.mem_cons, List.not_mem_nil, or_false] at z
  rcases z with rfl | rfl | rfl
  · rw [h] at hp; cases hp
  · have := W.wd; rw [h] at this; cases this
  · have := W.lab; rw [h] at this; cases this
end
/-- exP, back: what is free behind is free ahead -/
theorem exP.back {pa b : Addr} {H H' : Hp} (e : exP pa H H') (h : H' b = none) (hn : b ≠ pa) : H b = none := by
  cases hh : H b with
  | none => rfl
  | some o => rw [e.but _ _ hh hn] at h; cases h
section
variable {P : Program} {w : World} {K : PySem.W.Frag} {mg : Str → Option Value} {base : Heap} {f : Addr} {fd : FuncData}
abbrev nm_pline : List Str := ["_law_pen_here", "_law_world", "_law_way", "_law_r", "_law_s", "_law_t"]
theorem sc_pline : FnScope nm_pline ["_law_pen_here", "_law_world"] (defScope s_plain_line) := ⟨rfl, rfl, rfl, by decide +kernel, rfl, by decide +kernel, by decide +kernel⟩
/-- what plain_line needs of the world: a pen, names -/
structure Wn (K : PySem.W.Frag) (H : Hp) (pa wa na : Addr) (names : List Str) (n : Nat) : Prop where
  pen : Pen K H pa n
  wd : ∃ kvs, H wa = some (.dK kvs) ∧ valV kvs (.inr "names") = some (.ref na)
  wp : wa ≠ pa
  nm : H na = some (.lst (names.map V.str))
  ok : Nms names
  pos : 0 < names.length
theorem Wn.step {H H' : Hp} {pa wa na : Addr} {names : List Str} {n m : Nat} (W : Wn K H pa wa na names n) (e : exP pa H H') (p : Pen K H' pa m) : Wn K H' pa wa na names m := by
  obtain ⟨kvs, hpa⟩ := W.pen.dict
  obtain ⟨kv, h1, h2⟩ := W.wd
  exact ⟨p, ⟨kv, e.but _ _ h1 W.wp, h2⟩, W.wp, e.but _ _ W.nm (ne_kind W.nm hpa (fun z => nomatch z)), W.ok, W.pos⟩
theorem Wd.wn {H : Hp} {pa wa la na po : Addr} {names : List Str} {at_ : Nat} {q : Bool} {L : List Str} {n : Nat} (W : Wd K H pa wa la na po names at_ q L n) : Wn K H pa wa na names n := ⟨W.pen, ⟨_, W.wd, rfl⟩, W.wp, W.nm, W.ok, Nat.lt_of_le_of_lt (Nat.zero_le _) W.at_lt⟩
/-- at v behind: a line that is drawn, of ints and texts alone -/
def sp_pline (K : PySem.W.Frag) : Sp := fun vs H Q _ => ∃ pa wa na names n, vs = [.ref pa, .ref wa] ∧ n ≤ 800000 ∧ Wn K H pa wa na names n ∧ ∀ p d xs H', PWd names d → d = .tuple (itemsD d) → (∀ HH, DA K HH xs (itemsD d)) → H p = none → H' p = some (.tup xs) → exP pa H H' → Pen K H' pa (n + 6) → Q (.ref p) H'
end
end Fl
end
section
set_option Elab.async false
set_option linter.all false
set_option maxRecDepth 100000
set_option maxHeartbeats 4000000
namespace Fl
open PySem PySem.Spec PyProof.Rows L2 Fx
open Evl (Ex fresh_back)
section
variable {P : Program} {w : World} {K : PySem.W.Frag} {mg : Str → Option Value} {base : Heap} {f : Addr} {fd : FuncData}
theorem op_ltB {X : Cx} {a b : Expr} {σ : L2.St} {H : Hp} {QB : Bool → Hp → Prop} {pos : Pos} (h : RE X a σ H fun x H1 => RE X b σ H1 fun y H2 => ∃ i j : Int, x = .int i ∧ y = .int j ∧ QB (decide (i < j)) H2) (hm : behindInMarks .Lt b = false := by first | exact nobehind _ (by decide) (by decide) | rfl) : RT X (.Compare a [.Lt] [b] pos) σ H QB :=
  rt_cmp op_lt (h.mono fun x H1 q => q.mono fun y H2 ⟨i, j, ex, ey, q⟩ => ⟨i, j, ex, ey, _, rfl, q⟩) hm
theorem reg5 {r : Int} (h0 : 0 ≤ r) (h1 : r < 5) : isReg r := ⟨h0, by omega⟩
theorem pick3 {w0 w1 w2 : Str} {i : Int} (h0 : 0 ≤ i) (h1 : i < 3) : ∃ w, atI [V.str w0, V.str w1, V.str w2] i = some (.str w) ∧ w ∈ ([w0, w1, w2] : List Str) := by
  obtain ⟨v, hv, hm⟩ := atI_in (xs := [V.str w0, V.str w1, V.str w2]) h0 h1
  simp only [List.mem_cons, List.not_mem_nil, or_false] at hm
  rcases hm with rfl | rfl | rfl
  · exact ⟨_, hv, List.mem_cons_self⟩
  · exact ⟨_, hv, List.mem_cons_of_mem _ List.mem_cons_self⟩
  · exact ⟨_, hv, List.mem_cons_of_mem _ (List.mem_cons_of_mem _ List.mem_cons_self)⟩
theorem pick2 {w0 w1 : Str} {i : Int} (h0 : 0 ≤ i) (h1 : i < 2) : ∃ w, atI [V.str w0, V.str w1] i = some (.str w) ∧ w ∈ ([w0, w1] : List Str) := by
  obtain ⟨v, hv, hm⟩ := atI_in (xs := [V.str w0, V.str w1]) h0 h1
  simp only [List.mem_cons, List.not_mem_nil, or_false] at hm
  rcases hm with rfl | rfl
  · exact ⟨_, hv, List.mem_cons_self⟩
  · exact ⟨_, hv, List.mem_cons_of_mem _ List.mem_cons_self⟩
theorem ok_pline (F : Fun K "_law_plain_line" "_law_plain_line" s_plain_line f fd) (G : Gb mg) (c1 : Cl P w K mg base CX0 1 "_law_draw" (sp_draw K)) (c2 : Cl P w K mg base CX0 2 "_law_pick" (sp_pick K)) (c3 : Cl P w K mg base CX0 3 "_law_number" (sp_number K)) :
    FnOk P w K mg base CX0 4 f fd ["_law_pen_here", "_law_world"] (sp_pline K) := by
  refine F.ok sc_pline (fun vs H Q E h => ?_) (fun cdv A outer s H vs Q E hr h => ⟨RB _ _, pss_RB, ?_⟩)
  · obtain ⟨_, _, _, _, _, rfl, _⟩ := h; rfl
  obtain ⟨pa, wa, na, names, n, rfl, hn, W, q⟩ := h
  refine rb_cons <| rs_asg (g := gTup K 4 (gCons (gName 2) (gCons (gName 3) (gCons (gName 4) (gCons (gName 5) gNil))))) (pg_tup rfl (pgs_cons (pg_name (i := 2) (by exact sc_pline.nd) rfl (Or.inl rfl)) (pgs_cons (pg_name (i := 3) (by exact sc_pline.nd) rfl (Or.inl rfl)) (pgs_cons (pg_name (i := 4) (by exact sc_pline.nd) rfl (Or.inl rfl)) (pgs_cons (pg_name (i := 5) (by exact sc_pline.nd) rfl (Or.inl rfl)) pgs_nil))))) ?_
  refine re_tup <| ra_cons <| re_call c1 hr <| ra_cons <| re_var 0 rfl <| ra_cons <| re_int <| ra_nil ⟨pa, 14, n, rfl, by decide, by decide, by omega, W.pen, fun way H1 y0 y1 e1 pen1 => ?_⟩
  have W1 := W.step e1 pen1
  refine ra_cons <| re_call c1 hr <| ra_cons <| re_var 0 rfl <| ra_cons <| re_int <| ra_nil ⟨pa, 5, n + 1, rfl, by decide, by decide, by omega, pen1, fun r H2 r0 r1 e2 pen2 => ?_⟩
  have W2 := W1.step e2 pen2
  refine ra_cons <| re_call c1 hr <| ra_cons <| re_var 0 rfl <| ra_cons <| re_int <| ra_nil ⟨pa, 5, n + 2, rfl, by decide, by decide, by omega, pen2, fun s' H3 s0 s1 e3 pen3 => ?_⟩
  have W3 := W2.step e3 pen3
  refine ra_cons <| re_call c1 hr <| ra_cons <| re_var 0 rfl <| ra_cons <| re_int <| ra_nil ⟨pa, 5, n + 3, rfl, by decide, by decide, by omega, pen3, fun t H4a t0 t1 e4 pen4 => ra_nil ⟨Nat.le_of_ble_eq_true rfl, fun p6 H4 hp6 e4t h6 => ⟨p6, _, rfl, .inl (.inl h6), rfl, _, _, rfl, _, _, rfl, _, _, rfl, _, _, rfl, rfl, ?_⟩⟩⟩
  have e04 : exP pa H H4 := (((e1.trans e2).trans e3).trans e4).trans (exP.of e4t)
  have W4 := (W3.step e4 pen4).step (exP.of e4t) (pen4.mono e4t)
  -- the tuple that is made
  have fin : ∀ (H5 : Hp) (xs : List V) (ds : List PyData) (d : PyData), d = .tuple ds → PWd names d → (∀ HH, DA K HH xs ds) → exP pa H4 H5 → Pen K H5 pa (n + 6) → ∀ p H6, H5 p = none → Ex H5 H6 → H6 p = some (.tup xs) → Q (.ref p) H6 := fun H5 xs ds d hd hp hda e5 pen5 p H6 hp6 e6 h6 => by
    have e05 := e04.trans e5
    refine q p d xs H6 hp (by rw [hd]; rfl) (by rw [hd]; exact hda) (e05.back hp6 (pen5.ne_new hp6).symm) h6 (e05.trans (exP.of e6)) (pen5.mono e6)
  have pen46 : Pen K H4 pa (n + 6) := W4.pen.upto (by omega)
  refine rb_cons <| rs_if <| op_ltB <| re_var 2 rfl <| re_int ⟨way, 2, rfl, rfl, ifB (fun e => ?_) fun e => rb_nil ?_⟩
  · refine rb_one <| rs_ret <| re_tup <| ra_cons <| re_str <| ra_cons <| re_var 3 rfl <| ra_cons <| re_call c3 hr <| ra_cons <| re_var 0 rfl <| ra_nil ⟨pa, n + 4, rfl, by omega, W4.pen, fun z H5 z0 z1 e5 pen5 => ra_nil ⟨Nat.le_of_ble_eq_true rfl, ?_⟩⟩
    exact fin H5 _ [.str "num", .int r, .int z] _ rfl (p_num (reg5 r0 r1) ⟨z0, z1⟩) (fun HH => .cons (.str _) (.cons (.int _) (.cons (.int _) .nil))) e5 pen5
  refine rb_cons <| rs_if <| op_ltB <| re_var 2 rfl <| re_int ⟨way, 4, rfl, rfl, ifB (fun e => ?_) fun e => rb_nil ?_⟩
  · refine rb_one <| rs_ret <| re_tup <| ra_cons <| re_str <| ra_cons <| re_var 3 rfl <| ra_cons <| re_var 4 rfl <| ra_nil ⟨Nat.le_of_ble_eq_true rfl, ?_⟩
    exact fin H4 _ [.str "copy", .int r, .int s'] _ rfl (p_rr (by decide +kernel) (reg5 r0 r1) (reg5 s0 s1)) (fun HH => .cons (.str _) (.cons (.int _) (.cons (.int _) .nil))) exP.refl pen46
  have way4 : 4 ≤ way := by simpa using e
  refine rb_cons <| rs_if <| op_ltB <| re_var 2 rfl <| re_int ⟨way, 7, rfl, rfl, ifB (fun e => ?_) fun e => rb_nil ?_⟩
  · have way7 : way < 7 := by simpa using e
    obtain ⟨wd, hwd, hwm⟩ := pick3 (w0 := "add") (w1 := "sub") (w2 := "mul") (i := way - 4) (by omega) (by omega)
    refine rb_one <| rs_ret <| re_tup <| ra_cons <| re_ixL <| re_lst <| ra_cons <| re_str <| ra_cons <| re_str <| ra_cons <| re_str <| ra_nil ⟨Nat.le_of_ble_eq_true rfl, fun p7 H5 hp7 e5 h7 => re_sub <| re_var 2 rfl <| re_int ⟨way, 4, rfl, rfl, p7, _, _, _, rfl, rfl, .inl (.inl h7), hwd, ?_⟩⟩
    refine ra_cons <| re_var 3 rfl <| ra_cons <| re_var 4 rfl <| ra_cons <| re_var 5 rfl <| ra_nil ⟨Nat.le_of_ble_eq_true rfl, ?_⟩
    exact fin H5 _ [.str wd, .int r, .int s', .int t] _ rfl (p_rrr hwm (reg5 r0 r1) (reg5 s0 s1) (reg5 t0 t1)) (fun HH => .cons (.str _) (.cons (.int _) (.cons (.int _) (.cons (.int _) .nil)))) (exP.of e5) (pen46.mono e5)
  have way7 : 7 ≤ way := by simpa using e
  refine rb_cons <| rs_if <| op_ltB <| re_var 2 rfl <| re_int ⟨way, 9, rfl, rfl, ifB (fun e => ?_) fun e => rb_nil ?_⟩
  · have way9 : way < 9 := by simpa using e
    obtain ⟨wd, hwd, hwm⟩ := pick2 (w0 := "same") (w1 := "less") (i := way - 7) (by omega) (by omega)
    refine rb_one <| rs_ret <| re_tup <| ra_cons <| re_ixL <| re_lst <| ra_cons <| re_str <| ra_cons <| re_str <| ra_nil ⟨Nat.le_of_ble_eq_true rfl, fun p7 H5 hp7 e5 h7 => re_sub <| re_var 2 rfl <| re_int ⟨way, 7, rfl, rfl, p7, _, _, _, rfl, rfl, .inl (.inl h7), hwd, ?_⟩⟩
    refine ra_cons <| re_var 3 rfl <| ra_cons <| re_var 4 rfl <| ra_nil ⟨Nat.le_of_ble_eq_true rfl, ?_⟩
    exact fin H5 _ [.str wd, .int r, .int s'] _ rfl (p_rr (List.mem_cons_of_mem _ hwm) (reg5 r0 r1) (reg5 s0 s1)) (fun HH => .cons (.str _) (.cons (.int _) (.cons (.int _) .nil))) (exP.of e5) (pen46.mono e5)
  refine rb_cons <| rs_if <| rt_cmp op_eq <| re_var 2 rfl <| re_int ⟨rfl, _, rfl, ifB (fun e => ?_) fun e => rb_nil ?_⟩
  · refine rb_one <| rs_ret <| re_tup <| ra_cons <| re_str <| ra_cons <| re_var 3 rfl <| ra_nil ⟨Nat.le_of_ble_eq_true rfl, ?_⟩
    exact fin H4 _ [.str "in", .int r] _ rfl (p_r (by decide +kernel) (reg5 r0 r1)) (fun HH => .cons (.str _) (.cons (.int _) .nil)) exP.refl pen46
  refine rb_cons <| rs_if <| rt_cmp op_eq <| re_var 2 rfl <| re_int ⟨rfl, _, rfl, ifB (fun e => ?_) fun e => rb_nil ?_⟩
  · obtain ⟨kvs, hwa, hvn⟩ := W4.wd
    refine rb_one <| rs_ret <| re_tup <| ra_cons <| re_str <| ra_cons <| re_var 3 rfl <| ra_cons <| re_call c2 hr <| ra_cons <| re_var 0 rfl <| ra_cons <| re_dget (hu_of hr) <| re_var 1 rfl <| re_str ⟨wa, kvs, .inr "names", _, rfl, hwa, rfl, hvn, ra_nil ⟨pa, na, names.map V.str, n + 4, rfl, .inl (.inl W4.nm), by rw [List.length_map]; exact W4.pos, by rw [List.length_map]; have := W4.ok.len; omega, by omega, W4.pen, fun v H5 hv e5 pen5 => ra_nil ⟨Nat.le_of_ble_eq_true rfl, ?_⟩⟩⟩
    obtain ⟨fn, hfn, rfl⟩ := List.mem_map.mp hv
    exact fin H5 _ [.str "addr", .int r, .str fn] _ rfl (p_addr (reg5 r0 r1) hfn (W4.ok.word fn hfn)) (fun HH => .cons (.str _) (.cons (.int _) (.cons (.str _) .nil))) e5 (pen5.upto (by omega))
  refine rb_one <| rs_ret <| re_tup <| ra_cons <| re_str <| ra_cons <| re_var 3 rfl <| ra_nil ⟨Nat.le_of_ble_eq_true rfl, ?_⟩
  exact fin H4 _ [.str "out", .int r] _ rfl (p_r (by decide +kernel) (reg5 r0 r1)) (fun HH => .cons (.str _) (.cons (.int _) .nil)) exP.refl pen46
end
end Fl
end
section
set_option Elab.async false
set_option linter.all false
set_option maxRecDepth 100000
set_option maxHeartbeats 4000000
namespace Fx
open PySem PySem.Spec PyProof.Rows L2
open Evl (Ex fresh_back)
theorem rt_neL {X : Cx} {a b : Expr} {σ : L2.St} {H : Hp} {QB : Bool → Hp → Prop} {pos : Pos} (hu : X.A.units + 64 < cLine) (h : RE X a σ H fun x H1 => RE X b σ H1 fun y H2 => ∃ (p q : Addr) (us : List Str), x = .ref p ∧ y = .ref q ∧ SqL X.K H2 p (us.map V.str) ∧ SqL X.K H2 q [] ∧ (∀ u ∈ us, PyData.strOk u = true) ∧ QB (!us.isEmpty) H2) (hm : behindInMarks .NotEq b = false := by rfl) : RT X (.Compare a [.NotEq] [b] pos) σ H QB :=
  rt_cmp (op_neD hu) (h.mono fun x H1 q => q.mono fun y H2 ⟨p, r, us, ex, ey, h1, h2, ok, z⟩ => ⟨.list (strsD us), .list [], by rw [ex]; exact .lst h1 (dp_strs us), by rw [ey]; exact .lst h2 .nil, by
    show (PyData.canLayAll0 (strsD us) && decide (PyData.depthAll (strsD us) + 1 ≤ 64)) = true
    rw [Fx.lay_strs us ok, Fx.depth_strs]; rfl, rfl, _, rfl, by
    cases us with
    | nil => exact z
    | cons u r => exact z⟩) hm
end Fx
namespace Fl
open PySem PySem.Spec PyProof.Rows L2 Fx
open Evl (Ex fresh_back)
theorem word_strOk {s : Str} (h : isWordS s = true) : PyData.strOk s = true := by
  obtain ⟨_, _, h⟩ := isWord_tl.mp h
  unfold PyData.strOk
  rw [← Array.all_toList, List.all_eq_true]
  intro c hc
  have := (h c hc).2
  exact decide_eq_true (by omega)
theorem cut_from {us : List Str} {i : Nat} : cutV (us.map V.str) (some (i : Int)) none = (us.drop i).map V.str := by
  unfold cutV
  rw [HT.sIx_none, HT.sIx_nat, List.map_drop]
  by_cases h : i ≤ (us.map V.str).length
  · rw [Nat.min_eq_left h, List.take_of_length_le]
    rw [List.length_drop]; omega
  · rw [Nat.min_eq_right (by omega), Nat.sub_self, List.take_zero, List.drop_eq_nil_of_le (by omega)]
section
variable {P : Program} {w : World} {K : PySem.W.Frag} {mg : Str → Option Value} {base : Heap} {f : Addr} {fd : FuncData}
abbrev nm_called : List Str := ["_law_pen_here", "_law_world", "_law_later"]
theorem sc_called : FnScope nm_called ["_law_pen_here", "_law_world"] (defScope s_called) := ⟨rfl, rfl, rfl, by decide +kernel, rfl, by decide +kernel, by decide +kernel⟩
def sp_called (K : PySem.W.Frag) : Sp := fun vs H Q _ => ∃ pa wa la na po names at_ q' L n, vs = [.ref pa, .ref wa] ∧ n ≤ 800000 ∧ Wd K H pa wa la na po names at_ q' L n ∧ ∀ fn H', fn ∈ names → exP pa H H' → Pen K H' pa (n + 2) → Q (.str fn) H'
theorem ok_called (F : Fun K "_law_called" "_law_called" s_called f fd) (G : Gb mg) (c1 : Cl P w K mg base CX0 1 "_law_draw" (sp_draw K)) (c2 : Cl P w K mg base CX0 2 "_law_pick" (sp_pick K)) : FnOk P w K mg base CX0 3 f fd ["_law_pen_here", "_law_world"] (sp_called K) := by
  refine F.ok sc_called (fun vs H Q E h => ?_) (fun cdv A outer s H vs Q E hr h => ⟨RB _ _, pss_RB, ?_⟩)
  · obtain ⟨_, _, _, _, _, _, _, _, _, _, rfl, _⟩ := h; rfl
  obtain ⟨pa, wa, la, na, po, names, at_, q', L, n, rfl, hn, W, q⟩ := h
  have hlen := W.ok.len
  have pos : 0 < names.length := Nat.lt_of_le_of_lt (Nat.zero_le _) W.at_lt
  refine rb_cons <| rs_set 2 (by exact sc_called.nd) <| re_lfrom <| re_dget (hu_of hr) <| re_var 1 rfl <| re_str ⟨wa, _, .inr "names", .ref na, rfl, W.wd, rfl, rfl, ?_⟩
  refine re_add <| re_dget (hu_of hr) <| re_var 1 rfl <| re_str ⟨wa, _, .inr "at", .int (at_ : Nat), rfl, W.wd, rfl, rfl, re_int ⟨(at_ : Nat), 1, rfl, rfl, ((at_ + 1 : Nat) : Int), na, names.map V.str, rfl, rfl, .inl (.inl W.nm), fun p hp => ?_⟩⟩
  rw [cut_from]
  have e1 : Ex H (upd H p (.lst ((names.drop (at_ + 1)).map V.str))) := Ex.new hp
  have h1 : upd H p (.lst ((names.drop (at_ + 1)).map V.str)) p = some (.lst ((names.drop (at_ + 1)).map V.str)) := upd_same
  generalize upd H p (.lst ((names.drop (at_ + 1)).map V.str)) = H1 at *
  have W1 := W.step (exP.of e1) (W.pen.mono e1)
  have dl : ∀ u ∈ names.drop (at_ + 1), u ∈ names := fun u hu => List.mem_of_mem_drop hu
  refine rb_one <| rs_ret <| re_if <| rt_w <| rw_and <| rt_neL (hu64 hr) <| re_var 2 rfl <| re_lst <| ra_nil ⟨(by decide), fun p2 H2 hp2 e2 h2 => ⟨p, p2, names.drop (at_ + 1), rfl, rfl, .inl (.inl (e2 _ _ h1)), .inl (.inl h2), fun u hu => word_strOk (W.ok.word u (dl u hu)), ?_⟩⟩
  have W2 := W1.step (exP.of e2) (W1.pen.mono e2)
  have fin1 : ∀ (H3 : Hp) (m : Nat), exP pa H2 H3 → Pen K H3 pa m → m ≤ n + 1 → ∀ fn H4, fn ∈ names → exP pa H3 H4 → Pen K H4 pa (m + 1) → Q (.str fn) H4 := fun H3 m e3 p3 hm fn H4 hf e4 p4 => q fn H4 hf ((((exP.of e1).trans (exP.of e2)).trans e3).trans e4) (p4.upto (by omega))
  refine ifB (fun hne => ?_) fun hne => ?_
  · refine rw_and1 <| rt_cmp op_gt <| re_call c1 hr <| ra_cons <| re_var 0 rfl <| ra_cons <| re_int <| ra_nil ⟨pa, 5, n, rfl, by decide, by decide, by omega, W2.pen, fun r H3 r0 r1 e3 pen3 => re_int ⟨r, 0, rfl, rfl, _, rfl, ?_⟩⟩
    have W3 := W2.step e3 pen3
    refine ifB (fun hk => ?_) fun hk => ?_
    · have hpos : 0 < ((names.drop (at_ + 1)).map V.str).length := by
        rw [List.length_map]
        cases hd : names.drop (at_ + 1) with
        | nil => rw [hd] at hne; cases hne
        | cons a b => exact Nat.succ_pos _
      have hle : ((names.drop (at_ + 1)).map V.str).length ≤ 1000 := by rw [List.length_map, List.length_drop]; omega
      have hpp : H3 p = some (.lst ((names.drop (at_ + 1)).map V.str)) := e3.but _ _ (e2 _ _ h1) (by
        obtain ⟨kvs, hpa⟩ := W2.pen.dict
        exact ne_kind (e2 _ _ h1) hpa (fun z => nomatch z))
      refine re_call c2 hr <| ra_cons <| re_var 0 rfl <| ra_cons <| re_var 2 rfl <| ra_nil ⟨pa, p, _, n + 1, rfl, .inl (.inl hpp), hpos, hle, by omega, pen3, fun v H4 hv e4 pen4 => ?_⟩
      obtain ⟨fn, hfn, rfl⟩ := List.mem_map.mp hv
      exact fin1 H3 (n + 1) e3 pen3 (Nat.le_refl _) fn H4 (dl fn hfn) e4 pen4
    · refine re_call c2 hr <| ra_cons <| re_var 0 rfl <| ra_cons <| re_dget (hu_of hr) <| re_var 1 rfl <| re_str ⟨wa, _, .inr "names", .ref na, rfl, W3.wd, rfl, rfl, ra_nil ⟨pa, na, names.map V.str, n + 1, rfl, .inl (.inl W3.nm), by rw [List.length_map]; exact pos, by rw [List.length_map]; omega, by omega, pen3, fun v H4 hv e4 pen4 => ?_⟩⟩
      obtain ⟨fn, hfn, rfl⟩ := List.mem_map.mp hv
      exact fin1 H3 (n + 1) e3 pen3 (Nat.le_refl _) fn H4 hfn e4 pen4
  · refine re_call c2 hr <| ra_cons <| re_var 0 rfl <| ra_cons <| re_dget (hu_of hr) <| re_var 1 rfl <| re_str ⟨wa, _, .inr "names", .ref na, rfl, W2.wd, rfl, rfl, ra_nil ⟨pa, na, names.map V.str, n, rfl, .inl (.inl W2.nm), by rw [List.length_map]; exact pos, by rw [List.length_map]; omega, by omega, W2.pen, fun v H4 hv e4 pen4 => ?_⟩⟩
    obtain ⟨fn, hfn, rfl⟩ := List.mem_map.mp hv
    exact fin1 H2 n exP.refl W2.pen (by omega) fn H4 hfn e4 pen4
end
end Fl
end
section
set_option Elab.async false
set_option linter.all false
set_option maxRecDepth 100000
set_option maxHeartbeats 4000000
namespace Fl
open PySem PySem.Spec PyProof.Rows L2 Fx
open Evl (Ex fresh_back)
theorem hideL_e {S : List Addr} {H H' : Hp} (e : Ex H H') : Ex (hideL S H) (hideL S H') := hideL_ex fun b o h _ => e b o h
theorem hideL_p {pa : Addr} {S : List Addr} {H H' : Hp} (hS : pa ∈ S) (e : exP pa H H') : Ex (hideL S H) (hideL S H') := hideL_ex fun b o h hn => e.but b o h fun z => hn (z ▸ hS)
section
variable {P : Program} {w : World} {K : PySem.W.Frag} {mg : Str → Option Value} {base : Heap} {f : Addr} {fd : FuncData}
abbrev nm_lcall : List Str := ["_law_pen_here", "_law_world", "_law_r", "_law_ahead", "_law_found"]
theorem sc_lcall : FnScope nm_lcall ["_law_pen_here", "_law_world"] (defScope s_lcall) := ⟨rfl, rfl, rfl, by decide +kernel, rfl, by decide +kernel, by decide +kernel⟩
def sp_lcall (K : PySem.W.Frag) : Sp := fun vs H Q _ => ∃ pa wa la na po names at_ q' L n, vs = [.ref pa, .ref wa] ∧ n ≤ 700000 ∧ Wd K H pa wa la na po names at_ q' L n ∧ ∀ l xs ds H', Item q' names [] ds → ds.length ≤ 4 → H l = none → H' l = some (.lst xs) → DA K (hideL [pa, wa, la] H') xs ds → exP pa H H' → Pen K H' pa (n + 8) → Q (.ref l) H'
theorem ok_lcall (F : Fun K "_law_call" "_law_call" s_lcall f fd) (G : Gb mg) (c1 : Cl P w K mg base CX0 1 "_law_draw" (sp_draw K)) (c2 : Cl P w K mg base CX0 2 "_law_pick" (sp_pick K)) (c3 : Cl P w K mg base CX0 3 "_law_called" (sp_called K)) : FnOk P w K mg base CX0 4 f fd ["_law_pen_here", "_law_world"] (sp_lcall K) := by
  refine F.ok sc_lcall (fun vs H Q E h => ?_) (fun cdv A outer s H vs Q E hr h => ⟨RB _ _, pss_RB, ?_⟩)
  · obtain ⟨_, _, _, _, _, _, _, _, _, _, rfl, _⟩ := h; rfl
  obtain ⟨pa, wa, la, na, po, names, at_, q', L, n, rfl, hn, W, q⟩ := h
  refine rb_cons <| rs_set 2 (by exact sc_lcall.nd) <| re_call c1 hr <| ra_cons <| re_var 0 rfl <| ra_cons <| re_int <| ra_nil ⟨pa, 5, n, rfl, by decide, by decide, by omega, W.pen, fun r H1 r0 r1 e1 pen1 => ?_⟩
  have W1 := W.step e1 pen1
  have hS : pa ∈ [pa, wa, la] := List.mem_cons_self
  -- an address, a call by it
  refine rb_cons <| rs_set 3 (by exact sc_lcall.nd) <| re_lst <| ra_cons <| re_tup <| ra_cons <| re_str <| ra_cons <| re_var 2 rfl <| ra_cons <| re_call c3 hr <| ra_cons <| re_var 0 rfl <| ra_cons <| re_var 1 rfl <| ra_nil ⟨pa, wa, la, na, po, names, at_, q', L, n + 1, rfl, by omega, W1, fun f0 H2 hf0 e2 pen2 => ra_nil ⟨Nat.le_of_ble_eq_true rfl, fun t1 H3 ht1 e3 h3 => ?_⟩⟩
  have W2 := W1.step e2 pen2
  have W3 := W2.step (exP.of e3) (W2.pen.mono e3)
  refine ra_cons <| re_tup <| ra_cons <| re_str <| ra_cons <| re_var 2 rfl <| ra_nil ⟨Nat.le_of_ble_eq_true rfl, fun t2 H4 ht2 e4 h4 => ra_nil ⟨Nat.le_of_ble_eq_true rfl, fun l1 H5 hl1 e5 h5 => ?_⟩⟩
  have W4 := W3.step (exP.of e4) (W3.pen.mono e4)
  have W5 := W4.step (exP.of e5) (W4.pen.mono e5)
  have dA : DA K (hideL [pa, wa, la] H5) [.ref t1, .ref t2] [laddr r f0, lr "callr" r] := .cons (.tup (.inl (.inl (hideL_at (W2.new ht1) (e5 _ _ (e4 _ _ h3))))) (.cons (.str _) (.cons (.int _) (.cons (.str _) .nil)))) (.cons (.tup (.inl (.inl (hideL_at (W3.new ht2) (e5 _ _ h4)))) (.cons (.str _) (.cons (.int _) .nil))) .nil)
  have nA : ∀ d ∈ [laddr r f0, lr "callr" r], Neut names d := fun d hd => by
    rcases List.mem_cons.mp hd with rfl | hd
    · exact (p_addr (reg5 r0 r1) hf0 (W.ok.word f0 hf0)).1.toNeut
    · rw [List.mem_singleton.mp hd]; exact n_callr (reg5 r0 r1)
  -- one of three
  refine rb_cons <| rs_set 4 (by exact sc_lcall.nd) <| re_call c2 hr <| ra_cons <| re_var 0 rfl <| ra_cons <| re_lst <| ra_cons <| re_lst <| ra_cons <| re_tup <| ra_cons <| re_str <| ra_cons <| re_call c3 hr <| ra_cons <| re_var 0 rfl <| ra_cons <| re_var 1 rfl <| ra_nil ⟨pa, wa, la, na, po, names, at_, q', L, n + 3, rfl, by omega, W5.le (by omega), fun f1 H6 hf1 e6 pen6 => ra_nil ⟨Nat.le_of_ble_eq_true rfl, fun t3 H7 ht3 e7 h7 => ra_nil ⟨Nat.le_of_ble_eq_true rfl, fun l2 H8 hl2 e8 h8 => ?_⟩⟩⟩
  have W6 := W5.step e6 pen6
  have W7 := W6.step (exP.of e7) (W6.pen.mono e7)
  have W8 := W7.step (exP.of e8) (W7.pen.mono e8)
  have dB : DA K (hideL [pa, wa, la] H8) [.ref t3] [ls1 "call" f1] := .cons (.tup (.inl (.inl (hideL_at (W6.new ht3) (e8 _ _ h7)))) (.cons (.str _) (.cons (.str _) .nil))) .nil
  refine ra_cons <| re_lst <| ra_cons <| re_tup <| ra_cons <| re_str <| ra_cons <| re_call c3 hr <| ra_cons <| re_var 0 rfl <| ra_cons <| re_var 1 rfl <| ra_nil ⟨pa, wa, la, na, po, names, at_, q', L, n + 5, rfl, by omega, W8.le (by omega), fun f2 H9 hf2 e9 pen9 => ra_nil ⟨Nat.le_of_ble_eq_true rfl, fun t4 H10 ht4 e10 h10 => ra_nil ⟨Nat.le_of_ble_eq_true rfl, fun l3 H11 hl3 e11 h11 => ?_⟩⟩⟩
  have W9 := W8.step e9 pen9
  have W10 := W9.step (exP.of e10) (W9.pen.mono e10)
  have W11 := W10.step (exP.of e11) (W10.pen.mono e11)
  have dC : DA K (hideL [pa, wa, la] H11) [.ref t4] [ls1 "call" f2] := .cons (.tup (.inl (.inl (hideL_at (W9.new ht4) (e11 _ _ h10)))) (.cons (.str _) (.cons (.str _) .nil))) .nil
  refine ra_cons <| re_var 3 rfl <| ra_nil ⟨Nat.le_of_ble_eq_true rfl, fun l4 H12 hl4 e12 h12 => ra_nil ⟨pa, l4, _, n + 7, rfl, .inl (.inl h12), Nat.le_of_ble_eq_true rfl, Nat.le_of_ble_eq_true rfl, by omega, (W11.pen.mono e12).upto (by omega), fun v H13 hv e13 pen13 => ?_⟩⟩
  have W12 := W11.step (exP.of e12) (W11.pen.mono e12)
  have W13 := W12.step e13 pen13
  have e05 : exP pa H H5 := (((e1.trans e2).trans (exP.of e3)).trans (exP.of e4)).trans (exP.of e5)
  have e58 : exP pa H5 H8 := (e6.trans (exP.of e7)).trans (exP.of e8)
  have e8b : exP pa H8 H11 := (e9.trans (exP.of e10)).trans (exP.of e11)
  have ebd : exP pa H11 H13 := (exP.of e12).trans e13
  have e0d : exP pa H H13 := ((e05.trans e58).trans e8b).trans ebd
  have key : ∃ l xs ds, v = .ref l ∧ H l = none ∧ H13 l = some (.lst xs) ∧ DA K (hideL [pa, wa, la] H13) xs ds ∧ (∀ d ∈ ds, Neut names d) ∧ ds.length ≤ 2 := by
    have npa : ∀ {H0 : Hp} {b : Addr} {m : Nat}, Wd K H0 pa wa la na po names at_ q' L m → H0 b = none → b ≠ pa := fun W h => (W.pen.ne_new h).symm
    simp only [List.mem_cons, List.not_mem_nil, or_false] at hv
    rcases hv with rfl | rfl | rfl
    · have nb : l2 ≠ pa := npa W7 hl2
      refine ⟨l2, _, [ls1 "call" f1], rfl, ?_, (e8b.trans ebd).but _ _ h8 nb, dB.mono ((hideL_p hS e8b).trans (hideL_p hS ebd)), fun d hd => ?_, Nat.le_of_ble_eq_true rfl⟩
      · exact ((e05.trans e6).trans (exP.of e7)).back hl2 nb
      · rw [List.mem_singleton.mp hd]; exact n_call hf1 (W.ok.word f1 hf1)
    · have nb : l3 ≠ pa := npa W10 hl3
      refine ⟨l3, _, [ls1 "call" f2], rfl, ?_, ebd.but _ _ h11 nb, dC.mono (hideL_p hS ebd), fun d hd => ?_, Nat.le_of_ble_eq_true rfl⟩
      · exact (((e05.trans e58).trans e9).trans (exP.of e10)).back hl3 nb
      · rw [List.mem_singleton.mp hd]; exact n_call hf2 (W.ok.word f2 hf2)
    · have nb : l1 ≠ pa := npa W4 hl1
      refine ⟨l1, _, [laddr r f0, lr "callr" r], rfl, ?_, ((e58.trans e8b).trans ebd).but _ _ h5 nb, dA.mono (((hideL_p hS e58).trans (hideL_p hS e8b)).trans (hideL_p hS ebd)), nA, Nat.le_of_ble_eq_true rfl⟩
      exact (((e1.trans e2).trans (exP.of e3)).trans (exP.of e4)).back hl1 nb
  obtain ⟨l, xs, ds, rfl, hl0, hl, hda, hneu, hlen⟩ := key
  refine rb_one <| rs_ret <| re_if <| rt_val <| re_dget (hu_of hr) <| re_var 1 rfl <| re_str ⟨wa, _, .inr "lost", .bl (!q'), rfl, W13.wd, rfl, rfl, _, rfl, ?_⟩
  cases q' with
  | false => exact ifT <| re_var 4 rfl <| q l xs ds H13 (Item.neut hneu) (by omega) hl0 hl hda e0d pen13
  | true =>
    refine ifF <| re_op op_cat <| re_op op_cat <| re_lst <| ra_cons <| re_tup <| ra_cons <| re_str <| ra_cons <| re_str <| ra_nil ⟨Nat.le_of_ble_eq_true rfl, fun t5 H14 ht5 e14 h14 => ra_nil ⟨Nat.le_of_ble_eq_true rfl, fun l5 H15 hl5 e15 h15 => ?_⟩⟩
    have W14 := W13.step (exP.of e14) (W13.pen.mono e14)
    have W15 := W14.step (exP.of e15) (W14.pen.mono e15)
    have hxl : xs.length = ds.length := hda.length
    refine re_var 4 rfl ⟨l5, l, _, xs, rfl, rfl, h15, e15 _ _ (e14 _ _ hl), Nat.le_trans (m := 100) (by rw [hxl]; simp; omega) (by rw [sizeLine_eq]; decide), fun l6 hl6 => ?_⟩
    have e16 : Ex H15 (upd H15 l6 (.lst ([.ref t5] ++ xs))) := Ex.new hl6
    have h16 : upd H15 l6 (.lst ([.ref t5] ++ xs)) l6 = some (.lst ([.ref t5] ++ xs)) := upd_same
    generalize upd H15 l6 (.lst ([.ref t5] ++ xs)) = H16 at *
    have W16 := W15.step (exP.of e16) (W15.pen.mono e16)
    refine re_lst <| ra_cons <| re_tup <| ra_cons <| re_str <| ra_cons <| re_str <| ra_nil ⟨Nat.le_of_ble_eq_true rfl, fun t7 H17 ht7 e17 h17 => ra_nil ⟨Nat.le_of_ble_eq_true rfl, fun l7 H18 hl7 e18 h18 => ⟨l6, l7, _, _, rfl, rfl, e18 _ _ (e17 _ _ h16), h18, Nat.le_trans (m := 100) (by simp; omega) (by rw [sizeLine_eq]; decide), fun l8 hl8 => ?_⟩⟩⟩
    have W17 := W16.step (exP.of e17) (W16.pen.mono e17)
    have W18 := W17.step (exP.of e18) (W17.pen.mono e18)
    have e19 : Ex H18 (upd H18 l8 (.lst ([.ref t5] ++ xs ++ [.ref t7]))) := Ex.new hl8
    have eD8 : Ex H13 H18 := (((e14.trans e15).trans e16).trans e17).trans e18
    have eall : exP pa H H18 := e0d.trans (exP.of eD8)
    refine q l8 _ ([plink] ++ ds ++ [poplink]) _ (Item.wrap hneu) (by simp; omega) (eall.back hl8 (W18.pen.ne_new hl8).symm) upd_same (((DA.app (.cons ?_ .nil) (hda.mono (hideL_e eD8))).app (.cons ?_ .nil)).mono (hideL_e e19)) (eall.trans (exP.of e19)) ((W18.pen.mono e19).upto (by omega))
    · exact .tup (.inl (.inl (hideL_at (W13.new ht5) (e18 _ _ (e17 _ _ (e16 _ _ (e15 _ _ h14))))))) (.cons (.str _) (.cons (.str _) .nil))
    · exact .tup (.inl (.inl (hideL_at (W16.new ht7) (e18 _ _ h17)))) (.cons (.str _) (.cons (.str _) .nil))
end
end Fl
end
section
set_option Elab.async false
set_option linter.all false
set_option maxRecDepth 100000
set_option maxHeartbeats 4000000
namespace Fl
open PySem PySem.Spec PyProof.Rows L2 Fx
open Evl (Ex fresh_back)
/-- all but the pen and the labels stay, and the pen's cells -/
structure exW (pa la : Addr) (H H' : Hp) : Prop where
  but : ∀ b o, H b = some o → b ≠ pa → b ≠ la → H' b = some o
  cells : ∀ c t l, H pa = some (.dK (penV c t l)) → ∃ t' l', H' pa = some (.dK (penV c t' l'))
instance {pa la : Addr} {H H' : Hp} : CoeFun (exW pa la H H') (fun _ => ∀ b o, H b = some o → b ≠ pa → b ≠ la → H' b = some o) := ⟨exW.but⟩
section
variable {K : PySem.W.Frag} {H H' H'' : Hp} {pa wa la na po b : Addr} {names : List Str} {at_ : Nat} {q : Bool} {L : List Str} {n m : Nat}
theorem exW.refl : exW pa la H H := ⟨fun _ _ h _ _ => h, fun c t l h => ⟨t, l, h⟩⟩
theorem exW.trans (e : exW pa la H H') (e' : exW pa la H' H'') : exW pa la H H'' := ⟨fun b o h n1 n2 => e' b o (e b o h n1 n2) n1 n2, fun c t l h => by
  obtain ⟨t1, l1, h1⟩ := e.cells c t l h
  exact e'.cells c t1 l1 h1⟩
theorem exW.p (e : exP pa H H') : exW pa la H H' := ⟨fun b o h n1 _ => e.but b o h n1, e.cells⟩
theorem exW.of (e : Ex H H') : exW pa la H H' := ⟨fun b o h _ _ => e b o h, fun c t l h => ⟨t, l, e _ _ h⟩⟩
theorem exW.back (e : exW pa la H H') (h : H' b = none) (n1 : b ≠ pa) (n2 : b ≠ la) : H b = none := by
  cases hh : H b with
  | none => rfl
  | some o => rw [e _ _ hh n1 n2] at h; cases h
theorem Away.stepW {lf : Addr} (a : Away H pa lf) (e : exW pa la H H') : Away H' pa lf := by
  obtain ⟨c, t, l, h1, h2⟩ := a
  obtain ⟨t', l', h⟩ := e.cells _ _ _ h1
  exact ⟨c, t', l', h, h2⟩
theorem exW.hide (e : exW pa la H H') : Ex (hideL [pa, wa, la] H) (hideL [pa, wa, la] H') := hideL_ex fun b o h hn => e b o h (fun z => hn (by rw [z]; exact List.mem_cons_self)) fun z => hn (by rw [z]; exact List.mem_cons_of_mem _ (List.mem_cons_of_mem _ List.mem_cons_self))
theorem Wd.newp (W : Wd K H pa wa la na po names at_ q L n) (h : H b = none) : b ≠ pa ∧ b ≠ la := by
  have := W.new h
  exact ⟨fun z => this (by rw [z]; exact List.mem_cons_self), fun z => this (by rw [z]; exact List.mem_cons_of_mem _ (List.mem_cons_of_mem _ List.mem_cons_self))⟩
theorem Wd.ex (W : Wd K H pa wa la na po names at_ q L n) (e : Ex H H') : Wd K H' pa wa la na po names at_ q L n := W.step (exP.of e) (W.pen.mono e)
/-- the first label is taken -/
theorem Wd.pop {s : Str} (W : Wd K H pa wa la na po names at_ q (s :: L) n) : Wd K (upd H la (.lst (L.map V.str))) pa wa la na po names at_ q L n := by
  have hne : pa ≠ la := fun z => W.lp z.symm
  obtain ⟨ps, h1, h2, h3, h4⟩ := W.pool
  refine ⟨W.pen.mut W.away hne, W.away.mut hne, by rw [upd_ne W.wl]; exact W.wd, W.wp, by rw [upd_ne W.nl]; exact W.nm, W.nl, W.pl, ⟨ps, by rw [upd_ne W.pl]; exact h1, h2, h3, fun p hp => ?_⟩, upd_same, W.ok, W.at_lt, ⟨fun x hx => W.labs.1 x (List.mem_cons_of_mem _ hx), (List.nodup_cons.mp W.labs.2.1).2, by have := W.labs.2.2; rw [List.length_cons] at this; omega⟩⟩
  obtain ⟨ds, g1, g2, g3⟩ := h4 p hp
  refine ⟨ds, g1.mono (hideL_ex fun b o hb hn => ?_), g2, g3⟩
  rw [upd_ne fun z => hn (by rw [z]; exact List.mem_cons_of_mem _ (List.mem_cons_of_mem _ List.mem_cons_self))]
  exact hb
theorem exW.pop {o : HO} (hne : la ≠ pa) : exW pa la H (upd H la o) := ⟨fun b o h _ n2 => by rw [upd_ne n2]; exact h, fun c t l h => ⟨t, l, by rw [upd_ne hne.symm]; exact h⟩⟩
/-- what is drawn in between -/
theorem Wd.far {L' : List Str} (W : Wd K H pa wa la na po names at_ q L n) (e : exW pa la H H') (p : Pen K H' pa m) (hl : H' la = some (.lst (L'.map V.str))) (hL : (∀ s ∈ L', isWordS s = true) ∧ L'.Nodup ∧ L'.length ≤ 30) : Wd K H' pa wa la na po names at_ q L' m := by
  obtain ⟨kvs, hpa⟩ := W.pen.dict
  obtain ⟨ps, h1, h2, h3, h4⟩ := W.pool
  refine ⟨p, W.away.stepW e, e _ _ W.wd W.wp W.wl, W.wp, e _ _ W.nm W.np W.nl, W.nl, W.pl, ⟨ps, e _ _ h1 (ne_kind h1 hpa (fun z => nomatch z)) W.pl, h2, h3, fun p hp => ?_⟩, hl, W.ok, W.at_lt, hL⟩
  obtain ⟨ds, g1, g2, g3⟩ := h4 p hp
  exact ⟨ds, g1.mono e.hide, g2, g3⟩
end
/-- what items give -/
def ResI (K : PySem.W.Frag) (H H' : Hp) (pa wa la na po : Addr) (names : List Str) (at_ : Nat) (q' : Bool) (L : List Str) (m len : Nat) (l : Addr) : Prop :=
  ∃ xs ds U L', L = U ++ L' ∧ Item q' names U ds ∧ ds.length ≤ len ∧ H l = none ∧ H' l = some (.lst xs) ∧ DA K (hideL [pa, wa, la] H') xs ds ∧ exW pa la H H' ∧ Wd K H' pa wa la na po names at_ q' L' m
def ci : Nat → Nat
  | 0 => 20
  | d + 1 => 100 + 6 * ci d
def il : Nat → Nat
  | 0 => 10
  | d + 1 => 14 + 6 * il d
theorem il_le {d : Nat} (h : d ≤ 2) : il d ≤ 1000 := by
  match d, h with
  | 0, _ => decide
  | 1, _ => decide
  | 2, _ => decide
def sp_item (K : PySem.W.Frag) (deep : Nat) : Sp := fun vs H Q _ => ∃ pa wa la na po names at_ q' L n, vs = [.ref pa, .ref wa, .int (deep : Nat)] ∧ n + ci deep ≤ 600000 ∧ Wd K H pa wa la na po names at_ q' L n ∧ ∀ l H', ResI K H H' pa wa la na po names at_ q' L (n + ci deep) (il deep) l → Q (.ref l) H'
def sp_items (K : PySem.W.Frag) (deep : Nat) : Sp := fun vs H Q _ => ∃ (pa wa la na po : Addr) (names : List Str) (at_ : Nat) (q' : Bool) (L : List Str) (n many : Nat), vs = [.ref pa, .ref wa, .int (many : Nat), .int (deep : Nat)] ∧ many ≤ 3 ∧ n + (1 + 3 * ci deep) ≤ 600000 ∧ Wd K H pa wa la na po names at_ q' L n ∧ ∀ l H', ResI K H H' pa wa la na po names at_ q' L (n + (1 + 3 * ci deep)) (3 * il deep) l → Q (.ref l) H'
section
variable {P : Program} {w : World} {K : PySem.W.Frag} {mg : Str → Option Value} {base : Heap} {f : Addr} {fd : FuncData}
abbrev nm_items : List Str := ["_law_pen_here", "_law_world", "_law_many", "_law_deep", "_law_found", "_law_k"]
theorem sc_items : FnScope nm_items ["_law_pen_here", "_law_world", "_law_many", "_law_deep"] (defScope s_items) := ⟨rfl, rfl, rfl, by decide +kernel, rfl, by decide +kernel, by decide +kernel⟩
theorem ok_items {deep j : Nat} (F : Fun K "_law_items" "_law_items" s_items f fd) (G2 : Gb2 mg) (c1 : Cl P w K mg base CX0 1 "_law_draw" (sp_draw K)) (c2 : Cl P w K mg base CX0 j "_law_item" (sp_item K deep)) (hj : 1 ≤ j) (hd : deep ≤ 2) : FnOk P w K mg base CX0 (j + 1) f fd ["_law_pen_here", "_law_world", "_law_many", "_law_deep"] (sp_items K deep) := by
  refine F.ok sc_items (fun vs H Q E h => ?_) (fun cdv A outer s H vs Q E hr h => ⟨RB _ _, pss_RB, ?_⟩)
  · obtain ⟨_, _, _, _, _, _, _, _, _, _, _, rfl, _⟩ := h; rfl
  obtain ⟨pa, wa, la, na, po, names, at_, q', L, n, many, rfl, hm, hn, W, q⟩ := h
  refine rb_cons <| rs_set 4 (by exact sc_items.nd) <| re_lst <| ra_nil ⟨(by decide), fun l0 H1 hl0 e1 h1 => ?_⟩
  have W1 := W.ex e1
  refine rb_cons <| rs_for (g := gName 5) PassesOwn.never rfl (pg_name (i := 5) (by exact sc_items.nd) rfl (Or.inl rfl)) good_name ?_
  refine ri_range (n := 0) G2.range <| ra_cons <| re_call c1 hr (hk := hj) <| ra_cons <| re_var 0 rfl <| ra_cons <| re_add <| re_var 2 rfl <| re_int ⟨(many : Nat), 1, rfl, rfl, ra_nil ⟨pa, (many : Nat) + 1, n, rfl, by omega, by omega, by omega, W1.pen, fun r H2 r0 r1 e2 pen2 => ra_nil ⟨r, rfl, by omega, by omega, ?_⟩⟩⟩
  have W2 := W1.step e2 pen2
  obtain ⟨kvs, hpa⟩ := W1.pen.dict
  refine ⟨_, _, _, fun i σ' H' => ∃ x l, σ' = [some (.ref pa), some (.ref wa), some (.int (many : Nat)), some (.int (deep : Nat)), some (.ref l), x] ∧ ResI K H H' pa wa la na po names at_ q' L (n + 1 + i * ci deep) (i * il deep) l, walk_range, ?_, fun _ _ _ _ _ => trivial, ?_, ?_⟩
  · refine ⟨_, l0, rfl, [], [], [], L, rfl, Item.nil, Nat.zero_le _, hl0, e2.but _ _ h1 (ne_kind h1 hpa (fun z => nomatch z)), .nil, (exW.of e1).trans (exW.p e2), W2.le (by omega)⟩
  · rintro i x σ' Ha Hb hi ⟨x1, l, rfl, xs, ds, U, L', hL, it, hlen, hl, hxs, hda, ew, Wa⟩ ⟨rfl, rfl⟩
    have hi3 : i ≤ 2 := by omega
    have hii : i * ci deep ≤ 2 * ci deep := Nat.mul_le_mul_right _ hi3
    have hil : i * il deep ≤ 2 * il deep := Nat.mul_le_mul_right _ hi3
    refine rb_one <| rs_set 4 (by exact sc_items.nd) <| re_op op_cat <| re_var 4 rfl <| re_call c2 hr (hk := Nat.le_refl _) <| ra_cons <| re_var 0 rfl <| ra_cons <| re_var 1 rfl <| ra_cons <| re_var 3 rfl <| ra_nil ⟨pa, wa, la, na, po, names, at_, q', L', n + 1 + i * ci deep, rfl, by omega, Wa, fun l2 Hc hres => ?_⟩
    obtain ⟨ys, es, V', L2', hL2, it2, hlen2, hl2, hys, hdb, ew2, Wc⟩ := hres
    have hxl : xs.length = ds.length := hda.length
    have hyl : ys.length = es.length := hdb.length
    have hxs2 : Hc l = some (.lst xs) := by
      have h1 := W.newp hl
      exact ew2 _ _ hxs h1.1 h1.2
    refine ⟨l, l2, xs, ys, rfl, rfl, hxs2, hys, ?_, fun p hp => ?_⟩
    · rw [hxl, hyl]
      have := il_le hd
      exact Nat.le_trans (m := 5000) (by omega) (by rw [sizeLine_eq]; decide)
    have ep : Ex Hc (upd Hc p (.lst (xs ++ ys))) := Ex.new hp
    have hpn := Wc.newp hp
    refine ⟨_, p, rfl, xs ++ ys, ds ++ es, U ++ V', L2', by rw [hL, hL2, List.append_assoc], it.app it2 (fun s hs hv => ?_), ?_, ((ew.trans ew2).back hp hpn.1 hpn.2), upd_same, ((hda.mono ew2.hide).app hdb).mono (hideL_e ep), (ew.trans ew2).trans (exW.of ep), (Wc.ex ep).le ?_⟩
    · have hnd := W.labs.2.1
      rw [hL, hL2] at hnd
      exact (List.nodup_append.mp hnd).2.2 s hs s (List.mem_append_left _ hv) rfl
    · rw [List.length_append, Nat.add_mul, Nat.one_mul]; omega
    · rw [Nat.add_mul, Nat.one_mul]; omega
  · rintro σ' H3 ⟨x, l, rfl, xs, ds, U, L', hL, it, hlen, hl, hxs, hda, ew, Wa⟩
    have hr3 : r.toNat ≤ 3 := by omega
    have hii : r.toNat * ci deep ≤ 3 * ci deep := Nat.mul_le_mul_right _ hr3
    have hil : r.toNat * il deep ≤ 3 * il deep := Nat.mul_le_mul_right _ hr3
    exact rb_one <| rs_ret <| re_var 4 rfl <| q l H3 ⟨xs, ds, U, L', hL, it, by omega, hl, hxs, hda, ew, Wa.le (by omega)⟩
end
end Fl
end
section
set_option Elab.async false
set_option linter.all false
set_option maxRecDepth 100000
set_option maxHeartbeats 2000000
namespace Fx
open PySem PySem.Spec PyProof.Rows L2
/-- a, b = x, y with plain local names -/
theorem rs_two {X : Cx} {σ : L2.St} {H : Hp} {i j : Nat} {x y : Str} {a b : PySem.Expr} {px py pt pos : Pos} {kt k2 : Nat} {pt2 : Pos} {D : Ends} (hc : X.calm = true) (hN : X.N.Nodup) (hi : X.N[i]? = some x) (hj : X.N[j]? = some y) (hij : i ≠ j) (hx : List.lookup x X.env.scope.names = some .local) (hy : List.lookup y X.env.scope.names = some .local)
    (hw : swappedStores [.Tuple [.Name x px, .Name y py] kt pt] (.Tuple [a, b] k2 pt2) X.env = pure (some [x, y]))
    (h : RA X [a, b] σ H fun vs H1 => ∃ v w, vs = [v, w] ∧ D.nx ((σ.set i (some v)).set j (some w)) H1)
    (hs : swapsWithSole [.Tuple [.Name x px, .Name y py] kt pt] (.Tuple [a, b] k2 pt2) pos.line X.env = pure false := by rfl) : RS X (.Assign [.Tuple [.Name x px, .Name y py] kt pt] (.Tuple [a, b] k2 pt2) pos) D σ H :=
  rs_of (ps_par hc hN hi hj hij hx hy pa_RA hw hs) h
end Fx
end
section
set_option Elab.async false
set_option linter.all false
set_option maxRecDepth 100000
set_option maxHeartbeats 4000000
namespace Fl
open PySem PySem.Spec PyProof.Rows L2 Fx
open Evl (Ex fresh_back)
abbrev nm_item : List Str := ["_law_pen_here", "_law_world", "_law_deep", "_law_way", "_law_inner", "_law_many", "_law_found", "_law_k", "_law_spot", "_law_some", "_law_one", "_law_two", "_law_test", "_law_other"]
theorem sc_item : FnScope nm_item ["_law_pen_here", "_law_world", "_law_deep"] (defScope s_item) := ⟨rfl, rfl, rfl, by decide +kernel, rfl, by decide +kernel, by decide +kernel⟩
theorem il_ge (d : Nat) : 10 ≤ il d := by
  cases d with
  | zero => exact Nat.le_refl _
  | succ d => show 10 ≤ 14 + 6 * il d; omega
theorem ci_ge (d : Nat) : 20 ≤ ci d := by
  cases d with
  | zero => exact Nat.le_refl _
  | succ d => show 20 ≤ 100 + 6 * ci d; omega
section
variable {K : PySem.W.Frag} {H H' H'' : Hp} {pa wa la na po b : Addr} {names : List Str} {at_ : Nat} {q : Bool} {L : List Str} {n m : Nat}
theorem ResI.of0 {ds : List PyData} {xs : List V} {l : Addr} {len : Nat} (it : Item q names [] ds) (hl : ds.length ≤ len) (h0 : H l = none) (h1 : H' l = some (.lst xs)) (hd : DA K (hideL [pa, wa, la] H') xs ds) (e : exW pa la H H') (W : Wd K H' pa wa la na po names at_ q L m) : ResI K H H' pa wa la na po names at_ q L m len l :=
  ⟨xs, ds, [], L, rfl, it, hl, h0, h1, hd, e, W⟩
theorem one_atom {d : PyData} (h : PWd names d) : Item q names [] [d] := Item.pln fun x hx => by rw [List.mem_singleton.mp hx]; exact h
/-- a new tuple, seen from afar -/
theorem tupAt {S : List Addr} {t : Addr} {xs : List V} {ds : List PyData} (hn : t ∉ S) (h : H t = some (.tup xs)) (hd : DA K (hideL S H) xs ds) : D K (hideL S H) (.ref t) (.tuple ds) := .tup (.inl (.inl (hideL_at hn h))) hd
theorem szl {a : Nat} (h : a ≤ 90000) : a ≤ sizeLine := Nat.le_trans (m := 90000) h (by rw [sizeLine_eq]; decide)
theorem szlt {a : Nat} (h : a ≤ 90000) : a < sizeLine := Nat.lt_of_le_of_lt (m := 90000) h (by rw [sizeLine_eq]; decide)
end
section
variable {P : Program} {w : World} {K : PySem.W.Frag} {mg : Str → Option Value} {base : Heap} {f : Addr} {fd : FuncData}
def bodyIf : Stmt → List Stmt
  | .If _ b _ _ => b
  | _ => []
theorem item_stack {d' j : Nat} (G2 : Gb2 mg)
    (c1 : Cl P w K mg base CX0 1 "_law_draw" (sp_draw K)) (c2 : Cl P w K mg base CX0 2 "_law_pick" (sp_pick K)) (cI : Cl P w K mg base CX0 j "_law_items" (sp_items K d')) (hj : 4 ≤ j) (hd : d' + 1 ≤ 2)
    {cdv : Value} {A : Around} {outer : List Env} {s : Shared} {H0 : Hp} {E : XK} {De : Ends} (hr : Room j (A.deeper (envOfC "_law_item" (defScope s_item) s.heap.objs.size f cdv))) {pa wa la na po : Addr} {names : List Str} {at_ : Nat} {q' : Bool} {L : List Str} {n : Nat} {H H1 : Hp} {way : Int}
    (hn : n + ci (d' + 1) ≤ 600000) (e1 : exP pa H H1) (W1 : Wd K H1 pa wa la na po names at_ q' L (n + 1)) (q : ∀ l H', ResI K H H' pa wa la na po names at_ q' L (n + ci (d' + 1)) (il (d' + 1)) l → De.rt (.ref l) H') :
    RB (cxOf CX0 P w K mg base nm_item "_law_item" (defScope s_item) f cdv A outer s H0 E).nox (bodyIf ((defBody s_item).getD 3 (.Pass ⟨0, 0, 0, 0⟩))) De [some (.ref pa), some (.ref wa), some (.int ((d' + 1 : Nat) : Int)), some (.int way), none, none, none, none, none, none, none, none, none, none] H1 := by
  have hS : pa ∈ [pa, wa, la] := List.mem_cons_self
  have hci : ci (d' + 1) = 100 + 6 * ci d' := rfl
  have hil : il (d' + 1) = 14 + 6 * il d' := rfl
  have hil2 := il_le (d := d') (by omega)
  have hd1 : (((d' + 1 : Nat) : Int) - 1) = (d' : Nat) := by omega
  refine rb_cons <| rs_two (i := 4) (j := 5) rfl (by exact sc_item.nd) rfl rfl (by decide) rfl rfl rfl ?_
  refine ra_cons <| re_call cI hr (hk := Nat.le_refl _) <| ra_cons <| re_var 0 rfl <| ra_cons <| re_var 1 rfl <| ra_cons <| re_int <| ra_cons <| re_sub <| re_var 2 rfl <| re_int ⟨_, 1, rfl, rfl, ra_nil ⟨pa, wa, la, na, po, names, at_, q', L, n + 1, 2, by rw [hd1]; rfl, by decide, by omega, W1, fun li H2 hres => ?_⟩⟩
  obtain ⟨xs, ds, U, L', hL, it, hlen, hli, hxs, hda, ew, W2⟩ := hres
  have hxl := hda.length
  have nli := W1.newp hli
  refine ra_cons <| re_call c2 hr (hk := by omega) <| ra_cons <| re_var 0 rfl <| ra_cons <| re_lst <| ra_cons <| re_int <| ra_cons <| re_int <| ra_cons <| re_int <| ra_cons <| re_int <| ra_nil ⟨Nat.le_of_ble_eq_true rfl, fun p3 H3 hp3 e3 h3 => ra_nil ⟨pa, p3, _, _, rfl, .inl (.inl h3), Nat.le_of_ble_eq_true rfl, Nat.le_of_ble_eq_true rfl, ?_, W2.pen.mono e3, fun v H4 hv e4 pen4 => ra_nil ⟨.ref li, v, rfl, ?_⟩⟩⟩
  · omega
  obtain ⟨many, rfl, hm1, hm5⟩ : ∃ many : Nat, v = .int (many : Nat) ∧ 1 ≤ many ∧ many ≤ 5 := by
    simp only [List.mem_cons, List.not_mem_nil, or_false] at hv
    rcases hv with rfl | rfl | rfl | rfl
    · exact ⟨1, rfl, by decide, by decide⟩
    · exact ⟨1, rfl, by decide, by decide⟩
    · exact ⟨2, rfl, by decide, by decide⟩
    · exact ⟨5, rfl, by decide, by decide⟩
  have W4 := (W2.ex e3).step e4 pen4
  have e24 : exP pa H2 H4 := (exP.of e3).trans e4
  generalize hm0 : n + 1 + (1 + 3 * ci d') + 1 = m0 at *
  -- the pushes
  refine rb_cons <| rs_set 6 (by exact sc_item.nd) <| re_op op_cat <| re_lcS (own := [("_law_k", 7)]) (g := gName 7) rfl (by exact sc_item.nd) (blkOk_by (N := nm_item) (sc := defScope s_item) (by decide +kernel)) (fun _ _ _ _ _ => pg_name (i := 7) (by exact sc_item.nd) rfl (Or.inl rfl)) good_name ?_
  refine ri_range (n := 0) G2.range <| ra_cons <| re_var 5 rfl <| ra_nil ⟨(many : Nat), rfl, by omega, by omega, ?_⟩
  refine ⟨_, _, _, fun Dl i H' acc => ∃ rs : List Int, DA K (hideL [Dl, pa, wa, la] H') acc (rs.map (lr "push")) ∧ rs.length = i ∧ (∀ x ∈ rs, isReg x) ∧ exP pa H4 H' ∧ Pen K H' pa (m0 + i) ∧ Away H' pa Dl, walk_range, by omega, fun _ _ _ _ _ => trivial, fun Dl hD => ?_, ?_, ?_⟩
  · exact ⟨[], .nil, rfl, (fun _ h => nomatch h), (exP.refl).mut hD (W4.newp hD).1.symm, W4.pen.mut (W4.pen.away hD) (W4.newp hD).1.symm, (W4.pen.away hD).mut (W4.newp hD).1.symm⟩
  · rintro Dl i x H5 H6 acc hD hi hDl hlen5 ⟨rs, hda5, hrl, hreg, e5, pen5, aw5⟩ ⟨rfl, rfl⟩
    have hi5 : i < many := hi
    have neD : Dl ≠ pa := (W4.newp hD).1
    refine ⟨rfl, fun s0 H0 C cl fp => ?_⟩
    refine re_tup <| ra_cons <| re_str <| ra_cons <| re_call c1 hr (hk := by omega) <| ra_cons <| re_var 0 rfl <| ra_cons <| re_int <| ra_nil ⟨pa, 5, m0 + i, rfl, by decide, by decide, by omega, pen5, fun r H7 r0 r1 e7 pen7 => ra_nil ⟨Nat.le_of_ble_eq_true rfl, fun t H8 ht e8 h8 => ?_⟩⟩
    have hD7 : H7 Dl = some (.lst acc) := e7.but _ _ hDl neD
    have W7 := (W4.step e5 pen5).step e7 pen7
    have tD : t ≠ Dl := fun z => by rw [z, hD7] at ht; cases ht
    have tS : t ∉ [Dl, pa, wa, la] := fun z => by
      rcases List.mem_cons.mp z with z | z
      · exact tD z
      · exact W7.new ht z
    refine ⟨e8 _ _ hD7, rs ++ [r], ?_, by rw [List.length_append, hrl]; rfl, fun x hx => ?_, ((e5.trans e7).trans (exP.of e8)).mut hD neD.symm, (pen7.mono e8).mut ((aw5.step e7).step (exP.of e8)) neD.symm, ((aw5.step e7).step (exP.of e8)).mut neD.symm⟩
    · rw [List.map_append]
      refine DA.app (hda5.mono (hideL_ex fun b o hb hn => ?_)) (.cons (tupAt tS (by rw [upd_ne tD]; exact h8) (.cons (.str _) (.cons (.int _) .nil))) .nil)
      rw [upd_ne fun z => hn (by rw [z]; exact List.mem_cons_self)]
      exact e8 _ _ (e7.but _ _ hb fun z => hn (by rw [z]; exact List.mem_cons_of_mem _ List.mem_cons_self))
    · rcases List.mem_append.mp hx with hx | hx
      · exact hreg x hx
      · rw [List.mem_singleton.mp hx]; exact reg5 r0 r1
  rintro Dl acc H5 hD hDl hlen5 ⟨rs, hda5, hrl, hreg, e5, pen5, aw5⟩
  have hrm : rs.length = many := by rw [hrl]; rfl
  have hal : acc.length = many := by rw [hlen5]; rfl
  have W5 := W4.step e5 pen5
  have hli5 : H5 li = some (.lst xs) := (e24.trans e5).but _ _ hxs nli.1
  refine re_var 4 rfl ⟨Dl, li, acc, xs, rfl, rfl, hDl, hli5, szl (by omega), fun p hp => ?_⟩
  have e6 : Ex H5 (upd H5 p (.lst (acc ++ xs))) := Ex.new hp
  have h6 : upd H5 p (.lst (acc ++ xs)) p = some (.lst (acc ++ xs)) := upd_same
  have W6 := W5.ex e6
  have eS : ∀ {a : Addr}, ∀ x ∈ [pa, wa, la], x ∈ [a, pa, wa, la] := fun x hx => List.mem_cons_of_mem _ hx
  have da6 : DA K (hideL [p, pa, wa, la] (upd H5 p (.lst (acc ++ xs)))) (acc ++ xs) (rs.map (lr "push") ++ ds) :=
    DA.app (hda5.mono (((hideL_sub eS).trans (hideL_new hp)).trans (hideL_e e6))) (hda.mono (((hideL_p hS (e24.trans e5)).trans (hideL_new hp)).trans (hideL_e e6)))
  have np : p ≠ pa := (W5.newp hp).1
  have l6 : (acc ++ xs).length ≤ 3100 := by rw [List.length_append]; omega
  generalize hys : acc ++ xs = ys6 at *
  generalize upd H5 p (.lst ys6) = H6 at *
  have pen6 := W6.pen
  have aw6 : Away H6 pa p := (pen5.away hp).step (exP.of e6)
  -- reads and writes
  refine rb_cons <| rs_for (g := gName 7) PassesOwn.never rfl (pg_name (i := 7) (by exact sc_item.nd) rfl (Or.inl rfl)) good_name ?_
  refine ri_range (n := 0) G2.range <| ra_cons <| re_call c1 hr (hk := by omega) <| ra_cons <| re_var 0 rfl <| ra_cons <| re_int <| ra_nil ⟨pa, 3, m0 + many, rfl, by decide, by decide, by omega, pen6, fun tr H7 t0 t1 e7 pen7 => ra_nil ⟨tr, rfl, by omega, by omega, ?_⟩⟩
  refine ⟨_, _, _, fun i σ' H' => ∃ x7 x8 x9 ys rw', σ' = [some (.ref pa), some (.ref wa), some (.int ((d' + 1 : Nat) : Int)), some (.int way), some (.ref li), some (.int (many : Nat)), some (.ref p), x7, x8, x9, none, none, none, none] ∧ H' p = some (.lst ys) ∧ DA K (hideL [p, pa, wa, la] H') ys (rs.map (lr "push") ++ ds ++ rw') ∧ (∀ d ∈ rw', RwL many d) ∧ rw'.length = i ∧ exP pa H5 H' ∧ Pen K H' pa (m0 + many + 1 + 4 * i) ∧ Away H' pa p, walk_range, ?_, fun _ _ _ _ _ => trivial, ?_, ?_⟩
  · exact ⟨_, _, _, ys6, [], rfl, e7.but _ _ h6 np, by rw [List.append_nil]; exact da6.mono (hideL_p (List.mem_cons_of_mem _ List.mem_cons_self) e7), (fun _ h => nomatch h), rfl, (exP.of e6).trans e7, pen7, aw6.step e7⟩
  · rintro i x σ' Ha Hb hi ⟨x7, x8, x9, ys, rw', rfl, hys', hda', hrw, hrl', e8, pen8, aw8⟩ ⟨rfl, rfl⟩
    have hi2 : i ≤ 1 := by omega
    have hyl := hda'.length
    have hyl2 : ys.length = many + ds.length + i := by
      rw [hyl, List.length_append, List.length_append, List.length_map, hrm, hrl']
    refine rb_cons <| rs_set 8 (by exact sc_item.nd) <| re_call c1 hr (hk := by omega) <| ra_cons <| re_var 0 rfl <| ra_cons <| re_var 5 rfl <| ra_nil ⟨pa, (many : Nat), _, rfl, by omega, by omega, ?_, pen8, fun sp H9 s0 s1 e9 pen9 => ?_⟩
    · omega
    obtain ⟨spot, rfl⟩ := Int.eq_ofNat_of_zero_le s0
    have hspot : spot < many := by omega
    refine rb_cons <| rs_set 9 (by exact sc_item.nd) <| re_lst <| ra_cons <| re_tup <| ra_cons <| re_str <| ra_cons <| re_call c1 hr (hk := by omega) <| ra_cons <| re_var 0 rfl <| ra_cons <| re_int <| ra_nil ⟨pa, 5, _, rfl, by decide, by decide, ?_, pen9, fun g1 H10 g10 g11 e10 pen10 => ra_cons <| re_var 8 rfl <| ra_nil ⟨Nat.le_of_ble_eq_true rfl, fun t1 H11 ht1 e11 h11 => ?_⟩⟩
    · omega
    refine ra_cons <| re_tup <| ra_cons <| re_str <| ra_cons <| re_var 8 rfl <| ra_cons <| re_call c1 hr (hk := by omega) <| ra_cons <| re_var 0 rfl <| ra_cons <| re_int <| ra_nil ⟨pa, 5, _, rfl, by decide, by decide, ?_, pen10.mono e11, fun g2 H12 g20 g21 e12 pen12 => ra_nil ⟨Nat.le_of_ble_eq_true rfl, fun t2 H13 ht2 e13 h13 => ra_nil ⟨Nat.le_of_ble_eq_true rfl, fun l3 H14 hl3 e14 h14 => ?_⟩⟩⟩
    · omega
    have e814 : exP pa Hb H14 := ((((e9.trans e10).trans (exP.of e11)).trans e12).trans (exP.of e13)).trans (exP.of e14)
    have hp14 : H14 p = some (.lst ys) := e814.but _ _ hys' np
    refine rb_one <| rs_expr <| re_append <| re_var 6 rfl ⟨p, rfl, ⟨_, hp14⟩, re_call c2 hr (hk := by omega) <| ra_cons <| re_var 0 rfl <| ra_cons <| re_var 9 rfl <| ra_nil ⟨pa, l3, _, _, rfl, .inl (.inl h14), Nat.le_of_ble_eq_true rfl, Nat.le_of_ble_eq_true rfl, ?_, (pen12.mono e13).mono e14, fun v H15 hv e15 pen15 => ⟨ys, e15.but _ _ hp14 np, szlt (by omega), ?_⟩⟩⟩
    · omega
    have e815 := e814.trans e15
    have W15 := ((W5.step e8 pen8).step e815 (pen15.upto (Nat.le_refl _)))
    have hp15 : H15 p = some (.lst ys) := e815.but _ _ hys' np
    have key : ∃ t d, v = .ref t ∧ RwL many d ∧ D K (hideL [p, pa, wa, la] H15) (.ref t) d ∧ t ≠ p := by
      simp only [List.mem_cons, List.not_mem_nil, or_false] at hv
      have hn : ∀ {t : Addr} {H0 : Hp}, exP pa Hb H0 → Pen K H0 pa 600000 → H0 t = none → t ∉ [p, pa, wa, la] := fun {t H0} ex pe h z => by
        have W0 := (W5.step e8 pen8).step ex pe
        rcases List.mem_cons.mp z with z | z
        · rw [z, ex.but _ _ hys' np] at h; cases h
        · exact W0.new h z
      rcases hv with rfl | rfl
      · have hh : H15 t1 = some (.tup [.str "read", .int g1, .int (spot : Nat)]) := e15.but _ _ (e14 _ _ (e13 _ _ (e12.but _ _ h11 (fun z => (hn (e9.trans e10) (pen10.upto (by omega)) ht1 (by rw [z]; exact List.mem_cons_of_mem _ List.mem_cons_self)))))) (fun z => (hn (e9.trans e10) (pen10.upto (by omega)) ht1 (by rw [z]; exact List.mem_cons_of_mem _ List.mem_cons_self)))
        have hnt := hn (e9.trans e10) (pen10.upto (by omega)) ht1
        exact ⟨t1, lread g1 spot, rfl, ⟨g1, spot, .inl rfl, reg5 g10 g11, hspot, by omega⟩, tupAt hnt hh (.cons (.str _) (.cons (.int _) (.cons (.int _) .nil))), fun z => hnt (by rw [z]; exact List.mem_cons_self)⟩
      · have hnt := hn (((e9.trans e10).trans (exP.of e11)).trans e12) (pen12.upto (by omega)) ht2
        have hh : H15 t2 = some (.tup [.str "write", .int (spot : Nat), .int g2]) := e15.but _ _ (e14 _ _ h13) (fun z => hnt (by rw [z]; exact List.mem_cons_of_mem _ List.mem_cons_self))
        exact ⟨t2, lwrite spot g2, rfl, ⟨g2, spot, .inr rfl, reg5 g20 g21, hspot, by omega⟩, tupAt hnt hh (.cons (.str _) (.cons (.int _) (.cons (.int _) .nil))), fun z => hnt (by rw [z]; exact List.mem_cons_self)⟩
    obtain ⟨t, dl, rfl, hrd, hdt, htp⟩ := key
    have eP : Ex (hideL [p, pa, wa, la] H15) (hideL [p, pa, wa, la] (upd H15 p (.lst (ys ++ [.ref t])))) := hideL_ex fun b o hb hn => by
      rw [upd_ne fun z => hn (by rw [z]; exact List.mem_cons_self)]; exact hb
    refine ⟨_, _, _, ys ++ [.ref t], rw' ++ [dl], rfl, upd_same, ?_, fun d hd => ?_, by rw [List.length_append, hrl']; rfl, (e8.trans e815).mut hp np.symm, (pen15.upto (by omega)).mut (aw8.step e815) np.symm, (aw8.step e815).mut np.symm⟩
    · rw [← List.append_assoc]
      exact DA.app ((hda'.mono (hideL_p (List.mem_cons_of_mem _ List.mem_cons_self) e815)).mono eP) (.cons (hdt.mono eP) .nil)
    · rcases List.mem_append.mp hd with hd | hd
      · exact hrw d hd
      · rw [List.mem_singleton.mp hd]; exact hrd
  -- the pops
  rintro σ' H8 ⟨x7, x8, x9, ys, rw', rfl, hys', hda', hrw, hrl', e8, pen8, aw8⟩
  have W8 := W5.step e8 pen8
  have hr2 : tr.toNat ≤ 2 := by omega
  have hyl := hda'.length
  have hyl2 : ys.length = many + ds.length + tr.toNat := by
    rw [hyl, List.length_append, List.length_append, List.length_map, hrm, hrl']
  refine rb_one <| rs_ret <| re_op op_cat <| re_var 6 rfl <| re_lcS (own := [("_law_k", 7)]) (g := gName 7) rfl (by exact sc_item.nd) (blkOk_by (N := nm_item) (sc := defScope s_item) (by decide +kernel)) (fun _ _ _ _ _ => pg_name (i := 7) (by exact sc_item.nd) rfl (Or.inl rfl)) good_name ?_
  refine ri_range (n := 0) G2.range <| ra_cons <| re_var 5 rfl <| ra_nil ⟨(many : Nat), rfl, by omega, by omega, ?_⟩
  generalize hm1' : m0 + many + 1 + 4 * tr.toNat = m1 at *
  refine ⟨_, _, _, fun Dl i H' acc => ∃ qs : List Int, DA K (hideL [Dl, pa, wa, la] H') acc (qs.map (lr "pop")) ∧ qs.length = i ∧ (∀ x ∈ qs, isReg x) ∧ exP pa H8 H' ∧ Pen K H' pa (m1 + i) ∧ Away H' pa Dl, walk_range, by omega, fun _ _ _ _ _ => trivial, fun Dl hD => ?_, ?_, ?_⟩
  · exact ⟨[], .nil, rfl, (fun _ h => nomatch h), (exP.refl).mut hD (W8.newp hD).1.symm, W8.pen.mut (W8.pen.away hD) (W8.newp hD).1.symm, (W8.pen.away hD).mut (W8.newp hD).1.symm⟩
  · rintro Dl i x H9 H10 acc hD hi hDl hlen9 ⟨qs, hda9, hql, hreg', e9, pen9, aw9⟩ ⟨rfl, rfl⟩
    have hi5 : i < many := hi
    have neD : Dl ≠ pa := (W8.newp hD).1
    refine ⟨rfl, fun s0 H0 C cl fp => ?_⟩
    refine re_tup <| ra_cons <| re_str <| ra_cons <| re_call c1 hr (hk := by omega) <| ra_cons <| re_var 0 rfl <| ra_cons <| re_int <| ra_nil ⟨pa, 5, m1 + i, rfl, by decide, by decide, by omega, pen9, fun r H11 r0 r1 e11 pen11 => ra_nil ⟨Nat.le_of_ble_eq_true rfl, fun t H12 ht e12 h12 => ?_⟩⟩
    have hD11 : H11 Dl = some (.lst acc) := e11.but _ _ hDl neD
    have W11 := (W8.step e9 pen9).step e11 pen11
    have tD : t ≠ Dl := fun z => by rw [z, hD11] at ht; cases ht
    have tS : t ∉ [Dl, pa, wa, la] := fun z => by
      rcases List.mem_cons.mp z with z | z
      · exact tD z
      · exact W11.new ht z
    refine ⟨e12 _ _ hD11, qs ++ [r], ?_, by rw [List.length_append, hql]; rfl, fun x hx => ?_, ((e9.trans e11).trans (exP.of e12)).mut hD neD.symm, (pen11.mono e12).mut ((aw9.step e11).step (exP.of e12)) neD.symm, ((aw9.step e11).step (exP.of e12)).mut neD.symm⟩
    · rw [List.map_append]
      refine DA.app (hda9.mono (hideL_ex fun b o hb hn => ?_)) (.cons (tupAt tS (by rw [upd_ne tD]; exact h12) (.cons (.str _) (.cons (.int _) .nil))) .nil)
      rw [upd_ne fun z => hn (by rw [z]; exact List.mem_cons_self)]
      exact e12 _ _ (e11.but _ _ hb fun z => hn (by rw [z]; exact List.mem_cons_of_mem _ List.mem_cons_self))
    · rcases List.mem_append.mp hx with hx | hx
      · exact hreg' x hx
      · rw [List.mem_singleton.mp hx]; exact reg5 r0 r1
  rintro Dl acc2 H9 hD hDl hlen9 ⟨qs, hda9, hql, hreg', e9, pen9, aw9⟩
  have hqm : qs.length = many := by rw [hql]; rfl
  have hal2 : acc2.length = many := by rw [hlen9]; rfl
  have W9 := W8.step e9 pen9
  refine ⟨p, Dl, ys, acc2, rfl, rfl, e9.but _ _ hys' np, hDl, szl (by omega), fun l hl => q l _ ?_⟩
  have e10 : Ex H9 (upd H9 l (.lst (ys ++ acc2))) := Ex.new hl
  have e110 : exP pa H2 H9 := ((e24.trans e5).trans e8).trans e9
  refine ⟨ys ++ acc2, rs.map (lr "push") ++ ds ++ rw' ++ qs.map (lr "pop"), U, L', hL, Item.stack it hreg hreg' (by rw [hqm, hrm]) (by rw [hrm]; exact hrw), ?_, ?_, upd_same, ?_, ((exW.p e1).trans (ew.trans (exW.p e110))).trans (exW.of e10), (W9.ex e10).le (by omega)⟩
  · rw [List.length_append, List.length_append, List.length_append, List.length_map, List.length_map]
    omega
  · have nl := W9.newp hl
    exact e1.back ((ew.trans (exW.p e110)).back hl nl.1 nl.2) nl.1
  · exact DA.app (hda'.mono (((hideL_sub eS).trans (hideL_p hS e9)).trans (hideL_e e10))) (hda9.mono ((hideL_sub eS).trans (hideL_e e10)))
end
end Fl
end
section
set_option Elab.async false
set_option linter.all false
set_option maxRecDepth 100000
set_option maxHeartbeats 4000000
namespace Fl
open PySem PySem.Spec PyProof.Rows L2 Fx
open Evl (Ex fresh_back)
section
variable {P : Program} {w : World} {K : PySem.W.Frag} {mg : Str → Option Value} {base : Heap} {f : Addr} {fd : FuncData}
theorem two_of : ∀ {L : List Str}, 2 ≤ L.length → ∃ a b r, L = a :: b :: r
  | [], h => absurd h (by simp)
  | [_], h => absurd h (by simp)
  | a :: b :: r, _ => ⟨a, b, r, rfl⟩
theorem item_marks {d' j : Nat}
    (c1 : Cl P w K mg base CX0 1 "_law_draw" (sp_draw K)) (c2 : Cl P w K mg base CX0 2 "_law_pick" (sp_pick K)) (cI : Cl P w K mg base CX0 j "_law_items" (sp_items K d')) (hj : 4 ≤ j) (hd : d' + 1 ≤ 2)
    {cdv : Value} {A : Around} {outer : List Env} {s : Shared} {H0 : Hp} {E : XK} {De : Ends} (hr : Room j (A.deeper (envOfC "_law_item" (defScope s_item) s.heap.objs.size f cdv))) {pa wa la na po : Addr} {names : List Str} {at_ : Nat} {q' : Bool} {L : List Str} {n : Nat} {H H1 : Hp} {way : Int}
    (hn : n + ci (d' + 1) ≤ 600000) (e1 : exP pa H H1) (W1 : Wd K H1 pa wa la na po names at_ q' L (n + 1)) (q : ∀ l H', ResI K H H' pa wa la na po names at_ q' L (n + ci (d' + 1)) (il (d' + 1)) l → De.rt (.ref l) H') (way8 : 8 ≤ way) (hL2 : 2 ≤ L.length) :
    RB (cxOf CX0 P w K mg base nm_item "_law_item" (defScope s_item) f cdv A outer s H0 E).nox ((defBody s_item).drop 4) De [some (.ref pa), some (.ref wa), some (.int ((d' + 1 : Nat) : Int)), some (.int way), none, none, none, none, none, none, none, none, none, none] H1 := by
  have hS : pa ∈ [pa, wa, la] := List.mem_cons_self
  have hci : ci (d' + 1) = 100 + 6 * ci d' := rfl
  have hil : il (d' + 1) = 14 + 6 * il d' := rfl
  have hil2 := il_le (d := d') (by omega)
  have hd1 : (((d' + 1 : Nat) : Int) - 1) = (d' : Nat) := by omega
  obtain ⟨s1, s2, L2, rfl⟩ := two_of hL2
  have wS1 : isWordS s1 = true := W1.labs.1 s1 List.mem_cons_self
  have wS2 : isWordS s2 = true := W1.labs.1 s2 (List.mem_cons_of_mem _ List.mem_cons_self)
  have hnd := W1.labs.2.1
  rw [List.nodup_cons, List.nodup_cons] at hnd
  have ne12 : s1 ≠ s2 := fun z => hnd.1 (by rw [z]; exact List.mem_cons_self)
  have n1 : s1 ∉ L2 := fun z => hnd.1 (List.mem_cons_of_mem _ z)
  have n2 : s2 ∉ L2 := hnd.2.1
  have hnL2 := hnd.2.2
  have hl30 : (s1 :: s2 :: L2).length ≤ 30 := W1.labs.2.2
  have hl32 : L2.length + 2 ≤ 30 := hl30
  -- the labels are taken
  refine rb_cons <| rs_two (i := 10) (j := 11) rfl (by exact sc_item.nd) rfl rfl (by decide) rfl rfl rfl ?_
  refine ra_cons <| re_popAt <| re_dget (hu_of hr) <| re_var 1 rfl <| re_str ⟨wa, _, .inr "labels", .ref la, rfl, W1.wd, rfl, rfl, la, rfl, ⟨_, W1.lab⟩, re_int ⟨_, 0, .str s1, rfl, W1.lab, by decide, ?_, ?_, rfl, ?_⟩⟩
  · rw [List.length_map, List.length_cons, List.length_cons]; omega
  · rw [List.length_map, List.length_cons, List.length_cons]; omega
  have W2 := W1.pop
  have e2 : exW pa la H1 (upd H1 la (.lst ((s2 :: L2).map V.str))) := exW.pop W1.lp
  show RA _ _ _ (upd H1 la (.lst ((s2 :: L2).map V.str))) _
  generalize upd H1 la (.lst ((s2 :: L2).map V.str)) = H2 at *
  refine ra_cons <| re_popAt <| re_dget (hu_of hr) <| re_var 1 rfl <| re_str ⟨wa, _, .inr "labels", .ref la, rfl, W2.wd, rfl, rfl, la, rfl, ⟨_, W2.lab⟩, re_int ⟨_, 0, .str s2, rfl, W2.lab, by decide, ?_, ?_, rfl, ?_⟩⟩
  · rw [List.length_map, List.length_cons]; omega
  · rw [List.length_map, List.length_cons]; omega
  have W3 := W2.pop
  have e3 : exW pa la H2 (upd H2 la (.lst (L2.map V.str))) := exW.pop W2.lp
  show RA _ _ _ (upd H2 la (.lst (L2.map V.str))) _
  generalize upd H2 la (.lst (L2.map V.str)) = H3 at *
  have e03 : exW pa la H H3 := (exW.p e1).trans (e2.trans e3)
  refine ra_nil ⟨.str s1, .str s2, rfl, ?_⟩
  have r4 : isReg 4 := ⟨by decide, by decide⟩
  have r5 : isReg 5 := ⟨by decide, by decide⟩
  -- a loop
  refine rb_cons <| rs_if <| rt_cmp op_eq <| re_var 3 rfl <| re_int ⟨rfl, _, rfl, ifB (fun e => ?_) fun e => rb_nil ?_⟩
  · refine rb_cons <| rs_set 4 (by exact sc_item.nd) <| re_call cI hr (hk := Nat.le_refl _) <| ra_cons <| re_var 0 rfl <| ra_cons <| re_var 1 rfl <| ra_cons <| re_int <| ra_cons <| re_sub <| re_var 2 rfl <| re_int ⟨_, 1, rfl, rfl, ra_nil ⟨pa, wa, la, na, po, names, at_, q', L2, n + 1, 2, by rw [hd1]; rfl, by decide, by omega, W3, fun li H4 hres => ?_⟩⟩
    obtain ⟨xs, ds, U, L', hL, it, hlen, hli, hxs, hda, ew, W4⟩ := hres
    have nli := W3.newp hli
    have hxl := hda.length
    have hUL : ∀ s ∈ U, s ∈ L2 := fun s hs => by rw [hL]; exact List.mem_append_left _ hs
    refine rb_one <| rs_ret <| re_op op_cat <| re_op op_cat <| re_lst <| ra_cons <| re_tup <| ra_cons <| re_str <| ra_cons <| re_var 10 rfl <| ra_nil ⟨Nat.le_of_ble_eq_true rfl, fun t1 H5 ht1 e5 h5 => ra_nil ⟨Nat.le_of_ble_eq_true rfl, fun l1 H6 hl1 e6 h6 => re_var 4 rfl ⟨l1, li, _, xs, rfl, rfl, h6, e6 _ _ (e5 _ _ hxs), szl (show 1 + xs.length ≤ 90000 by omega), fun l2 hl2 => ?_⟩⟩⟩
    have e7 : Ex H6 (upd H6 l2 (.lst ([V.ref t1] ++ xs))) := Ex.new hl2
    have h7 : upd H6 l2 (.lst ([V.ref t1] ++ xs)) l2 = some (.lst ([V.ref t1] ++ xs)) := upd_same
    generalize upd H6 l2 (.lst ([V.ref t1] ++ xs)) = H7 at *
    refine re_lst <| ra_cons <| re_tup <| ra_cons <| re_str <| ra_cons <| re_int <| ra_cons <| re_int <| ra_nil ⟨Nat.le_of_ble_eq_true rfl, fun t2 H8 ht2 e8 h8 => ra_cons <| re_tup <| ra_cons <| re_str <| ra_cons <| re_int <| ra_nil ⟨Nat.le_of_ble_eq_true rfl, fun t3 H9 ht3 e9 h9 => ra_cons <| re_tup <| ra_cons <| re_str <| ra_cons <| re_int <| ra_cons <| re_int <| ra_nil ⟨Nat.le_of_ble_eq_true rfl, fun t4 H10 ht4 e10 h10 => ra_cons <| re_tup <| ra_cons <| re_str <| ra_cons <| re_var 10 rfl <| ra_nil ⟨Nat.le_of_ble_eq_true rfl, fun t5 H11 ht5 e11 h11 => ra_nil ⟨Nat.le_of_ble_eq_true rfl, fun l3 H12 hl3 e12 h12 => ?_⟩⟩⟩⟩⟩
    have e712 : Ex H7 H12 := e8.trans (e9.trans (e10.trans (e11.trans e12)))
    refine ⟨l2, l3, _, _, rfl, rfl, e712 _ _ h7, h12, szl (show (xs.length + 1) + 4 ≤ 90000 by omega), fun l hl => q l _ ?_⟩
    have e13 : Ex H12 (upd H12 l (.lst ([V.ref t1] ++ xs ++ [.ref t2, .ref t3, .ref t4, .ref t5]))) := Ex.new hl
    have W7 := W4.ex (e5.trans (e6.trans e7))
    have W8 := W7.ex e8
    have W9 := W8.ex e9
    have W10 := W9.ex e10
    have W12 := (W10.ex e11).ex e12
    have e413 : Ex H4 (upd H12 l (.lst ([V.ref t1] ++ xs ++ [.ref t2, .ref t3, .ref t4, .ref t5]))) := (e5.trans (e6.trans e7)).trans (e712.trans e13)
    have it2 := Item.ring it wS1 (fun z => n1 (hUL _ z)) (x := "mark") (y := "unless") (by decide +kernel) (by decide +kernel) (.inl ⟨rfl, by decide +kernel⟩) (p := []) (r := [lnum 4 0, lr "in" 5, lrr "same" 5 4]) (fun _ h => nomatch h) (fun d hd => by
      simp only [List.mem_cons, List.not_mem_nil, or_false] at hd
      rcases hd with rfl | rfl | rfl
      · exact p_num r4 ⟨by decide, by decide⟩
      · exact p_r (by decide +kernel) r5
      · exact p_rr (by decide +kernel) r5 r4)
    have eq1 : ([] ++ [ls1 "mark" s1] ++ ds ++ [lnum 4 0, lr "in" 5, lrr "same" 5 4] ++ [ls1 "unless" s1] : List PyData) = [ls1 "mark" s1] ++ ds ++ [lnum 4 0, lr "in" 5, lrr "same" 5 4, ls1 "unless" s1] := by
      rw [List.nil_append, List.append_assoc ([ls1 "mark" s1] ++ ds)]; rfl
    rw [eq1] at it2
    refine ⟨_, _, s1 :: s2 :: U, L', by rw [hL]; rfl, it2.mono fun s hs => ?_, ?_, ?_, upd_same, ?_, (e03.trans ew).trans (exW.of e413), (W12.ex e13).le (by omega)⟩
    · rcases List.mem_cons.mp hs with rfl | hs
      · exact List.mem_cons_self
      · exact List.mem_cons_of_mem _ (List.mem_cons_of_mem _ hs)
    · rw [List.length_append, List.length_append]
      show 1 + ds.length + 4 ≤ _
      omega
    · have nl := W12.newp hl
      exact ((e03.trans ew).trans (exW.of ((e5.trans (e6.trans e7)).trans e712))).back hl nl.1 nl.2
    · refine DA.app (DA.app (.cons (tupAt (W4.new ht1) ((e6.trans (e7.trans (e712.trans e13))) _ _ h5) (.cons (.str _) (.cons (.str _) .nil))) .nil) (hda.mono (hideL_e e413))) (.cons ?_ (.cons ?_ (.cons ?_ (.cons ?_ .nil))))
      · exact tupAt (W7.new ht2) ((e9.trans (e10.trans (e11.trans (e12.trans e13)))) _ _ h8) (.cons (.str _) (.cons (.int _) (.cons (.int _) .nil)))
      · exact tupAt (W8.new ht3) ((e10.trans (e11.trans (e12.trans e13))) _ _ h9) (.cons (.str _) (.cons (.int _) .nil))
      · exact tupAt (W9.new ht4) ((e11.trans (e12.trans e13)) _ _ h10) (.cons (.str _) (.cons (.int _) (.cons (.int _) .nil)))
      · exact tupAt (W10.new ht5) ((e12.trans e13) _ _ h11) (.cons (.str _) (.cons (.str _) .nil))
  -- branches
  refine rb_cons <| rs_two (i := 12) (j := 4) rfl (by exact sc_item.nd) rfl rfl (by decide) rfl rfl rfl ?_
  refine ra_cons <| re_tup <| ra_cons <| re_call c2 hr (hk := by omega) <| ra_cons <| re_var 0 rfl <| ra_cons <| re_lst <| ra_cons <| re_str <| ra_cons <| re_str <| ra_nil ⟨Nat.le_of_ble_eq_true rfl, fun p4 H4 hp4 e4 h4 => ra_nil ⟨pa, p4, _, n + 1, rfl, .inl (.inl h4), Nat.le_of_ble_eq_true rfl, Nat.le_of_ble_eq_true rfl, by omega, W3.pen.mono e4, fun v H5 hv e5 pen5 => ?_⟩⟩
  obtain ⟨tw, rfl, htw⟩ : ∃ tw : Str, v = .str tw ∧ tw ∈ (["copy", "same", "less"] : List Str) := by
    simp only [List.mem_cons, List.not_mem_nil, or_false] at hv
    rcases hv with rfl | rfl
    · exact ⟨_, rfl, by decide +kernel⟩
    · exact ⟨_, rfl, by decide +kernel⟩
  refine ra_cons <| re_call c1 hr (hk := by omega) <| ra_cons <| re_var 0 rfl <| ra_cons <| re_int <| ra_nil ⟨pa, 5, _, rfl, by decide, by decide, by omega, pen5, fun r H6 r0 r1 e6 pen6 => ra_cons <| re_call c1 hr (hk := by omega) <| ra_cons <| re_var 0 rfl <| ra_cons <| re_int <| ra_nil ⟨pa, 5, _, rfl, by decide, by decide, by omega, pen6, fun s' H7 s0 s1' e7 pen7 => ra_nil ⟨Nat.le_of_ble_eq_true rfl, fun tt H8 htt e8 h8 => ra_cons <| re_lst <| ra_nil ⟨Nat.le_of_ble_eq_true rfl, fun l0 H9 hl0 e9 h9 => ra_nil ⟨.ref tt, .ref l0, rfl, ?_⟩⟩⟩⟩⟩
  have e37 : exP pa H3 H7 := (((exP.of e4).trans e5).trans e6).trans e7
  have W7 := W3.step e37 pen7
  have W9 := (W7.ex e8).ex e9
  have ntt := W7.new htt
  have e09 : exW pa la H H9 := (e03.trans (exW.p e37)).trans (exW.of (e8.trans e9))
  have dtt : ∀ {HH : Hp}, HH tt = some (.tup [.str tw, .int r, .int s']) → D K (hideL [pa, wa, la] HH) (.ref tt) (lrr tw r s') := fun h => tupAt ntt h (.cons (.str _) (.cons (.int _) (.cons (.int _) .nil)))
  have h9t : H9 tt = some (.tup [.str tw, .int r, .int s']) := e9 _ _ h8
  have ptest : PW names [lrr tw r s'] := fun d hd => by
    rw [List.mem_singleton.mp hd]; exact p_rr htw (reg5 r0 r1) (reg5 s0 s1')
  refine rb_cons <| rs_set 4 (by exact sc_item.nd) <| re_call cI hr (hk := Nat.le_refl _) <| ra_cons <| re_var 0 rfl <| ra_cons <| re_var 1 rfl <| ra_cons <| re_int <| ra_cons <| re_sub <| re_var 2 rfl <| re_int ⟨_, 1, rfl, rfl, ra_nil ⟨pa, wa, la, na, po, names, at_, q', L2, _, 2, by rw [hd1]; rfl, by decide, ?_, W9, fun li H10 hres => ?_⟩⟩
  · omega
  obtain ⟨xs, ds, U, L', hL, it, hlen, hli, hxs, hda, ew, W10⟩ := hres
  have nli := W9.newp hli
  have hxl := hda.length
  have hUL : ∀ s ∈ U, s ∈ L2 := fun s hs => by rw [hL]; exact List.mem_append_left _ hs
  have ntp : tt ≠ pa ∧ tt ≠ la := W7.newp htt
  have h10t : H10 tt = some (.tup [.str tw, .int r, .int s']) := ew _ _ h9t ntp.1 ntp.2
  refine rb_cons <| rs_if <| rt_cmp op_eq <| re_var 3 rfl <| re_int ⟨rfl, _, rfl, ifB (fun e => ?_) fun e => rb_nil ?_⟩
  · refine rb_one <| rs_ret <| re_op op_cat <| re_op op_cat <| re_lst <| ra_cons <| re_var 12 rfl <| ra_cons <| re_tup <| ra_cons <| re_call c2 hr (hk := by omega) <| ra_cons <| re_var 0 rfl <| ra_cons <| re_lst <| ra_cons <| re_str <| ra_cons <| re_str <| ra_nil ⟨Nat.le_of_ble_eq_true rfl, fun p11 H11 hp11 e11 h11 => ra_nil ⟨pa, p11, _, _, rfl, .inl (.inl h11), Nat.le_of_ble_eq_true rfl, Nat.le_of_ble_eq_true rfl, ?_, W10.pen.mono e11, fun v H12 hv e12 pen12 => ?_⟩⟩
    · omega
    obtain ⟨iw, rfl, hiw⟩ : ∃ iw : Str, v = .str iw ∧ iw ∈ (["if", "unless"] : List Str) := by
      simp only [List.mem_cons, List.not_mem_nil, or_false] at hv
      rcases hv with rfl | rfl
      · exact ⟨_, rfl, by decide +kernel⟩
      · exact ⟨_, rfl, by decide +kernel⟩
    have e1012 : exP pa H10 H12 := (exP.of e11).trans e12
    have W12 := W10.step e1012 pen12
    refine ra_cons <| re_var 10 rfl <| ra_nil ⟨Nat.le_of_ble_eq_true rfl, fun t1 H13 ht1 e13 h13 => ra_nil ⟨Nat.le_of_ble_eq_true rfl, fun l1 H14 hl1 e14 h14 => re_var 4 rfl ⟨l1, li, _, xs, rfl, rfl, h14, e14 _ _ (e13 _ _ (e1012.but _ _ hxs nli.1)), szl (show 2 + xs.length ≤ 90000 by omega), fun l2 hl2 => ?_⟩⟩⟩
    have e15 : Ex H14 (upd H14 l2 (.lst ([V.ref tt, V.ref t1] ++ xs))) := Ex.new hl2
    have h15 : upd H14 l2 (.lst ([V.ref tt, V.ref t1] ++ xs)) l2 = some (.lst ([V.ref tt, V.ref t1] ++ xs)) := upd_same
    generalize upd H14 l2 (.lst ([V.ref tt, V.ref t1] ++ xs)) = H15 at *
    refine re_lst <| ra_cons <| re_tup <| ra_cons <| re_str <| ra_cons <| re_var 10 rfl <| ra_nil ⟨Nat.le_of_ble_eq_true rfl, fun t2 H16 ht2 e16 h16 => ra_nil ⟨Nat.le_of_ble_eq_true rfl, fun l3 H17 hl3 e17 h17 => ?_⟩⟩
    refine ⟨l2, l3, _, _, rfl, rfl, e17 _ _ (e16 _ _ h15), h17, szl (show (xs.length + 2) + 1 ≤ 90000 by omega), fun l hl => q l _ ?_⟩
    have e18 : Ex H17 (upd H17 l (.lst ([V.ref tt, V.ref t1] ++ xs ++ [.ref t2]))) := Ex.new hl
    have W15 := ((W12.ex e13).ex e14).ex e15
    have W17 := (W15.ex e16).ex e17
    have e1217 : Ex H12 H17 := e13.trans (e14.trans (e15.trans (e16.trans e17)))
    have e1218 := e1217.trans e18
    have it2 := Item.ring it wS1 (fun z => n1 (hUL _ z)) (x := iw) (y := "mark") (List.mem_cons_of_mem _ (List.mem_cons_of_mem _ hiw)) (by decide +kernel) (.inr ⟨List.mem_cons_of_mem _ hiw, rfl⟩) (p := [lrr tw r s']) (r := []) ptest (fun _ h => nomatch h)
    have eq1 : ([lrr tw r s'] ++ [ls1 iw s1] ++ ds ++ [] ++ [ls1 "mark" s1] : List PyData) = [lrr tw r s', ls1 iw s1] ++ ds ++ [ls1 "mark" s1] := by rw [List.append_nil]; rfl
    rw [eq1] at it2
    have nl := W17.newp hl
    refine ⟨_, _, s1 :: s2 :: U, L', by rw [hL]; rfl, it2.mono fun s hs => ?_, ?_, ?_, upd_same, ?_, (e09.trans (ew.trans (exW.p e1012))).trans (exW.of e1218), (W17.ex e18).le (by omega)⟩
    · rcases List.mem_cons.mp hs with rfl | hs
      · exact List.mem_cons_self
      · exact List.mem_cons_of_mem _ (List.mem_cons_of_mem _ hs)
    · rw [List.length_append, List.length_append]
      show 2 + ds.length + 1 ≤ _
      omega
    · exact ((e09.trans (ew.trans (exW.p e1012))).trans (exW.of e1217)).back hl nl.1 nl.2
    · refine DA.app (DA.app (.cons (dtt (e1218 _ _ (e1012.but _ _ h10t ntp.1))) (.cons ?_ .nil)) (hda.mono ((hideL_p hS e1012).trans (hideL_e e1218)))) (.cons ?_ .nil)
      · exact tupAt (W12.new ht1) ((e14.trans (e15.trans (e16.trans (e17.trans e18)))) _ _ h13) (.cons (.str _) (.cons (.str _) .nil))
      · exact tupAt (W15.new ht2) ((e17.trans e18) _ _ h16) (.cons (.str _) (.cons (.str _) .nil))
  -- one of two
  refine rb_cons <| rs_set 13 (by exact sc_item.nd) <| re_call cI hr (hk := Nat.le_refl _) <| ra_cons <| re_var 0 rfl <| ra_cons <| re_var 1 rfl <| ra_cons <| re_int <| ra_cons <| re_sub <| re_var 2 rfl <| re_int ⟨_, 1, rfl, rfl, ra_nil ⟨pa, wa, la, na, po, names, at_, q', L', _, 1, by rw [hd1]; rfl, by decide, ?_, W10, fun lj H11 hres => ?_⟩⟩
  · omega
  obtain ⟨ys, es, V', L'', hL'', it', hlen', hlj, hys, hdb, ew2, W11⟩ := hres
  have nlj := W10.newp hlj
  have hyl := hdb.length
  have hVL : ∀ s ∈ V', s ∈ L2 := fun s hs => by rw [hL, hL'']; exact List.mem_append_right _ (List.mem_append_left _ hs)
  have dis : ∀ s ∈ U, s ∉ V' := fun s hs hv => by
    rw [hL, hL''] at hnL2
    exact (List.nodup_append.mp hnL2).2.2 s hs s (List.mem_append_left _ hv) rfl
  have h11t : H11 tt = some (.tup [.str tw, .int r, .int s']) := ew2 _ _ h10t ntp.1 ntp.2
  have hxs11 : H11 li = some (.lst xs) := ew2 _ _ hxs nli.1 nli.2
  refine rb_one <| rs_ret <| re_op op_cat <| re_op op_cat <| re_op op_cat <| re_op op_cat <| re_lst <| ra_cons <| re_var 12 rfl <| ra_cons <| re_tup <| ra_cons <| re_str <| ra_cons <| re_var 10 rfl <| ra_nil ⟨Nat.le_of_ble_eq_true rfl, fun t1 H12 ht1 e12 h12 => ra_nil ⟨Nat.le_of_ble_eq_true rfl, fun l1 H13 hl1 e13 h13 => re_var 4 rfl ⟨l1, li, _, xs, rfl, rfl, h13, e13 _ _ (e12 _ _ hxs11), szl (show 2 + xs.length ≤ 90000 by omega), fun l2 hl2 => ?_⟩⟩⟩
  have e14 : Ex H13 (upd H13 l2 (.lst ([V.ref tt, V.ref t1] ++ xs))) := Ex.new hl2
  have h14 : upd H13 l2 (.lst ([V.ref tt, V.ref t1] ++ xs)) l2 = some (.lst ([V.ref tt, V.ref t1] ++ xs)) := upd_same
  generalize upd H13 l2 (.lst ([V.ref tt, V.ref t1] ++ xs)) = H14 at *
  refine re_lst <| ra_cons <| re_tup <| ra_cons <| re_str <| ra_cons <| re_var 11 rfl <| ra_nil ⟨Nat.le_of_ble_eq_true rfl, fun t2 H15 ht2 e15 h15 => ra_cons <| re_tup <| ra_cons <| re_str <| ra_cons <| re_var 10 rfl <| ra_nil ⟨Nat.le_of_ble_eq_true rfl, fun t3 H16 ht3 e16 h16 => ra_nil ⟨Nat.le_of_ble_eq_true rfl, fun l3 H17 hl3 e17 h17 => ?_⟩⟩⟩
  have e1417 : Ex H14 H17 := e15.trans (e16.trans e17)
  refine ⟨l2, l3, _, _, rfl, rfl, e1417 _ _ h14, h17, szl (show (xs.length + 2) + 2 ≤ 90000 by omega), fun l4 hl4 => ?_⟩
  have e18 : Ex H17 (upd H17 l4 (.lst ([V.ref tt, V.ref t1] ++ xs ++ [.ref t2, .ref t3]))) := Ex.new hl4
  have h18 : upd H17 l4 (.lst ([V.ref tt, V.ref t1] ++ xs ++ [.ref t2, .ref t3])) l4 = some (.lst ([V.ref tt, V.ref t1] ++ xs ++ [.ref t2, .ref t3])) := upd_same
  generalize upd H17 l4 (.lst ([V.ref tt, V.ref t1] ++ xs ++ [.ref t2, .ref t3])) = H18 at *
  have e1118 : Ex H11 H18 := e12.trans (e13.trans (e14.trans (e1417.trans e18)))
  refine re_var 13 rfl ⟨l4, lj, _, ys, rfl, rfl, h18, e1118 _ _ hys, szl (by rw [List.length_append, List.length_append]; show (2 + xs.length + 2) + ys.length ≤ 90000; omega), fun l5 hl5 => ?_⟩
  have e19 : Ex H18 (upd H18 l5 (.lst ([V.ref tt, V.ref t1] ++ xs ++ [.ref t2, .ref t3] ++ ys))) := Ex.new hl5
  have h19 : upd H18 l5 (.lst ([V.ref tt, V.ref t1] ++ xs ++ [.ref t2, .ref t3] ++ ys)) l5 = some (.lst ([V.ref tt, V.ref t1] ++ xs ++ [.ref t2, .ref t3] ++ ys)) := upd_same
  generalize upd H18 l5 (.lst ([V.ref tt, V.ref t1] ++ xs ++ [.ref t2, .ref t3] ++ ys)) = H19 at *
  refine re_lst <| ra_cons <| re_tup <| ra_cons <| re_str <| ra_cons <| re_var 11 rfl <| ra_nil ⟨Nat.le_of_ble_eq_true rfl, fun t4 H20 ht4 e20 h20 => ra_nil ⟨Nat.le_of_ble_eq_true rfl, fun l6 H21 hl6 e21 h21 => ?_⟩⟩
  refine ⟨l5, l6, _, _, rfl, rfl, e21 _ _ (e20 _ _ h19), h21, szl (by rw [List.length_append, List.length_append, List.length_append]; show (2 + xs.length + 2 + ys.length) + 1 ≤ 90000; omega), fun l hl => q l _ ?_⟩
  have e22 : Ex H21 (upd H21 l (.lst ([V.ref tt, V.ref t1] ++ xs ++ [.ref t2, .ref t3] ++ ys ++ [.ref t4]))) := Ex.new hl
  have W14 := ((W11.ex e12).ex e13).ex e14
  have W15 := W14.ex e15
  have W19 := (((W15.ex e16).ex e17).ex e18).ex e19
  have W21 := (W19.ex e20).ex e21
  have e1121 : Ex H11 H21 := e1118.trans (e19.trans (e20.trans e21))
  have e1122 := e1121.trans e22
  have it2 := Item.either it it' dis wS1 wS2 ne12 (fun z => n1 (hUL _ z)) (fun z => n1 (hVL _ z)) (fun z => n2 (hUL _ z)) (fun z => n2 (hVL _ z)) (p := [lrr tw r s']) ptest (x := "if") (by decide +kernel)
  have nl := W21.newp hl
  refine ⟨_, [lrr tw r s', ls1 "if" s1] ++ ds ++ [ls1 "jump" s2, ls1 "mark" s1] ++ es ++ [ls1 "mark" s2], s1 :: s2 :: (U ++ V'), L'', by rw [hL, hL'', List.cons_append, List.cons_append, List.append_assoc], it2, ?_, ?_, upd_same, ?_, (e09.trans (ew.trans ew2)).trans (exW.of e1122), (W21.ex e22).le (by omega)⟩
  · rw [List.length_append, List.length_append, List.length_append, List.length_append]
    show 2 + ds.length + 2 + es.length + 1 ≤ _
    omega
  · exact ((e09.trans (ew.trans ew2)).trans (exW.of e1121)).back hl nl.1 nl.2
  · refine DA.app (DA.app (DA.app (DA.app (.cons (dtt (e1122 _ _ h11t)) (.cons ?_ .nil)) (hda.mono (ew2.hide.trans (hideL_e e1122)))) (.cons ?_ (.cons ?_ .nil))) (hdb.mono (hideL_e e1122))) (.cons ?_ .nil)
    · exact tupAt (W11.new ht1) ((e13.trans (e14.trans (e1417.trans (e18.trans (e19.trans (e20.trans (e21.trans e22))))))) _ _ h12) (.cons (.str _) (.cons (.str _) .nil))
    · exact tupAt (W14.new ht2) ((e16.trans (e17.trans (e18.trans (e19.trans (e20.trans (e21.trans e22)))))) _ _ h15) (.cons (.str _) (.cons (.str _) .nil))
    · exact tupAt (W15.new ht3) ((e17.trans (e18.trans (e19.trans (e20.trans (e21.trans e22))))) _ _ h16) (.cons (.str _) (.cons (.str _) .nil))
    · exact tupAt (W19.new ht4) ((e21.trans e22) _ _ h20) (.cons (.str _) (.cons (.str _) .nil))
end
end Fl
end
section
set_option Elab.async false
set_option linter.all false
set_option maxRecDepth 100000
set_option maxHeartbeats 4000000
namespace Fl
open PySem PySem.Spec PyProof.Rows L2 Fx
open Evl (Ex fresh_back)
section
variable {P : Program} {w : World} {K : PySem.W.Frag} {mg : Str → Option Value} {base : Heap} {f : Addr} {fd : FuncData}
theorem ok_item {deep j : Nat} (F : Fun K "_law_item" "_law_item" s_item f fd) (G : Gb mg) (G2 : Gb2 mg) (c1 : Cl P w K mg base CX0 1 "_law_draw" (sp_draw K)) (c2 : Cl P w K mg base CX0 2 "_law_pick" (sp_pick K)) (c4 : Cl P w K mg base CX0 4 "_law_plain_line" (sp_pline K)) (c5 : Cl P w K mg base CX0 4 "_law_call" (sp_lcall K))
    (cI : ∀ d', deep = d' + 1 → Cl P w K mg base CX0 j "_law_items" (sp_items K d')) (hj : 4 ≤ j) (hd : deep ≤ 2) : FnOk P w K mg base CX0 (j + 1) f fd ["_law_pen_here", "_law_world", "_law_deep"] (sp_item K deep) := by
  refine F.ok sc_item (fun vs H Q E h => ?_) (fun cdv A outer s H vs Q E hr h => ⟨RB _ _, pss_RB, ?_⟩)
  · obtain ⟨_, _, _, _, _, _, _, _, _, _, rfl, _⟩ := h; rfl
  obtain ⟨pa, wa, la, na, po, names, at_, q', L, n, rfl, hn, W, q⟩ := h
  have hS : pa ∈ [pa, wa, la] := List.mem_cons_self
  have hcg := ci_ge deep
  have hig := il_ge deep
  refine rb_cons <| rs_set 3 (by exact sc_item.nd) <| RE.mono (Q := fun v H1 => ∃ way : Int, v = .int way ∧ 0 ≤ way ∧ way < 12 ∧ (deep = 0 → way < 6) ∧ exP pa H H1 ∧ Pen K H1 pa (n + 1)) (re_if <| rt_cmp op_gt <| re_var 2 rfl <| re_int ⟨(deep : Nat), 0, rfl, rfl, _, rfl, ifB (fun e => ?_) fun e => ?_⟩) ?_
  · exact re_call c1 hr (hk := by omega) <| ra_cons <| re_var 0 rfl <| ra_cons <| re_int <| ra_nil ⟨pa, 12, n, rfl, by decide, by decide, by omega, W.pen, fun r H1 r0 r1 e1 pen1 => ⟨r, rfl, r0, r1, fun z => by subst z; simp at e, e1, pen1⟩⟩
  · exact re_call c1 hr (hk := by omega) <| ra_cons <| re_var 0 rfl <| ra_cons <| re_int <| ra_nil ⟨pa, 6, n, rfl, by decide, by decide, by omega, W.pen, fun r H1 r0 r1 e1 pen1 => ⟨r, rfl, r0, by omega, fun z => r1, e1, pen1⟩⟩
  rintro v H1 ⟨way, rfl, y0, y1, yd, e1, pen1⟩
  have W1 := W.step e1 pen1
  -- a plain line
  refine rb_cons <| rs_if <| RT.mono (QB := fun k H2 => H2 = H1 ∧ (k = false → 4 ≤ way ∧ (way ≤ 7 ∨ 2 ≤ L.length))) (rt_w <| rw_or <| op_ltB <| re_var 3 rfl <| re_int ⟨way, 4, rfl, rfl, ifB (fun e => ⟨rfl, fun z => nomatch z⟩) fun e => rw_or1 <| rt_w <| rw_and <| rt_cmp op_gt <| re_var 3 rfl <| re_int ⟨way, 7, rfl, rfl, _, rfl, ifB (fun e2 => ?_) fun e2 => ?_⟩⟩) ?_
  · have e := of_decide_eq_false e
    refine rw_and1 <| op_ltB <| re_cb call_len G.len <| ra_cons <| re_dget (hu_of hr) <| re_var 1 rfl <| re_str ⟨wa, _, .inr "labels", .ref la, rfl, W1.wd, rfl, rfl, ra_nil ⟨_, L.length, rfl, .inl ⟨_, .inl (.inl W1.lab), (List.length_map ..).symm⟩, re_int ⟨(L.length : Nat), 2, rfl, rfl, rfl, fun z => ⟨by omega, .inr ?_⟩⟩⟩⟩
    have := of_decide_eq_false z
    omega
  · have e := of_decide_eq_false e
    have e2 := of_decide_eq_false e2
    exact ⟨rfl, fun z => ⟨by omega, .inl (by omega)⟩⟩
  rintro k H2 ⟨rfl, hk⟩
  refine ifB (fun ek => ?_) fun ek => rb_nil ?_
  · refine rb_one <| rs_ret <| re_lst <| ra_cons <| re_call c4 hr (hk := by omega) <| ra_cons <| re_var 0 rfl <| ra_cons <| re_var 1 rfl <| ra_nil ⟨pa, wa, na, names, n + 1, rfl, by omega, W1.wn, fun p d xs H3 hp hdt hda hp0 hp1 e3 pen3 => ra_nil ⟨Nat.le_of_ble_eq_true rfl, fun l H4 hl e4 h4 => q l H4 ?_⟩⟩
    have W3 := W1.step e3 pen3
    refine ResI.of0 (one_atom hp) (show 1 ≤ _ by omega) ((e1.trans e3).back hl (W3.newp hl).1) h4 (.cons ?_ .nil) ((exW.p (e1.trans e3)).trans (exW.of e4)) ((W3.ex e4).le (by omega))
    rw [hdt]
    exact tupAt (W1.new hp0) (e4 _ _ hp1) (hda _)
  obtain ⟨way4, hk⟩ := hk ek
  -- lines of the pool, calls
  refine rb_cons <| rs_if <| op_ltB <| re_var 3 rfl <| re_int ⟨way, 6, rfl, rfl, ifB (fun e6 => ?_) fun e6 => rb_nil ?_⟩
  · refine rb_one <| rs_ret <| re_if <| rt_cmp op_eq <| re_var 3 rfl <| re_int ⟨rfl, _, rfl, ifB (fun e => ?_) fun e => ?_⟩
    · obtain ⟨ps, hpo, hp0, hp3, hps⟩ := W1.pool
      refine re_ct call_list_of G.list <| ra_cons <| re_call c2 hr (hk := by omega) <| ra_cons <| re_var 0 rfl <| ra_cons <| re_dget (hu_of hr) <| re_var 1 rfl <| re_str ⟨wa, _, .inr "pool", .ref po, rfl, W1.wd, rfl, rfl, ra_nil ⟨pa, po, ps.map V.ref, n + 1, rfl, .inl (.inl hpo), by rw [List.length_map]; exact hp0, by rw [List.length_map]; omega, by omega, W1.pen, fun v H3 hv e3 pen3 => ?_⟩⟩
      obtain ⟨p, hp, rfl⟩ := List.mem_map.mp hv
      obtain ⟨ds, hD, hds, hlen⟩ := hps p hp
      have W3 := W1.step e3 pen3
      have hD3 := hD.mono (hideL_p hS e3)
      cases hD3 with
      | lst a b =>
        rename_i ys
        refine ra_nil ⟨p, _, rfl, .inl (Evl.ex_l hideL_ex0 a), fun l hl => q l _ ?_⟩
        have e4 : Ex H3 (upd H3 l (.lst ys)) := Ex.new hl
        exact ResI.of0 (Item.pln hds) (by omega) ((e1.trans e3).back hl (W3.newp hl).1) upd_same (b.mono (hideL_e e4)) ((exW.p (e1.trans e3)).trans (exW.of e4)) ((W3.ex e4).le (by omega))
    · refine re_call c5 hr (hk := by omega) <| ra_cons <| re_var 0 rfl <| ra_cons <| re_var 1 rfl <| ra_nil ⟨pa, wa, la, na, po, names, at_, q', L, n + 1, rfl, by omega, W1, fun l xs ds H3 it hlen hl h3 hda e3 pen3 => q l H3 ?_⟩
      exact ResI.of0 it (by omega) (e1.back hl (W1.newp hl).1) h3 hda (exW.p (e1.trans e3)) ((W1.step e3 pen3).le (by omega))
  have way6 : 6 ≤ way := by
    have := of_decide_eq_false e6
    omega
  obtain ⟨d', rfl⟩ : ∃ d', deep = d' + 1 := by
    cases deep with
    | zero => exact absurd (yd rfl) (by omega)
    | succ d => exact ⟨d, rfl⟩
  have cI := cI d' rfl
  refine rb_cons <| rs_if <| op_ltB <| re_var 3 rfl <| re_int ⟨way, 8, rfl, rfl, ifB (fun e8 => ?_) fun e8 => rb_nil ?_⟩
  · exact item_stack G2 c1 c2 cI hj hd hr hn e1 W1 q
  · have e8 := of_decide_eq_false e8
    exact item_marks c1 c2 cI hj hd hr hn e1 W1 q (by omega) (by omega)
end
end Fl
end
section
set_option Elab.async false
set_option linter.all false
set_option maxRecDepth 100000
set_option maxHeartbeats 4000000
namespace Fl
open PySem PySem.Spec PyProof.Rows L2 Fx
open Evl (Ex fresh_back)
/-- tuples stay -/
theorem sqt_ex {K : PySem.W.Frag} {H H' : Hp} (e : ∀ a o, H a = some o → (∀ xs, o = .tup xs ∨ (∃ ob, o = .frz ob (.tup xs)) → H' a = some o)) {a : Addr} {xs : List V} (h : SqT K H a xs) : SqT K H' a xs := by
  rcases h with (h | ⟨ob, h⟩) | h
  · exact .inl (.inl (e _ _ h xs (.inl rfl)))
  · exact .inl (.inr ⟨ob, e _ _ h xs (.inr ⟨ob, rfl⟩)⟩)
  · exact .inr h
/-- lines, seen from afar, do not see a list that is no tuple -/
theorem DA.dodge {K : PySem.W.Frag} {H : Hp} {S : List Addr} {lf : Addr} {zs xs : List V} {ds : List PyData} (hl : ∀ d ∈ ds, isLineD d = true) (hd : DA K (hideL S H) xs ds) (h : H lf = some (.lst zs)) : DA K (hideL (lf :: S) H) xs ds :=
  DA.lines hl hd fun a ys hs => sqt_ex (fun a o ho xs hx => by
    obtain ⟨h1, h2⟩ := hideL_of ho
    refine hideL_at (fun z => ?_) h2
    rcases List.mem_cons.mp z with z | z
    · rw [z, h] at h2
      rcases hx with rfl | ⟨ob, rfl⟩
      · cases h2
      · cases h2
    · exact h1 z) hs
def cl : Nat := 200 + 3 * ci 2 + 3 * ci 1 + 3 * ci 0
def sp_lines (K : PySem.W.Frag) : Sp := fun vs H Q _ => ∃ (pa wa la na po : Addr) (names : List Str) (at_ : Nat) (q' : Bool) (L : List Str) (n : Nat), vs = [.ref pa, .ref wa] ∧ n + cl ≤ 600000 ∧ Wd K H pa wa la na po names at_ q' L n ∧ ∀ l xs ds L' H', Whole q' names ds → ds.length ≤ 40 → H l = none → H' l = some (.lst xs) → DA K (hideL [pa, wa, la] H') xs ds → exW pa la H H' → Wd K H' pa wa la na po names at_ q' L' (n + cl) → Q (.ref l) H'
section
variable {P : Program} {w : World} {K : PySem.W.Frag} {mg : Str → Option Value} {base : Heap} {f : Addr} {fd : FuncData}
abbrev nm_lines : List Str := ["_law_pen_here", "_law_world", "_law_found", "_law_label", "_law_early", "_law_last"]
theorem sc_lines : FnScope nm_lines ["_law_pen_here", "_law_world"] (defScope s_lines) := ⟨rfl, rfl, rfl, by decide +kernel, rfl, by decide +kernel, by decide +kernel⟩
theorem ok_lines {j : Nat} (F : Fun K "_law_lines" "_law_lines" s_lines f fd) (G : Gb mg) (c1 : Cl P w K mg base CX0 1 "_law_draw" (sp_draw K)) (c2 : Cl P w K mg base CX0 2 "_law_pick" (sp_pick K)) (c3 : Cl P w K mg base CX0 3 "_law_called" (sp_called K))
    (i0 : Cl P w K mg base CX0 j "_law_items" (sp_items K 0)) (i1 : Cl P w K mg base CX0 j "_law_items" (sp_items K 1)) (i2 : Cl P w K mg base CX0 j "_law_items" (sp_items K 2)) (hj : 4 ≤ j) : FnOk P w K mg base CX0 (j + 1) f fd ["_law_pen_here", "_law_world"] (sp_lines K) := by
  refine F.ok sc_lines (fun vs H Q E h => ?_) (fun cdv A outer s H vs Q E hr h => ⟨RB _ _, pss_RB, ?_⟩)
  · obtain ⟨_, _, _, _, _, _, _, _, _, _, rfl, _⟩ := h; rfl
  obtain ⟨pa, wa, la, na, po, names, at_, q', L, n, rfl, hn, W, q⟩ := h
  have hS : pa ∈ [pa, wa, la] := List.mem_cons_self
  have hcl : cl = 200 + 3 * ci 2 + 3 * ci 1 + 3 * ci 0 := rfl
  have il0 := il_le (d := 0) (by decide)
  have il1 := il_le (d := 1) (by decide)
  have il2 := il_le (d := 2) (by decide)
  refine rb_cons <| rs_set 2 (by exact sc_lines.nd) <| re_call i2 hr (hk := Nat.le_refl _) <| ra_cons <| re_var 0 rfl <| ra_cons <| re_var 1 rfl <| ra_cons <| re_int <| ra_cons <| re_int <| ra_nil ⟨pa, wa, la, na, po, names, at_, q', L, n, 3, rfl, by decide, by omega, W, fun l1 H1 hres => ?_⟩
  obtain ⟨xs1, ds1, U1, L1, hL1, it1, hlen1, hl1, hx1, hda1, ew1, W1⟩ := hres
  have nd0 := W.labs.2.1
  have nl1 := W.newp hl1
  -- an early end
  refine rb_cons <| rs_ifJ (fun σ' H' => ∃ x3 x4 lf xs ds L', σ' = [some (.ref pa), some (.ref wa), some (.ref lf), x3, x4, none] ∧ H lf = none ∧ H' lf = some (.lst xs) ∧ DA K (hideL [pa, wa, la] H') xs ds ∧ Pre q' names ds ∧ ds.length ≤ 20000 ∧ exW pa la H H' ∧ Wd K H' pa wa la na po names at_ q' L' (n + cl - 10)) ?_ ?_
  · refine rt_w <| rw_and <| rt_neL (hu64 hr) <| re_dget (hu_of hr) <| re_var 1 rfl <| re_str ⟨wa, _, .inr "labels", .ref la, rfl, W1.wd, rfl, rfl, re_lst <| ra_nil ⟨(by decide), fun p2 H2 hp2 e2 h2 => ⟨la, p2, L1, rfl, rfl, .inl (.inl (e2 _ _ W1.lab)), .inl (.inl h2), fun u hu => word_strOk (W1.labs.1 u hu), ?_⟩⟩⟩
    have W2 := W1.ex e2
    have same : ∀ {H' : Hp} {m : Nat}, exP pa H2 H' → Pen K H' pa m → m ≤ n + cl - 10 → ∃ x3 x4 lf xs ds L', [some (V.ref pa), some (.ref wa), some (.ref l1), none, none, none] = [some (V.ref pa), some (.ref wa), some (.ref lf), x3, x4, none] ∧ H lf = none ∧ H' lf = some (.lst xs) ∧ DA K (hideL [pa, wa, la] H') xs ds ∧ Pre q' names ds ∧ ds.length ≤ 20000 ∧ exW pa la H H' ∧ Wd K H' pa wa la na po names at_ q' L' (n + cl - 10) := fun {H' m} e pe hm =>
      ⟨none, none, l1, xs1, ds1, L1, rfl, hl1, e.but _ _ (e2 _ _ hx1) nl1.1, hda1.mono ((hideL_e e2).trans (hideL_p hS e)), pre_item it1, by omega, (ew1.trans (exW.of e2)).trans (exW.p e), (W2.step e pe).le hm⟩
    refine ifB (fun hne => ?_) fun hne => ifF (rb_nil (same exP.refl W2.pen (by omega)))
    refine rw_and1 <| rt_cmp op_eq <| re_call c1 hr (hk := by omega) <| ra_cons <| re_var 0 rfl <| ra_cons <| re_int <| ra_nil ⟨pa, 4, _, rfl, by decide, by decide, by omega, W2.pen, fun r H3 r0 r1 e3 pen3 => re_int ⟨rfl, _, rfl, ifB (fun er => ?_) fun er => rb_nil (same e3 pen3 (by omega))⟩⟩
    obtain ⟨s1, L2, rfl⟩ : ∃ s1 L2, L1 = s1 :: L2 := by
      cases L1 with
      | nil => exact absurd hne Bool.false_ne_true
      | cons a r => exact ⟨a, r, rfl⟩
    have W3 := W2.step e3 pen3
    have wS1 : isWordS s1 = true := W3.labs.1 s1 List.mem_cons_self
    have hnd := W3.labs.2.1
    rw [List.nodup_cons] at hnd
    rw [hL1] at nd0
    have hl30 : L2.length + 1 ≤ 30 := W3.labs.2.2
    -- the label
    refine rb_cons <| rs_set 3 (by exact sc_lines.nd) <| re_popAt <| re_dget (hu_of hr) <| re_var 1 rfl <| re_str ⟨wa, _, .inr "labels", .ref la, rfl, W3.wd, rfl, rfl, la, rfl, ⟨_, W3.lab⟩, re_int ⟨_, 0, .str s1, rfl, W3.lab, by decide, ?_, ?_, rfl, ?_⟩⟩
    · rw [List.length_map, List.length_cons]; omega
    · rw [List.length_map, List.length_cons]; omega
    have W4 := W3.pop
    have e4 : exW pa la H3 (upd H3 la (.lst (L2.map V.str))) := exW.pop W3.lp
    show RB _ _ _ _ (upd H3 la (.lst (L2.map V.str)))
    generalize upd H3 la (.lst (L2.map V.str)) = H4 at *
    have e14 : exW pa la H1 H4 := (exW.of e2).trans ((exW.p e3).trans e4)
    have hx4 : H4 l1 = some (.lst xs1) := e14 _ _ hx1 nl1.1 nl1.2
    have hda4 := hda1.mono e14.hide
    -- the end
    refine rb_cons <| rs_set 4 (by exact sc_lines.nd) <| re_call c2 hr (hk := by omega) <| ra_cons <| re_var 0 rfl <| ra_cons <| re_lst <| ra_cons <| re_tup <| ra_cons <| re_str <| ra_nil ⟨Nat.le_of_ble_eq_true rfl, fun t1 H5 ht1 e5 h5 => ra_cons <| re_tup <| ra_cons <| re_str <| ra_cons <| re_call c3 hr (hk := by omega) <| ra_cons <| re_var 0 rfl <| ra_cons <| re_var 1 rfl <| ra_nil ⟨pa, wa, la, na, po, names, at_, q', L2, _, rfl, ?_, W4.ex e5, fun fn H6 hfn e6 pen6 => ra_nil ⟨Nat.le_of_ble_eq_true rfl, fun t2 H7 ht2 e7 h7 => ra_nil ⟨Nat.le_of_ble_eq_true rfl, fun p8 H8 hp8 e8 h8 => ra_nil ⟨pa, p8, _, _, rfl, .inl (.inl h8), Nat.le_of_ble_eq_true rfl, Nat.le_of_ble_eq_true rfl, ?_, (pen6.mono e7).mono e8, fun v H9 hv e9 pen9 => ?_⟩⟩⟩⟩⟩
    · omega
    · omega
    have W5 := W4.ex e5
    have W6 := W5.step e6 pen6
    have W9 := ((W6.ex e7).ex e8).step e9 pen9
    have e59 : exP pa H5 H9 := ((e6.trans (exP.of e7)).trans (exP.of e8)).trans e9
    have e49 : exP pa H4 H9 := (exP.of e5).trans e59
    have n1 := W4.new ht1
    have n2 := W6.new ht2
    have nn : ∀ {t : Addr}, t ∉ [pa, wa, la] → t ≠ pa := fun h z => h (by rw [z]; exact List.mem_cons_self)
    have h9a : H9 t1 = some (.tup [.str "back"]) := e59.but _ _ h5 (nn n1)
    have h9b : H9 t2 = some (.tup [.str "tail", .str fn]) := e9.but _ _ (e8 _ _ h7) (nn n2)
    refine rb_cons <| rs_set 4 (by exact sc_lines.nd) <| RE.mono (Q := fun v H' => ∃ t d, v = .ref t ∧ Ex H9 H' ∧ Leave q' names d ∧ D K (hideL [pa, wa, la] H') (.ref t) d) (re_if <| rt_val <| re_dget (hu_of hr) <| re_var 1 rfl <| re_str ⟨wa, _, .inr "lost", .bl (!q'), rfl, W9.wd, rfl, rfl, _, rfl, ifB (fun hq => ?_) fun hq => ?_⟩) ?_
    · exact re_tup <| ra_cons <| re_str <| ra_nil ⟨Nat.le_of_ble_eq_true rfl, fun t H10 ht e10 h10 => ⟨t, lend "stop", rfl, e10, leave_stop, tupAt (W9.new ht) h10 (.cons (.str _) .nil)⟩⟩
    · have hq : q' = true := by simpa using hq
      subst hq
      simp only [List.mem_cons, List.not_mem_nil, or_false] at hv
      rcases hv with rfl | rfl
      · exact re_var 4 rfl ⟨t1, lend "back", rfl, Ex.refl _, leave_back, tupAt n1 h9a (.cons (.str _) .nil)⟩
      · exact re_var 4 rfl ⟨t2, ls1 "tail" fn, rfl, Ex.refl _, leave_tail hfn (W9.ok.word fn hfn), tupAt n2 h9b (.cons (.str _) (.cons (.str _) .nil))⟩
    rintro v' H10 ⟨te, de, rfl, e10, hle, hdte⟩
    have W10 := W9.ex e10
    have e410 : exP pa H4 H10 := e49.trans (exP.of e10)
    -- the middle
    refine rb_cons <| rs_set 2 (by exact sc_lines.nd) <| re_op op_cat <| re_op op_cat <| re_op op_cat <| re_var 2 rfl <| re_lst <| ra_cons <| re_tup <| ra_cons <| re_str <| ra_cons <| re_int <| ra_cons <| re_int <| ra_nil ⟨Nat.le_of_ble_eq_true rfl, fun t3 H11 ht3 e11 h11 => ra_cons <| re_tup <| ra_cons <| re_str <| ra_cons <| re_var 3 rfl <| ra_nil ⟨Nat.le_of_ble_eq_true rfl, fun t4 H12 ht4 e12 h12 => ra_nil ⟨Nat.le_of_ble_eq_true rfl, fun p13 H13 hp13 e13 h13 => ?_⟩⟩⟩
    have hxl1 := hda1.length
    have e1013 : Ex H10 H13 := e11.trans (e12.trans e13)
    refine ⟨l1, p13, xs1, _, rfl, rfl, e1013 _ _ (e410.but _ _ hx4 nl1.1), h13, szl (show xs1.length + 2 ≤ 90000 by omega), fun l14 hl14 => ?_⟩
    have e14' : Ex H13 (upd H13 l14 (.lst (xs1 ++ [V.ref t3, .ref t4]))) := Ex.new hl14
    have h14 : upd H13 l14 (.lst (xs1 ++ [V.ref t3, .ref t4])) l14 = some (.lst (xs1 ++ [V.ref t3, .ref t4])) := upd_same
    have W13 := W10.ex e1013
    have nl14 := W13.newp hl14
    generalize upd H13 l14 (.lst (xs1 ++ [V.ref t3, .ref t4])) = H14 at *
    have W14 := W13.ex e14'
    refine re_call i0 hr (hk := Nat.le_refl _) <| ra_cons <| re_var 0 rfl <| ra_cons <| re_var 1 rfl <| ra_cons <| re_int <| ra_cons <| re_int <| ra_nil ⟨pa, wa, la, na, po, names, at_, q', L2, _, 2, rfl, by decide, ?_, W14, fun l15 H15 hres => ?_⟩
    · omega
    obtain ⟨xs2, ds2, U2, L3, hL3, it2, hlen2, hl15, hx2, hda2, ew2, W15⟩ := hres
    have nl15 := W14.newp hl15
    have hxl2 := hda2.length
    refine ⟨l14, l15, _, xs2, rfl, rfl, ew2 _ _ h14 nl14.1 nl14.2, hx2, szl (by rw [List.length_append]; show xs1.length + 2 + xs2.length ≤ 90000; omega), fun l16 hl16 => ?_⟩
    have e16 : Ex H15 (upd H15 l16 (.lst (xs1 ++ [V.ref t3, .ref t4] ++ xs2))) := Ex.new hl16
    have h16 : upd H15 l16 (.lst (xs1 ++ [V.ref t3, .ref t4] ++ xs2)) l16 = some (.lst (xs1 ++ [V.ref t3, .ref t4] ++ xs2)) := upd_same
    have nl16 := W15.newp hl16
    generalize upd H15 l16 (.lst (xs1 ++ [V.ref t3, .ref t4] ++ xs2)) = H16 at *
    have W16 := W15.ex e16
    refine re_lst <| ra_cons <| re_var 4 rfl <| ra_cons <| re_tup <| ra_cons <| re_str <| ra_cons <| re_var 3 rfl <| ra_nil ⟨Nat.le_of_ble_eq_true rfl, fun t5 H17 ht5 e17 h17 => ra_nil ⟨Nat.le_of_ble_eq_true rfl, fun p18 H18 hp18 e18 h18 => ?_⟩⟩
    refine ⟨l16, p18, _, _, rfl, rfl, e18 _ _ (e17 _ _ h16), h18, szl (by rw [List.length_append, List.length_append]; show xs1.length + 2 + xs2.length + 2 ≤ 90000; omega), fun l19 hl19 => ?_⟩
    have e19 : Ex H18 (upd H18 l19 (.lst (xs1 ++ [V.ref t3, .ref t4] ++ xs2 ++ [.ref te, .ref t5]))) := Ex.new hl19
    have h19 : upd H18 l19 (.lst (xs1 ++ [V.ref t3, .ref t4] ++ xs2 ++ [.ref te, .ref t5])) l19 = some (.lst (xs1 ++ [V.ref t3, .ref t4] ++ xs2 ++ [.ref te, .ref t5])) := upd_same
    have W18 := (W16.ex e17).ex e18
    have nl19 := W18.newp hl19
    generalize upd H18 l19 (.lst (xs1 ++ [V.ref t3, .ref t4] ++ xs2 ++ [.ref te, .ref t5])) = H19 at *
    have W19 := W18.ex e19
    have e1619 : Ex H16 H19 := e17.trans (e18.trans e19)
    -- what follows
    refine rb_one <| rs_set 2 (by exact sc_lines.nd) <| re_op op_cat <| re_var 2 rfl <| re_call i1 hr (hk := Nat.le_refl _) <| ra_cons <| re_var 0 rfl <| ra_cons <| re_var 1 rfl <| ra_cons <| re_int <| ra_cons <| re_int <| ra_nil ⟨pa, wa, la, na, po, names, at_, q', L3, _, 2, rfl, by decide, ?_, W19, fun l20 H20 hres => ?_⟩
    · omega
    obtain ⟨xs3, ds3, U3, L4, hL4, it3, hlen3, hl20, hx3, hda3, ew3, W20⟩ := hres
    have hxl3 := hda3.length
    refine ⟨l19, l20, _, xs3, rfl, rfl, ew3 _ _ h19 nl19.1 nl19.2, hx3, szl (by rw [List.length_append, List.length_append, List.length_append]; show xs1.length + 2 + xs2.length + 2 + xs3.length ≤ 90000; omega), fun l21 hl21 => ?_⟩
    have e21 : Ex H20 (upd H20 l21 (.lst (xs1 ++ [V.ref t3, .ref t4] ++ xs2 ++ [.ref te, .ref t5] ++ xs3))) := Ex.new hl21
    have nl21 := W20.newp hl21
    have eH4 : exW pa la H H4 := ew1.trans e14
    have e4_14 : exW pa la H4 H14 := (exW.p e410).trans (exW.of (e1013.trans e14'))
    have e14_20 : exW pa la H14 H20 := ew2.trans ((exW.of (e16.trans e1619)).trans ew3)
    have eH20 : exW pa la H H20 := eH4.trans (e4_14.trans e14_20)
    have subs : ∀ {a b c : Hp}, exW pa la a b → Ex b c → Ex (hideL [pa, wa, la] a) (hideL [pa, wa, la] c) := fun x y => x.hide.trans (hideL_e y)
    have hU3 : ∀ s ∈ U3, s ∈ L3 := fun s hs => by rw [hL4]; exact List.mem_append_left _ hs
    have hU2 : ∀ s ∈ U2, s ∈ L2 := fun s hs => by rw [hL3]; exact List.mem_append_left _ hs
    have hU32 : ∀ s ∈ U3, s ∈ L2 := fun s hs => by rw [hL3]; exact List.mem_append_right _ (hU3 s hs)
    have dA := (List.nodup_append.mp nd0).2.2
    have d23 : ∀ s ∈ U2, s ∉ U3 := fun s h2 h3 => by
      have := hnd.2
      rw [hL3] at this
      exact (List.nodup_append.mp this).2.2 s h2 s (hU3 s h3) rfl
    have pw : PW names [lrr "less" 0 1] := fun d hd => by
      rw [List.mem_singleton.mp hd]; exact p_rr (by decide +kernel) ⟨by decide, by decide⟩ ⟨by decide, by decide⟩
    have hpre := pre_early it1 it2 it3 (one := s1) (fun s h1 h2 => dA s h1 s (List.mem_cons_of_mem _ (hU2 s h2)) rfl) (fun s h1 h3 => dA s h1 s (List.mem_cons_of_mem _ (hU32 s h3)) rfl) d23 wS1 (fun z => dA s1 z s1 List.mem_cons_self rfl) (fun z => hnd.1 (hU2 _ z)) (fun z => hnd.1 (hU32 _ z)) hle pw
    have eqd : ds1 ++ ([lrr "less" 0 1] ++ [ls1 "if" s1] ++ ds2 ++ [de, ls1 "mark" s1]) ++ ds3 = ds1 ++ [lrr "less" 0 1, ls1 "if" s1] ++ ds2 ++ [de, ls1 "mark" s1] ++ ds3 := by
      simp only [List.append_assoc, List.cons_append, List.nil_append]
    rw [eqd] at hpre
    refine ⟨_, _, l21, _, _, L4, rfl, eH20.back hl21 nl21.1 nl21.2, upd_same, ?_, hpre, ?_, eH20.trans (exW.of e21), (W20.ex e21).le (by omega)⟩
    · refine DA.app (DA.app (DA.app (DA.app (hda4.mono (subs (e4_14.trans e14_20) e21)) (.cons ?_ (.cons ?_ .nil))) (hda2.mono (subs ((exW.of (e16.trans e1619)).trans ew3) e21))) (.cons ?_ (.cons ?_ .nil))) (hda3.mono (hideL_e e21))
      · have nt := W10.newp ht3
        exact tupAt (W10.new ht3) (e21 _ _ (e14_20 _ _ (e14' _ _ (e13 _ _ (e12 _ _ h11))) nt.1 nt.2)) (.cons (.str _) (.cons (.int _) (.cons (.int _) .nil)))
      · have W11 := W10.ex e11
        have nt := W11.newp ht4
        exact tupAt (W11.new ht4) (e21 _ _ (e14_20 _ _ (e14' _ _ (e13 _ _ h12)) nt.1 nt.2)) (.cons (.str _) (.cons (.str _) .nil))
      · exact (hdte.mono (hideL_e (e1013.trans e14'))).mono (subs e14_20 e21)
      · have nt := W16.newp ht5
        exact tupAt (W16.new ht5) (e21 _ _ (ew3 _ _ (e19 _ _ (e18 _ _ h17)) nt.1 nt.2)) (.cons (.str _) (.cons (.str _) .nil))
    · rw [List.length_append, List.length_append, List.length_append, List.length_append]
      show ds1.length + 2 + ds2.length + 2 + ds3.length ≤ 20000
      omega
  rintro σ' H1' ⟨x3, x4, lf, xs, ds, L', rfl, hlf, hxs, hda, hpre, hdl, eHW, Wb⟩
  have nlf := W.newp hlf
  have hxl := hda.length
  -- the last line
  refine rb_cons <| rs_set 5 (by exact sc_lines.nd) <| re_lst <| ra_cons <| re_tup <| ra_cons <| re_str <| ra_nil ⟨Nat.le_of_ble_eq_true rfl, fun t1 H2 ht1 e2 h2 => ra_cons <| re_tup <| ra_cons <| re_str <| ra_nil ⟨Nat.le_of_ble_eq_true rfl, fun t2 H3 ht2 e3 h3 => ra_cons <| re_tup <| ra_cons <| re_str <| ra_nil ⟨Nat.le_of_ble_eq_true rfl, fun t3 H4 ht3 e4 h4 => ra_cons <| re_tup <| ra_cons <| re_str <| ra_cons <| re_call c3 hr (hk := by omega) <| ra_cons <| re_var 0 rfl <| ra_cons <| re_var 1 rfl <| ra_nil ⟨pa, wa, la, na, po, names, at_, q', L', _, rfl, ?_, ((Wb.ex e2).ex e3).ex e4, fun fn H5 hfn e5 pen5 => ra_nil ⟨Nat.le_of_ble_eq_true rfl, fun t4 H6 ht4 e6 h6 => ra_cons <| re_tup <| ra_cons <| re_str <| ra_nil ⟨Nat.le_of_ble_eq_true rfl, fun t5 H7 ht5 e7 h7 => ra_nil ⟨Nat.le_of_ble_eq_true rfl, fun p8 H8 hp8 e8 h8 => ?_⟩⟩⟩⟩⟩⟩⟩
  · omega
  have W4 := ((Wb.ex e2).ex e3).ex e4
  have W5 := W4.step e5 pen5
  have W6 := W5.ex e6
  have W8 := (W6.ex e7).ex e8
  have m1 := Wb.new ht1
  have m2 := (Wb.ex e2).new ht2
  have m3 := ((Wb.ex e2).ex e3).new ht3
  have m4 := W5.new ht4
  have m5 := W6.new ht5
  have nn : ∀ {t : Addr}, t ∉ [pa, wa, la] → t ≠ pa := fun h z => h (by rw [z]; exact List.mem_cons_self)
  have e18 : exP pa H1' H8 := (((exP.of (e2.trans (e3.trans e4))).trans e5).trans (exP.of e6)).trans (exP.of (e7.trans e8))
  have hf8 : H8 lf = some (.lst xs) := e18.but _ _ hxs nlf.1
  refine rb_cons <| rs_expr <| re_append <| re_var 2 rfl ⟨lf, rfl, ⟨_, hf8⟩, RE.mono (Q := fun v H' => ∃ t d, v = .ref t ∧ exP pa H8 H' ∧ Pen K H' pa (n + cl) ∧ Leave q' names d ∧ H' t ≠ none ∧ D K (hideL [pa, wa, la] H') (.ref t) d) (re_if <| rt_val <| re_dget (hu_of hr) <| re_var 1 rfl <| re_str ⟨wa, _, .inr "lost", .bl (!q'), rfl, W8.wd, rfl, rfl, _, rfl, ifB (fun hq => ?_) fun hq => ?_⟩) ?_⟩
  · exact re_tup <| ra_cons <| re_str <| ra_nil ⟨Nat.le_of_ble_eq_true rfl, fun t H9 ht e9 h9 => ⟨t, lend "stop", rfl, exP.of e9, (W8.pen.mono e9).upto (by omega), leave_stop, (by rw [h9]; exact fun z => nomatch z), tupAt (W8.new ht) h9 (.cons (.str _) .nil)⟩⟩
  · have hq : q' = true := by simpa using hq
    subst hq
    refine re_call c2 hr (hk := by omega) <| ra_cons <| re_var 0 rfl <| ra_cons <| re_var 5 rfl <| ra_nil ⟨pa, p8, _, _, rfl, .inl (.inl h8), Nat.le_of_ble_eq_true rfl, Nat.le_of_ble_eq_true rfl, ?_, W8.pen, fun v H9 hv e9 pen9 => ?_⟩
    · omega
    have pen9 := pen9.upto (m := n + cl) (by omega)
    have g1 : H9 t1 = some (.tup [.str "back"]) := e9.but _ _ (e8 _ _ (e7 _ _ (e6 _ _ (e5.but _ _ (e4 _ _ (e3 _ _ h2)) (nn m1))))) (nn m1)
    have g2 : H9 t2 = some (.tup [.str "back"]) := e9.but _ _ (e8 _ _ (e7 _ _ (e6 _ _ (e5.but _ _ (e4 _ _ h3) (nn m2))))) (nn m2)
    have g3 : H9 t3 = some (.tup [.str "back"]) := e9.but _ _ (e8 _ _ (e7 _ _ (e6 _ _ (e5.but _ _ h4 (nn m3))))) (nn m3)
    have g4 : H9 t4 = some (.tup [.str "tail", .str fn]) := e9.but _ _ (e8 _ _ (e7 _ _ h6)) (nn m4)
    have g5 : H9 t5 = some (.tup [.str "stop"]) := e9.but _ _ (e8 _ _ h7) (nn m5)
    simp only [List.mem_cons, List.not_mem_nil, or_false] at hv
    rcases hv with rfl | rfl | rfl | rfl | rfl
    · exact ⟨t1, lend "back", rfl, e9, pen9, leave_back, (by rw [g1]; exact fun z => nomatch z), tupAt m1 g1 (.cons (.str _) .nil)⟩
    · exact ⟨t2, lend "back", rfl, e9, pen9, leave_back, (by rw [g2]; exact fun z => nomatch z), tupAt m2 g2 (.cons (.str _) .nil)⟩
    · exact ⟨t3, lend "back", rfl, e9, pen9, leave_back, (by rw [g3]; exact fun z => nomatch z), tupAt m3 g3 (.cons (.str _) .nil)⟩
    · exact ⟨t4, ls1 "tail" fn, rfl, e9, pen9, leave_tail hfn (W8.ok.word fn hfn), (by rw [g4]; exact fun z => nomatch z), tupAt m4 g4 (.cons (.str _) (.cons (.str _) .nil))⟩
    · exact ⟨t5, lend "stop", rfl, e9, pen9, leave_stop, (by rw [g5]; exact fun z => nomatch z), tupAt m5 g5 (.cons (.str _) .nil)⟩
  rintro v H9 ⟨t, d, rfl, e9, pen9, hle, htn, hdt⟩
  have hf9 : H9 lf = some (.lst xs) := e9.but _ _ hf8 nlf.1
  refine ⟨xs, hf9, szlt (by omega), ?_⟩
  have W9 := W8.step e9 pen9
  have e19 := e18.trans e9
  have da9 := DA.dodge hpre.ok (hda.mono (hideL_p hS e19)) hf9
  have dt9 := DA.dodge (fun x hx => by rw [List.mem_singleton.mp hx]; exact hle.ok) (.cons hdt .nil) hf9
  have eM : Ex (hideL [lf, pa, wa, la] H9) (hideL [pa, wa, la] (upd H9 lf (.lst (xs ++ [.ref t])))) := (hideL_ex (S := [lf, pa, wa, la]) fun b o hb hn => by
    rw [upd_ne fun z => hn (by rw [z]; exact List.mem_cons_self)]; exact hb).trans (hideL_sub fun x hx => List.mem_cons_of_mem _ hx)
  have daM := DA.app (da9.mono eM) (dt9.mono eM)
  have hwhole := hpre.whole d hle
  have hM : upd H9 lf (.lst (xs ++ [.ref t])) lf = some (.lst (xs ++ [.ref t])) := upd_same
  have e09 : exW pa la H H9 := eHW.trans (exW.p e19)
  have eHM : exW pa la H (upd H9 lf (.lst (xs ++ [.ref t]))) := ⟨fun b o hb n1 n2 => by
    have : b ≠ lf := fun z => by rw [z, hlf] at hb; cases hb
    rw [upd_ne this]
    exact e09 b o hb n1 n2, fun c t l h => by
    obtain ⟨t', l', h'⟩ := e09.cells c t l h
    exact ⟨t', l', by rw [upd_ne nlf.1.symm]; exact h'⟩⟩
  have WM : Wd K (upd H9 lf (.lst (xs ++ [.ref t]))) pa wa la na po names at_ q' L' (n + cl) := W.far eHM (pen9.mut ((W.pen.away hlf).stepW e09) nlf.1.symm) (by rw [upd_ne nlf.2.symm]; exact W9.lab) Wb.labs
  generalize upd H9 lf (.lst (xs ++ [.ref t])) = HM at *
  have hlM : (xs ++ [V.ref t]).length = (ds ++ [d]).length := daM.length
  -- short enough?
  refine rb_one <| rs_ret <| re_if <| rt_cmp op_le <| re_cb call_len G.len <| ra_cons <| re_var 2 rfl <| ra_nil ⟨_, (xs ++ [V.ref t]).length, rfl, .inl ⟨_, .inl (.inl hM), rfl⟩, re_int ⟨_, 40, rfl, rfl, _, rfl, ifB (fun e => ?_) fun e => ?_⟩⟩
  · have e := of_decide_eq_true e
    exact re_var 2 rfl <| q lf _ _ L' HM hwhole (by omega) hlf hM daM eHM WM
  · refine re_lst <| ra_cons <| re_tup <| ra_cons <| re_str <| ra_cons <| re_int <| ra_nil ⟨Nat.le_of_ble_eq_true rfl, fun to H10 hto e10 h10 => ra_cons <| re_ixL <| re_var 2 rfl <| re_un un_neg <| re_int ⟨1, rfl, lf, _, -1, .ref t, rfl, rfl, .inl (.inl (e10 _ _ hM)), atI_last _ _, ra_nil ⟨Nat.le_of_ble_eq_true rfl, fun l H11 hl e11 h11 => ?_⟩⟩⟩
    have W10 := WM.ex e10
    have nl := W10.newp hl
    have hout : PW names [lr "out" 0] := fun x hx => by
      rw [List.mem_singleton.mp hx]; exact p_r (by decide +kernel) ⟨by decide, by decide⟩
    refine q l _ ([lr "out" 0] ++ [d]) L' H11 (whole_item (Item.pln hout) hle) (show 2 ≤ 40 by decide) ((eHM.trans (exW.of e10)).back hl nl.1 nl.2) h11 (.cons (tupAt (WM.new hto) (e11 _ _ h10) (.cons (.str _) (.cons (.int _) .nil))) (((dt9.mono eM)).mono (hideL_e (e10.trans e11)))) (eHM.trans (exW.of (e10.trans e11))) (W10.ex e11)
end
end Fl
end
section
set_option Elab.async false
set_option linter.all false
set_option maxRecDepth 100000
set_option maxHeartbeats 2000000
namespace Fx
open PySem PySem.Spec PyProof.Rows L2
open Evl (Ex fresh_back)
section
variable {X : Cx} {e f f2 tg : Expr} {σ : L2.St} {H : Hp} {Q : VK} {R : It → Hp → Prop} {apos cpos pos p2 : Pos}
theorem ri_values (h : RE X e σ H fun x H1 => ∃ d o kvs, x = .ref d ∧ H1 d = some (.frz o (.dK kvs)) ∧ R (Itd d o kvs) H1) (base : attributeBase e "values" X.env (eval e X.env) = eval e X.env := by rfl) (line : (apos.endLine == cpos.line) = true := by rfl) :
    RI X tg (.Call (.Attribute e "values" apos) [] [] cpos) σ H R := ri_of (pi_values pe_RE base line) h
/-- xs[a:b] -/
theorem re_lmid (h : RE X e σ H fun x H1 => RE X f σ H1 fun y H2 => ∃ i, y = .int i ∧ RE X f2 σ H2 fun z H3 => ∃ j, z = .int j ∧ ∃ l xs, x = .ref l ∧ SqL X.K H3 l xs ∧ ∀ p, H3 p = none → Q (.ref p) (upd H3 p (.lst (cutV xs (some i) (some j))))) : RE X (.Subscript e (.Slice (some f) (some f2) none p2) pos) σ H Q :=
  re_of (pe_slice sl_list pe_RE (po_some pe_RE) (po_some pe_RE)) h
end
end Fx
end
section
set_option Elab.async false
set_option linter.all false
set_option maxRecDepth 100000
set_option maxHeartbeats 4000000
namespace Fl
open PySem PySem.Spec PyProof.Rows L2 Fx
open Evl (Ex fresh_back)
/-! ### drawn programs -/
abbrev PlP := List (Str × List PyData)
structure PlainD (ps : PlP) : Prop where
  word : ∀ p ∈ ps, isWordS p.1 = true
  nodup : (ps.map (·.1)).Nodup
  main : ("main" : Str) ∈ ps.map (·.1)
  len : ps.length ≤ 6
  whole : ∀ p ∈ ps, ∃ q, Whole q (ps.map (·.1)) p.2
  l40 : ∀ p ∈ ps, p.2.length ≤ 40
  all : (ps.map fun p => p.2.length).sum ≤ 240
/-- the dict of lists that stands for them -/
def bkL (ps : PlP) (ad : Str → Addr) : List Fn3 := ps.map fun p => (p.1, .ref (ad p.1), .list p.2)
theorem bkN_L (ps : PlP) (ad : Str → Addr) : bkN (bkL ps ad) = ps.map (·.1) := by
  unfold bkN bkL; rw [List.map_map]; rfl
/-- at most so much: drawn functions one behind the other -/
structure Part (names : List Str) (k : Nat) (ps : PlP) : Prop where
  nm : ps.map (·.1) = names.take k
  whole : ∀ p ∈ ps, ∃ q, Whole q names p.2
  l40 : ∀ p ∈ ps, p.2.length ≤ 40
  all : (ps.map fun p => p.2.length).sum ≤ 200 + 2 * k
def cpl : Nat := 200 + 6 * (cl + 40)
theorem cut_mid {us : List Str} {k : Nat} (h : k ≤ us.length) : cutV (us.map V.str) (some 1) (some (k : Int)) = ((us.take k).drop 1).map V.str := by
  unfold cutV
  rw [show (1 : Int) = ((1 : Nat) : Int) from rfl, HT.sIx_nat, HT.sIx_nat, List.length_map, Nat.min_eq_left h]
  rw [List.map_drop, List.map_take, List.drop_take]
  by_cases h1 : 1 ≤ us.length
  · rw [Nat.min_eq_left h1]
  · have : us = [] := List.eq_nil_of_length_eq_zero (by omega)
    subst this
    simp
theorem Away.put {H : Hp} {pa la b : Addr} {o : HO} (a : Away H pa la) (hne : pa ≠ b) : Away (upd H b o) pa la := by
  obtain ⟨c, t, l, h1, h2⟩ := a
  exact ⟨c, t, l, by rw [upd_ne hne]; exact h1, h2⟩
theorem Away.new {K : PySem.W.Frag} {H : Hp} {pa la : Addr} {n : Nat} (p : Pen K H pa n) (h : H la = none) : Away H pa la := p.away h
theorem Whole.mono {q : Bool} {ns ns' : List Str} {ds : List PyData} (h : Whole q ns ds) (hs : ∀ s ∈ ns, s ∈ ns') : Whole q ns' ds := by
  obtain ⟨γ, r, o, l⟩ := h.lay
  exact ⟨⟨γ, r, o, Lay.mono (fun _ _ z => z) hs l⟩, h.nodup, h.jumps, h.last, h.pos⟩
/-- what stands between the functions -/
structure Mid (K : PySem.W.Frag) (H0 H : Hp) (pa wa na po fo : Addr) (names : List Str) (k : Nat) (ps : PlP) (ad : Str → Addr) (n : Nat) : Prop where
  ex : exP pa H0 H
  pen : Pen K H pa n
  aw : Away H pa wa
  af : Away H pa fo
  wd : ∃ at_ q la, H wa = some (.dK (wdV na po at_ q la))
  nm : H na = some (.lst (names.map V.str))
  pool : ∃ qs : List Addr, H po = some (.lst (qs.map V.ref)) ∧ 0 < qs.length ∧ qs.length ≤ 3 ∧ ∀ p ∈ qs, ∃ ds, D K (hideL [pa, wa, fo] H) (.ref p) (.list ds) ∧ (∀ d ∈ ds, PWd names d) ∧ ds.length ≤ 10
  fod : H fo = some (.dK (bkV (bkL ps ad)))
  part : Part names k ps
  dat : ∀ p ∈ ps, D K (hideL [pa, wa, fo] H) (.ref (ad p.1)) (.list p.2)
theorem exP.w {pa la : Addr} {H0 H H' : Hp} (e : exP pa H0 H) (ew : exW pa la H H') (h0 : H0 la = none) : exP pa H0 H' := ⟨fun b o hb hn => ew _ _ (e.but b o hb hn) hn (ne_of_none hb h0), fun c t l h => by
  obtain ⟨t1, l1, h1⟩ := e.cells c t l h
  exact ew.cells c t1 l1 h1⟩
theorem bkL_app (ps : PlP) (ad : Str → Addr) (s : Str) (ds : List PyData) (l : Addr) (h : s ∉ ps.map (·.1)) : putK (bkV (bkL ps ad)) (.inr s) (.ref l) = bkV (bkL (ps ++ [(s, ds)]) (fun z => if z = s then l else ad z)) := by
  have hv : valV (bkV (bkL ps ad)) (.inr s) = none := by
    cases hv : valV (bkV (bkL ps ad)) (.inr s) with
    | none => rfl
    | some v =>
      obtain ⟨m, hm, z⟩ := List.mem_map.mp (valV_in hv)
      obtain ⟨m', hm', rfl⟩ := List.mem_map.mp hm
      obtain ⟨p, hp, rfl⟩ := List.mem_map.mp hm'
      cases z
      exact absurd (List.mem_map_of_mem hp) h
  rw [putK_new _ hv]
  unfold bkV bkL
  rw [List.map_append, List.map_append]
  congr 1
  · rw [List.map_map, List.map_map]
    refine List.map_congr_left fun p hp => ?_
    have : p.1 ≠ s := fun z => h (z ▸ List.mem_map_of_mem hp)
    simp only [Function.comp, if_neg this]
  · simp
theorem bkL_mem {ps : PlP} {ad : Str → Addr} {p : Str × List PyData} (h : p ∈ ps) : ((p.1, V.ref (ad p.1), PyData.list p.2) : Fn3) ∈ bkL ps ad := List.mem_map_of_mem (f := fun p : Str × List PyData => ((p.1, V.ref (ad p.1), PyData.list p.2) : Fn3)) h
theorem bkL_val {ps : PlP} {ad : Str → Addr} {p : Str × List PyData} (hn : (ps.map (·.1)).Nodup) (h : p ∈ ps) : valV (bkV (bkL ps ad)) (.inr p.1) = some (.ref (ad p.1)) := bk_val (e := ((p.1, V.ref (ad p.1), PyData.list p.2) : Fn3)) (by rw [bkN_L]; exact hn) (bkL_mem h)
theorem Mid.step {K : PySem.W.Frag} {H0 H H' : Hp} {pa wa na po fo : Addr} {names : List Str} {k : Nat} {ps : PlP} {ad : Str → Addr} {n m : Nat} (M : Mid K H0 H pa wa na po fo names k ps ad n) (e : exP pa H H') (p : Pen K H' pa m) (wp : wa ≠ pa) (np : na ≠ pa) (pp : po ≠ pa) (fp : fo ≠ pa) : Mid K H0 H' pa wa na po fo names k ps ad m := by
  obtain ⟨qs, g1, g2, g3, g4⟩ := M.pool
  obtain ⟨a, b, c, hw⟩ := M.wd
  refine ⟨M.ex.trans e, p, M.aw.step e, M.af.step e, ⟨a, b, c, e.but _ _ hw wp⟩, e.but _ _ M.nm np, ⟨qs, e.but _ _ g1 pp, g2, g3, fun p hp => ?_⟩, e.but _ _ M.fod fp, M.part, fun p hp => (M.dat p hp).mono (hideL_p List.mem_cons_self e)⟩
  obtain ⟨ds, y1, y2, y3⟩ := g4 p hp
  exact ⟨ds, y1.mono (hideL_p List.mem_cons_self e), y2, y3⟩
def sp_plain (K : PySem.W.Frag) : Sp := fun vs H Q _ => ∃ (pa : Addr) (many n : Nat), vs = [.ref pa, .int (many : Nat)] ∧ 1 ≤ many ∧ many ≤ 5 ∧ n + cpl ≤ 550000 ∧ Pen K H pa n ∧ ∀ fo ps ad H', PlainD ps → H fo = none → H' fo = some (.dK (bkV (bkL ps ad))) → (∀ p ∈ ps, D K (hideL [pa, fo] H') (.ref (ad p.1)) (.list p.2)) → exP pa H H' → Pen K H' pa (n + cpl) → Q (.ref fo) H'
section
variable {P : Program} {w : World} {K : PySem.W.Frag} {mg : Str → Option Value} {base : Heap} {f : Addr} {fd : FuncData}
abbrev nm_plain : List Str := ["_law_pen_here", "_law_many", "_law_names", "_law_world", "_law_k", "_law_found", "_law_lines_here", "_law_is_full", "_law_j", "_law_some"]
theorem sc_plain : FnScope nm_plain ["_law_pen_here", "_law_many"] (defScope s_plain) := ⟨rfl, rfl, rfl, by decide +kernel, rfl, by decide +kernel, by decide +kernel⟩
theorem ok_plain {j : Nat} (F : Fun K "_law_plain" "_law_plain" s_plain f fd) (G : Gb mg) (G2 : Gb2 mg) (c1 : Cl P w K mg base CX0 1 "_law_draw" (sp_draw K)) (c2 : Cl P w K mg base CX0 2 "_law_pick" (sp_pick K)) (c3 : Cl P w K mg base CX0 3 "_law_words" (sp_words K)) (c4 : Cl P w K mg base CX0 4 "_law_plain_line" (sp_pline K))
    (c5 : Cl P w K mg base CX0 j "_law_lines" (sp_lines K)) (hj : 4 ≤ j) : FnOk P w K mg base CX0 (j + 1) f fd ["_law_pen_here", "_law_many"] (sp_plain K) := by
  refine F.ok sc_plain (fun vs H Q E h => ?_) (fun cdv A outer s H vs Q E hr h => ⟨RB _ _, pss_RB, ?_⟩)
  · obtain ⟨_, _, _, rfl, _⟩ := h; rfl
  obtain ⟨pa, many, n, rfl, hm1, hm5, hn, pen, q⟩ := h
  have hcpl : cpl = 200 + 6 * (cl + 40) := rfl
  -- the names
  refine rb_cons <| rs_set 2 (by exact sc_plain.nd) <| re_call c3 hr (hk := by omega) <| ra_cons <| re_var 0 rfl <| ra_cons <| re_add <| re_int <| re_call c1 hr (hk := by omega) <| ra_cons <| re_var 0 rfl <| ra_cons <| re_var 1 rfl <| ra_nil ⟨pa, (many : Nat), n, rfl, by omega, by omega, by omega, pen, fun r H1 r0 r1 e1 pen1 => ?_⟩
  obtain ⟨rn, rfl⟩ := Int.eq_ofNat_of_zero_le r0
  refine ⟨1, (rn : Nat), rfl, rfl, ra_nil ⟨pa, 1 + rn, n + 1, by rw [show (1 : Int) + (rn : Nat) = ((1 + rn : Nat) : Int) by omega], by omega, pen1, fun l2 ws H2 hws hl2 h2 e2 pen2 => ?_⟩⟩
  have nl2 : l2 ≠ pa := (pen1.ne_new hl2).symm
  -- the world
  refine rb_cons <| rs_set 3 (by exact sc_plain.nd) <| re_disp fun wa hwa => rp_cons <| re_str <| re_op op_cat <| re_lst <| ra_cons <| re_str <| ra_nil ⟨Nat.le_of_ble_eq_true rfl, fun p3 H3 hp3 e3 h3 => re_var 2 rfl ⟨p3, l2, _, ws.map V.str, rfl, rfl, h3, ?_, szl (by rw [List.length_map]; have := hws.2.2.2; show 1 + ws.length ≤ 90000; omega), fun na hna => ?_⟩⟩
  · refine e3 _ _ ?_
    rw [upd_ne fun z => by rw [z, hwa] at h2; cases h2]; exact h2
  have hH3 : H3 = H3 := rfl
  have a2 : Ex H2 (upd H2 wa (.dK [])) := Ex.new hwa
  have a3 : Ex H2 H3 := a2.trans e3
  have w3 : H3 wa = some (.dK []) := e3 _ _ upd_same
  have a4 : Ex H3 (upd H3 na (.lst ([V.str "main"] ++ ws.map V.str))) := Ex.new hna
  have n4 : upd H3 na (.lst ([V.str "main"] ++ ws.map V.str)) na = some (.lst ((("main" : Str) :: ws).map V.str)) := upd_same
  generalize upd H3 na (.lst ([V.str "main"] ++ ws.map V.str)) = H4 at *
  refine rp_cons <| re_str <| re_lst <| ra_nil ⟨Nat.le_of_ble_eq_true rfl, fun po H5 hpo e5 h5 => rp_cons <| re_str <| re_int <| rp_cons <| re_str <| re_bl <| rp_cons <| re_str <| re_lst <| ra_nil ⟨Nat.le_of_ble_eq_true rfl, fun l6 H6 hl6 e6 h6 => rp_nil ⟨e6 _ _ (e5 _ _ (a4 _ _ w3)), wdV na po 0 true l6, rfl, Nat.le_of_ble_eq_true rfl, ?_⟩⟩⟩
  show RB _ _ _ _ (upd H6 wa (.dK (wdV na po 0 true l6)))
  have hw6 : H6 wa = some (.dK []) := e6 _ _ (e5 _ _ (a4 _ _ w3))
  have wpa : wa ≠ pa := (pen2.ne_new hwa).symm
  let names : List Str := ("main" : Str) :: ws
  have hnames : names = ("main" : Str) :: ws := rfl
  have b26 : Ex H2 H6 := a3.trans (a4.trans (e5.trans e6))
  have e06 : exP pa H H6 := ((e1.trans e2).trans (exP.of b26))
  have pen6 : Pen K H6 pa (n + 11) := pen2.mono b26
  have hw0 : H wa = none := by
    have e12 := e1.trans e2
    exact e12.back hwa wpa
  have ex6 : exP pa H (upd H6 wa (.dK (wdV na po 0 true l6))) := e06.mut hw0 wpa.symm
  have aw6 : Away H6 pa wa := (pen2.away hwa).step (exP.of b26)
  have pen7 := pen6.mut (o := .dK (wdV na po 0 true l6)) aw6 wpa.symm
  have aw7 := aw6.mut (o := .dK (wdV na po 0 true l6)) wpa.symm
  have h7w : upd H6 wa (.dK (wdV na po 0 true l6)) wa = some (.dK (wdV na po 0 true l6)) := upd_same
  have h7n : upd H6 wa (.dK (wdV na po 0 true l6)) na = some (.lst (names.map V.str)) := by
    have := e6 _ _ (e5 _ _ n4)
    rw [upd_ne (ne_kind this hw6 (fun z => nomatch z))]; exact this
  have h7p : upd H6 wa (.dK (wdV na po 0 true l6)) po = some (.lst []) := by
    have := e6 _ _ h5
    rw [upd_ne (ne_kind this hw6 (fun z => nomatch z))]; exact this
  have apo : Away (upd H6 wa (.dK (wdV na po 0 true l6))) pa po := (((pen2.mono (a3.trans a4)).away hpo).step (exP.of (e5.trans e6))).put wpa.symm
  have hpo0 : H po = none := by
    have c4 : exP pa H H4 := (e1.trans e2).trans (exP.of (a3.trans a4))
    exact c4.back hpo ((pen2.mono (a3.trans a4)).ne_new hpo).symm
  have ppo : po ≠ pa := ((pen2.mono (a3.trans a4)).ne_new hpo).symm
  have nao : na ≠ po := ne_of_none (H := H4) n4 hpo
  have okn : Nms names := ⟨fun f hf => by
    rcases List.mem_cons.mp hf with rfl | hf
    · exact isWord_main
    · exact (hws.1 f hf).1, by rw [hnames, List.length_cons]; have := hws.2.2.2; omega⟩
  have nml : names.length = ws.length + 1 := rfl
  have nm6 : names.length ≤ 6 := by have := hws.2.2.1; omega
  have nnd : names.Nodup := List.nodup_cons.mpr ⟨fun z => (hws.1 _ z).2 rfl, hws.2.1⟩
  have eqn : (("main" : Str) :: ws).map V.str = names.map V.str := rfl
  generalize upd H6 wa (.dK (wdV na po 0 true l6)) = H7 at *
  -- the pool
  refine rb_cons <| rs_for (g := gName 4) PassesOwn.never rfl (pg_name (i := 4) (by exact sc_plain.nd) rfl (Or.inl rfl)) good_name ?_
  refine ri_range (n := 0) G2.range <| ra_cons <| re_int <| ra_nil ⟨3, rfl, by decide, by decide, ?_⟩
  refine ⟨_, _, _, fun i σ' H' => ∃ (x4 : Option V) (qs : List Addr), σ' = [some (.ref pa), some (.int (many : Nat)), some (.ref l2), some (.ref wa), x4, none, none, none, none, none] ∧ exP pa H H' ∧ Pen K H' pa (n + 11 + 28 * i) ∧ Away H' pa wa ∧ Away H' pa po ∧ H' wa = some (.dK (wdV na po 0 true l6)) ∧ H' na = some (.lst (names.map V.str)) ∧ H' po = some (.lst (qs.map V.ref)) ∧ qs.length = i ∧ ∀ p ∈ qs, ∃ ds, D K (hideL [pa, wa, po] H') (.ref p) (.list ds) ∧ (∀ d ∈ ds, PWd names d) ∧ ds.length ≤ 10, walk_range, ?_, fun _ _ _ _ _ => trivial, ?_, ?_⟩
  · exact ⟨_, [], rfl, ex6, pen7, aw7, apo, h7w, h7n, h7p, rfl, fun _ h => nomatch h⟩
  · rintro i x σ' Ha Hb hi ⟨x4, qs, rfl, ex, pe, aw, ap, hw, hn', hp', hql, hqs⟩ ⟨rfl, rfl⟩
    have hi3 : i < 3 := hi
    have wn : Wn K Hb pa wa na names (n + 11 + 28 * i) := ⟨pe, ⟨_, hw, rfl⟩, wpa, hn', okn, by omega⟩
    have npa : na ≠ pa := by
      obtain ⟨kvs, hpa⟩ := pe.dict
      exact ne_kind hn' hpa (fun z => nomatch z)
    refine rb_one <| rs_expr <| re_append <| re_dget (hu_of hr) <| re_var 3 rfl <| re_str ⟨wa, _, .inr "pool", .ref po, rfl, hw, rfl, rfl, po, rfl, ⟨_, hp'⟩, ?_⟩
    refine re_lcS (own := [("_law_j", 8)]) (g := gName 8) rfl (by exact sc_plain.nd) (blkOk_by (N := nm_plain) (sc := defScope s_plain) (by decide +kernel)) (fun _ _ _ _ _ => pg_name (i := 8) (by exact sc_plain.nd) rfl (Or.inl rfl)) good_name ?_
    refine ri_range (n := 0) G2.range <| ra_cons <| re_add <| re_int <| re_call c1 hr (hk := by omega) <| ra_cons <| re_var 0 rfl <| ra_cons <| re_int <| ra_nil ⟨pa, 3, _, rfl, by decide, by decide, ?_, pe, fun r Hc r0 r1 ec penc => ⟨2, r, rfl, rfl, ra_nil ⟨2 + r, rfl, by omega, by omega, ?_⟩⟩⟩
    · omega
    have wnc := wn.step ec penc
    have hpc : Hc po = some (.lst (qs.map V.ref)) := ec.but _ _ hp' ppo
    have hwc : Hc wa = some (.dK (wdV na po 0 true l6)) := ec.but _ _ hw wpa
    obtain ⟨m, hm⟩ : ∃ m, n + 11 + 28 * i + 1 = m := ⟨_, rfl⟩
    rw [hm] at penc wnc
    have newS : ∀ {t : Addr} {H' : Hp}, exP pa Hc H' → Pen K H' pa 700000 → H' t = none → t ∉ [pa, wa, po] := fun {t H'} e pe h z => by
      obtain ⟨kvs, hpa⟩ := pe.dict
      simp only [List.mem_cons, List.not_mem_nil, or_false] at z
      rcases z with z | z | z
      · rw [z, hpa] at h; cases h
      · rw [z, e.but _ _ hwc wpa] at h; cases h
      · rw [z, e.but _ _ hpc ppo] at h; cases h
    refine ⟨_, _, _, fun Dl i H' acc => ∃ ds, DA K (hideL [Dl, pa, wa, po] H') acc ds ∧ ds.length = i ∧ (∀ d ∈ ds, PWd names d) ∧ exP pa Hc H' ∧ Pen K H' pa (m + 6 * i) ∧ Away H' pa Dl, walk_range, by omega, fun _ _ _ _ _ => trivial, fun Dl hD => ?_, ?_, ?_⟩
    · have nD : Dl ≠ pa := fun z => newS exP.refl (penc.upto (by omega)) hD (by rw [z]; exact List.mem_cons_self)
      exact ⟨[], .nil, rfl, (fun _ h => nomatch h), (exP.refl).mut hD nD.symm, penc.mut (penc.away hD) nD.symm, (penc.away hD).mut nD.symm⟩
    · rintro Dl i' x H5 H6 acc hD hi' hDl hlen5 ⟨ds, hda5, hdl, hpw, e5, pen5, aw5⟩ ⟨rfl, rfl⟩
      have hi4 : i' < 4 := by omega
      have neD : Dl ≠ pa := fun z => newS exP.refl (penc.upto (by omega)) hD (by rw [z]; exact List.mem_cons_self)
      refine ⟨rfl, fun s0 H0 C cl fp => ?_⟩
      refine re_call c4 hr (hk := by omega) <| ra_cons <| re_var 0 rfl <| ra_cons <| re_var 3 rfl <| ra_nil ⟨pa, wa, na, names, m + 6 * i', rfl, by omega, wnc.step e5 pen5, fun t d xs H7 hpd hdt hda ht0 ht1 e7 pen7 => ?_⟩
      have hD7 : H7 Dl = some (.lst acc) := e7.but _ _ hDl neD
      have tD : t ≠ Dl := fun z => by rw [z, hDl] at ht0; cases ht0
      have tS := newS e5 (pen5.upto (by omega)) ht0
      have tS' : t ∉ [Dl, pa, wa, po] := fun z => by
        rcases List.mem_cons.mp z with z | z
        · exact tD z
        · exact tS z
      refine ⟨hD7, ds ++ [d], ?_, by rw [List.length_append, hdl]; rfl, fun y hy => ?_, (e5.trans e7).mut hD neD.symm, (pen7.upto (by omega)).mut (aw5.step e7) neD.symm, (aw5.step e7).mut neD.symm⟩
      · refine DA.app (hda5.mono (hideL_ex fun b o hb hn => ?_)) (.cons ?_ .nil)
        · rw [upd_ne fun z => hn (by rw [z]; exact List.mem_cons_self)]
          exact e7.but _ _ hb fun z => hn (by rw [z]; exact List.mem_cons_of_mem _ List.mem_cons_self)
        · rw [hdt]
          exact tupAt tS' (by rw [upd_ne tD]; exact ht1) (hda _)
      · rcases List.mem_append.mp hy with hy | hy
        · exact hpw y hy
        · rw [List.mem_singleton.mp hy]; exact hpd
    rintro Dl acc H5 hD hDl hlen5 ⟨ds, hda5, hdl, hpw, e5, pen5, aw5⟩
    have nS := newS exP.refl (penc.upto (by omega)) hD
    have hp5 : H5 po = some (.lst (qs.map V.ref)) := e5.but _ _ hpc ppo
    have nDp : Dl ≠ po := fun z => nS (by rw [z]; simp)
    have r4 : (2 + r).toNat ≤ 4 := by omega
    have ec5 : exP pa Hb H5 := ec.trans e5
    refine ⟨_, hp5, szlt (by rw [List.length_map]; omega), ?_⟩
    have poH : exP pa H (upd H5 po (.lst (qs.map V.ref ++ [.ref Dl]))) := (ex.trans ec5).mut hpo0 ppo.symm
    have ap5 := ap.step ec5
    refine ⟨_, qs ++ [Dl], rfl, poH, (pen5.upto (by omega)).mut ap5 ppo.symm, (aw.step ec5).put ppo.symm, ap5.mut ppo.symm, ?_, ?_, by rw [List.map_append]; exact upd_same, by rw [List.length_append, hql]; rfl, fun p hp => ?_⟩
    · rw [upd_ne (ne_kind hw hp' (fun z => nomatch z))]; exact ec5.but _ _ hw wpa
    · rw [upd_ne nao]; exact ec5.but _ _ hn' npa
    have eU : Ex (hideL [pa, wa, po] H5) (hideL [pa, wa, po] (upd H5 po (.lst (qs.map V.ref ++ [.ref Dl])))) := hideL_ex fun b o hb hn => by
      rw [upd_ne fun z => hn (by rw [z]; simp)]; exact hb
    rcases List.mem_append.mp hp with hp | hp
    · obtain ⟨es, g1, g2, g3⟩ := hqs p hp
      exact ⟨es, (g1.mono (hideL_p List.mem_cons_self ec5)).mono eU, g2, g3⟩
    · rw [List.mem_singleton.mp hp]
      exact ⟨ds, .lst (.inl (.inl (eU _ _ (hideL_at nS hDl)))) ((hda5.mono (hideL_sub fun x hx => List.mem_cons_of_mem _ hx)).mono eU), hpw, by omega⟩
  rintro σ' H8 ⟨x4, qs, rfl, ex8, pe8, aw8, ap8, hw8, hn8, hp8, hql, hqs⟩
  -- the functions
  refine rb_cons <| rs_set 5 (by exact sc_plain.nd) <| re_dnew fun fo H9 hfo e9 h9 => ?_
  have fopa : fo ≠ pa := (pe8.ne_new hfo).symm
  have hfo0 : H fo = none := ex8.back hfo fopa
  have npa : na ≠ pa := by
    obtain ⟨kvs, hpa⟩ := pe8.dict
    exact ne_kind hn8 hpa (fun z => nomatch z)
  have w9 : H9 wa = some (.dK (wdV na po 0 true l6)) := e9 _ _ hw8
  have fowa : fo ≠ wa := (ne_of_none hw8 hfo).symm
  refine rb_cons <| rs_for (g := gName 4) PassesOwn.never rfl (pg_name (i := 4) (by exact sc_plain.nd) rfl (Or.inl rfl)) good_name ?_
  refine ri_range (n := 0) G2.range <| ra_cons <| re_cb call_len G.len <| ra_cons <| re_dget (hu_of hr) <| re_var 3 rfl <| re_str ⟨wa, _, .inr "names", .ref na, rfl, w9, rfl, rfl, ra_nil ⟨_, names.length, rfl, .inl ⟨_, .inl (.inl (e9 _ _ hn8)), (List.length_map ..).symm⟩, ra_nil ⟨(names.length : Nat), rfl, by omega, by omega, ?_⟩⟩⟩
  refine ⟨_, _, _, fun k σ' H' => ∃ (x4 x6 x7 : Option V) (ps : PlP) (ad : Str → Addr), σ' = [some (.ref pa), some (.int (many : Nat)), some (.ref l2), some (.ref wa), x4, some (.ref fo), x6, x7, none, none] ∧ Mid K H H' pa wa na po fo names k ps ad (n + 95 + k * (cl + 40)), walk_range, ?_, fun _ _ _ _ _ => trivial, ?_, ?_⟩
  · refine ⟨_, _, _, [], fun _ => 0, rfl, ex8.trans (exP.of e9), (pe8.mono e9).upto (by omega), aw8.step (exP.of e9), (pe8.away hfo).step (exP.of e9), ⟨_, _, _, w9⟩, e9 _ _ hn8, ⟨qs, e9 _ _ hp8, by omega, by omega, fun p hp => ?_⟩, h9, ⟨rfl, (fun _ h => nomatch h), (fun _ h => nomatch h), Nat.zero_le _⟩, fun _ h => nomatch h⟩
    obtain ⟨ds, g1, g2, g3⟩ := hqs p hp
    refine ⟨ds, g1.mono (fun b o hb => ?_), g2, g3⟩
    obtain ⟨hb1, hb2⟩ := hideL_of hb
    refine hideL_at (fun z => ?_) (e9 _ _ hb2)
    simp only [List.mem_cons, List.not_mem_nil, or_false, not_or] at z hb1
    rcases z with z | z | z
    · exact hb1.1 z
    · exact hb1.2.1 z
    · rw [z, hfo] at hb2; cases hb2
  · rintro k x σ' Ha Hb hk ⟨x4, x6, x7, ps, ad, rfl, M⟩ ⟨rfl, hx⟩
    have hx : x = .int (k : Nat) := by rw [hx]; show V.int (0 + (k : Int)) = _; rw [Int.zero_add]
    subst hx
    have hk : k < names.length := hk
    have hkm : (k + 1) * (cl + 40) ≤ 6 * (cl + 40) := Nat.mul_le_mul_right _ (by omega)
    have hk1 : (k + 1) * (cl + 40) = k * (cl + 40) + (cl + 40) := Nat.succ_mul _ _
    obtain ⟨m0, hm0⟩ : ∃ m, n + 95 + k * (cl + 40) = m := ⟨_, rfl⟩
    rw [hm0] at M
    obtain ⟨at0, q0, la0, hwd⟩ := M.wd
    obtain ⟨kvs0, hpa0⟩ := M.pen.dict
    -- the world
    refine rb_cons <| rs_expr <| re_update <| re_var 3 rfl ⟨wa, rfl, ⟨_, hwd⟩, re_disp fun dp hdp => rp_cons <| re_str <| re_var 4 rfl <| rp_cons <| re_str <| re_cmp op_eq <| re_call c1 hr (hk := by omega) <| ra_cons <| re_var 0 rfl <| ra_cons <| re_int <| ra_nil ⟨pa, 4, m0, rfl, by decide, by decide, by omega, M.pen.mono (Ex.new hdp), fun r Hc r0 r1 ec penc => re_int ⟨rfl, rp_cons <| re_str <| re_call c3 hr (hk := by omega) <| ra_cons <| re_var 0 rfl <| ra_cons <| re_int <| ra_nil ⟨pa, 12, m0 + 1, rfl, by omega, penc, fun la L Hd hL hla hld ed pend => ?_⟩⟩⟩⟩
    have dppa : dp ≠ pa := (M.pen.ne_new hdp).symm
    have hdc : Hc dp = some (.dK []) := ec.but _ _ upd_same dppa
    have hdd : Hd dp = some (.dK []) := ed.but _ _ hdc dppa
    obtain ⟨lost, hlost⟩ : ∃ b, decide (V.int r = V.int 0) = b := ⟨_, rfl⟩
    rw [hlost]
    refine rp_nil ⟨hdd, [(.inr "at", .int (k : Nat)), (.inr "lost", .bl lost), (.inr "labels", .ref la)], rfl, Nat.le_of_ble_eq_true rfl, ?_⟩
    have lapa : la ≠ pa := (penc.ne_new hla).symm
    have edp : exP pa (upd Hb dp (.dK [])) Hd := ec.trans ed
    have ebd : exP pa Hb Hd := (exP.of (Ex.new hdp)).trans edp
    have hwdd : Hd wa = some (.dK (wdV na po at0 q0 la0)) := ebd.but _ _ hwd wpa
    have dpwa : dp ≠ wa := (ne_of_none hwd hdp).symm
    refine ⟨dp, wdV na po at0 q0 la0, mergeK [] [(.inr "at", .int (k : Nat)), (.inr "lost", .bl lost), (.inr "labels", .ref la)], rfl, by rw [upd_ne dpwa.symm]; exact hwdd, upd_same, dpwa.symm, Nat.le_of_ble_eq_true rfl, Nat.le_of_ble_eq_true rfl, ?_⟩
    show RB _ _ _ _ (upd (upd Hd dp (.dK [(.inr "at", .int (k : Nat)), (.inr "lost", .bl lost), (.inr "labels", .ref la)])) wa (.dK [(.inr "names", .ref na), (.inr "pool", .ref po), (.inr "at", .int (k : Nat)), (.inr "lost", .bl lost), (.inr "labels", .ref la)]))
    rw [show lost = !(!lost) from (Bool.not_not lost).symm]
    generalize (!lost) = q' at *
    show RB _ _ _ _ (upd (upd Hd dp (.dK [(.inr "at", .int (k : Nat)), (.inr "lost", .bl !q'), (.inr "labels", .ref la)])) wa (.dK (wdV na po k q' la)))
    have hbn : ∀ {b : Addr} {o : HO}, Hb b = some o → b ≠ pa → b ≠ wa → upd (upd Hd dp (.dK [(.inr "at", .int (k : Nat)), (.inr "lost", .bl !q'), (.inr "labels", .ref la)])) wa (.dK (wdV na po k q' la)) b = some o := fun {b o} hb n1 n2 => by
      rw [upd_ne n2, upd_ne (ne_of_none hb hdp)]
      exact ebd.but _ _ hb n1
    have hde : upd (upd Hd dp (.dK [(.inr "at", .int (k : Nat)), (.inr "lost", .bl !q'), (.inr "labels", .ref la)])) wa (.dK (wdV na po k q' la)) wa = some (.dK (wdV na po k q' la)) := upd_same
    have lawa : la ≠ wa := fun z => by
      have := ec.but _ _ ((Ex.new hdp) _ _ hwd) wpa
      rw [z, this] at hla; cases hla
    have ladp : la ≠ dp := fun z => by rw [z, hdc] at hla; cases hla
    have hlae : upd (upd Hd dp (.dK [(.inr "at", .int (k : Nat)), (.inr "lost", .bl !q'), (.inr "labels", .ref la)])) wa (.dK (wdV na po k q' la)) la = some (.lst (L.map V.str)) := by
      rw [upd_ne lawa, upd_ne ladp]; exact hld
    have hdp0 : H dp = none := M.ex.back hdp dppa
    have exe : exP pa H (upd (upd Hd dp (.dK [(.inr "at", .int (k : Nat)), (.inr "lost", .bl !q'), (.inr "labels", .ref la)])) wa (.dK (wdV na po k q' la))) := ((M.ex.trans ebd).mut hdp0 dppa.symm).mut hw0 wpa.symm
    have awd : Away Hd pa wa := M.aw.step ebd
    have adp : Away Hd pa dp := (M.pen.away hdp).step ebd
    have pene := (pend.mut (o := .dK [(.inr "at", .int (k : Nat)), (.inr "lost", .bl !q'), (.inr "labels", .ref la)]) adp dppa.symm).mut (o := .dK (wdV na po k q' la)) (awd.put dppa.symm) wpa.symm
    have awe : Away (upd (upd Hd dp (.dK [(.inr "at", .int (k : Nat)), (.inr "lost", .bl !q'), (.inr "labels", .ref la)])) wa (.dK (wdV na po k q' la))) pa wa := (awd.put dppa.symm).put wpa.symm
    have afe : Away (upd (upd Hd dp (.dK [(.inr "at", .int (k : Nat)), (.inr "lost", .bl !q'), (.inr "labels", .ref la)])) wa (.dK (wdV na po k q' la))) pa fo := ((M.af.step ebd).put dppa.symm).put wpa.symm
    have ale : Away (upd (upd Hd dp (.dK [(.inr "at", .int (k : Nat)), (.inr "lost", .bl !q'), (.inr "labels", .ref la)])) wa (.dK (wdV na po k q' la))) pa la := (((penc.away hla).step ed).put dppa.symm).put wpa.symm
    have hlaB : ∀ {b : Addr} {o : HO}, Hb b = some o → b ≠ pa → b ≠ la := fun {b o} hb n1 z => by
      have := ec.but _ _ ((Ex.new hdp) _ _ hb) n1
      rw [z, hla] at this; cases this
    generalize upd (upd Hd dp (.dK [(.inr "at", .int (k : Nat)), (.inr "lost", .bl !q'), (.inr "labels", .ref la)])) wa (.dK (wdV na po k q' la)) = He at *
    have hla0 : H la = none := by
      cases hh : H la with
      | none => rfl
      | some o => exact absurd rfl (hlaB (M.ex.but _ _ hh lapa) lapa)
    obtain ⟨qs', hpo', hq0, hq3, hqd⟩ := M.pool
    have npo : po ≠ wa := ne_kind hpo' hwd (fun z => nomatch z)
    have nna : na ≠ wa := ne_kind M.nm hwd (fun z => nomatch z)
    have W : Wd K He pa wa la na po names k q' L (m0 + 11) := ⟨pene.upto (by omega), ale, hde, wpa, hbn M.nm npa nna, hlaB M.nm npa, hlaB hpo' ppo, ⟨qs', hbn hpo' ppo npo, hq0, hq3, fun p hp => by
      obtain ⟨ds, g1, g2, g3⟩ := hqd p hp
      refine ⟨ds, g1.mono (fun b o hb => ?_), g2, g3⟩
      obtain ⟨hb1, hb2⟩ := hideL_of hb
      simp only [List.mem_cons, List.not_mem_nil, or_false, not_or] at hb1
      exact hideL_at (by simp only [List.mem_cons, List.not_mem_nil, or_false, not_or]; exact ⟨hb1.1, hb1.2.1, hlaB hb2 hb1.1⟩) (hbn hb2 hb1.1 hb1.2.1)⟩, hlae, okn, hk, ⟨fun s hs => (hL.1 s hs).1, hL.2.1, by have := hL.2.2.2; omega⟩⟩
    -- its lines
    refine rb_cons <| rs_set 6 (by exact sc_plain.nd) <| re_call c5 hr (hk := Nat.le_refl _) <| ra_cons <| re_var 0 rfl <| ra_cons <| re_var 3 rfl <| ra_nil ⟨pa, wa, la, na, po, names, k, q', L, m0 + 11, rfl, by omega, W, fun l xs ds L' Hf hwh h40 hl hlx hda ew Wf => ?_⟩
    have nl := W.newp hl
    have lS : l ∉ [pa, wa, la] := W.new hl
    have hbf : ∀ {b : Addr} {o : HO}, Hb b = some o → b ≠ pa → b ≠ wa → Hf b = some o := fun {b o} hb n1 n2 => ew _ _ (hbn hb n1 n2) n1 (hlaB hb n1)
    have eS : Ex (hideL [pa, wa, fo] Hb) (hideL [pa, wa, fo] Hf) := hideL_ex fun b o hb hn => by
      simp only [List.mem_cons, List.not_mem_nil, or_false, not_or] at hn
      exact hbf hb hn.1 hn.2.1
    have Mf : Mid K H Hf pa wa na po fo names k ps ad (m0 + 11 + cl) := ⟨exe.w ew hla0, Wf.pen, awe.stepW ew, afe.stepW ew, ⟨_, _, _, Wf.wd⟩, Wf.nm, ⟨qs', hbf hpo' ppo npo, hq0, hq3, fun p hp => by
      obtain ⟨ds, g1, g2, g3⟩ := hqd p hp
      exact ⟨ds, g1.mono eS, g2, g3⟩⟩, hbf M.fod fopa fowa, M.part, fun p hp => (M.dat p hp).mono eS⟩
    have lfo : l ≠ fo := fun z => by
      have := hbn M.fod fopa fowa
      rw [← z, hl] at this; cases this
    have hdl : D K (hideL [pa, wa, fo] Hf) (.ref l) (.list ds) := by
      refine .lst (.inl (.inl (hideL_at ?_ hlx))) (DA.lines hwh.ok hda fun a ys hs => sqt_ex (fun a o ho zs hz => ?_) hs)
      · simp only [List.mem_cons, List.not_mem_nil, or_false, not_or] at lS ⊢
        exact ⟨lS.1, lS.2.1, lfo⟩
      · obtain ⟨h1, h2⟩ := hideL_of ho
        refine hideL_at (fun z => ?_) h2
        simp only [List.mem_cons, List.not_mem_nil, or_false, not_or] at h1 z
        rcases z with z | z | z
        · exact h1.1 z
        · exact h1.2.1 z
        · rw [z, Mf.fod] at h2
          rcases hz with rfl | ⟨ob, rfl⟩
          · cases h2
          · cases h2
    -- or those of another one
    refine rb_cons <| rs_ifJ (fun σ' H' => ∃ l ds, σ' = [some (.ref pa), some (.int (many : Nat)), some (.ref l2), some (.ref wa), some (.int (k : Nat)), some (.ref fo), some (.ref l), x7, none, none] ∧ Mid K H H' pa wa na po fo names k ps ad (m0 + 20 + cl) ∧ D K (hideL [pa, wa, fo] H') (.ref l) (.list ds) ∧ (∃ q, Whole q names ds) ∧ ds.length ≤ 40) ?_ ?_
    · have keep : ∀ {H' : Hp} {m : Nat}, exP pa Hf H' → Pen K H' pa m → m ≤ m0 + 20 + cl → Mid K H H' pa wa na po fo names k ps ad (m0 + 20 + cl) := fun {H' m} e pe hm => Mf.step e (pe.upto hm) wpa npa ppo fopa
      have same : ∀ {H' : Hp} {m : Nat}, exP pa Hf H' → Pen K H' pa m → m ≤ m0 + 20 + cl → ∃ l' ds', [some (V.ref pa), some (.int (many : Nat)), some (.ref l2), some (.ref wa), some (.int (k : Nat)), some (.ref fo), some (.ref l), x7, none, none] = [some (V.ref pa), some (.int (many : Nat)), some (.ref l2), some (.ref wa), some (.int (k : Nat)), some (.ref fo), some (.ref l'), x7, none, none] ∧ Mid K H H' pa wa na po fo names k ps ad (m0 + 20 + cl) ∧ D K (hideL [pa, wa, fo] H') (.ref l') (.list ds') ∧ (∃ q, Whole q names ds') ∧ ds'.length ≤ 40 := fun {H' m} e pe hm =>
        ⟨l, ds, rfl, keep e pe hm, hdl.mono (hideL_p List.mem_cons_self e), ⟨q', hwh⟩, h40⟩
      refine rt_w <| rw_and <| rt_cmp op_gt <| re_var 4 rfl <| re_int ⟨(k : Nat), 1, rfl, rfl, _, rfl, ifB (fun e => ?_) fun e => ifF (rb_nil (same exP.refl Mf.pen (by omega)))⟩
      have hk1' : 1 < k := by
        have := of_decide_eq_true e
        omega
      refine rw_and1 <| rt_cmp op_eq <| re_call c1 hr (hk := by omega) <| ra_cons <| re_var 0 rfl <| ra_cons <| re_int <| ra_nil ⟨pa, 4, _, rfl, by decide, by decide, ?_, Mf.pen, fun r2 Hg r20 r21 eg peng => re_int ⟨rfl, _, rfl, ifB (fun er => ?_) fun er => rb_nil (same eg peng (by omega))⟩⟩
      · omega
      have Mg := keep eg peng (by omega)
      obtain ⟨at1, q1, la1, hwg⟩ := Mg.wd
      refine rb_one <| rs_set 6 (by exact sc_plain.nd) <| re_ct call_list_of G.list <| ra_cons <| re_dget (hu_of hr) <| re_var 5 rfl <| re_call c2 hr (hk := by omega) <| ra_cons <| re_var 0 rfl <| ra_cons <| re_lmid <| re_dget (hu_of hr) <| re_var 3 rfl <| re_str ⟨wa, _, .inr "names", .ref na, rfl, hwg, rfl, rfl, re_int ⟨1, rfl, re_var 4 rfl ⟨(k : Nat), rfl, na, _, rfl, .inl (.inl Mg.nm), fun p hp => ra_nil ⟨pa, p, cutV (names.map V.str) (some 1) (some (k : Int)), _, rfl, .inl (.inl upd_same), ?_, ?_, ?_, peng.mono (Ex.new hp), fun v Hh hv eh penh => ?_⟩⟩⟩⟩
      · rw [cut_mid (by omega), List.length_map, List.length_drop, List.length_take]; omega
      · rw [cut_mid (by omega), List.length_map, List.length_drop, List.length_take]; omega
      · omega
      rw [cut_mid (by omega)] at hv
      obtain ⟨nm, hnm, rfl⟩ := List.mem_map.mp hv
      have hnm2 : nm ∈ ps.map (·.1) := by rw [M.part.nm]; exact List.mem_of_mem_drop hnm
      obtain ⟨p2, hp2, rfl⟩ := List.mem_map.mp hnm2
      have egh : exP pa Hf Hh := eg.trans ((exP.of (Ex.new hp)).trans eh)
      have Mh := keep egh (penh.upto (Nat.le_refl _)) (by omega)
      have hnd : (ps.map (·.1)).Nodup := by rw [M.part.nm]; exact nnd.sublist (List.take_sublist _ _)
      have hdh := Mh.dat p2 hp2
      refine ⟨fo, _, .inr p2.1, .ref (ad p2.1), rfl, Mh.fod, rfl, bkL_val hnd hp2, ?_⟩
      cases hdh with
      | lst a b =>
        rename_i ys
        refine ra_nil ⟨ad p2.1, ys, rfl, .inl (Evl.ex_l hideL_ex0 a), fun l' hl' => ?_⟩
        have en : Ex Hh (upd Hh l' (.lst ys)) := Ex.new hl'
        have l'S : l' ∉ [pa, wa, fo] := fun z => by
          simp only [List.mem_cons, List.not_mem_nil, or_false] at z
          rcases z with z | z | z
          · exact (Mh.pen.ne_new hl').symm z
          · obtain ⟨_, _, _, hh⟩ := Mh.wd; rw [z, hh] at hl'; cases hl'
          · rw [z, Mh.fod] at hl'; cases hl'
        exact ⟨l', p2.2, rfl, Mh.step (exP.of en) (Mh.pen.mono en) wpa npa ppo fopa, .lst (.inl (.inl (hideL_at l'S upd_same))) (b.mono (hideL_e en)), M.part.whole p2 hp2, M.part.l40 p2 hp2⟩
    rintro σ' Hg ⟨l, ds, rfl, Mg, hdg, hwg, hlg⟩
    clear hdl lfo eS hbf lS nl hda hlx ew Wf Mf hwh h40 hl
    -- full?
    refine rb_cons <| rs_set 7 (by exact sc_plain.nd) <| re_cmp op_ge <| re_cb (cr_sum rfl) G.sum <| ra_cons <| re_lock Mg.fod trivial fun od => ?_
    have hz := Ez.lock (od := od) Mg.fod (fun o u' z => by cases z)
    have hplen : ps.length ≤ 6 := by
      have := congrArg List.length M.part.nm
      rw [List.length_map, List.length_take] at this
      omega
    have hbl : (bkV (bkL ps ad)).length = ps.length := by unfold bkV bkL; rw [List.length_map, List.length_map]
    refine re_lc (own := [("_law_some", 9)]) (g := gName 9) rfl (by exact sc_plain.nd) (blkOk_by (N := nm_plain) (sc := defScope s_plain) (by decide +kernel)) (fun _ _ _ _ _ => pg_name (i := 9) (by exact sc_plain.nd) rfl (Or.inl rfl)) good_name ?_
    refine ri_values <| re_var 5 rfl ⟨fo, od, _, rfl, upd_same, _, _, _, fun i ys => ys = ((ps.map fun p => (p.2.length : Int)).take i).map V.int, walk_values, by rw [hbl]; omega, fun H' e => e _ _ upd_same, rfl, ?_, ?_⟩
    · rintro i v Hi Hj hi' ei ⟨rfl, key, hkey⟩
      have hi6 : i < ps.length := by rw [hbl] at hi'; exact hi'
      have hget : (bkV (bkL ps ad))[i]? = some ((Sum.inr (ps[i]'hi6).1 : Key), V.ref (ad (ps[i]'hi6).1)) := by
        unfold bkV bkL
        rw [List.getElem?_map, List.getElem?_map, List.getElem?_eq_getElem hi6]; rfl
      rw [hget] at hkey
      obtain ⟨rfl, rfl⟩ := Prod.mk.inj (Option.some.inj hkey)
      have hdi : D K Hj (.ref (ad (ps[i]'hi6).1)) (.list (ps[i]'hi6).2) := (((Mg.dat _ (List.getElem_mem hi6)).mono hideL_ex0).monoZ hz).mono ei
      refine ⟨Ex.refl _, rfl, Ex.refl _, fun s0 H0 C cl fp => re_cb call_len G.len <| ra_cons <| re_var 9 rfl <| ra_nil ⟨_, (ps[i]'hi6).2.length, rfl, hdi.lenV rfl, Ex.refl _, fun acc hacc => ?_⟩⟩
      subst hacc
      have : (ps.map fun p => (p.2.length : Int))[i]? = some ((ps[i]'hi6).2.length : Int) := by rw [List.getElem?_map, List.getElem?_eq_getElem hi6]; rfl
      rw [take_snoc this, List.map_append]; rfl
    rintro lp ys Hi hlp ei hli hlen rfl
    have nlf : lp ≠ fo := fun z => by rw [z, upd_same] at hlp; cases hlp
    refine ⟨ei _ _ upd_same, ra_nil ⟨lp, ps.map fun p => (p.2.length : Int), rfl, .inl (.inl ?_), ?_⟩⟩
    · rw [upd_ne nlf, hli, hbl, List.take_of_length_le (by rw [List.length_map]; exact Nat.le_refl _)]
    have eu := ex_unlock Mg.fod ei
    have Mi := Mg.step (exP.of eu) (Mg.pen.mono eu) wpa npa ppo fopa
    have hdi := hdg.mono (hideL_e (S := [pa, wa, fo]) eu)
    generalize upd Hi fo (.dK (bkV (bkL ps ad))) = Hj at *
    have hsum : (ps.map fun p => (p.2.length : Int)).sum = ((ps.map fun p => p.2.length).sum : Nat) := by
      have go : ∀ zs : PlP, (zs.map fun p => (p.2.length : Int)).sum = ((zs.map fun p => p.2.length).sum : Nat) := by
        intro zs
        induction zs with
        | nil => rfl
        | cons z r ih => rw [List.map_cons, List.map_cons, List.sum_cons, List.sum_cons, ih]; omega
      exact go ps
    refine re_int ⟨_, 160, rfl, rfl, ?_⟩
    -- it is kept
    have hnk : names[k]? = some (names[k]'hk) := List.getElem?_eq_getElem hk
    obtain ⟨at2, q2, la2, hw2⟩ := Mi.wd
    refine rb_one <| rs_dput (hu_of hr) <| RE.mono (Q := fun v H' => ∃ l ds, v = .ref l ∧ Ex Hj H' ∧ D K (hideL [pa, wa, fo] H') (.ref l) (.list ds) ∧ (∃ q, Whole q names ds) ∧ ds.length ≤ 40 ∧ (ds.length ≤ 2 ∨ (ps.map fun p => p.2.length).sum < 160)) (re_if <| rt_val <| re_var 7 rfl ⟨_, rfl, ifB (fun e => ?_) fun e => ?_⟩) ?_
    · refine re_lst <| ra_cons <| re_tup <| ra_cons <| re_str <| ra_cons <| re_int <| ra_nil ⟨Nat.le_of_ble_eq_true rfl, fun t1 H10 ht1 e10 h10 => ra_cons <| re_tup <| ra_cons <| re_str <| ra_nil ⟨Nat.le_of_ble_eq_true rfl, fun t2 H11 ht2 e11 h11 => ra_nil ⟨Nat.le_of_ble_eq_true rfl, fun l3 H12 hl3 e12 h12 => ?_⟩⟩⟩
      have nS : ∀ {t : Addr} {H' : Hp}, Ex Hj H' → H' t = none → t ∉ [pa, wa, fo] := fun {t H'} e h z => by
        simp only [List.mem_cons, List.not_mem_nil, or_false] at z
        rcases z with z | z | z
        · obtain ⟨kvs, hh⟩ := Mi.pen.dict; rw [z, e _ _ hh] at h; cases h
        · rw [z, e _ _ hw2] at h; cases h
        · rw [z, e _ _ Mi.fod] at h; cases h
      have hout : PW names [lr "out" 1] := fun x hx => by
        rw [List.mem_singleton.mp hx]; exact p_r (by decide +kernel) ⟨by decide, by decide⟩
      exact ⟨l3, [lr "out" 1] ++ [lend "back"], rfl, e10.trans (e11.trans e12), .lst (.inl (.inl (hideL_at (nS (e10.trans e11) hl3) h12))) (.cons (tupAt (nS (Ex.refl _) ht1) (e12 _ _ (e11 _ _ h10)) (.cons (.str _) (.cons (.int _) .nil))) (.cons (tupAt (nS e10 ht2) (e12 _ _ h11) (.cons (.str _) .nil)) .nil)), ⟨true, whole_item (Item.pln hout) leave_back⟩, (by decide), .inl (by decide)⟩
    · refine re_var 6 rfl ⟨l, ds, rfl, Ex.refl _, hdi, hwg, hlg, .inr ?_⟩
      have := of_decide_eq_false e
      rw [hsum] at this
      omega
    rintro v Hk ⟨l', ds', rfl, ek, hdk, hwk, h40, hor⟩
    have Mk := Mi.step (exP.of ek) (Mi.pen.mono ek) wpa npa ppo fopa
    obtain ⟨at3, q3, la3, hw3⟩ := Mk.wd
    refine re_var 5 rfl <| re_ixL <| re_dget (hu_of hr) <| re_var 3 rfl <| re_str ⟨wa, _, .inr "names", .ref na, rfl, hw3, rfl, rfl, re_var 4 rfl ⟨na, _, (k : Nat), .str (names[k]'hk), rfl, rfl, .inl (.inl Mk.nm), atI_nat (by rw [List.getElem?_map, hnk]; rfl), fo, _, .inr (names[k]'hk), rfl, Mk.fod, rfl, szlt (by rw [hbl]; omega), ?_⟩⟩
    have tk : names.take (k + 1) = names.take k ++ [names[k]'hk] := take_snoc hnk
    have fresh : names[k]'hk ∉ ps.map (·.1) := fun z => by
      rw [M.part.nm] at z
      have hn := nnd
      rw [← List.take_append_drop k names, drop_at hnk] at hn
      exact (List.nodup_append.mp hn).2.2 _ z _ List.mem_cons_self rfl
    rw [bkL_app ps ad _ ds' l' fresh]
    have eM : Ex (hideL [pa, wa, fo] Hk) (hideL [pa, wa, fo] (upd Hk fo (.dK (bkV (bkL (ps ++ [(names[k]'hk, ds')]) (fun z => if z = names[k]'hk then l' else ad z)))))) := hideL_ex fun b o hb hn => by
      rw [upd_ne fun z => hn (by rw [z]; simp)]; exact hb
    have fona : fo ≠ na := (ne_kind M.nm M.fod (fun z => nomatch z)).symm
    refine ⟨_, _, _, ps ++ [(names[k]'hk, ds')], _, rfl, ⟨Mk.ex.mut hfo0 fopa.symm, ?_, Mk.aw.put fopa.symm, Mk.af.mut fopa.symm, ⟨_, _, _, by rw [upd_ne fowa.symm]; exact hw3⟩, by rw [upd_ne fona.symm]; exact Mk.nm, ?_, upd_same, ⟨?_, ?_, ?_, ?_⟩, ?_⟩⟩
    · exact (Mk.pen.mut Mk.af fopa.symm).upto (by omega)
    · obtain ⟨qs3, g1, g2, g3, g4⟩ := Mk.pool
      refine ⟨qs3, by rw [upd_ne (ne_kind g1 Mk.fod (fun z => nomatch z))]; exact g1, g2, g3, fun p hp => ?_⟩
      obtain ⟨es, y1, y2, y3⟩ := g4 p hp
      exact ⟨es, y1.mono eM, y2, y3⟩
    · rw [List.map_append, M.part.nm, tk]; rfl
    · intro p hp
      rcases List.mem_append.mp hp with hp | hp
      · exact M.part.whole p hp
      · rw [List.mem_singleton.mp hp]; exact hwk
    · intro p hp
      rcases List.mem_append.mp hp with hp | hp
      · exact M.part.l40 p hp
      · rw [List.mem_singleton.mp hp]; exact h40
    · rw [List.map_append, List.sum_append]
      show _ + (ds'.length + 0) ≤ _
      have := M.part.all
      omega
    · intro p hp
      rcases List.mem_append.mp hp with hp | hp
      · have : p.1 ≠ names[k]'hk := fun z => fresh (z ▸ List.mem_map_of_mem hp)
        simp only [if_neg this]
        exact (Mk.dat p hp).mono eM
      · rw [List.mem_singleton.mp hp]
        simp only [if_pos]
        exact hdk.mono eM
  rintro σ' H' ⟨x4, x6, x7, ps, ad, rfl, M⟩
  have hk : ((names.length : Nat) : Int).toNat = names.length := rfl
  have hnm : ps.map (·.1) = names := by
    rw [M.part.nm, hk, List.take_length]
  have hlp : ps.length = names.length := by rw [← hnm, List.length_map]
  refine rb_one <| rs_ret <| re_var 5 rfl <| q fo ps ad H' ⟨fun p hp => okn.word p.1 (by rw [← hnm]; exact List.mem_map_of_mem hp), by rw [hnm]; exact nnd, by rw [hnm]; exact List.mem_cons_self, by omega, by rw [hnm]; exact M.part.whole, M.part.l40, ?_⟩ hfo0 M.fod (fun p hp => (M.dat p hp).mono (hideL_sub fun x hx => ?_)) M.ex (M.pen.upto ?_)
  · have := M.part.all
    rw [hk] at this
    omega
  · simp only [List.mem_cons, List.not_mem_nil, or_false] at hx ⊢
    rcases hx with rfl | rfl
    · exact .inl rfl
    · exact .inr (.inr rfl)
  · rw [hk, hcpl]
    have : names.length * (cl + 40) ≤ 6 * (cl + 40) := Nat.mul_le_mul_right _ nm6
    omega
end
end Fl
end
section
set_option Elab.async false
set_option linter.all false
set_option maxRecDepth 100000
set_option maxHeartbeats 4000000
namespace Fl
open PySem PySem.Spec PyProof.Rows L2 Fx
open Evl (Ex fresh_back)
def bareL (ds : List PyData) : List PyData := ds.filter fun d => !decide (wordD d ∈ stackL)
def bareP (ps : PlP) : PlP := ps.map fun p => (p.1, bareL p.2)
theorem bareP_names (ps : PlP) : (bareP ps).map (·.1) = ps.map (·.1) := by
  unfold bareP
  rw [List.map_map]; rfl
theorem bk_eq {ps : PlP} {ad : Str → Addr} : bkV (bkL ps ad) = ps.map fun p => ((Sum.inr p.1 : Key), V.ref (ad p.1)) := by
  unfold bkV bkL
  rw [List.map_map]; rfl
theorem mark_noStack {d : PyData} (h : wordD d = "mark") : wordD d ∉ stackL := by rw [h]; decide +kernel
theorem end_noStack {d : PyData} (h : wordD d ∈ endL) : wordD d ∉ stackL := by
  simp only [endL, List.mem_cons, List.not_mem_nil, or_false] at h
  rcases h with h | h | h | h <;> (rw [h]; decide +kernel)
theorem bareL_mem {d : PyData} {ds : List PyData} : d ∈ bareL ds ↔ d ∈ ds ∧ wordD d ∉ stackL := by
  unfold bareL
  rw [List.mem_filter, Bool.not_eq_true', decide_eq_false_iff_not]
theorem labels_bare (ds : List PyData) : labelsOf (bareL ds) = labelsOf ds := by
  unfold labelsOf bareL
  rw [List.filter_filter]
  congr 1
  refine List.filter_congr fun d _ => ?_
  by_cases h : wordD d = "mark"
  · rw [decide_eq_true h, decide_eq_false (mark_noStack h)]; rfl
  · rw [decide_eq_false h]; rfl
theorem bareL_last {ds : List PyData} {x : PyData} (h : ds[ds.length - 1]? = some x) (hx : wordD x ∈ endL) : (bareL ds)[(bareL ds).length - 1]? = some x ∧ 0 < (bareL ds).length := by
  have hpos : 0 < ds.length := by
    cases ds with
    | nil => cases h
    | cons a r => exact Nat.succ_pos _
  have hne : ds ≠ [] := fun z => by rw [z] at hpos; exact Nat.lt_irrefl 0 hpos
  have hg : ds.getLast hne = x := by
    rw [List.getLast_eq_getElem]
    have := List.getElem?_eq_some_iff.mp h
    exact this.2
  have e : ds = ds.dropLast ++ [x] := by rw [← hg]; exact (List.dropLast_concat_getLast hne).symm
  have e2 : bareL ds = bareL ds.dropLast ++ [x] := by
    conv => lhs; rw [e]
    unfold bareL
    rw [List.filter_append]
    congr 1
    rw [List.filter_cons_of_pos (by rw [decide_eq_false (end_noStack hx)]; rfl)]; rfl
  rw [e2, List.length_append]
  refine ⟨?_, by show 0 < _ + 1; omega⟩
  show (bareL ds.dropLast ++ [x])[(bareL ds.dropLast).length + 1 - 1]? = some x
  rw [Nat.add_sub_cancel, List.getElem?_append_right (Nat.le_refl _), Nat.sub_self]; rfl
theorem Whole.toB {q : Bool} {ns : List Str} {ds : List PyData} (W : Whole q ns ds) : WholeB true ns (bareL ds) := by
  obtain ⟨x, hx, hw⟩ := W.last
  obtain ⟨h1, h2⟩ := bareL_last hx hw
  refine ⟨fun d hd => W.ok d (bareL_mem.mp hd).1, fun d hd => (bareL_mem.mp hd).2, fun d hd => W.named d (bareL_mem.mp hd).1, by rw [labels_bare]; exact W.nodup, fun d hd hj => by rw [labels_bare]; exact W.jumps d (bareL_mem.mp hd).1 hj, ⟨x, h1, hw⟩, h2⟩
structure PlainB (ps : PlP) : Prop where
  word : ∀ p ∈ ps, isWordS p.1 = true
  nodup : (ps.map (·.1)).Nodup
  main : ("main" : Str) ∈ ps.map (·.1)
  len : ps.length ≤ 6
  whole : ∀ p ∈ ps, WholeB true (ps.map (·.1)) p.2
  l40 : ∀ p ∈ ps, p.2.length ≤ 40
  all : (ps.map fun p => p.2.length).sum ≤ 240
theorem sum_le : ∀ {xs ys : List Nat}, Paired (fun a b => a ≤ b) xs ys → xs.sum ≤ ys.sum
  | _, _, .nil => Nat.le_refl _
  | _, _, .cons a t => by
    rw [List.sum_cons, List.sum_cons]
    have := sum_le t
    omega
theorem PlainD.toB {ps : PlP} (hp : PlainD ps) : PlainB (bareP ps) := by
  have mem : ∀ {p : Str × List PyData}, p ∈ bareP ps → ∃ p0 ∈ ps, p = (p0.1, bareL p0.2) := fun h => by
    obtain ⟨p0, h0, rfl⟩ := List.mem_map.mp h
    exact ⟨p0, h0, rfl⟩
  refine ⟨fun p h => ?_, by rw [bareP_names]; exact hp.nodup, by rw [bareP_names]; exact hp.main, by unfold bareP; rw [List.length_map]; exact hp.len, fun p h => ?_, fun p h => ?_, ?_⟩
  · obtain ⟨p0, h0, rfl⟩ := mem h; exact hp.word p0 h0
  · obtain ⟨p0, h0, rfl⟩ := mem h
    obtain ⟨q, W⟩ := hp.whole p0 h0
    rw [bareP_names]
    exact W.toB
  · obtain ⟨p0, h0, rfl⟩ := mem h
    exact Nat.le_trans (List.length_filter_le ..) (hp.l40 p0 h0)
  · refine Nat.le_trans (sum_le ?_) hp.all
    have : ∀ l : PlP, Paired (fun a b : Nat => a ≤ b) ((bareP l).map fun p => p.2.length) (l.map fun p => p.2.length) := fun l => by
      induction l with
      | nil => exact .nil
      | cons p r ih => exact .cons (List.length_filter_le ..) ih
    exact this ps
theorem bookB {ps : PlP} (ad : Str → Addr) (hp : PlainB ps) : Book true (bkL ps ad) where
  word e he := by
    obtain ⟨p, hp', rfl⟩ := List.mem_map.mp he
    exact hp.word p hp'
  nodup := by rw [bkN_L]; exact hp.nodup
  main := by rw [bkN_L]; exact hp.main
  len := by
    show (ps.map _).length ≤ 24
    rw [List.length_map]; have := hp.len; omega
  any e he := by
    obtain ⟨p, hp', rfl⟩ := List.mem_map.mp he
    exact ⟨rfl, Nat.le_trans (hp.l40 p hp') (by decide), fun x hx => line_short ((hp.whole p hp').ok x hx)⟩
  all := by
    show ((ps.map fun p => ((p.1, V.ref (ad p.1), PyData.list p.2) : Fn3)).map fun e => dlen e.2.2).sum ≤ 240
    rw [List.map_map]
    exact hp.all
  wrong e he := by
    obtain ⟨p, hp', rfl⟩ := List.mem_map.mp he
    refine (hp.whole p hp').wrong (fun s hs => ?_)
    obtain ⟨p2, hp2, rfl⟩ := List.mem_map.mp hs
    rw [bkL_val hp.nodup hp2]; rfl
  good e he := by
    obtain ⟨p, hp', rfl⟩ := List.mem_map.mp he
    exact (hp.whole p hp').good rfl (Nat.le_trans (hp.l40 p hp') (by decide))
  tidy e he := by
    obtain ⟨p, hp', rfl⟩ := List.mem_map.mp he
    exact (hp.whole p hp').tidy
end Fl
end
section
set_option Elab.async false
set_option linter.all false
set_option maxRecDepth 100000
set_option maxHeartbeats 4000000
namespace Fl
open PySem PySem.Spec PyProof.Rows L2 Fx
open PySem.Calls NdefX _root_.ClX
open Evl (Ex fresh_back)
/-! ### super().__init__(functions) -/
/-- what the written part says of a class whose __init__ does nothing but call the one above it -/
structure SupC (P : Program) (K : PySem.W.Frag) (mg : Str → Option Value) (C f g : Addr) : Prop where
  fn : ∃ (cc cda : Addr) (oc kV doc pm ct : Value) (od an : Option Addr) (osl : Array (Option Value)), K.lookup f = some ⟨oc, od, .func (PySem.W.fnX "__init__" "BareProgram.__init__" (defArgs s_bare_init) (defBody s_bare_init) (defScope s_bare_init) [("__class__", cc)] .none kV doc pm an (.ref cda) ct), osl⟩ ∧
    PySem.W.codeIn K (.ref cda) "BareProgram.__init__" = true ∧ (∃ (ccl : Value) (cdd : Option Addr) (vs : Array Value) (ccs : Array (Option Value)) (file : Str) (tf : Tok), K.lookup cda = some ⟨ccl, cdd, .fields vs, ccs⟩ ∧ vs[2]? = some (.str file tf) ∧ ((P.main.file : Str) == file) = true) ∧
    ∃ (cl : Value) (cld : Option Addr) (csl : Array (Option Value)), K.lookup cc = some ⟨cl, cld, .cell (some (.ref C)), csl⟩
  top : (P.main.scope.names.lookup ("super" : Str)).isSome = false
  mgs : mg "super" = none
  cls : ∃ cd, PySem.W.clsIn K C = some cd
  sub : PySem.W.mroIn K C (.ref C) = some true
  opq : PySem.W.nsIn K cStatics "thirdparty.any" = some none
  sup : PySem.W.ks_superIn K C C "__init__" = some (some (.ref g))
  ty : PySem.W.typeIn K (.ref g) = some (.type "function")
  fi : PySem.W.fnIn K g = true
section
variable {P : Program} {w : World} {K : PySem.W.Frag} {mg : Str → Option Value} {base : Heap} {CX : CXT} {C f g : Addr} {gd : FuncData} {sp : Sp} {k : Nat}
def sp_sup (C : Addr) (sp : Sp) : Sp := fun vs H Q E => ∃ (a dx : Addr) (fs : List (Str × V)) (y : V), vs = [.ref a, y] ∧ H a = some (.ins C dx fs) ∧ sp [.ref a, y] H (fun _ H' => Q .non H') E
abbrev supF (cc cda : Addr) : NF := ⟨"__init__", "BareProgram.__init__", defArgs s_bare_init, defBody s_bare_init, defScope s_bare_init, [("__class__", cc)], cda⟩
theorem sc_sup : NScope ["self", "functions", "__class__"] ["self", "functions"] ["__class__"] (defScope s_bare_init) := nscope_by (by decide +kernel)
theorem ok_super (T : SupC P K mg C f g)
    (F : FnOk P w K mg base CX k g gd ["self", "functions"] sp) (hb : L2.Binds K gd ["self", "functions"] [])
    (hx : ∀ (F0 : NF) (A : Around) (outer : List Env) (s : Shared) (H : Hp) (E : XK), Passes CX (ncx CX P w K mg base ["self", "functions", "__class__"] F0 f A outer s H E) E) :
    ∃ fd, (∃ (oc : Value) (od : Option Addr) (osl : Array (Option Value)), K.lookup f = some ⟨oc, od, .func fd, osl⟩) ∧ FnOk P w K mg base CX (k + 1) f fd ["self", "functions"] (sp_sup C sp) := by
  obtain ⟨cc, cda, oc, kV, doc, pm, ct, od, an, osl, lk, hcd, ⟨ccl, cdd, cvs, ccs, file, tf, lcd, hvs, hfile⟩, cl, cld, csl, lcc⟩ := T.fn
  obtain ⟨cd, hcls⟩ := T.cls
  have S := sc_sup
  refine ⟨_, ⟨_, _, _, lk⟩, fun vs H Q E h => ?_, fun A outer s H args us vs Q E hr e0 hbind rv h => ?_⟩
  · obtain ⟨_, _, _, _, rfl, _⟩ := h; rfl
  obtain ⟨a, dx, fs, y, rfl, ha, hsp⟩ := h
  have KX : K.In s.heap := e0.mod.kin.keeps fun b o e => (e0.bs b o e).1
  have lim : s.heap.NoLimit := e0.mod.nolimit.keeps fun b o e => (e0.bs b o e).1
  have hul : us.length = 2 := rv.length.symm
  obtain ⟨u0, u1, rfl⟩ : ∃ u0 u1, us = [u0, u1] := by
    match us, hul with
    | [u0, u1], _ => exact ⟨u0, u1, rfl⟩
  have hcc : s.heap.get? cc = some ⟨cl, cld, .cell (some (.ref C)), csl⟩ := KX _ _ lcc
  refine PySem.ks_codeAny_call_defAt hr.depth (KX _ _ lk) rfl lim (PySem.W.codeRec_of KX hcd) rfl hbind S.nocell (fun x hxm => ?_) (fun h₀ hns kp => ?_) S.co S.gen S.kind
  · exact S.par x.1 (List.of_mem_zip hxm).1
  have CA : CellsAt (supF cc cda).cl ["__class__"] [none] s.heap H := by
    refine ⟨rfl, fun y c hc => ?_, fun x y c h1 h2 => ?_, fun i y hy => ?_⟩
    · have hc : List.lookup y [(("__class__" : Str), cc)] = some c := hc
      rw [List.lookup_cons] at hc
      split at hc
      · cases hc
        exact ⟨(e0.bs _ _ (e0.mod.kin _ _ lcc)).2, _, _, hcc, rfl⟩
      · cases hc
    · have h1 : List.lookup x [(("__class__" : Str), cc)] = some c := h1
      have h2 : List.lookup y [(("__class__" : Str), cc)] = some c := h2
      have one : ∀ {z : Str}, List.lookup z [(("__class__" : Str), cc)] = some c → z = "__class__" := fun {z} hz => by
        rw [List.lookup_cons] at hz
        cases e : (z == ("__class__" : Str)) with
        | true => exact beq_iff_eq.mp e
        | false => rw [e] at hz; cases hz
      rw [one h1, one h2]
    · cases i with
      | zero =>
        cases hy
        exact ⟨cc, rfl, fun v hv => by cases hv⟩
      | succ i => cases i <;> cases hy
  have I : Inv (ncx CX P w K mg base ["self", "functions", "__class__"] (supF cc cda) f A outer s H E) [] (startF ["self", "functions", "__class__"] [.ref a, y] [none]) H { s with heap := h₀, toks := s.toks + (["self", "functions"].zip [u0, u1]).length } := inv_startN S hr.hd e0 rfl rv CA hns kp
  have hx := hx (supF cc cda) A outer s H E
  have hrX := hr.deeper (envF (supF cc cda) f s.heap.objs.size)
  show _root_.PySem.wpAt _ _ _ (execs (defBody s_bare_init) (envF (supF cc cda) f s.heap.objs.size)) _ _ _
  refine PySem.ks_wpAt_execs_cons (PySem.ks_wpAt_Expr_any (PySem.ks_wpAt_MethodCall ?_))
  have kS : ∀ {b : Addr} {o : Obj}, K.lookup b = some o → h₀.get? b = some o := fun e => kp _ _ (KX _ _ e)
  have KX₀ : K.In h₀ := fun b o e => kS e
  obtain ⟨oD, hD1, hD2⟩ : ∃ oD, K.lookup C = some oD ∧ oD.data = .cls cd := by
    have h := hcls
    unfold PySem.W.clsIn at h
    split at h
    · rename_i c d cd' sl ho
      cases h
      exact ⟨_, ho, rfl⟩
    · cases h
  obtain rfl : u0 = Value.ref a := by cases rv with | cons r _ => exact r
  obtain ⟨mA, O, rO, _, _, _⟩ := ins_get I.hok ha
  obtain ⟨odx, J, hlk⟩ := O.look
  have hnc : ∀ c, (PySem.W.instObj C dx).data ≠ .cls c := fun c z => nomatch z
  have n1 : (defScope s_bare_init).names.lookup ("super" : Str) = some .globalImplicit := by decide +kernel
  have n2 : (defScope s_bare_init).names.lookup ("__class__" : Str) = some .free := by decide +kernel
  have n3 : (defScope s_bare_init).names.lookup ("self" : Str) = some .local := by decide +kernel
  refine PySem.ks_wpAt_super_base (env := envF (supF cc cda) f s.heap.objs.size) n1 n2 rfl rfl (kS lk) rfl rfl rfl (kS lcd) rfl hvs hfile T.top ?_
  obtain ⟨mb, b1, b2⟩ := I.mod.blt
  refine PySem.W.ks_loadName_global (env := envF (supF cc cda) f s.heap.objs.size) S.kind n1 (Calls.loadGlobal_builtin (env := envF (supF cc cda) f s.heap.objs.size) (I.mod.glob.keeps I.bk) T.mgs (b1.keeps I.bk) ((b2 "super" (by decide +kernel)).trans (show bootBuiltins "super" = some (.type "super") by decide +kernel)) ⟨rfl, ?_⟩)
  refine wpAny_loadName_free (env := envF (supF cc cda) f s.heap.objs.size) S.kind n2 (c := cc) rfl ⟨_, kS lcc, rfl⟩ ?_
  refine wpAny_loadName_local (env := envF (supF cc cda) f s.heap.objs.size) S.kind n3 hns rfl ?_
  refine PySem.ks_wpAny_isType_cls (kS hD1) hD2 ⟨rfl, ?_⟩
  refine PySem.ks_wpAny_call_super (kS hD1) hD2 J.at_ J.cls hnc (PySem.W.looks_mroIn KX₀ T.sub) (fun h' e k => ?_)
  have I1 := pin_new (t' := s.toks + (["self", "functions"].zip [Value.ref a, u1]).length) I k (Nat.le_refl _) e (fun v z => nomatch z)
  have KX1 : K.In h' := fun b o eo => k _ _ (kS eo)
  have J1 : PySem.W.InstAt h' a (PySem.W.instObj C dx) C none ∨ True := .inr trivial
  have hxC : a ≠ C := fun z => by
    have h1 := kS hD1
    rw [← z, J.at_] at h1
    have h2 := congrArg Obj.data (Option.some.inj h1)
    exact hnc cd (h2.trans hD2)
  have hal : PySem.W.alongIn K "__init__" ((cd.mro.dropWhile (· != .ref C)).drop 1) = some (some (.ref g)) := by
    have h := T.sup
    unfold PySem.W.ks_superIn at h
    rw [hcls] at h
    exact h
  obtain ⟨og, hog, hogc⟩ : ∃ og, K.lookup g = some og ∧ og.cls = .type "function" := by
    have h : (K.lookup g).map (·.cls) = some (.type "function") := T.ty
    cases z : K.lookup g with
    | none => rw [z] at h; cases h
    | some o => rw [z] at h; exact ⟨o, rfl, Option.some.inj h⟩
  refine PySem.ks_wpAny_getMethod_super e (PySem.W.looks_opaque KX1 T.opq) (l₀ := cd.mro) ((PySem.W.looks_clsIn KX1 hcls).andThen .now) rfl KX1 hal (KX1 _ _ hog) hogc hxC rfl ?_
  have I2 := pin_new (t' := s.toks + (["self", "functions"].zip [Value.ref a, u1]).length + 1) (h' := h'.push (PySem.W.methodObj (.ref g) (.ref a))) I1 (fun _ _ z => Heap.get?_push_of_some _ z) (Nat.le_refl _) (Heap.get?_push_size h' rfl) (fun v z => nomatch z)
  have hRA : ∀ p2 : Pos, RA (ncx CX P w K mg base ["self", "functions", "__class__"] (supF cc cda) f A outer s H E) [.Name "functions" p2] (startF ["self", "functions", "__class__"] [.ref a, y] [none]) H (fun vs H1 => vs = [y] ∧ H1 = H) := fun p2 => ra_cons (re_var 1 rfl (ra_nil ⟨rfl, rfl⟩))
  refine callwith_cm I2 (base_none I1 (Nat.le_refl _)) T.fi (thn ((pa_RA (X := ncx CX P w K mg base ["self", "functions", "__class__"] (supF cc cda) f A outer s H E)).run _ _ _ _ H _ I2 (hRA _)) fun us s3 hus => ?_) rfl rfl
  obtain ⟨vs, H2, I3, rv3, rfl, rfl⟩ := hus
  refine ⟨⟨pin_at I3, I3.kIn⟩, ?_⟩
  obtain ⟨u2, rfl⟩ : ∃ u2, us = [u2] := by
    cases rv3 with
    | cons r t => cases t; exact ⟨_, rfl⟩
  refine wpAny_call (PySem.W.method_call (pin_at I3) (codeAny_mono (F.run _ _ s3 H2 ⟨[.ref a, u2], []⟩ [.ref a, u2] [.ref a, y] _ E hrX I3.env0 (hb s3 [.ref a, u2] I3.kIn rfl) (.cons rfl rv3) hsp) fun r s' hq => ?_))
  cases r with
  | error ex => exact hx _ _ H2 s3 ex s' I3 hq
  | ok fl =>
    cases fl with
    | ret u =>
      obtain ⟨v, H', J', rv', q'⟩ := I3.after hq
      refine PySem.wpAt_of_wpAny (wpAny_pure ?_)
      exact ⟨.non, H', J'.os, J'.bare, J'.base, J'.hok, rfl, q'⟩
    | next => exact False.elim hq
    | brk => exact False.elim hq
    | cont => exact False.elim hq
end
end Fl
end
section
set_option Elab.async false
set_option linter.all false
set_option maxRecDepth 100000
set_option maxHeartbeats 4000000
namespace Fl
open PySem PySem.Spec PyProof.Rows L2 Fx
open Evl (Ex fresh_back)
structure Gm (mg : Str → Option Value) : Prop where
  any : mg "any" = none
structure MkO (P : Program) (w : World) (K : PySem.W.Frag) (mg : Str → Option Value) (base : Heap) (k : Nat) (x : Str) (C : Addr) (ps : List Str) (sp : Sp) : Prop where
  gm : mg x = some (.ref C)
  ex : ∃ g fd, Mk K C g ∧ L2.Binds K fd ps [] ∧ FnOk P w K mg base CX0 k g fd ps sp
/-- a class that takes functions and may raise -/
structure MkX (P : Program) (w : World) (K : PySem.W.Frag) (mg : Str → Option Value) (base : Heap) (CX : CXT) (k : Nat) (x : Str) (C : Addr) (sp : Sp) : Prop where
  gm : mg x = some (.ref C)
  ex : ∃ g fd, Mk K C g ∧ L2.Binds K fd ["self", "functions"] [] ∧ FnOk P w K mg base CX k g fd ["self", "functions"] sp
def leafV : PyData → V
  | .int i => .int i
  | .str x => .str x
  | _ => .non
/-! ### a program's text -/
def partT : PyData → Str
  | .int i => (PyData.int i).shown
  | .str s => s
  | _ => Str.empty
def lineT (d : PyData) : Str := Str.join " " ((itemsD d).map partT)
/-- what a line is made of is small -/
def smallP (x : PyData) : Prop := (∃ i : Int, x = .int i ∧ i.natAbs < 10 ^ 12) ∨ ∃ s : Str, x = .str s ∧ s.length ≤ 8
theorem fits_small {k : Str} {x : PyData} (h : fitsD k x = true) : smallP x := by
  unfold fitsD at h
  split at h
  · cases x with
    | str s =>
      refine .inr ⟨s, rfl, ?_⟩
      have h : isWordS s = true := h
      unfold isWordS at h
      rw [Bool.and_eq_true, Bool.and_eq_true, decide_eq_true_eq, decide_eq_true_eq] at h
      exact h.1.2
    | _ => exact absurd (show false = true from h) Bool.false_ne_true
  · split at h
    · cases x with
      | int i =>
        have h := fits_numD (i := i) (by unfold fitsD; rw [if_neg (by decide +kernel), if_pos rfl]; exact h)
        obtain ⟨h1, h2⟩ := h
        exact .inl ⟨i, rfl, by omega⟩
      | _ => exact absurd (show false = true from h) Bool.false_ne_true
    · split at h
      · cases x with
        | int i =>
          have h : (decide (0 ≤ i) && decide (i ≤ 59)) = true := h
          rw [Bool.and_eq_true, decide_eq_true_eq, decide_eq_true_eq] at h
          exact .inl ⟨i, rfl, by omega⟩
        | _ => exact absurd (show false = true from h) Bool.false_ne_true
      · split at h
        · rename_i c
          cases x with
          | str s =>
            have : s = "link" := of_decide_eq_true c.2
            subst this
            exact .inr ⟨_, rfl, Nat.le_of_ble_eq_true rfl⟩
          | _ => exact absurd (show false = true from c.2) Bool.false_ne_true
        · cases x with
          | int i =>
            have h : (decide (0 ≤ i) && decide (i < 6)) = true := h
            rw [Bool.and_eq_true, decide_eq_true_eq, decide_eq_true_eq] at h
            exact .inl ⟨i, rfl, by omega⟩
          | _ => exact absurd (show false = true from h) Bool.false_ne_true
theorem line_small {d : PyData} (h : isLineD d = true) : ∃ ds, d = .tuple ds ∧ ds.length ≤ 4 ∧ ∀ x ∈ ds, smallP x := by
  obtain ⟨w, xs, e1, _, e3, e4⟩ := line_leaf h
  obtain ⟨w', xs', kinds, v⟩ := valid_of h
  have e := v.eq
  rw [e1] at e
  cases e
  refine ⟨_, e1, by rw [List.length_cons]; omega, fun x hx => ?_⟩
  rcases List.mem_cons.mp hx with rfl | hx
  · exact .inr ⟨_, rfl, by omega⟩
  · obtain ⟨i, hi⟩ := List.getElem?_of_mem hx
    have hl := (List.getElem?_eq_some_iff.mp hi).1
    obtain ⟨k, hk⟩ : ∃ k, kinds[i]? = some k := ⟨kinds[i]'(by rw [← v.len]; exact hl), List.getElem?_eq_getElem _⟩
    exact fits_small (v.fits i k x hk hi)
theorem part_len {x : PyData} (h : smallP x) : (partT x).length ≤ 13 := by
  rcases h with ⟨i, rfl, h⟩ | ⟨s, rfl, h⟩
  · exact PyData.shown_int_le h
  · exact Nat.le_trans h (by decide)
theorem sum_up {c : Nat} : ∀ {xs : List Nat}, (∀ x ∈ xs, x ≤ c) → xs.sum ≤ c * xs.length
  | [], _ => Nat.zero_le _
  | a :: r, h => by
    rw [List.sum_cons, List.length_cons, Nat.mul_succ]
    have := sum_up (xs := r) fun x hx => h x (List.mem_cons_of_mem _ hx)
    have := h a List.mem_cons_self
    omega
section
variable {P : Program} {w : World} {K : PySem.W.Frag} {mg : Str → Option Value} {base : Heap} {f : Addr} {fd : FuncData}
abbrev nm_lt : List Str := ["line", "part"]
theorem sc_lt : FnScope nm_lt ["line"] (defScope s_line_text) := ⟨rfl, rfl, rfl, by decide +kernel, rfl, by decide +kernel, by decide +kernel⟩
def sp_line_text (K : PySem.W.Frag) : Sp := fun vs H Q _ => ∃ v d, vs = [v] ∧ D K H v d ∧ isLineD d = true ∧ ∀ H', Ex H H' → Q (.str (lineT d)) H'
theorem ok_line_text (F : Fun K "line_text" "line_text" s_line_text f fd) (G : Gb mg) : FnOk P w K mg base CX0 1 f fd ["line"] (sp_line_text K) := by
  refine F.ok sc_lt (fun vs H Q E h => ?_) (fun cdv Ar outer sh H vs Q E hr h => ⟨RB _ _, pss_RB, ?_⟩)
  · obtain ⟨_, _, rfl, _⟩ := h; rfl
  obtain ⟨v, d, rfl, hd, ok, q⟩ := h
  obtain ⟨ds, rfl, h4, hs⟩ := line_small ok
  obtain ⟨a, xs, rfl, sq, da⟩ : ∃ a xs, v = .ref a ∧ SqT K H a xs ∧ DA K H xs ds := by
    cases hd with
    | tup sq da => exact ⟨_, _, rfl, sq, da⟩
  refine rb_one <| rs_ret <| re_join <| re_str ⟨⟨_, rfl⟩, ?_⟩
  refine re_lc (own := [("part", 1)]) (g := gName 1) rfl (by exact sc_lt.nd) (blkOk_by (N := nm_lt) (sc := defScope s_line_text) (by decide +kernel)) (fun _ _ _ _ _ => pg_name (i := 1) (by exact sc_lt.nd) rfl (Or.inl rfl)) good_name <|
    ri_tup <| re_var 0 rfl ⟨a, xs, rfl, sq, xs.length, _, _, fun i acc => acc = ((ds.take i).map partT).map V.str, walk_tup, by rw [da.length]; omega, fun H' e => Evl.ex_t e sq, rfl, ?_, ?_⟩
  · rintro i x Ha Hb hi e2 ⟨rfl, hx⟩
    obtain ⟨z, hz, hzd⟩ := da.getV hx
    have hsm := hs z (List.mem_of_getElem? hz)
    have tk : ds.take (i + 1) = ds.take i ++ [z] := take_snoc hz
    refine ⟨Ex.refl _, rfl, Ex.refl _, fun s0 H0 C cl fp => ?_⟩
    rcases hsm with ⟨j, rfl, hj⟩ | ⟨t, rfl, ht⟩
    · cases hzd
      refine re_ct call_str_int G.str <| ra_cons <| re_var 1 rfl <| ra_nil ⟨j, rfl, ?_, Ex.refl _, fun acc hacc => ?_⟩
      · rcases Nat.eq_zero_or_pos j.natAbs with z | h0
        · rw [z]; decide
        · exact (Nat.log2_lt (by omega)).mpr (Nat.lt_of_lt_of_le hj (Nat.le_of_ble_eq_true rfl : 10 ^ 12 ≤ 2 ^ 1920))
      · have hacc : acc = _ := hacc
        show acc ++ [_] = ((ds.take (i + 1)).map partT).map V.str
        rw [tk, hacc, List.map_append, List.map_append]; rfl
    · cases hzd
      refine re_ct SkE.call_str_str G.str <| ra_cons <| re_var 1 rfl <| ra_nil ⟨t, rfl, Ex.refl _, fun acc hacc => ?_⟩
      have hacc : acc = _ := hacc
      show acc ++ [_] = ((ds.take (i + 1)).map partT).map V.str
      rw [tk, hacc, List.map_append, List.map_append]; rfl
  · rintro p ys H2 hp e2 h2 hl hacc
    rw [da.length, List.take_length] at hacc
    subst hacc
    refine ⟨" ", p, ds.map partT, rfl, rfl, .inl (.inl h2), ?_, q H2 e2⟩
    have hb := sum_up (c := 13) (xs := (ds.map partT).map (·.length)) fun n hn => by
      obtain ⟨s, hs', rfl⟩ := List.mem_map.mp hn
      obtain ⟨x, hx, rfl⟩ := List.mem_map.mp hs'
      exact part_len (hs x hx)
    rw [List.length_map, List.length_map] at hb
    rw [List.length_map]
    have h1 : (" " : Str).length = 1 := rfl
    rw [h1]
    omega
end
end Fl
end
section
set_option Elab.async false
set_option linter.all false
set_option maxRecDepth 100000
set_option maxHeartbeats 4000000
namespace Fx
open PySem PySem.Spec PyProof.Rows L2
open Evl (Ex fresh_back)
theorem empty_app (y : Str) : Str.empty ++ y = y := by
  cases y
  show Str.mk (#[] ++ _) = _
  rw [Array.empty_append]
section
variable {X : Cx} {σ : L2.St} {H : Hp} {Q : VK} {QA : List V → Hp → Prop} {e v1 v2 : Expr} {es : List Expr} {p pos : Pos}
/-- f'{e}' of a text -/
theorem re_fmt (h : RE X e σ H fun x H1 => ∃ y : Str, x = .str y ∧ y.length ≤ sizeLine ∧ Q (.str y) H1) : RE X (.FormattedValue e (-1) none pos) σ H Q :=
  re_of (pe_fmt pe_RE) (h.mono fun x H1 q => .inl q)
/-- an f-string of two parts -/
theorem re_fs2 (h : RE X v1 σ H fun x H1 => ∃ y : Str, x = .str y ∧ y.length ≤ sizeLine ∧ RE X v2 σ H1 fun z H2 => ∃ u : Str, z = .str u ∧ y.length + u.length ≤ sizeLine ∧ Q (.str (y ++ u)) H2) : RE X (.JoinedStr [v1, v2] pos) σ H Q := by
  refine re_of (pe_joined (.cons pe_RE (.cons pe_RE .nil))) ?_
  show RE X v1 σ H fun x H1 => ∃ y : Str, x = .str y ∧ (Str.empty ++ y).length ≤ sizeLine ∧ (RE X v2 σ H1 fun z H2 => ∃ u : Str, z = .str u ∧ (Str.empty ++ y ++ u).length ≤ sizeLine ∧ Q (.str (Str.empty ++ y ++ u)) H2)
  refine h.mono fun x H1 ⟨y, ex, hy, q⟩ => ⟨y, ex, by rw [empty_app]; exact hy, q.mono fun z H2 ⟨u, eu, hu, q⟩ => ⟨u, eu, ?_, ?_⟩⟩
  · rw [empty_app, Str.length_append]; exact hu
  · rw [empty_app]; exact q
end
end Fx
namespace Fl
open PySem PySem.Spec PyProof.Rows L2 Fx
open Evl (Ex fresh_back)
theorem join_len (sep : Str) (ys : List Str) : (Str.join sep ys).length = (ys.map (·.length)).sum + (ys.length - 1) * sep.length := by
  rw [← TL.join_eq]
  exact size_glued sep ys
theorem line_len {d : PyData} (h : isLineD d = true) : (lineT d).length ≤ 60 := by
  obtain ⟨ds, rfl, h4, hs⟩ := line_small h
  unfold lineT
  rw [join_len]
  have hb := sum_up (c := 13) (xs := (ds.map partT).map (·.length)) fun n hn => by
    obtain ⟨s, hs', rfl⟩ := List.mem_map.mp hn
    obtain ⟨x, hx, rfl⟩ := List.mem_map.mp hs'
    exact part_len (hs x hx)
  rw [List.length_map, List.length_map] at hb
  have h1 : (" " : Str).length = 1 := rfl
  show ((ds.map partT).map _).sum + ((ds.map partT).length - 1) * _ ≤ 60
  rw [List.length_map, h1]
  omega
def funT (n : Str) (ds : List PyData) : Str := Str.join "\n" (("function " ++ n) :: ds.map lineT)
section
variable {P : Program} {w : World} {K : PySem.W.Frag} {mg : Str → Option Value} {base : Heap} {f : Addr} {fd : FuncData}
abbrev nm_ft : List Str := ["name", "lines", "line"]
theorem sc_ft : FnScope nm_ft ["name", "lines"] (defScope s_u_function_text) := ⟨rfl, rfl, rfl, by decide +kernel, rfl, by decide +kernel, by decide +kernel⟩
def sp_ftext (K : PySem.W.Frag) : Sp := fun vs H Q _ => ∃ n v d, vs = [.str n, v] ∧ isWordS n = true ∧ D K H v d ∧ Lines d ∧ ∀ H', Ex H H' → Q (.str (funT n (itemsD d))) H'
theorem ok_ftext (F : Fun K "_function_text" "_function_text" s_u_function_text f fd) (G : Gb mg) (c1 : Cl P w K mg base CX0 1 "line_text" (sp_line_text K)) : FnOk P w K mg base CX0 2 f fd ["name", "lines"] (sp_ftext K) := by
  refine F.ok sc_ft (fun vs H Q E h => ?_) (fun cdv Ar outer sh H vs Q E hr h => ⟨RB _ _, pss_RB, ?_⟩)
  · obtain ⟨_, _, _, rfl, _⟩ := h; rfl
  obtain ⟨n, v, d, rfl, hn, hd, hL, q⟩ := h
  have h1000 : (itemsD d).length ≤ 1000 := hL.len
  have hw8 : n.length ≤ 8 := by
    unfold isWordS at hn
    rw [Bool.and_eq_true, Bool.and_eq_true, decide_eq_true_eq, decide_eq_true_eq] at hn
    exact hn.1.2
  have sz : (100 : Nat) ≤ sizeLine := by rw [sizeLine_eq]; decide
  have f9 : ("function " : Str).length = 9 := rfl
  refine rb_one <| rs_ret <| re_join <| re_str ⟨⟨_, rfl⟩, ?_⟩
  refine re_lst <| ra_cons <| re_fs2 <| re_str ⟨_, rfl, by rw [f9]; omega, re_fmt <| re_var 0 rfl ⟨n, rfl, by omega, n, rfl, by rw [f9]; omega, ?_⟩⟩
  refine ra_star ?_
  refine re_lc (own := [("line", 2)]) (g := gName 2) rfl (by exact sc_ft.nd) (blkOk_by (N := nm_ft) (sc := defScope s_u_function_text) (by decide +kernel)) (fun _ _ _ _ _ => pg_name (i := 2) (by exact sc_ft.nd) rfl (Or.inl rfl)) good_name ?_
  refine ri_data hd hL.isl fun J G' xs W hG hda => re_var 1 rfl ⟨rfl, Ex.refl _, xs.length, _, _, fun i acc => acc = (((itemsD d).take i).map lineT).map V.str, W, by rw [hda.length]; omega, hG, rfl, ?_, ?_⟩
  · rintro i x Ha Hb hi e2 ⟨rfl, hx⟩
    obtain ⟨z, hz, hzd⟩ := hda.getV hx
    have tk : (itemsD d).take (i + 1) = (itemsD d).take i ++ [z] := take_snoc hz
    refine ⟨Ex.refl _, rfl, Ex.refl _, fun s0 H0 C cl fp => re_call c1 hr <| ra_cons <| re_var 2 rfl <| ra_nil ⟨_, z, rfl, hzd.mono e2, hL.ok z (List.mem_of_getElem? hz), fun H' e' => ⟨e', fun acc hacc => ?_⟩⟩⟩
    have hacc : acc = _ := hacc
    show acc ++ [_] = (((itemsD d).take (i + 1)).map lineT).map V.str
    rw [tk, hacc, List.map_append, List.map_append]; rfl
  · rintro p ys H2 hp e2 h2 hl hacc
    rw [hda.length, List.take_length] at hacc
    have hacc : ys = ((itemsD d).map lineT).map V.str := hacc
    subst hacc
    refine ⟨p, _, rfl, .inr (.inl (.inl h2)), ra_nil ⟨?_, fun p2 H3 hp2 e3 h3 => ?_⟩⟩
    · rw [List.append_nil, List.length_cons, List.length_map, List.length_map]; omega
    rw [List.append_nil] at h3
    refine ⟨"\n", p2, ("function " ++ n) :: (itemsD d).map lineT, rfl, rfl, .inl (.inl h3), ?_, q H3 (e2.trans e3)⟩
    have hb := sum_up (c := 60) (xs := ((itemsD d).map lineT).map (·.length)) fun m hm => by
      obtain ⟨s, hs', rfl⟩ := List.mem_map.mp hm
      obtain ⟨x, hx, rfl⟩ := List.mem_map.mp hs'
      exact line_len (hL.ok x hx)
    rw [List.length_map, List.length_map] at hb
    rw [List.map_cons, List.sum_cons, List.length_cons, List.length_map, Str.length_append, f9]
    have h1 : ("\n" : Str).length = 1 := rfl
    rw [h1]
    omega
end
end Fl
end
section
set_option Elab.async false
set_option linter.all false
set_option maxRecDepth 100000
set_option maxHeartbeats 4000000
namespace Fl
open PySem PySem.Spec PyProof.Rows L2 Fx
open Evl (Ex fresh_back)
/-! ### the text of a whole program -/
theorem fun_len {n : Str} {ds : List PyData} (hn : isWordS n = true) (h : ∀ d ∈ ds, isLineD d = true) : (funT n ds).length ≤ 17 + 61 * ds.length := by
  have hw8 : n.length ≤ 8 := by
    unfold isWordS at hn
    rw [Bool.and_eq_true, Bool.and_eq_true, decide_eq_true_eq, decide_eq_true_eq] at hn
    exact hn.1.2
  have f9 : ("function " : Str).length = 9 := rfl
  have h1 : ("\n" : Str).length = 1 := rfl
  unfold funT
  rw [join_len, List.map_cons, List.sum_cons, List.length_cons, List.length_map, Str.length_append, f9, h1]
  have hb := sum_up (c := 60) (xs := (ds.map lineT).map (·.length)) fun m hm => by
    obtain ⟨s, hs', rfl⟩ := List.mem_map.mp hm
    obtain ⟨x, hx, rfl⟩ := List.mem_map.mp hs'
    exact line_len (h x hx)
  rw [List.length_map, List.length_map] at hb
  omega
def progT (ys : List Str) (ls : Str → List PyData) : Str := Str.join "\n" (ys.map fun n => funT n (ls n))
section
variable {P : Program} {w : World} {K : PySem.W.Frag} {mg : Str → Option Value} {base : Heap} {f : Addr} {fd : FuncData}
abbrev nm_tx : List Str := ["functions", "name"]
theorem sc_tx : FnScope nm_tx ["functions"] (defScope s_text_of) := ⟨rfl, rfl, rfl, by decide +kernel, rfl, by decide +kernel, by decide +kernel⟩
def sp_text_of (K : PySem.W.Frag) : Sp := fun vs H Q _ => ∃ (g : Addr) (ys : List Str) (t : Str → Addr) (xs : Str → List V) (ls : Str → List PyData), vs = [.ref g] ∧ H g = some (.dK (dN ys t)) ∧ ys.Nodup ∧ ys.length ≤ 24 ∧ (∀ n ∈ ys, isWordS n = true ∧ SqT K H (t n) (xs n) ∧ DA K H (xs n) (ls n) ∧ Lines (.tuple (ls n))) ∧ ∀ H', Ex H H' → Q (.str (progT ys ls)) H'
theorem dn_at {ys : List Str} {t : Str → Addr} {i : Nat} {k : Key} {v : V} (h : (dN ys t)[i]? = some (k, v)) : ∃ n, ys[i]? = some n ∧ k = .inr n ∧ v = .ref (t n) := by
  unfold dN at h
  rw [List.getElem?_map] at h
  cases hp : ys[i]? with
  | none => rw [hp] at h; cases h
  | some n =>
    rw [hp] at h
    obtain ⟨rfl, rfl⟩ := Prod.mk.inj (Option.some.inj h)
    exact ⟨n, rfl, rfl, rfl⟩
theorem dn_val {t : Str → Addr} : ∀ {ys : List Str} {n : Str}, n ∈ ys → valV (dN ys t) (.inr n) = some (.ref (t n))
  | [], _, h => nomatch h
  | y :: r, n, h => by
    show valV ((Sum.inr y, V.ref (t y)) :: dN r t) (.inr n) = _
    by_cases e : y = n
    · rw [valV_pos (by rw [e]), e]
    · rw [valV_neg (fun z => e (Sum.inr.inj z))]
      exact dn_val ((List.mem_cons.mp h).resolve_left fun z => e z.symm)
theorem ok_text_of (F : Fun K "text_of" "text_of" s_text_of f fd) (G : Gb mg) (c1 : Cl P w K mg base CX0 2 "_function_text" (sp_ftext K)) : FnOk P w K mg base CX0 3 f fd ["functions"] (sp_text_of K) := by
  refine F.ok sc_tx (fun vs H Q E h => ?_) (fun cdv Ar outer sh H vs Q E hr h => ⟨RB _ _, pss_RB, ?_⟩)
  · obtain ⟨_, _, _, _, _, rfl, _⟩ := h; rfl
  obtain ⟨g, ys, t, xs, ls, rfl, hg, hnd, h24, hy, q⟩ := h
  refine rb_one <| rs_ret <| re_join <| re_str ⟨⟨_, rfl⟩, re_lock hg trivial fun od => ?_⟩
  have hfz : upd H g (.frz od (.dK (dN ys t))) g = some (.frz od (.dK (dN ys t))) := upd_same
  have e02 : Ei H (upd H g (.frz od (.dK (dN ys t)))) := fun b u _ hb => by
    by_cases z : b = g
    · subst z
      rcases hb with hb | ⟨ob, hb⟩
      · rw [hg] at hb; cases hb
        exact .inr ⟨od, upd_same⟩
      · rw [hg] at hb; cases hb
    · rcases hb with hb | ⟨ob, hb⟩
      · exact .inl (by rw [upd_ne z]; exact hb)
      · exact .inr ⟨ob, by rw [upd_ne z]; exact hb⟩
  have un : ∀ {H3 : Hp}, Ex (upd H g (.frz od (.dK (dN ys t)))) H3 → Ex H (upd H3 g (.dK (dN ys t))) := fun e3 => ex_unlock hg e3
  have hy2 : ∀ n ∈ ys, SqT K (upd H g (.frz od (.dK (dN ys t)))) (t n) (xs n) ∧ DA K (upd H g (.frz od (.dK (dN ys t)))) (xs n) (ls n) := fun n hn => by
    obtain ⟨_, h2, h3, _⟩ := hy n hn
    exact ⟨ei_t e02 h2, h3.monoI e02⟩
  generalize upd H g (.frz od (.dK (dN ys t))) = H2 at *
  have hdl : (dN ys t).length = ys.length := List.length_map ..
  refine re_lc (own := [("name", 1)]) (g := gName 1) rfl (by exact sc_tx.nd) (blkOk_by (N := nm_tx) (sc := defScope s_text_of) (by decide +kernel)) (fun _ _ _ _ _ => pg_name (i := 1) (by exact sc_tx.nd) rfl (Or.inl rfl)) good_name ?_
  refine ri_keys <| re_var 0 rfl ⟨g, od, _, rfl, hfz, (dN ys t).length, _, _, fun i acc => acc = ((ys.take i).map fun n => funT n (ls n)).map V.str, walk_keys, by rw [hdl]; omega, fun H' e => e _ _ hfz, rfl, ?_, ?_⟩
  · rintro i x Ha Hb hi e2 ⟨rfl, k, v, hk, rfl⟩
    obtain ⟨n, hn, rfl, rfl⟩ := dn_at hk
    have hm := List.mem_of_getElem? hn
    obtain ⟨w1, _, _, w4⟩ := hy n hm
    obtain ⟨s2, d2⟩ := hy2 n hm
    have tk : ys.take (i + 1) = ys.take i ++ [n] := take_snoc hn
    refine ⟨Ex.refl _, rfl, Ex.refl _, fun s0 H0 C cl fp => re_call c1 hr <| ra_cons <| re_var 1 rfl <| ra_cons <| re_dgetR (hu_of hr) <| re_var 0 rfl <| re_var 1 rfl ⟨g, _, .inr n, .ref (t n), rfl, .inr ⟨od, e2 _ _ hfz⟩, rfl, dn_val hm, ra_nil ⟨n, _, .tuple (ls n), rfl, w1, (D.tup s2 d2).mono e2, w4, fun H' e' => ⟨e', fun acc hacc => ?_⟩⟩⟩⟩
    have hacc : acc = _ := hacc
    show acc ++ [_] = ((ys.take (i + 1)).map fun n => funT n (ls n)).map V.str
    rw [tk, hacc, List.map_append, List.map_append]; rfl
  · rintro p zs H3 hp e3 h3 hl hacc
    rw [hdl, List.take_length] at hacc
    have hacc : zs = (ys.map fun n => funT n (ls n)).map V.str := hacc
    subst hacc
    have pg : p ≠ g := fun z => by rw [z, hfz] at hp; cases hp
    refine ⟨e3 _ _ hfz, "\n", p, ys.map fun n => funT n (ls n), rfl, rfl, .inl (.inl (by rw [upd_ne pg]; exact h3)), ?_, q _ (un e3)⟩
    have hb := sum_up (c := 61017) (xs := (ys.map fun n => funT n (ls n)).map (·.length)) fun m hm => by
      obtain ⟨s, hs', rfl⟩ := List.mem_map.mp hm
      obtain ⟨n, hn, rfl⟩ := List.mem_map.mp hs'
      obtain ⟨w1, _, _, w4⟩ := hy n hn
      have := fun_len w1 (ds := ls n) (fun d hd => w4.ok d hd)
      have h1000 : (ls n).length ≤ 1000 := w4.len
      omega
    rw [List.length_map, List.length_map] at hb
    rw [List.length_map]
    have h1 : ("\n" : Str).length = 1 := rfl
    rw [h1]
    omega
abbrev nm_ptx : List Str := ["self"]
theorem sc_ptx : FnScope nm_ptx ["self"] (defScope s_program_text) := ⟨rfl, rfl, rfl, by decide +kernel, rfl, by decide +kernel, by decide +kernel⟩
def sp_ptext (K : PySem.W.Frag) (C : Addr) : Sp := fun vs H Q _ => ∃ (a dx g : Addr) (ys : List Str) (t : Str → Addr) (xs : Str → List V) (ls : Str → List PyData), vs = [.ref a] ∧ ProgN K C H a dx g ys t xs ls ∧ ys.Nodup ∧ ys.length ≤ 24 ∧ (∀ n ∈ ys, isWordS n = true ∧ Lines (.tuple (ls n))) ∧ ∀ H', Ex H H' → Q (.str (progT ys ls)) H'
theorem ok_ptext {C : Addr} {b : Bool} (F : Fun K "text" "Program.text" s_program_text f fd) (T : PCb K C b) (c1 : Cl P w K mg base CX0 3 "text_of" (sp_text_of K)) : FnOk P w K mg base CX0 4 f fd ["self"] (sp_ptext K C) := by
  refine F.ok sc_ptx (fun vs H Q E h => ?_) (fun cdv Ar outer sh H vs Q E hr h => ⟨RB _ _, pss_RB, ?_⟩)
  · obtain ⟨_, _, _, _, _, _, _, rfl, _⟩ := h; rfl
  obtain ⟨a, dx, g, ys, t, xs, ls, rfl, pr, hnd, h24, hy, q⟩ := h
  exact rb_one <| rs_ret <| re_call c1 hr <| ra_cons <| re_fld <| re_var 0 rfl ⟨a, C, dx, _, _, rfl, pr.ins, T.cls, T.nF, rfl, ra_nil ⟨g, ys, t, xs, ls, rfl, pr.dict, hnd, h24, fun n hn => ⟨(hy n hn).1, pr.seq n hn, pr.dat n hn, (hy n hn).2⟩, q⟩⟩
end
end Fl
end
section
set_option Elab.async false
set_option linter.all false
set_option maxRecDepth 100000
set_option maxHeartbeats 4000000
namespace Fx
open PySem PySem.Spec PyProof.Rows L2
open Evl (Ex fresh_back)
section
variable {X : Cx} {σ : L2.St} {H : Hp} {Q : VK} {o e : Expr} {apos pos : Pos}
/-- z.removeprefix(y) -/
theorem mt_rmp : MtR X "str.removeprefix" (fun x xs H Q => ∃ a b, x = .str a ∧ xs = [.str b] ∧ (Txt.removeprefix a b).length ≤ sizeLine ∧ Q (.str (Txt.removeprefix a b)) H) := by
  intro pins s σ H x xs v us Q I r1 r2 h
  obtain ⟨a, b, rfl, rfl, hb, q⟩ := h
  obtain ⟨t, rfl⟩ : ∃ t, v = Value.str a t := r1
  cases r2 with
  | cons r rest =>
  cases rest
  rename_i u
  obtain ⟨t2, rfl⟩ : ∃ t2, u = Value.str b t2 := r
  refine PySem.call_gives PySem.F.slot_str_removeprefix rfl PySem.F.entry_str_removeprefix (PySem.F.args_str_removeprefix_2 _ _) (gives_str_removeprefix a b t t2) ?_
  unfold PySem.Txt.removeprefix at q hb
  split
  · rename_i hs
    rw [if_pos hs] at q hb
    unfold PySem.affixMade
    dsimp only
    unfold PySem.Txt.affix at q hb
    dsimp only at q hb
    split
    · rename_i hl
      rw [if_pos hl] at q
      exact ⟨.str a, H, I, ⟨t, rfl⟩, q⟩
    · rename_i hl
      rw [if_neg hl] at q hb
      exact ⟨hb, .str _, H, I.kept (fun _ _ e => e), ⟨_, rfl⟩, q⟩
  · rename_i hs
    rw [if_neg hs] at q
    exact ⟨.str a, H, I, ⟨t, rfl⟩, q⟩
theorem re_rmp (h : RE X o σ H fun x H1 => (∃ a, x = .str a) ∧ RE X e σ H1 fun y H2 => ∃ a b, x = .str a ∧ y = .str b ∧ (Txt.removeprefix a b).length ≤ sizeLine ∧ Q (.str (Txt.removeprefix a b)) H2)
    (hs : starEach [e] X.env = [(false, eval e X.env)] := by rfl) (hbase : attributeBase o "removeprefix" X.env (eval o X.env) = eval o X.env := by rfl) (hline : (apos.endLine == pos.line) = true := by rfl) : RE X (.Call (.Attribute o "removeprefix" apos) [e] [] pos) σ H Q :=
  re_of (pe_m1 PySem.F.slot_str_removeprefix PySem.F.type_str_removeprefix mt_rmp pe_RE pe_RE hs hbase hline) (h.mono fun x H1 ⟨hx, q⟩ => ⟨hx, q.mono fun y H2 ⟨a, b, ex, ey, hb, q⟩ => ⟨a, b, ex, by rw [ey], hb, q⟩⟩)
end
end Fx
end
section
set_option Elab.async false
set_option linter.all false
set_option maxRecDepth 100000
set_option maxHeartbeats 4000000
namespace Fl
open PySem PySem.Spec PyProof.Rows L2 Fx
open Evl (Ex fresh_back)
/-! ### a number's text read again -/
def numL (m : Nat) : List Nat := (Nat.toDigits 10 m).map Char.toNat
theorem num_digits (m : Nat) : NumText.AllDigits (numL m) := fun c hc => by
  obtain ⟨d, hd, rfl⟩ := List.mem_map.mp hc
  have h := Nat.isDigit_of_mem_toDigits (by decide) (by decide) hd
  unfold Char.isDigit at h
  rw [Bool.and_eq_true, decide_eq_true_eq, decide_eq_true_eq] at h
  exact ⟨UInt32.le_iff_toNat_le.mp h.1, UInt32.le_iff_toNat_le.mp h.2⟩
theorem num_ne (m : Nat) : numL m ≠ [] := fun z => Nat.toDigits_ne_nil (List.map_eq_nil_iff.mp z)
theorem num_len {m : Nat} (h : m < 10 ^ 10) : (numL m).length ≤ 10 := by
  unfold numL
  rw [List.length_map]
  have := W.KXf.digits_le (a := (m : Int)) (Int.natCast_nonneg _) (by omega)
  rwa [Int.natAbs_natCast] at this
theorem num_val (m : Nat) : NumText.digitsVal (numL m) = m := W.KIN.val_back m
theorem num_zero {m : Nat} {r : List Nat} (h : numL m = 48 :: r) : m = 0 := by
  have h1 := NumText.toDigits_all (numL m) (num_digits m)
  rw [num_val, h] at h1
  have hl : (numL m).length = (Nat.toDigits 10 m).length := List.length_map ..
  have hd : (48 :: r).dropWhile (fun x => x == 48) = r.dropWhile (fun x => x == 48) := by
    rw [List.dropWhile_cons_of_pos rfl]
  rw [hd] at h1
  have hle : (r.dropWhile fun x => x == 48).length ≤ r.length := (List.dropWhile_sublist _).length_le
  have hr : (numL m).length = r.length + 1 := by rw [h]; rfl
  cases z : r.dropWhile (fun x => x == 48) with
  | nil =>
    rw [z] at h1
    have h1 : Nat.toDigits 10 m = ['0'] := h1
    have h2 := num_val m
    unfold numL at h2
    rw [h1] at h2
    exact h2.symm.trans (by decide)
  | cons c r' =>
    rw [z] at h1 hle
    have h1 : Nat.toDigits 10 m = (c :: r').map Char.ofNat := h1
    have h2 := congrArg List.length h1
    rw [List.length_map] at h2
    omega
theorem tl_nat (m : Nat) : TL.tl (PyData.int (m : Nat)).shown = numL m := W.KIN.signs_num m
theorem tl_neg (n : Nat) : TL.tl (PyData.int (Int.negSucc n)).shown = 45 :: numL (n + 1) := by
  show TL.tl (Str.ofString (toString (Int.negSucc n))) = _
  rw [show toString (Int.negSucc n) = "-" ++ toString (n + 1) from rfl, TL.tl_ofString, String.toList_append, List.map_append, Nat.toString_eq_ofList_toDigits]
  show 45 :: ((String.ofList (Nat.toDigits 10 (n + 1))).toList).map Char.toNat = 45 :: numL (n + 1)
  rw [show (String.ofList (Nat.toDigits 10 (n + 1))).toList = Nat.toDigits 10 (n + 1) by simp]
  rfl
theorem read_nat {m : Nat} (h : m < 10 ^ 10) : intText? (PyData.int (m : Nat)).shown = some (m : Int) := by
  have ht := tl_nat m
  have hl : (PyData.int (m : Nat)).shown.length = (numL m).length := by rw [← ht]; exact (Array.length_toList).symm
  have := intText_digits (x := (PyData.int (m : Nat)).shown) (by show NumText.AllDigits (TL.tl _); rw [ht]; exact num_digits m) (by show TL.tl _ ≠ []; rw [ht]; exact num_ne m) (by rw [hl]; have := num_len h; omega)
  rw [this]
  show some ((NumText.digitsVal (TL.tl _) : Nat) : Int) = _
  rw [ht, num_val]
theorem read_neg {n : Nat} (h : n + 1 < 10 ^ 10) : intText? (PyData.int (Int.negSucc n)).shown = some (Int.negSucc n) := by
  have ht := tl_neg n
  have hl : (PyData.int (Int.negSucc n)).shown.length = (numL (n + 1)).length + 1 := by
    have : (TL.tl (PyData.int (Int.negSucc n)).shown).length = (45 :: numL (n + 1)).length := by rw [ht]
    rw [← List.length_cons (a := 45), ← this]; exact (Array.length_toList).symm
  have := intText_neg (x := (PyData.int (Int.negSucc n)).shown) ht (num_digits _) (num_ne _) (by rw [hl]; have := num_len h; omega)
  rw [this, num_val]
  rfl
theorem str_ext {a b : Str} (h : TL.tl a = TL.tl b) : a = b := by
  cases a; cases b
  exact congrArg Str.mk (Array.toList_inj.mp h)
theorem rmp_neg {x : Str} {cs : List Nat} (h : TL.tl x = 45 :: cs) : Txt.removeprefix x "-" = ⟨cs.toArray⟩ := by
  rw [StrLaws.removeprefix_eq]
  have hx : x = ⟨(45 :: cs).toArray⟩ := str_ext (by rw [h])
  subst hx
  have hl : (⟨(45 :: cs).toArray⟩ : Str).length = cs.length + 1 := rfl
  have h1 : ("-" : Str).length = 1 := rfl
  rw [if_pos, hl, h1]
  · congr 1
    show ((List.take (cs.length + 1 - 1) (List.drop 1 (45 :: cs))).toArray) = _
    rw [Nat.add_sub_cancel, List.drop_one, List.tail_cons, List.take_length]
  · rw [hl, h1, decide_eq_true (by omega), Bool.true_and]
    unfold PySem.Builtin.Str.subAt
    rw [h1]
    have e1 : ((45 :: cs).toArray.extract 0 (0 + 1)) = #[45] := by simp
    show ((45 :: cs).toArray.extract 0 (0 + 1) == ("-" : Str).cps) = true
    rw [e1]; rfl
theorem rmp_not {x : Str} {c : Nat} {cs : List Nat} (h : TL.tl x = c :: cs) (hc : c ≠ 45) : Txt.removeprefix x "-" = x := by
  rw [StrLaws.removeprefix_eq, if_neg]
  intro z
  rw [Bool.and_eq_true] at z
  have hx : x = ⟨(c :: cs).toArray⟩ := str_ext (by rw [h])
  subst hx
  have z := z.2
  unfold PySem.Builtin.Str.subAt at z
  have h1 : ("-" : Str).length = 1 := rfl
  rw [h1] at z
  have e1 : ((c :: cs).toArray.extract 0 (0 + 1)) = #[c] := by simp
  have z : ((c :: cs).toArray.extract 0 (0 + 1) == ("-" : Str).cps) = true := z
  rw [e1] at z
  have z := beq_iff_eq.mp z
  have z : #[c] = #[45] := z
  exact hc (by simpa using z)
end Fl
end
section
set_option Elab.async false
set_option linter.all false
set_option maxRecDepth 100000
set_option maxHeartbeats 4000000
namespace Fl
open PySem PySem.Spec PyProof.Rows L2 Fx
open Evl (Ex fresh_back)
/-! ### a part of a row read -/
def isDig (c : Nat) : Bool := decide (48 ≤ c) && decide (c ≤ 57)
theorem in_digits (c : Nat) : decide (c ∈ ("0123456789" : Str).cps.toList) = isDig c := by
  have e : ("0123456789" : Str).cps.toList = [48, 49, 50, 51, 52, 53, 54, 55, 56, 57] := rfl
  rw [e]
  unfold isDig
  simp only [List.mem_cons, List.not_mem_nil, or_false]
  by_cases h : 48 ≤ c ∧ c ≤ 57
  · rw [decide_eq_true (by omega), decide_eq_true h.1, decide_eq_true h.2]; rfl
  · rw [decide_eq_false (by omega)]
    by_cases h1 : 48 ≤ c
    · rw [decide_eq_true h1, decide_eq_false (fun h2 => h ⟨h1, h2⟩)]; rfl
    · rw [decide_eq_false h1]; rfl
theorem tl_size (s : Str) : (TL.tl s).length = s.length := Array.length_toList
section
variable {P : Program} {w : World} {K : PySem.W.Frag} {mg : Str → Option Value} {base : Heap} {f : Addr} {fd : FuncData}
abbrev nm_po : List Str := ["part", "digits", "digit"]
theorem sc_po : FnScope nm_po ["part"] (defScope s_part_of) := ⟨rfl, rfl, rfl, by decide +kernel, rfl, by decide +kernel, by decide +kernel⟩
/-- what a text reads as -/
inductive Reads1 : Str → V → Prop
  | word {s : Str} {c : Nat} {r : List Nat} : TL.tl s = c :: r → c ≠ 45 → r.length + 1 ≤ 10 → isDig c = false → Reads1 s (.str s)
  | num {s d : Str} {c : Nat} {r : List Nat} {i : Int} : Txt.removeprefix s "-" = d → TL.tl d = c :: r → r.length + 1 ≤ 10 → (∀ x ∈ c :: r, isDig x = true) → (c = 48 → s = "0") → s.length ≤ 640 → intText? s = some i → Reads1 s (.int i)
def sp_part_of : Sp := fun vs H Q _ => ∃ s v, vs = [.str s] ∧ Reads1 s v ∧ ∀ H', Ex H H' → Q v H'
theorem ok_part_of (F : Fun K "part_of" "part_of" s_part_of f fd) (G : Gb mg) (GM : Gm mg) : FnOk P w K mg base CX0 1 f fd ["part"] sp_part_of := by
  refine F.ok sc_po (fun vs H Q E h => ?_) (fun cdv Ar outer sh H vs Q E hr h => ⟨RB _ _, pss_RB, ?_⟩)
  · obtain ⟨_, _, rfl, _⟩ := h; rfl
  obtain ⟨s, v, rfl, hR, q⟩ := h
  have sz : (1000 : Nat) ≤ sizeLine := by rw [sizeLine_eq]; decide
  -- the text without its sign
  obtain ⟨d, c, r, hd, htl, h10, hs⟩ : ∃ d c r, Txt.removeprefix s "-" = d ∧ TL.tl d = c :: r ∧ r.length + 1 ≤ 10 ∧ s.length ≤ 640 := by
    cases hR with
    | word h1 h2 h3 h4 =>
      refine ⟨s, _, _, rmp_not h1 h2, h1, h3, ?_⟩
      rw [← tl_size, h1, List.length_cons]; omega
    | num h1 h2 h3 h4 h5 h6 h7 => exact ⟨_, _, _, h1, h2, h3, h6⟩
  have hdl : d.length = r.length + 1 := by rw [← tl_size, htl, List.length_cons]
  refine rb_cons <| rs_set 1 (by exact sc_po.nd) <| re_rmp <| re_var 0 rfl ⟨⟨_, rfl⟩, re_str ⟨s, "-", rfl, rfl, by rw [hd, hdl]; omega, ?_⟩⟩
  rw [hd]
  refine rb_cons <| rs_if <| rt_w <| rw_or <| rt_not <| rt_chain op_le op_le <| re_int <| re_cb call_len G.len <| ra_cons <| re_var 1 rfl <| ra_nil ⟨_, d.length, rfl, ⟨Evl.sz_of (show d.length ≤ 100000 by omega), rfl⟩, _, _, rfl, rfl, _, rfl, ?_⟩
  rw [decide_eq_true (by omega)]
  refine ifT <| re_int ⟨_, _, rfl, rfl, _, rfl, ?_⟩
  rw [decide_eq_true (by omega)]
  refine ifF <| rw_or1 <| rt_val <| re_cb (cr_any rfl) GM.any <| ra_cons ?_
  refine re_lc (own := [("digit", 2)]) (g := gName 2) rfl (by exact sc_po.nd) (blkOk_by (N := nm_po) (sc := defScope s_part_of) (by decide +kernel)) (fun _ _ _ _ _ => pg_name (i := 2) (by exact sc_po.nd) rfl (Or.inl rfl)) good_name <|
    ri_str <| re_var 1 rfl ⟨d, rfl, _, _, _, fun i ys => ys = ((TL.tl d).take i).map fun c => V.bl (!isDig c), walk_str, by show d.length ≤ 40000; omega, fun _ _ => trivial, rfl, ?_, ?_⟩
  · rintro i x H2 H3 hi e2 ⟨rfl, z, hz, rfl⟩
    have hz' : (TL.tl d)[i]? = some z := by rw [Array.getElem?_toList]; exact hz
    refine ⟨Ex.refl _, rfl, Ex.refl _, fun s0 H0 C cl fp => re_cmp op_notIn_sign <| re_var 2 rfl <| re_str ⟨z, _, rfl, rfl, Ex.refl _, fun acc ha => ?_⟩⟩
    subst ha
    rw [in_digits, take_snoc hz', List.map_append]; rfl
  rintro p ys H2 hp e2 h2 hl rfl
  have et : (TL.tl d).take d.cps.size = TL.tl d := List.take_of_length_le (by rw [tl_size]; exact Nat.le_refl _)
  refine ra_nil ⟨p, (TL.tl d).map fun c => !isDig c, rfl, .inl (.inl ?_), _, rfl, ?_⟩
  · rw [h2, et, List.map_map]; rfl
  cases hR with
  | word h1 h2' h3 h4 =>
    have e := rmp_not h1 h2'
    rw [hd] at e
    subst e
    have : ((TL.tl d).map fun c => !isDig c).any id = true := by
      rw [h1, List.map_cons, List.any_cons, h4]; rfl
    rw [this]
    exact ifT (rb_one (rs_ret (re_var 0 rfl (q _ e2))))
  | num h1 h2' h3 h4 h5 h6 h7 =>
    rw [hd] at h1
    subst h1
    rw [htl] at h2'
    obtain ⟨rfl, rfl⟩ := List.cons.inj h2'
    have : ((TL.tl d).map fun c => !isDig c).any id = false := by
      rw [List.any_eq_false]
      intro x hx
      obtain ⟨y, hy, rfl⟩ := List.mem_map.mp hx
      rw [htl] at hy
      rw [h4 y hy]; exact Bool.false_ne_true
    rw [this]
    refine ifF (rb_nil ?_)
    have ret : RB (cxOf CX0 P w K mg base nm_po "part_of" (defScope s_part_of) f cdv Ar outer sh H E).nox ((defBody s_part_of).drop 3) { nx := fun _ H' => Q .non H', rt := Q } [some (.str s), some (.str d), none] H2 :=
      rb_one <| rs_ret <| re_ct call_int_str G.int <| ra_cons <| re_var 0 rfl <| ra_nil ⟨s, _, rfl, h7, hs, q _ e2⟩
    refine rb_cons <| rs_if <| rt_w <| rw_and <| rt_cmp op_eq <| re_ixS <| re_var 1 rfl <| re_int ⟨d, 0, c, rfl, rfl, by omega, by show atI (TL.tl d) 0 = some c; rw [htl]; exact atI_nat (j := 0) rfl, re_str ⟨rfl, _, rfl, ?_⟩⟩
    by_cases hc : c = 48
    · rw [decide_eq_true (by rw [hc]; rfl)]
      refine ifT <| rw_and1 <| rt_cmp op_ne <| re_var 0 rfl <| re_str ⟨rfl, _, rfl, ?_⟩
      rw [h5 hc, decide_eq_true rfl]
      refine ifF (rb_nil ?_)
      rw [h5 hc] at ret
      exact ret
    · rw [decide_eq_false (fun z => hc (by
        have z := V.str.inj z
        have z := congrArg TL.tl z
        have z : [c] = [48] := z
        exact (List.cons.inj z).1))]
      exact ifF (rb_nil ret)
end
end Fl
end
section
set_option Elab.async false
set_option linter.all false
set_option maxRecDepth 100000
set_option maxHeartbeats 4000000
namespace Fl
open PySem PySem.Spec PyProof.Rows L2 Fx
open Evl (Ex fresh_back)
/-! ### a line's text reads as the line -/
theorem dig_of {c : Nat} (h : 48 ≤ c ∧ c ≤ 57) : isDig c = true := by
  unfold isDig
  rw [decide_eq_true h.1, decide_eq_true h.2]; rfl
theorem int_reads {i : Int} (h : i.natAbs < 10 ^ 10) : Reads1 (PyData.int i).shown (.int i) := by
  cases i with
  | ofNat m =>
    have hm : m < 10 ^ 10 := h
    have ht := tl_nat m
    obtain ⟨c, r, hc⟩ : ∃ c r, numL m = c :: r := by
      cases z : numL m with
      | nil => exact absurd z (num_ne m)
      | cons c r => exact ⟨c, r, rfl⟩
    have hl := num_len hm
    rw [hc] at ht hl
    have hd := num_digits m
    rw [hc] at hd
    have hc45 : c ≠ 45 := fun z => by
      have := hd c List.mem_cons_self
      omega
    have hs : (PyData.int (m : Nat)).shown.length ≤ 640 := by
      rw [← tl_size, ht]; omega
    refine .num (rmp_not ht hc45) ht hl (fun x hx => dig_of (hd x hx)) (fun z => ?_) hs (read_nat hm)
    subst z
    have hm0 := num_zero hc
    subst hm0
    rfl
  | negSucc n =>
    have hm : n + 1 < 10 ^ 10 := h
    have ht := tl_neg n
    obtain ⟨c, r, hc⟩ : ∃ c r, numL (n + 1) = c :: r := by
      cases z : numL (n + 1) with
      | nil => exact absurd z (num_ne _)
      | cons c r => exact ⟨c, r, rfl⟩
    have hl := num_len hm
    have hd := num_digits (n + 1)
    rw [hc] at ht hl hd
    have hs : (PyData.int (Int.negSucc n)).shown.length ≤ 640 := by
      rw [← tl_size, ht, List.length_cons]; omega
    refine .num (rmp_neg ht) rfl hl (fun x hx => dig_of (hd x hx)) (fun z => ?_) hs (read_neg hm)
    subst z
    have := num_zero hc
    omega
theorem word_reads {s : Str} (h : isWordS s = true) : Reads1 s (.str s) := by
  unfold isWordS at h
  rw [Bool.and_eq_true, Bool.and_eq_true, decide_eq_true_eq, decide_eq_true_eq, List.all_eq_true] at h
  obtain ⟨⟨h1, h2⟩, h3⟩ := h
  have hl := tl_size s
  cases z : TL.tl s with
  | nil => rw [z] at hl; rw [← hl] at h1; exact absurd h1 (by decide)
  | cons c r =>
    have hc := h3 c (by show c ∈ TL.tl s; rw [z]; exact List.mem_cons_self)
    rw [Bool.and_eq_true, decide_eq_true_eq, decide_eq_true_eq] at hc
    rw [z, List.length_cons] at hl
    refine .word z (by omega) (by omega) ?_
    unfold isDig
    rw [decide_eq_false (p := c ≤ 57) (by omega), Bool.and_false]
theorem fits_reads {k : Str} {x : PyData} (h : fitsD k x = true) : Reads1 (partT x) (leafV x) := by
  unfold fitsD at h
  split at h
  · cases x with
    | str s => exact word_reads h
    | _ => exact absurd (show false = true from h) Bool.false_ne_true
  · split at h
    · cases x with
      | int i =>
        have h := fits_numD (i := i) (by unfold fitsD; rw [if_neg (by decide +kernel), if_pos rfl]; exact h)
        obtain ⟨h1, h2⟩ := h
        exact int_reads (by omega)
      | _ => exact absurd (show false = true from h) Bool.false_ne_true
    · split at h
      · cases x with
        | int i =>
          have h : (decide (0 ≤ i) && decide (i ≤ 59)) = true := h
          rw [Bool.and_eq_true, decide_eq_true_eq, decide_eq_true_eq] at h
          exact int_reads (by omega)
        | _ => exact absurd (show false = true from h) Bool.false_ne_true
      · split at h
        · rename_i c
          cases x with
          | str s =>
            have : s = "link" := of_decide_eq_true c.2
            subst this
            exact word_reads (by decide +kernel)
          | _ => exact absurd (show false = true from c.2) Bool.false_ne_true
        · cases x with
          | int i =>
            have h : (decide (0 ≤ i) && decide (i < 6)) = true := h
            rw [Bool.and_eq_true, decide_eq_true_eq, decide_eq_true_eq] at h
            exact int_reads (by omega)
          | _ => exact absurd (show false = true from h) Bool.false_ne_true
theorem line_reads {d : PyData} (h : isLineD d = true) : ∃ ds, d = .tuple ds ∧ ds.length ≤ 4 ∧ 1 ≤ ds.length ∧ (∀ x ∈ ds, smallP x) ∧ ∀ x ∈ ds, Reads1 (partT x) (leafV x) := by
  obtain ⟨ds, e, h4, hs⟩ := line_small h
  obtain ⟨w', xs', kinds, v⟩ := valid_of h
  have e2 := v.eq
  rw [e] at e2
  cases e2
  refine ⟨_, e, h4, Nat.succ_pos _, hs, fun x hx => ?_⟩
  rcases List.mem_cons.mp hx with rfl | hx
  · have hw : ∀ p ∈ forms, isWordS p.1 = true := by
      have : forms.all (fun p => isWordS p.1) = true := by decide +kernel
      exact fun p hp => List.all_eq_true.mp this p hp
    exact word_reads (hw _ (lk_mem v.form))
  · obtain ⟨i, hi⟩ := List.getElem?_of_mem hx
    have hl := (List.getElem?_eq_some_iff.mp hi).1
    obtain ⟨k, hk⟩ : ∃ k, kinds[i]? = some k := ⟨kinds[i]'(by rw [← v.len]; exact hl), List.getElem?_eq_getElem _⟩
    exact fits_reads (v.fits i k x hk hi)
end Fl
end
section
set_option Elab.async false
set_option linter.all false
set_option maxRecDepth 100000
set_option maxHeartbeats 4000000
namespace Fx
open PySem PySem.Spec PyProof.Rows L2
open Evl (Ex fresh_back)
section
variable {X : Cx} {σ : L2.St} {H : Hp} {Q : VK} {o e : Expr} {apos pos : Pos}
/-- z.split(y) -/
theorem re_spl (h : RE X o σ H fun x H1 => (∃ a, x = .str a) ∧ RE X e σ H1 fun y H2 => ∃ a b, x = .str a ∧ y = .str b ∧ (b.length == 0) = false ∧ a.length + 2 ≤ sizeLine ∧ ∀ p H3, H2 p = none → Ex H2 H3 → H3 p = some (.lst ((Txt.split a b).map V.str)) → Q (.ref p) H3)
    (hs : starEach [e] X.env = [(false, eval e X.env)] := by rfl) (hbase : attributeBase o "split" X.env (eval o X.env) = eval o X.env := by rfl) (hline : (apos.endLine == pos.line) = true := by rfl) : RE X (.Call (.Attribute o "split" apos) [e] [] pos) σ H Q :=
  re_of (pe_split pe_RE pe_RE hs hbase hline) (h.mono fun x H1 ⟨hx, q⟩ => ⟨hx, q.mono fun y H2 ⟨a, b, ex, ey, h1, h2, q⟩ => ⟨a, b, ex, by rw [ey], h1, h2, fun p hp => q p _ hp (Ex.new hp) upd_same⟩⟩)
end
end Fx
namespace Fl
open PySem PySem.Spec PyProof.Rows L2 Fx
open Evl (Ex fresh_back)
/-! ### a row split, a row read -/
theorem word_free {s : Str} (h : isWordS s = true) : ∀ c ∈ TL.tl s, 45 ≤ c := fun c hc => by
  unfold isWordS at h
  rw [Bool.and_eq_true, List.all_eq_true] at h
  have := h.2 c hc
  rw [Bool.and_eq_true, decide_eq_true_eq, decide_eq_true_eq] at this
  omega
theorem int_free {i : Int} : ∀ c ∈ TL.tl (PyData.int i).shown, 45 ≤ c := fun c hc => by
  cases i with
  | ofNat m =>
    have hc : c ∈ TL.tl (PyData.int (m : Nat)).shown := hc
    rw [tl_nat] at hc
    have := num_digits m c hc
    omega
  | negSucc n =>
    rw [tl_neg] at hc
    rcases List.mem_cons.mp hc with rfl | hc
    · exact Nat.le_refl _
    · have := num_digits (n + 1) c hc
      omega
theorem fits_free {k : Str} {x : PyData} (h : fitsD k x = true) : ∀ c ∈ TL.tl (partT x), 45 ≤ c := by
  rcases fits_small h with ⟨i, rfl, _⟩ | ⟨s, rfl, _⟩
  · exact int_free
  · unfold fitsD at h
    split at h
    · exact word_free h
    · split at h
      · exact absurd (show false = true from h) Bool.false_ne_true
      · split at h
        · exact absurd (show false = true from h) Bool.false_ne_true
        · split at h
          · rename_i c
            have : s = "link" := of_decide_eq_true c.2
            subst this
            exact word_free (by decide +kernel)
          · exact absurd (show false = true from h) Bool.false_ne_true
theorem key_word {w : Str} {kinds : List Str} (h : forms.lookup w = some kinds) : isWordS w = true ∧ w ≠ "function" := by
  have : forms.all (fun p => isWordS p.1 && !decide (p.1 = "function")) = true := by decide +kernel
  have := List.all_eq_true.mp this _ (lk_mem h)
  rw [Bool.and_eq_true, Bool.not_eq_true', decide_eq_false_iff_not] at this
  exact this
theorem line_free {d : PyData} (h : isLineD d = true) : ∀ x ∈ itemsD d, ∀ c ∈ TL.tl (partT x), 45 ≤ c := fun x hx => by
  obtain ⟨w, xs, kinds, v⟩ := valid_of h
  have e := v.eq
  subst e
  rcases List.mem_cons.mp hx with rfl | hx
  · exact word_free (key_word v.form).1
  · obtain ⟨i, hi⟩ := List.getElem?_of_mem hx
    have hl := (List.getElem?_eq_some_iff.mp hi).1
    obtain ⟨k, hk⟩ : ∃ k, kinds[i]? = some k := ⟨kinds[i]'(by rw [← v.len]; exact hl), List.getElem?_eq_getElem _⟩
    exact fits_free (v.fits i k x hk hi)
theorem split_sp {parts : List Str} (hne : parts ≠ []) (h : ∀ p ∈ parts, ¬ 32 ∈ TL.tl p) : Txt.split (Str.join " " parts) " " = parts := by
  rw [← TL.join_eq]
  exact TL.split_join (y := " ") (s := 32) (S := []) rfl (by decide +kernel) hne h
theorem split_nl {parts : List Str} (hne : parts ≠ []) (h : ∀ p ∈ parts, ¬ 10 ∈ TL.tl p) : Txt.split (Str.join "\n" parts) "\n" = parts := by
  rw [← TL.join_eq]
  exact TL.split_join (y := "\n") (s := 10) (S := []) rfl (by decide +kernel) hne h
theorem line_split {d : PyData} (h : isLineD d = true) : Txt.split (lineT d) " " = (itemsD d).map partT := by
  obtain ⟨ds, rfl, _, h1, _⟩ := line_reads h
  refine split_sp (fun z => ?_) fun p hp => ?_
  · have := congrArg List.length z
    rw [List.length_map] at this
    have h1 : 1 ≤ (itemsD (.tuple ds)).length := h1
    have this : (itemsD (.tuple ds)).length = 0 := this
    omega
  · obtain ⟨x, hx, rfl⟩ := List.mem_map.mp hp
    intro z
    have := line_free h x hx 32 z
    omega
section
variable {P : Program} {w : World} {K : PySem.W.Frag} {mg : Str → Option Value} {base : Heap} {f : Addr} {fd : FuncData}
abbrev nm_lo : List Str := ["row", "part"]
theorem sc_lo : FnScope nm_lo ["row"] (defScope s_line_of) := ⟨rfl, rfl, rfl, by decide +kernel, rfl, by decide +kernel, by decide +kernel⟩
def sp_line_of : Sp := fun vs H Q _ => ∃ (s : Str) (zs : List (Str × V)), vs = [.str s] ∧ s.length ≤ 100 ∧ zs.length ≤ 100 ∧ Txt.split s " " = zs.map (·.1) ∧ (∀ z ∈ zs, Reads1 z.1 z.2) ∧ ∀ t H', Ex H H' → H' t = some (.tup (zs.map (·.2))) → Q (.ref t) H'
theorem leaf_da {K : PySem.W.Frag} {H : Hp} : ∀ {ds : List PyData}, (∀ x ∈ ds, smallP x) → DA K H (ds.map leafV) ds
  | [], _ => .nil
  | x :: r, h => by
    rcases h x List.mem_cons_self with ⟨i, rfl, _⟩ | ⟨s, rfl, _⟩
    · exact .cons (.int i) (leaf_da fun y hy => h y (List.mem_cons_of_mem _ hy))
    · exact .cons (.str s) (leaf_da fun y hy => h y (List.mem_cons_of_mem _ hy))
theorem ok_line_of (F : Fun K "line_of" "line_of" s_line_of f fd) (G : Gb mg) (c1 : Cl P w K mg base CX0 1 "part_of" sp_part_of) : FnOk P w K mg base CX0 2 f fd ["row"] sp_line_of := by
  refine F.ok sc_lo (fun vs H Q E h => ?_) (fun cdv Ar outer sh H vs Q E hr h => ⟨RB _ _, pss_RB, ?_⟩)
  · obtain ⟨_, _, rfl, _⟩ := h; rfl
  obtain ⟨s, zs, rfl, hs, hz, hsp, hrd, q⟩ := h
  have sz : (1000 : Nat) ≤ sizeLine := by rw [sizeLine_eq]; decide
  refine rb_one <| rs_ret <| re_ct call_tuple_of G.tuple <| ra_cons ?_
  refine re_lc (own := [("part", 1)]) (g := gName 1) rfl (by exact sc_lo.nd) (blkOk_by (N := nm_lo) (sc := defScope s_line_of) (by decide +kernel)) (fun _ _ _ _ _ => pg_name (i := 1) (by exact sc_lo.nd) rfl (Or.inl rfl)) good_name ?_
  refine ri_list <| re_spl <| re_var 0 rfl ⟨⟨_, rfl⟩, re_str ⟨s, " ", rfl, rfl, rfl, by omega, fun p H1 hp e1 h1 => ?_⟩⟩
  rw [hsp] at h1
  refine ⟨p, (zs.map (·.1)).map V.str, rfl, .inl (.inl h1), _, _, _, fun i acc => acc = (zs.take i).map (·.2), walk_list (xs := (zs.map (·.1)).map V.str), by rw [List.length_map, List.length_map]; omega, fun H' e' => Evl.ex_l e' (.inl (.inl h1)), rfl, ?_, ?_⟩
  · rintro i x Ha Hb hi e2 ⟨rfl, hx⟩
    rw [List.map_map, List.getElem?_map] at hx
    cases hzi : zs[i]? with
    | none => rw [hzi] at hx; cases hx
    | some z =>
      rw [hzi] at hx
      obtain rfl : V.str z.1 = x := Option.some.inj hx
      refine ⟨Ex.refl _, rfl, Ex.refl _, fun s0 H0 C cl fp => re_call c1 hr <| ra_cons <| re_var 1 rfl <| ra_nil ⟨z.1, z.2, rfl, hrd z (List.mem_of_getElem? hzi), fun H' e' => ⟨e', fun acc hacc => ?_⟩⟩⟩
      have hacc : acc = _ := hacc
      show acc ++ [_] = (zs.take (i + 1)).map (·.2)
      rw [hacc, take_snoc hzi, List.map_append]; rfl
  · rintro p2 ys H2 hp2 e2 h2 hl hacc
    rw [List.length_map, List.length_map, List.take_length] at hacc
    have hacc : ys = zs.map (·.2) := hacc
    subst hacc
    refine ra_nil ⟨p2, _, rfl, .inl ⟨.inl (.inl h2), fun l hl2 => q l _ ((e1.trans e2).trans (Ex.new hl2)) upd_same⟩⟩
/-! ### the head of a function -/
def headT (n : Str) : Str := "function " ++ n
theorem head_join (n : Str) : headT n = Str.join " " (["function", n] : List Str) := by
  rw [← TL.join_eq]
  rfl
theorem head_split {n : Str} (h : isWordS n = true) : Txt.split (headT n) " " = (["function", n] : List Str) := by
  rw [head_join]
  refine split_sp (by intro z; cases z) fun p hp z => ?_
  simp only [List.mem_cons, List.not_mem_nil, or_false] at hp
  rcases hp with rfl | rfl
  · exact absurd z (by decide +kernel)
  · have := word_free h 32 z
    omega
abbrev nm_ih : List Str := ["row", "last", "parts"]
theorem sc_ih : FnScope nm_ih ["row", "last"] (defScope s_u_is_head) := ⟨rfl, rfl, rfl, by decide +kernel, rfl, by decide +kernel, by decide +kernel⟩
def sp_is_head : Sp := fun vs H Q _ => ∃ (s last : Str), vs = [.str s, .str last] ∧ s.length ≤ 100 ∧
  ((∃ zs : List Str, Txt.split s " " = zs ∧ zs.length ≤ 100 ∧ (∀ z ∈ zs.head?, z ≠ "function") ∧ 1 ≤ zs.length ∧ ∀ H', Ex H H' → Q (.bl false) H') ∨
    ∃ n, s = headT n ∧ isWordS n = true ∧ decide (last.cps.toList < n.cps.toList) = true ∧ ∀ H', Ex H H' → Q (.bl true) H')
theorem ok_is_head (F : Fun K "_is_head" "_is_head" s_u_is_head f fd) (G : Gb mg) (c1 : Cl P w K mg base CX0 1 "is_word" (sp_is_word K)) : FnOk P w K mg base CX0 2 f fd ["row", "last"] sp_is_head := by
  refine F.ok sc_ih (fun vs H Q E h => ?_) (fun cdv Ar outer sh H vs Q E hr h => ⟨RB _ _, pss_RB, ?_⟩)
  · obtain ⟨_, _, rfl, _⟩ := h; rfl
  obtain ⟨s, last, rfl, hs, hcase⟩ := h
  have sz : (1000 : Nat) ≤ sizeLine := by rw [sizeLine_eq]; decide
  refine rb_cons <| rs_set 2 (by exact sc_ih.nd) <| re_spl <| re_var 0 rfl ⟨⟨_, rfl⟩, re_str ⟨s, " ", rfl, rfl, rfl, by omega, fun p H1 hp e1 h1 => ?_⟩⟩
  have u64 : (cxOf CX0 P w K mg base nm_ih "_is_head" (defScope s_u_is_head) f cdv Ar outer sh H E).nox.A.units + 64 < cLine := hu64 hr
  rcases hcase with ⟨zs, hzs, hl, hne, hpos, q⟩ | ⟨n, rfl, hn, hlt, q⟩
  · rw [hzs] at h1
    refine rb_one <| rs_ret <| re_and <| re_cmp op_eq <| re_cb call_len G.len <| ra_cons <| re_var 2 rfl <| ra_nil ⟨_, zs.length, rfl, .inl ⟨_, .inl (.inl h1), (List.length_map ..).symm⟩, re_int ⟨rfl, _, rfl, ?_⟩⟩
    by_cases h2 : zs.length = 2
    · rw [decide_eq_true (by rw [h2]; rfl)]
      refine ifT <| re_and <| re_cmp op_eq <| re_ixL <| re_var 2 rfl <| re_int ⟨p, zs.map V.str, 0, V.str (zs.headD ""), rfl, rfl, .inl (.inl h1), ?_, re_str ⟨rfl, _, rfl, ?_⟩⟩
      · cases zs with
        | nil => exact absurd hpos (by decide)
        | cons z r => exact atI_nat (j := 0) rfl
      · cases zs with
        | nil => exact absurd hpos (by decide)
        | cons z r =>
          rw [List.headD_cons, decide_eq_false (fun e => hne z rfl (V.str.inj e))]
          exact ifF (q _ e1)
    · rw [decide_eq_false (fun e => h2 (by have := V.int.inj e; omega))]
      exact ifF (q _ e1)
  · rw [head_split hn] at h1
    have h1 : H1 p = some (.lst [.str "function", .str n]) := h1
    refine rb_one <| rs_ret <| re_and <| re_cmp op_eq <| re_cb call_len G.len <| ra_cons <| re_var 2 rfl <| ra_nil ⟨_, 2, rfl, .inl ⟨_, .inl (.inl h1), rfl⟩, re_int ⟨rfl, _, rfl, ?_⟩⟩
    rw [decide_eq_true (show V.int ((2 : Nat) : Int) = V.int 2 from rfl)]
    refine ifT <| re_and <| re_cmp op_eq <| re_ixL <| re_var 2 rfl <| re_int ⟨p, _, 0, _, rfl, rfl, .inl (.inl h1), atI_nat (j := 0) rfl, re_str ⟨rfl, _, rfl, ?_⟩⟩
    rw [decide_eq_true rfl]
    refine ifT <| re_and <| re_call c1 hr (hk := by decide) <| ra_cons <| re_ixL <| re_var 2 rfl <| re_int ⟨p, _, 1, _, rfl, rfl, .inl (.inl h1), atI_nat (j := 1) rfl, ra_nil ⟨.str n, .str n, rfl, .str n, word_short hn, fun r H2 e2 hr2 => ?_⟩⟩
    subst hr2
    refine ⟨isWordS n, rfl, ?_⟩
    rw [hn]
    refine ifT <| re_one <| re_cmp op_gt_str <| re_ixL <| re_var 2 rfl <| re_int ⟨p, _, 1, _, rfl, rfl, .inl (.inl (e2 _ _ h1)), atI_nat (j := 1) rfl, re_var 1 rfl ⟨n, last, rfl, rfl, ?_⟩⟩
    rw [hlt]
    exact q _ (e1.trans e2)
end
end Fl
end
section
set_option Elab.async false
set_option linter.all false
set_option maxRecDepth 100000
set_option maxHeartbeats 4000000
namespace Fl
open PySem PySem.Spec PyProof.Rows L2 Fx
open Evl (Ex fresh_back)
/-! ### a text's rows -/
theorem tl_cat (a b : Str) : TL.tl (a ++ b) = TL.tl a ++ TL.tl b := by
  cases a; cases b
  show Array.toList (_ ++ _) = _
  rw [Array.toList_append]
theorem glue_from (sep : Str) : ∀ (r : List Str) (acc : Array Nat), (r.foldl (fun acc p => acc ++ sep.cps ++ p.cps) acc).toList = acc.toList ++ r.flatMap fun q => TL.tl sep ++ TL.tl q
  | [], acc => by rw [List.foldl_nil, List.flatMap_nil, List.append_nil]
  | q :: r, acc => by
    rw [List.foldl_cons, glue_from sep r, Array.toList_append, Array.toList_append, List.flatMap_cons, List.append_assoc, List.append_assoc, List.append_assoc]
theorem tl_join (sep p : Str) (r : List Str) : TL.tl (Str.join sep (p :: r)) = TL.tl p ++ r.flatMap fun q => TL.tl sep ++ TL.tl q := by
  rw [← TL.join_eq]
  exact glue_from sep r p.cps
theorem join_flat (sep : Str) {gs : List (List Str)} (hne : ∀ g ∈ gs, g ≠ []) (h0 : gs ≠ []) : Str.join sep (gs.map (Str.join sep)) = Str.join sep gs.flatten := by
  have one : ∀ h : List Str, h ≠ [] → (h.flatMap fun q => TL.tl sep ++ TL.tl q) = TL.tl sep ++ TL.tl (Str.join sep h) := fun h hh => by
    cases h with
    | nil => exact absurd rfl hh
    | cons q t => rw [tl_join, List.flatMap_cons, List.append_assoc]
  have many : ∀ gs : List (List Str), (∀ g ∈ gs, g ≠ []) → (gs.flatten.flatMap fun q => TL.tl sep ++ TL.tl q) = (gs.map (Str.join sep)).flatMap fun q => TL.tl sep ++ TL.tl q := fun gs => by
    induction gs with
    | nil => intro _; rfl
    | cons g r ih =>
      intro h
      rw [List.flatten_cons, List.flatMap_append, List.map_cons, List.flatMap_cons, one g (h g List.mem_cons_self), ih fun x hx => h x (List.mem_cons_of_mem _ hx)]
  cases gs with
  | nil => exact absurd rfl h0
  | cons g r =>
    have hg := hne g List.mem_cons_self
    refine str_ext ?_
    rw [List.map_cons, tl_join]
    cases g with
    | nil => exact absurd rfl hg
    | cons p t =>
      rw [List.flatten_cons, List.cons_append, tl_join, tl_join, List.flatMap_append, many r fun x hx => hne x (List.mem_cons_of_mem _ hx), List.append_assoc]
inductive Row where
  | head (n : Str)
  | line (d : PyData)
def rowT : Row → Str
  | .head n => headT n
  | .line d => lineT d
def rowsR (ys : List Str) (ls : Str → List PyData) : List Row := ys.flatMap fun n => .head n :: (ls n).map .line
theorem rows_text {ys : List Str} {ls : Str → List PyData} (h0 : ys ≠ []) : progT ys ls = Str.join "\n" ((rowsR ys ls).map rowT) := by
  have e : (rowsR ys ls).map rowT = (ys.map fun n => headT n :: (ls n).map lineT).flatten := by
    unfold rowsR
    rw [List.map_flatMap, List.flatMap_def]
    congr 1
    refine List.map_congr_left fun n _ => ?_
    rw [List.map_cons, List.map_map]; rfl
  rw [e, ← join_flat _ (fun g hg => ?_) (fun z => h0 (List.map_eq_nil_iff.mp z)), List.map_map]
  · rfl
  · obtain ⟨n, _, rfl⟩ := List.mem_map.mp hg
    exact List.cons_ne_nil _ _
theorem row_free {r : Row} (h : match r with | .head n => isWordS n = true | .line d => isLineD d = true) : ¬ 10 ∈ TL.tl (rowT r) := by
  cases r with
  | head n =>
    intro z
    have z : 10 ∈ TL.tl ("function " ++ n) := z
    rw [tl_cat] at z
    rcases List.mem_append.mp z with z | z
    · exact absurd z (by decide +kernel)
    · have := word_free h 10 z
      omega
  | line d =>
    intro z
    obtain ⟨ds, rfl, _, h1, _⟩ := line_reads h
    have hf := line_free h
    have z : 10 ∈ TL.tl (Str.join " " (ds.map partT)) := z
    cases ds with
    | nil => exact absurd h1 (by decide)
    | cons x r =>
      rw [List.map_cons, tl_join] at z
      rcases List.mem_append.mp z with z | z
      · have := hf x List.mem_cons_self 10 z
        omega
      · obtain ⟨q, hq, z⟩ := List.mem_flatMap.mp z
        obtain ⟨y, hy, rfl⟩ := List.mem_map.mp hq
        rcases List.mem_append.mp z with z | z
        · exact absurd z (by decide +kernel)
        · have := hf y (List.mem_cons_of_mem _ hy) 10 z
          omega
/-- a text of functions taken apart into rows -/
theorem rows_split {ys : List Str} {ls : Str → List PyData} (h0 : ys ≠ []) (hw : ∀ n ∈ ys, isWordS n = true) (hl : ∀ n ∈ ys, ∀ d ∈ ls n, isLineD d = true) : Txt.split (progT ys ls) "\n" = (rowsR ys ls).map rowT := by
  rw [rows_text h0]
  refine split_nl (fun z => ?_) fun p hp => ?_
  · have z := List.map_eq_nil_iff.mp z
    cases ys with
    | nil => exact h0 rfl
    | cons n r => cases z
  · obtain ⟨r, hr, rfl⟩ := List.mem_map.mp hp
    obtain ⟨n, hn, hr⟩ := List.mem_flatMap.mp hr
    rcases List.mem_cons.mp hr with rfl | hr
    · exact row_free (hw n hn)
    · obtain ⟨d, hd, rfl⟩ := List.mem_map.mp hr
      exact row_free (hl n hn d hd)
end Fl
end
section
set_option Elab.async false
set_option linter.all false
set_option maxRecDepth 100000
set_option maxHeartbeats 4000000
namespace Fl
open PySem PySem.Spec PyProof.Rows L2 Fx
open Evl (Ex fresh_back)
/-! ### where a row stands -/
theorem rows_cat (as bs : List Str) (ls : Str → List PyData) : rowsR (as ++ bs) ls = rowsR as ls ++ rowsR bs ls := by
  unfold rowsR
  rw [List.flatMap_append]
theorem rows_one (n : Str) (bs : List Str) (ls : Str → List PyData) : rowsR (n :: bs) ls = .head n :: ((ls n).map .line ++ rowsR bs ls) := by
  unfold rowsR
  rw [List.flatMap_cons]; rfl
/-- row i is line j of function k, or the head behind it -/
structure AtRow (ys : List Str) (ls : Str → List PyData) (i k j : Nat) (n : Str) : Prop where
  fn : ys[k]? = some n
  le : j ≤ (ls n).length
  pos : i = (rowsR (ys.take k) ls).length + 1 + j
theorem AtRow.split {ys : List Str} {ls : Str → List PyData} {i k j : Nat} {n : Str} (A : AtRow ys ls i k j n) : rowsR ys ls = rowsR (ys.take k) ls ++ (.head n :: ((ls n).map .line ++ rowsR (ys.drop (k + 1)) ls)) := by
  conv => lhs; rw [← List.take_append_drop k ys, drop_at A.fn]
  rw [rows_cat, rows_one]
/-- the row is a line -/
theorem AtRow.line {ys : List Str} {ls : Str → List PyData} {i k j : Nat} {n : Str} {r : Row} (A : AtRow ys ls i k j n) (h : (rowsR ys ls)[i]? = some r) (hj : j < (ls n).length) : ∃ d, (ls n)[j]? = some d ∧ r = .line d ∧ AtRow ys ls (i + 1) k (j + 1) n := by
  obtain ⟨d, hd⟩ : ∃ d, (ls n)[j]? = some d := ⟨_, List.getElem?_eq_getElem hj⟩
  refine ⟨d, hd, ?_, A.fn, hj, by have := A.pos; omega⟩
  rw [A.split, A.pos, List.getElem?_append_right (by omega), show (rowsR (ys.take k) ls).length + 1 + j - (rowsR (ys.take k) ls).length = j + 1 by omega, List.getElem?_cons_succ, List.getElem?_append_left (by rw [List.length_map]; exact hj), List.getElem?_map, hd] at h
  exact (Option.some.inj h).symm
/-- the row is a head -/
theorem AtRow.head {ys : List Str} {ls : Str → List PyData} {i k j : Nat} {n : Str} {r : Row} (A : AtRow ys ls i k j n) (h : (rowsR ys ls)[i]? = some r) (hj : ¬ j < (ls n).length) : ∃ m, ys[k + 1]? = some m ∧ r = .head m ∧ AtRow ys ls (i + 1) (k + 1) 0 m := by
  have hle := A.le
  have hjl : j = (ls n).length := by omega
  rw [A.split, A.pos, List.getElem?_append_right (by omega), show (rowsR (ys.take k) ls).length + 1 + j - (rowsR (ys.take k) ls).length = j + 1 by omega, List.getElem?_cons_succ, List.getElem?_append_right (by rw [List.length_map]; omega), List.length_map, show j - (ls n).length = 0 by omega] at h
  cases hm : ys[k + 1]? with
  | none =>
    have : ys.drop (k + 1) = [] := List.drop_eq_nil_of_le (List.getElem?_eq_none_iff.mp hm)
    rw [this] at h
    cases h
  | some m =>
    rw [drop_at hm, rows_one] at h
    refine ⟨m, rfl, (Option.some.inj h).symm, hm, Nat.zero_le _, ?_⟩
    have tk : ys.take (k + 1) = ys.take k ++ [n] := take_snoc A.fn
    rw [tk, rows_cat, rows_one, List.length_append, List.length_cons, List.length_append, List.length_map]
    show i + 1 = _ + ((ls n).length + 0 + 1) + 1 + 0
    have := A.pos
    omega
theorem row_first {ys : List Str} {ls : Str → List PyData} {r : Row} (h : (rowsR ys ls)[0]? = some r) : ∃ n, ys[0]? = some n ∧ r = .head n ∧ AtRow ys ls 1 0 0 n := by
  cases ys with
  | nil => cases h
  | cons n t =>
    rw [rows_one] at h
    exact ⟨n, rfl, (Option.some.inj h).symm, rfl, Nat.zero_le _, rfl⟩
theorem rows_end {ys : List Str} {ls : Str → List PyData} {k j : Nat} {n : Str} (A : AtRow ys ls (rowsR ys ls).length k j n) : k + 1 = ys.length ∧ j = (ls n).length := by
  have h := congrArg List.length A.split
  have hp := A.pos
  have hle := A.le
  rw [List.length_append, List.length_cons, List.length_append, List.length_map] at h
  have hz : (rowsR (ys.drop (k + 1)) ls).length = 0 := by omega
  have hk := (List.getElem?_eq_some_iff.mp A.fn).1
  refine ⟨?_, by omega⟩
  cases hd : ys.drop (k + 1) with
  | nil => have := List.drop_eq_nil_iff.mp hd; omega
  | cons m t => rw [hd, rows_one] at hz; cases hz
end Fl
end
section
set_option Elab.async false
set_option linter.all false
set_option maxRecDepth 100000
set_option maxHeartbeats 4000000
namespace Fx
open PySem PySem.Spec PyProof.Rows L2
open Evl (Ex fresh_back)
section
variable {X : Cx} {e : Expr} {σ : L2.St} {H : Hp} {QB : Bool → Hp → Prop}
/-- the truth of a text -/
theorem rt_tx (h : RE X e σ H fun x H1 => ∃ y : Str, x = .str y ∧ y.length ≤ sizeLine ∧ QB ((y.length : Int) != 0) H1)
    (he : ∀ whole, isTrue e X.env whole = (do let v ← whole; standAt e.pos; holding [v] (truthy v)) := by intro _; rfl) : RT X e σ H QB :=
  rt_of (pt_truth pe_RE he) (h.mono fun x H1 ⟨y, ex, hy, q⟩ => ⟨_, by rw [ex]; exact ⟨hy, rfl⟩, q⟩)
end
end Fx
namespace Fl
open PySem PySem.Spec PyProof.Rows L2 Fx
open Evl (Ex fresh_back)
/-! ### a text read -/
def Srt (ys : List Str) : Prop := ∀ i a b, ys[i]? = some a → ys[i + 1]? = some b → decide (a.cps.toList < b.cps.toList) = true
structure RdI (K : PySem.W.Frag) (H0 H : Hp) (fo p : Addr) (T : List V) (ad : Str → Addr) (xs : Str → List V) (ys : List Str) (ls : Str → List PyData) (k j : Nat) (n : Str) : Prop where
  fo : H fo = some (.dK ((ys.take (k + 1)).map fun m => ((Sum.inr m : Key), V.ref (ad m))))
  at_ : ∀ m ∈ ys.take (k + 1), H (ad m) = some (.lst (xs m)) ∧ DA K H (xs m) (if m = n then (ls n).take j else ls m)
  inj : ∀ m ∈ ys.take (k + 1), ∀ m' ∈ ys.take (k + 1), ad m = ad m' → m = m'
  new : ∀ m ∈ ys.take (k + 1), H0 (ad m) = none ∧ ad m ≠ p
  pl : H p = some (.lst T)
  ex : Ex H0 H
/-- all functions of pre are read -/
structure PreI (K : PySem.W.Frag) (H0 H : Hp) (fo p : Addr) (T : List V) (ad : Str → Addr) (xs : Str → List V) (pre : List Str) (ls : Str → List PyData) : Prop where
  fo : H fo = some (.dK (pre.map fun m => ((Sum.inr m : Key), V.ref (ad m))))
  at_ : ∀ m ∈ pre, H (ad m) = some (.lst (xs m)) ∧ DA K H (xs m) (ls m)
  inj : ∀ m ∈ pre, ∀ m' ∈ pre, ad m = ad m' → m = m'
  new : ∀ m ∈ pre, H0 (ad m) = none ∧ ad m ≠ p
  pl : H p = some (.lst T)
  ex : Ex H0 H
theorem RdI.pre {K : PySem.W.Frag} {H0 H : Hp} {fo p : Addr} {T : List V} {ad : Str → Addr} {xs : Str → List V} {ys : List Str} {ls : Str → List PyData} {k j : Nat} {n : Str} (I : RdI K H0 H fo p T ad xs ys ls k j n) (hj : j = (ls n).length) : PreI K H0 H fo p T ad xs (ys.take (k + 1)) ls := by
  refine ⟨I.fo, fun m hm => ?_, I.inj, I.new, I.pl, I.ex⟩
  obtain ⟨h1, h2⟩ := I.at_ m hm
  refine ⟨h1, ?_⟩
  by_cases z : m = n
  · rw [if_pos z, hj, List.take_length] at h2
    rw [z]; rw [z] at h2; exact h2
  · rw [if_neg z] at h2; exact h2
theorem PreI.mono {K : PySem.W.Frag} {H0 H H' : Hp} {fo p : Addr} {T : List V} {ad : Str → Addr} {xs : Str → List V} {pre : List Str} {ls : Str → List PyData} (I : PreI K H0 H fo p T ad xs pre ls) (e : Ex H H') : PreI K H0 H' fo p T ad xs pre ls :=
  ⟨e _ _ I.fo, fun m hm => ⟨e _ _ (I.at_ m hm).1, (I.at_ m hm).2.mono e⟩, I.inj, I.new, e _ _ I.pl, I.ex.trans e⟩
theorem RdI.mono {K : PySem.W.Frag} {H0 H H' : Hp} {fo p : Addr} {T : List V} {ad : Str → Addr} {xs : Str → List V} {ys : List Str} {ls : Str → List PyData} {k j : Nat} {n : Str} (I : RdI K H0 H fo p T ad xs ys ls k j n) (e : Ex H H') : RdI K H0 H' fo p T ad xs ys ls k j n :=
  ⟨e _ _ I.fo, fun m hm => ⟨e _ _ (I.at_ m hm).1, (I.at_ m hm).2.mono e⟩, I.inj, I.new, e _ _ I.pl, I.ex.trans e⟩
theorem da_lines {K : PySem.W.Frag} {H H' : Hp} {xs : List V} {ds : List PyData} (hl : ∀ d ∈ ds, isLineD d = true) (h : DA K H xs ds) (e : ∀ b zs, H b = some (.tup zs) → H' b = some (.tup zs)) (e2 : ∀ b ob zs, H b = some (.frz ob (.tup zs)) → H' b = some (.frz ob (.tup zs))) : DA K H' xs ds :=
  DA.lines hl h fun a zs hs => sqt_ex (fun b o ho ts ht => by
    rcases ht with rfl | ⟨ob, rfl⟩
    · exact e _ _ ho
    · exact e2 _ _ _ ho) hs
/-- a new function -/
theorem PreI.step {K : PySem.W.Frag} {H0 H : Hp} {fo p l : Addr} {T : List V} {ad : Str → Addr} {xs : Str → List V} {ys : List Str} {ls : Str → List PyData} {k : Nat} {m : Str} (I : PreI K H0 H fo p T ad xs (ys.take k) ls) (hn : ys.Nodup) (hm : ys[k]? = some m) (hl : ∀ n ∈ ys, ∀ d ∈ ls n, isLineD d = true) (nfo : H0 fo = none) (h : H l = some (.lst [])) (h0 : H0 l = none) (hp : l ≠ p) (hf : ∀ z ∈ ys.take k, ad z ≠ l) :
    RdI K H0 (upd H fo (.dK (putK ((ys.take k).map fun z => ((Sum.inr z : Key), V.ref (ad z))) (.inr m) (.ref l)))) fo p T (fun z => if z = m then l else ad z) (fun z => if z = m then [] else xs z) ys ls k 0 m := by
  have tk : ys.take (k + 1) = ys.take k ++ [m] := take_snoc hm
  have fresh : ∀ z ∈ ys.take k, z ≠ m := fun z hz e => by
    have hn := hn
    rw [← List.take_append_drop k ys, drop_at hm] at hn
    exact (List.nodup_append.mp hn).2.2 z hz m List.mem_cons_self e
  have lf : l ≠ fo := fun z => by rw [z, I.fo] at h; cases h
  have pf : p ≠ fo := fun z => by have := I.pl; rw [z, I.fo] at this; cases this
  have keep : ∀ {b : Addr} {zs : List V}, H b = some (.lst zs) → upd H fo (.dK (putK ((ys.take k).map fun z => ((Sum.inr z : Key), V.ref (ad z))) (.inr m) (.ref l))) b = some (.lst zs) := fun {b zs} hb => by
    rw [upd_ne (fun z => by rw [z, I.fo] at hb; cases hb)]; exact hb
  refine ⟨?_, fun z hz => ?_, fun z hz z' hz' e => ?_, fun z hz => ?_, keep I.pl, fun b o hb => by rw [upd_ne (ne_of_none hb nfo)]; exact I.ex _ _ hb⟩
  · rw [upd_same, putK_new, tk, List.map_append]
    · have e1 : ((ys.take k).map fun z => ((Sum.inr z : Key), V.ref (ad z))) = (ys.take k).map fun z => ((Sum.inr z : Key), V.ref (if z = m then l else ad z)) := List.map_congr_left fun z hz => by rw [if_neg (fresh z hz)]
      rw [e1]
      show _ = some (HO.dK (_ ++ [((Sum.inr m : Key), V.ref (if m = m then l else ad m))]))
      rw [if_pos rfl]
    · cases zv : valV ((ys.take k).map fun z => ((Sum.inr z : Key), V.ref (ad z))) (.inr m) with
      | none => rfl
      | some u =>
        have := valV_in zv
        rw [List.map_map] at this
        obtain ⟨z, hz, e⟩ := List.mem_map.mp this
        exact absurd (Sum.inr.inj e) (fresh z hz)
  · rw [tk] at hz
    rcases List.mem_append.mp hz with hz | hz
    · obtain ⟨g1, g2⟩ := I.at_ z hz
      simp only [if_neg (fresh z hz)]
      refine ⟨keep g1, da_lines (hl z (List.mem_of_mem_take hz)) g2 (fun b zs hb => ?_) fun b ob zs hb => ?_⟩
      · rw [upd_ne (fun y => by rw [y, I.fo] at hb; cases hb)]; exact hb
      · rw [upd_ne (fun y => by rw [y, I.fo] at hb; cases hb)]; exact hb
    · rw [List.mem_singleton.mp hz]
      simp only [if_true]
      exact ⟨keep h, .nil⟩
  · rw [tk] at hz hz'
    rcases List.mem_append.mp hz with hz | hz
    · rcases List.mem_append.mp hz' with hz' | hz'
      · rw [if_neg (fresh z hz), if_neg (fresh z' hz')] at e
        exact I.inj z hz z' hz' e
      · have := List.mem_singleton.mp hz'
        rw [if_neg (fresh z hz), if_pos this] at e
        exact absurd e (hf z hz)
    · have h1 := List.mem_singleton.mp hz
      rcases List.mem_append.mp hz' with hz' | hz'
      · rw [if_pos h1, if_neg (fresh z' hz')] at e
        exact absurd e.symm (hf z' hz')
      · rw [h1, List.mem_singleton.mp hz']
  · rw [tk] at hz
    rcases List.mem_append.mp hz with hz | hz
    · rw [if_neg (fresh z hz)]; exact I.new z hz
    · rw [if_pos (List.mem_singleton.mp hz)]; exact ⟨h0, hp⟩
/-- a line more -/
theorem RdI.step {K : PySem.W.Frag} {H0 H : Hp} {fo p : Addr} {T : List V} {ad : Str → Addr} {xs : Str → List V} {ys : List Str} {ls : Str → List PyData} {k j : Nat} {n : Str} {d : PyData} {v : V} (I : RdI K H0 H fo p T ad xs ys ls k j n) (hm : n ∈ ys.take (k + 1)) (hl : ∀ n ∈ ys, ∀ d ∈ ls n, isLineD d = true) (hd : (ls n)[j]? = some d) (hv : D K H v d) :
    RdI K H0 (upd H (ad n) (.lst (xs n ++ [v]))) fo p T ad (fun z => if z = n then xs n ++ [v] else xs z) ys ls k (j + 1) n := by
  obtain ⟨a1, a2⟩ := I.at_ n hm
  rw [if_pos rfl] at a2
  obtain ⟨n0, np⟩ := I.new n hm
  have hln := hl n (List.mem_of_mem_take hm)
  have kt : ∀ b zs, H b = some (.tup zs) → upd H (ad n) (.lst (xs n ++ [v])) b = some (.tup zs) := fun b zs hb => by rw [upd_ne (fun y => by rw [y, a1] at hb; cases hb)]; exact hb
  have kf : ∀ b ob zs, H b = some (.frz ob (.tup zs)) → upd H (ad n) (.lst (xs n ++ [v])) b = some (.frz ob (.tup zs)) := fun b ob zs hb => by rw [upd_ne (fun y => by rw [y, a1] at hb; cases hb)]; exact hb
  refine ⟨?_, fun z hz => ?_, I.inj, I.new, by rw [upd_ne (Ne.symm np)]; exact I.pl, fun b o hb => by rw [upd_ne (ne_of_none hb n0)]; exact I.ex _ _ hb⟩
  · rw [upd_ne (fun y => by have := I.fo; rw [y, a1] at this; cases this)]; exact I.fo
  · obtain ⟨g1, g2⟩ := I.at_ z hz
    by_cases e : z = n
    · subst e
      simp only [if_true]
      refine ⟨upd_same, ?_⟩
      rw [take_snoc hd]
      have h1 := da_lines (K := K) (fun y hy => hln y (List.mem_of_mem_take hy)) a2 kt kf
      have h2 := da_lines (K := K) (ds := [d]) (fun y hy => by rw [List.mem_singleton.mp hy]; exact hln d (List.mem_of_getElem? hd)) (.cons hv .nil) kt kf
      exact h1.app h2
    · simp only [if_neg e] at g2 ⊢
      refine ⟨?_, da_lines (hl z (List.mem_of_mem_take hz)) g2 kt kf⟩
      rw [upd_ne (fun y => e (I.inj z hz n hm y))]; exact g1
section
variable {P : Program} {w : World} {K : PySem.W.Frag} {mg : Str → Option Value} {base : Heap} {f : Addr} {fd : FuncData}
abbrev nm_fo : List Str := ["text", "functions", "name", "at", "row", "line"]
theorem sc_fo : FnScope nm_fo ["text"] (defScope s_functions_of) := ⟨rfl, rfl, rfl, by decide +kernel, rfl, by decide +kernel, by decide +kernel⟩
def sp_functions_of (K : PySem.W.Frag) : Sp := fun vs H Q _ => ∃ (ys : List Str) (ls : Str → List PyData), vs = [.str (progT ys ls)] ∧ ys ≠ [] ∧ ys.Nodup ∧ ys.length ≤ 24 ∧ Srt ys ∧ (∀ n ∈ ys, isWordS n = true ∧ (ls n).length ≤ 1000 ∧ ∀ d ∈ ls n, isLineD d = true) ∧
  ∀ (H' : Hp) (fo : Addr) (ad : Str → Addr) (xs : Str → List V), Ex H H' → H' fo = some (.dK (ys.map fun m => ((Sum.inr m : Key), V.ref (ad m)))) → (∀ m ∈ ys, H' (ad m) = some (.lst (xs m)) ∧ DA K H' (xs m) (ls m)) → Q (.ref fo) H'
theorem rows_len {ls : Str → List PyData} : ∀ {ys : List Str}, (∀ n ∈ ys, (ls n).length ≤ 1000) → (rowsR ys ls).length ≤ 1001 * ys.length
  | [], _ => Nat.le_refl _
  | n :: r, h => by
    rw [rows_one, List.length_cons, List.length_append, List.length_map, List.length_cons]
    have := rows_len (ys := r) fun m hm => h m (List.mem_cons_of_mem _ hm)
    have := h n List.mem_cons_self
    omega
theorem word8 {n : Str} (h : isWordS n = true) : 1 ≤ n.length ∧ n.length ≤ 8 := by
  unfold isWordS at h
  rw [Bool.and_eq_true, Bool.and_eq_true, decide_eq_true_eq, decide_eq_true_eq] at h
  exact h.1
theorem empty_lt {n : Str} (h : isWordS n = true) : decide (("" : Str).cps.toList < n.cps.toList) = true := by
  have h1 := (word8 h).1
  rw [← tl_size] at h1
  show decide ([] < TL.tl n) = true
  cases z : TL.tl n with
  | nil => rw [z] at h1; exact absurd h1 (by decide)
  | cons c r => exact decide_eq_true (List.nil_lt_cons c r)
theorem prog_len {ys : List Str} {ls : Str → List PyData} (h24 : ys.length ≤ 24) (hw : ∀ n ∈ ys, isWordS n = true ∧ (ls n).length ≤ 1000 ∧ ∀ d ∈ ls n, isLineD d = true) : (progT ys ls).length ≤ 2000000 := by
  unfold progT
  rw [join_len]
  have hb := sum_up (c := 61017) (xs := (ys.map fun n => funT n (ls n)).map (·.length)) fun m hm => by
    obtain ⟨s, hs', rfl⟩ := List.mem_map.mp hm
    obtain ⟨n, hn, rfl⟩ := List.mem_map.mp hs'
    obtain ⟨w1, w2, w3⟩ := hw n hn
    have := fun_len w1 (ds := ls n) w3
    omega
  rw [List.length_map, List.length_map] at hb
  rw [List.length_map]
  have h1 : ("\n" : Str).length = 1 := rfl
  rw [h1]
  omega
theorem ok_functions_of (F : Fun K "functions_of" "functions_of" s_functions_of f fd) (G : Gb mg) (c1 : Cl P w K mg base CX0 2 "line_of" sp_line_of) (c2 : Cl P w K mg base CX0 2 "_is_head" sp_is_head) (c3 : Cl P w K mg base CX0 4 "is_line" (sp_is_line K)) : FnOk P w K mg base CX0 5 f fd ["text"] (sp_functions_of K) := by
  refine F.ok sc_fo (fun vs H Q E h => ?_) (fun cdv Ar outer sh H vs Q E hr h => ⟨RB _ _, pss_RB, ?_⟩)
  · obtain ⟨_, _, rfl, _⟩ := h; rfl
  obtain ⟨ys, ls, rfl, hne, hnd, h24, hsrt, hy, q⟩ := h
  have hplen := prog_len h24 hy
  have sz : (2000002 : Nat) ≤ sizeLine := by rw [sizeLine_eq]; decide
  have hrl := rows_len (ls := ls) fun n hn => (hy n hn).2.1
  have hsp := rows_split (ls := ls) hne (fun n hn => (hy n hn).1) (fun n hn => (hy n hn).2.2)
  refine rb_cons <| rs_if <| rt_not <| rt_val <| re_isi kit_S G.isinstance G.str <| re_var 0 rfl ⟨.str (progT ys ls), .str _, _, rfl, ?_⟩
  refine ifF (rb_nil ?_)
  refine rb_cons <| rs_set 1 (by exact sc_fo.nd) <| re_dnew fun fo H1 hfo e1 h1 => ?_
  refine rb_cons <| rs_set 2 (by exact sc_fo.nd) <| re_str ?_
  refine rb_cons <| rs_for (g := gTup K 2 (gCons (gName 3) (gCons (gName 4) gNil))) PassesOwn.never rfl (pg_tup rfl (pgs_cons (pg_name (i := 3) (by exact sc_fo.nd) rfl (Or.inl rfl)) (pgs_cons (pg_name (i := 4) (by exact sc_fo.nd) rfl (Or.inl rfl)) pgs_nil))) good_tup2 ?_
  refine ri_enum G.enumerate <| ra_cons <| re_spl <| re_var 0 rfl ⟨⟨_, rfl⟩, re_str ⟨_, "\n", rfl, rfl, rfl, by omega, fun p H2 hp e2 h2 => ?_⟩⟩
  rw [hsp] at h2
  have e02 := e1.trans e2
  have hfo2 := e2 _ _ h1
  refine ra_nil ⟨p, _, rfl, .inl (.inl h2), _, _, _, fun i σ' H' => ∃ nm a3 a4 a5, σ' = [some (.str (progT ys ls)), some (.ref fo), some (.str nm), a3, a4, a5] ∧
    ((i = 0 ∧ nm = "" ∧ H' fo = some (.dK []) ∧ H' p = some (.lst (((rowsR ys ls).map rowT).map V.str)) ∧ Ex H H') ∨ ∃ k j ad xs, AtRow ys ls i k j nm ∧ RdI K H H' fo p (((rowsR ys ls).map rowT).map V.str) ad xs ys ls k j nm), walk_enum (xs := ((rowsR ys ls).map rowT).map V.str), ⟨_, _, _, _, rfl, .inl ⟨rfl, rfl, hfo2, h2, e02⟩⟩, ?_, ?_, ?_⟩
  · rintro i σ' H' hi ⟨_, _, _, _, _, ⟨_, _, _, h, _⟩ | ⟨_, _, _, _, _, I⟩⟩
    · exact .inl (.inl h)
    · exact .inl (.inl I.pl)
  · rintro i x σ' Ha Hb hi ⟨nm, a3, a4, a5, rfl, inv⟩ ⟨t, x1, y1, rfl, hT, rfl, hx, hyv⟩
    obtain rfl := Option.some.inj hx
    have hyv : (((rowsR ys ls).map rowT).map V.str)[i]? = some y1 := hyv
    rw [List.getElem?_map, List.getElem?_map] at hyv
    cases hr' : (rowsR ys ls)[i]? with
    | none => rw [hr'] at hyv; cases hyv
    | some r =>
    rw [hr'] at hyv
    obtain rfl : V.str (rowT r) = y1 := Option.some.inj hyv
    have et : Ex Ha (upd Ha t (.tup [V.int (i : Nat), V.str (rowT r)])) := Ex.new hT
    refine ⟨t, [V.int (i : Nat), V.str (rowT r)], rfl, .inl (.inl upd_same), rfl, _, [V.str (rowT r)], rfl, V.str (rowT r), [], rfl, rfl, ?_⟩
    generalize upd Ha t (.tup [V.int (i : Nat), V.str (rowT r)]) = Hb at *
    -- a head
    have headStep : ∀ {De : Ends}, (∀ σ' H', (∃ (nm : Str) (a3 a4 a5 : Option V), σ' = [some (.str (progT ys ls)), some (.ref fo), some (.str nm), a3, a4, a5] ∧ ((i + 1 = 0 ∧ nm = "" ∧ H' fo = some (.dK []) ∧ H' p = some (.lst (((rowsR ys ls).map rowT).map V.str)) ∧ Ex H H') ∨ ∃ k j ad xs, AtRow ys ls (i + 1) k j nm ∧ RdI K H H' fo p (((rowsR ys ls).map rowT).map V.str) ad xs ys ls k j nm)) → De.nx σ' H') → ∀ {k : Nat} {m : Str} {ad : Str → Addr} {xs : Str → List V}, PreI K H Hb fo p (((rowsR ys ls).map rowT).map V.str) ad xs (ys.take k) ls → ys[k]? = some m → r = .head m → AtRow ys ls (i + 1) k 0 m → decide (nm.cps.toList < m.cps.toList) = true → nm.length ≤ 8 →
        RB (cxOf CX0 P w K mg base nm_fo "functions_of" (defScope s_functions_of) f cdv Ar outer sh H E).nox ((match (defBody s_functions_of).getD 3 (.Pass ⟨0, 0, 0, 0⟩) with | .For _ _ b _ _ => b | _ => [])) De [some (.str (progT ys ls)), some (.ref fo), some (.str nm), some (.int (i : Nat)), some (.str (rowT r)), a5] Hb := by
      intro De kk k m ad xs I hm hr2 A hlt hn8
      subst hr2
      obtain ⟨w1, w2, w3⟩ := hy m (List.mem_of_getElem? hm)
      have hm8 := (word8 w1).2
      have f9 : ("function " : Str).length = 9 := rfl
      have hrow : (rowT (.head m)).length ≤ 100 := by
        show ("function " ++ m).length ≤ 100
        rw [Str.length_append, f9]; omega
      refine rb_cons <| rs_set 5 (by exact sc_fo.nd) <| re_call c1 hr (hk := by decide) <| ra_cons <| re_var 4 rfl <| ra_nil ⟨headT m, [("function", .str "function"), (m, .str m)], rfl, hrow, Nat.le_of_ble_eq_true rfl, head_split w1, fun z hz => ?_, fun t2 H3 e3 h3 => ?_⟩
      · simp only [List.mem_cons, List.not_mem_nil, or_false] at hz
        rcases hz with rfl | rfl
        · exact word_reads (by decide +kernel)
        · exact word_reads w1
      refine rb_one <| rs_if <| rt_val <| re_call c2 hr (hk := by decide) <| ra_cons <| re_var 4 rfl <| ra_cons <| re_var 2 rfl <| ra_nil ⟨headT m, nm, rfl, hrow, .inr ⟨m, rfl, w1, hlt, fun H4 e4 => ⟨_, rfl, ?_⟩⟩⟩
      refine ifT <| rb_cons <| rs_set 2 (by exact sc_fo.nd) <| re_ixL <| re_spl <| re_var 4 rfl ⟨⟨_, rfl⟩, re_str ⟨headT m, " ", rfl, rfl, rfl, by have : (headT m).length ≤ 100 := hrow; omega, fun p2 H5 hp2 e5 h5 => ?_⟩⟩
      rw [head_split w1] at h5
      have h5 : H5 p2 = some (.lst [.str "function", .str m]) := h5
      refine re_int ⟨p2, _, 1, _, rfl, rfl, .inl (.inl h5), atI_nat (j := 1) rfl, ?_⟩
      refine rb_one <| rs_dput (hu_of hr) <| re_lst <| ra_nil ⟨by decide, fun l H6 hl6 e6 h6 => ?_⟩
      have eb6 := e3.trans (e4.trans (e5.trans e6))
      have eb5 := e3.trans (e4.trans e5)
      have I6 := I.mono eb6
      have I5 := I.mono eb5
      have hkl := (List.getElem?_eq_some_iff.mp hm).1
      refine re_var 1 rfl <| re_var 2 rfl ⟨fo, _, .inr m, rfl, I6.fo, rfl, by rw [List.length_map, List.length_take]; omega, kk _ _ ⟨_, _, _, _, rfl, .inr ⟨k, 0, _, _, A, I6.step hnd hm (fun n hn => (hy n hn).2.2) hfo h6 (fresh_back I5.ex hl6) (fun z => by have := I5.pl; rw [← z, hl6] at this; cases this) (fun z hz y => by have := (I5.at_ z hz).1; rw [y, hl6] at this; cases this)⟩⟩⟩
    -- a line
    have lineStep : ∀ {De : Ends}, (∀ σ' H', (∃ (nm : Str) (a3 a4 a5 : Option V), σ' = [some (.str (progT ys ls)), some (.ref fo), some (.str nm), a3, a4, a5] ∧ ((i + 1 = 0 ∧ nm = "" ∧ H' fo = some (.dK []) ∧ H' p = some (.lst (((rowsR ys ls).map rowT).map V.str)) ∧ Ex H H') ∨ ∃ k j ad xs, AtRow ys ls (i + 1) k j nm ∧ RdI K H H' fo p (((rowsR ys ls).map rowT).map V.str) ad xs ys ls k j nm)) → De.nx σ' H') → ∀ {k j : Nat} {d : PyData} {ad : Str → Addr} {xs : Str → List V}, RdI K H Hb fo p (((rowsR ys ls).map rowT).map V.str) ad xs ys ls k j nm → nm ∈ ys.take (k + 1) → (ls nm)[j]? = some d → r = .line d → AtRow ys ls (i + 1) k (j + 1) nm →
        RB (cxOf CX0 P w K mg base nm_fo "functions_of" (defScope s_functions_of) f cdv Ar outer sh H E).nox ((match (defBody s_functions_of).getD 3 (.Pass ⟨0, 0, 0, 0⟩) with | .For _ _ b _ _ => b | _ => [])) De [some (.str (progT ys ls)), some (.ref fo), some (.str nm), some (.int (i : Nat)), some (.str (rowT r)), a5] Hb := by
      intro De kk k j d ad xs I hm hd hr2 A
      subst hr2
      obtain ⟨w1, w2, w3⟩ := hy nm (List.mem_of_mem_take hm)
      have ok := w3 d (List.mem_of_getElem? hd)
      have hl60 := line_len ok
      have hsp2 := line_split ok
      obtain ⟨ds, rfl, h4, h1', hsm, hrd⟩ := line_reads ok
      refine rb_cons <| rs_set 5 (by exact sc_fo.nd) <| re_call c1 hr (hk := by decide) <| ra_cons <| re_var 4 rfl <| ra_nil ⟨lineT (.tuple ds), ds.map fun x => (partT x, leafV x), rfl, by omega, by rw [List.length_map]; omega, by rw [hsp2, List.map_map]; rfl, fun z hz => ?_, fun t2 H3 e3 h3 => ?_⟩
      · obtain ⟨x, hx, rfl⟩ := List.mem_map.mp hz
        exact hrd x hx
      rw [List.map_map] at h3
      have dt : D K H3 (.ref t2) (.tuple ds) := .tup (.inl (.inl h3)) (leaf_da hsm)
      refine rb_one <| rs_if <| rt_val <| re_call c2 hr (hk := by decide) <| ra_cons <| re_var 4 rfl <| ra_cons <| re_var 2 rfl <| ra_nil ⟨lineT (.tuple ds), nm, rfl, by omega, .inl ⟨ds.map partT, hsp2, by rw [List.length_map]; omega, fun z hz => ?_, by rw [List.length_map]; omega, fun H4 e4 => ⟨_, rfl, ?_⟩⟩⟩
      · obtain ⟨ww, xs', kinds, v⟩ := valid_of ok
        have e := v.eq
        cases e
        have hz : z = ww := (Option.some.inj hz).symm
        rw [hz]; exact (key_word v.form).2
      have nl := word8 w1
      refine ifF <| rb_one <| rs_if <| rt_w <| rw_and <| rt_tx <| re_var 2 rfl ⟨nm, rfl, by omega, ?_⟩
      rw [show ((nm.length : Int) != 0) = true by rw [bne_iff_ne]; omega]
      refine ifT <| rw_and1 <| rt_val <| re_call c3 hr (hk := by decide) <| ra_cons <| re_var 5 rfl <| ra_nil ⟨.ref t2, .tuple ds, rfl, dt.mono e4, line_short ok, fun rr H5 e5 h5 => ?_⟩
      subst h5
      refine ⟨_, rfl, ?_⟩
      rw [ok]
      have eb5 := e3.trans (e4.trans e5)
      have I5 := I.mono eb5
      obtain ⟨g1, g2⟩ := I5.at_ nm hm
      rw [if_pos rfl] at g2
      have hjl : (xs nm).length ≤ 1000 := by rw [g2.length, List.length_take]; omega
      have hval : valV ((ys.take (k + 1)).map fun m => ((Sum.inr m : Key), V.ref (ad m))) (.inr nm) = some (.ref (ad nm)) := dn_val (t := ad) hm
      refine ifT <| rb_one <| rs_expr <| re_append <| re_dget (hu_of hr) <| re_var 1 rfl <| re_var 2 rfl ⟨fo, _, .inr nm, .ref (ad nm), rfl, I5.fo, rfl, hval, ad nm, rfl, ⟨_, g1⟩, re_var 5 rfl ⟨xs nm, g1, by omega, kk _ _ ⟨_, _, _, _, rfl, .inr ⟨k, j + 1, _, _, A, I5.step hm (fun n hn => (hy n hn).2.2) hd (dt.mono (e4.trans e5))⟩⟩⟩⟩
    rcases inv with ⟨rfl, rfl, g1, g2, g3⟩ | ⟨k, j, ad, xs, A, I⟩
    · obtain ⟨m, hm, hr2, A⟩ := row_first hr'
      refine headStep (fun _ _ h => h) (k := 0) (ad := fun _ => 0) (xs := fun _ => []) ⟨et _ _ g1, (fun z hz => nomatch hz), (fun z hz => nomatch hz), (fun z hz => nomatch hz), et _ _ g2, g3.trans et⟩ hm hr2 A (empty_lt (hy m (List.mem_of_getElem? hm)).1) (Nat.zero_le _)
    · have hnm : nm ∈ ys.take (k + 1) := by
        rw [take_snoc A.fn]
        exact List.mem_append_right _ List.mem_cons_self
      by_cases hj : j < (ls nm).length
      · obtain ⟨d, hd, hr2, A2⟩ := A.line hr' hj
        exact lineStep (fun _ _ h => h) (I.mono et) hnm hd hr2 A2
      · obtain ⟨m, hm, hr2, A2⟩ := A.head hr' hj
        have hle := A.le
        exact headStep (fun _ _ h => h) ((I.pre (by omega)).mono et) hm hr2 A2 (hsrt k nm m A.fn hm) (word8 (hy nm (List.mem_of_getElem? A.fn)).1).2
  · rintro σ' H' ⟨nm, a3, a4, a5, rfl, ⟨h0, _⟩ | ⟨k, j, ad, xs, A, I⟩⟩
    · rw [List.length_map, List.length_map] at h0
      cases ys with
      | nil => exact absurd rfl hne
      | cons n r => rw [rows_one] at h0; cases h0
    · rw [List.length_map, List.length_map] at A
      obtain ⟨k1, k2⟩ := rows_end A
      have I2 := I.pre k2
      rw [k1, List.take_length] at I2
      exact rb_one <| rs_ret <| re_var 1 rfl <| q H' fo ad xs I2.ex I2.fo I2.at_
end
end Fl
end
section
set_option Elab.async false
set_option linter.all false
set_option maxRecDepth 100000
set_option maxHeartbeats 4000000
namespace Fl
open PySem PySem.Spec PyProof.Rows L2 Fx
open Evl (Ex fresh_back)
/-! ### one text, one program -/
theorem reads_one {s : Str} {v u : V} (h : Reads1 s v) (h' : Reads1 s u) : v = u := by
  cases h with
  | word h1 h2 h3 h4 =>
    cases h' with
    | word _ _ _ _ => rfl
    | num g1 g2 g3 g4 g5 g6 g7 =>
      rw [rmp_not h1 h2] at g1
      subst g1
      rw [h1] at g2
      obtain ⟨rfl, rfl⟩ := List.cons.inj g2
      rw [g4 _ List.mem_cons_self] at h4
      cases h4
  | num h1 h2 h3 h4 h5 h6 h7 =>
    cases h' with
    | word g1 g2 g3 g4 =>
      rw [rmp_not g1 g2] at h1
      subst h1
      rw [g1] at h2
      obtain ⟨rfl, rfl⟩ := List.cons.inj h2
      rw [h4 _ List.mem_cons_self] at g4
      cases g4
    | num g1 g2 g3 g4 g5 g6 g7 =>
      rw [h7] at g7
      rw [Option.some.inj g7]
theorem part_inj {x y : PyData} (hx : smallP x) (hy : smallP y) (rx : Reads1 (partT x) (leafV x)) (ry : Reads1 (partT y) (leafV y)) (h : partT x = partT y) : x = y := by
  rw [h] at rx
  have e := reads_one rx ry
  rcases hx with ⟨i, rfl, _⟩ | ⟨s, rfl, _⟩
  · rcases hy with ⟨j, rfl, _⟩ | ⟨t, rfl, _⟩
    · have e : V.int i = V.int j := e
      rw [V.int.inj e]
    · have e : V.int i = V.str t := e
      cases e
  · rcases hy with ⟨j, rfl, _⟩ | ⟨t, rfl, _⟩
    · have e : V.str s = V.int j := e
      cases e
    · have e : V.str s = V.str t := e
      rw [V.str.inj e]
theorem map_inj {ds es : List PyData} (hd : ∀ x ∈ ds, smallP x ∧ Reads1 (partT x) (leafV x)) (he : ∀ x ∈ es, smallP x ∧ Reads1 (partT x) (leafV x)) (h : ds.map partT = es.map partT) : ds = es := by
  induction ds generalizing es with
  | nil =>
    cases es with
    | nil => rfl
    | cons y r => cases h
  | cons x r ih =>
    cases es with
    | nil => cases h
    | cons y r' =>
      rw [List.map_cons, List.map_cons] at h
      obtain ⟨h1, h2⟩ := List.cons.inj h
      obtain ⟨a1, a2⟩ := hd x List.mem_cons_self
      obtain ⟨b1, b2⟩ := he y List.mem_cons_self
      rw [part_inj a1 b1 a2 b2 h1, ih (fun z hz => hd z (List.mem_cons_of_mem _ hz)) (fun z hz => he z (List.mem_cons_of_mem _ hz)) h2]
theorem line_inj {d e : PyData} (hd : isLineD d = true) (he : isLineD e = true) (h : lineT d = lineT e) : d = e := by
  have h1 := line_split hd
  have h2 := line_split he
  rw [h, h2] at h1
  obtain ⟨ds, rfl, _, _, a1, a2⟩ := line_reads hd
  obtain ⟨es, rfl, _, _, b1, b2⟩ := line_reads he
  have h1 : es.map partT = ds.map partT := h1
  rw [map_inj (fun x hx => ⟨b1 x hx, b2 x hx⟩) (fun x hx => ⟨a1 x hx, a2 x hx⟩) h1]
def RowOk : Row → Prop
  | .head n => isWordS n = true
  | .line d => isLineD d = true
theorem row_inj {r s : Row} (hr : RowOk r) (hs : RowOk s) (h : rowT r = rowT s) : r = s := by
  have mix : ∀ {n : Str} {d : PyData}, isWordS n = true → isLineD d = true → headT n ≠ lineT d := fun {n d} hn hd h => by
    have h1 := head_split hn
    rw [h, line_split hd] at h1
    obtain ⟨w, xs, kinds, v⟩ := valid_of hd
    have e := v.eq
    subst e
    exact (key_word v.form).2 (List.cons.inj h1).1
  cases r with
  | head n =>
    cases s with
    | head m =>
      have h1 := head_split hr
      have h : headT n = headT m := h
      rw [h, head_split hs] at h1
      rw [(List.cons.inj (List.cons.inj h1).2).1]
    | line d => exact absurd h (mix hr hs)
  | line d =>
    cases s with
    | head m => exact absurd h.symm (mix hs hr)
    | line e => rw [line_inj hr hs h]
theorem rows_inj : ∀ {rs ss : List Row}, (∀ r ∈ rs, RowOk r) → (∀ r ∈ ss, RowOk r) → rs.map rowT = ss.map rowT → rs = ss
  | [], [], _, _, _ => rfl
  | [], _ :: _, _, _, h => nomatch h
  | _ :: _, [], _, _, h => nomatch h
  | r :: rs, s :: ss, h1, h2, h => by
    rw [List.map_cons, List.map_cons] at h
    obtain ⟨a, b⟩ := List.cons.inj h
    rw [row_inj (h1 r List.mem_cons_self) (h2 s List.mem_cons_self) a, rows_inj (fun x hx => h1 x (List.mem_cons_of_mem _ hx)) (fun x hx => h2 x (List.mem_cons_of_mem _ hx)) b]
/-- rows by their functions -/
def grp : List Row → List PyData × List (Str × List PyData)
  | [] => ([], [])
  | .line d :: r => (d :: (grp r).1, (grp r).2)
  | .head n :: r => ([], (n, (grp r).1) :: (grp r).2)
theorem grp_lines (r : List Row) : ∀ ds : List PyData, grp (ds.map .line ++ r) = (ds ++ (grp r).1, (grp r).2)
  | [] => rfl
  | d :: ds => by
    rw [List.map_cons, List.cons_append]
    show (d :: (grp (ds.map .line ++ r)).1, (grp (ds.map .line ++ r)).2) = _
    rw [grp_lines r ds]; rfl
theorem grp_rows (ls : Str → List PyData) : ∀ ys : List Str, grp (rowsR ys ls) = ([], ys.map fun n => (n, ls n))
  | [] => rfl
  | n :: r => by
    rw [rows_one]
    show ([], (n, (grp ((ls n).map .line ++ rowsR r ls)).1) :: (grp ((ls n).map .line ++ rowsR r ls)).2) = _
    rw [grp_lines, grp_rows ls r, List.append_nil]; rfl
theorem rows_ok {ys : List Str} {ls : Str → List PyData} (hw : ∀ n ∈ ys, isWordS n = true) (hl : ∀ n ∈ ys, ∀ d ∈ ls n, isLineD d = true) : ∀ r ∈ rowsR ys ls, RowOk r := fun r hr => by
  obtain ⟨n, hn, hr⟩ := List.mem_flatMap.mp hr
  rcases List.mem_cons.mp hr with rfl | hr
  · exact hw n hn
  · obtain ⟨d, hd, rfl⟩ := List.mem_map.mp hr
    exact hl n hn d hd
theorem prog_inj {ys zs : List Str} {ls ms : Str → List PyData} (h0 : ys ≠ []) (k0 : zs ≠ []) (hw : ∀ n ∈ ys, isWordS n = true) (hl : ∀ n ∈ ys, ∀ d ∈ ls n, isLineD d = true) (kw : ∀ n ∈ zs, isWordS n = true) (kl : ∀ n ∈ zs, ∀ d ∈ ms n, isLineD d = true) (h : progT ys ls = progT zs ms) : ys = zs ∧ ∀ n ∈ ys, ls n = ms n := by
  have h1 := rows_split h0 hw hl
  rw [h, rows_split k0 kw kl] at h1
  have h2 := rows_inj (rows_ok kw kl) (rows_ok hw hl) h1
  have h3 := congrArg (fun r => (grp r).2) h2
  simp only [grp_rows] at h3
  have h4 := congrArg (List.map (·.1)) h3
  rw [List.map_map, List.map_map] at h4
  have e1 : ∀ (l : List Str) (q : Str → List PyData), l.map ((fun x : Str × List PyData => x.1) ∘ fun n => (n, q n)) = l := fun l q => by
    have : ((fun x : Str × List PyData => x.1) ∘ fun n => (n, q n)) = id := rfl
    rw [this, List.map_id]
  rw [e1, e1] at h4
  subst h4
  refine ⟨rfl, fun n hn => ?_⟩
  have := List.map_inj_left.mp h3 n hn
  exact (Prod.mk.inj this).2.symm
end Fl
end
section
set_option Elab.async false
set_option linter.all false
set_option maxRecDepth 100000
set_option maxHeartbeats 4000000
namespace Fl
open PySem PySem.Spec PyProof.Rows L2 Fx
open Evl (Ex fresh_back)
/-! ### a program read -/
abbrev psOf (ys : List Str) (ls : Str → List PyData) : PlP := ys.map fun n => (n, ls n)
theorem ps_bk {ys : List Str} {ls : Str → List PyData} {ad : Str → Addr} : bkV (bkL (psOf ys ls) ad) = ys.map fun m => ((Sum.inr m : Key), V.ref (ad m)) := by
  rw [bk_eq, List.map_map]; rfl
/-- a class whose __init__ keeps right functions -/
structure MkR (P : Program) (w : World) (K : PySem.W.Frag) (mg : Str → Option Value) (base : Heap) (k : Nat) (C : Addr) (b : Bool) (g : Addr) (gd : FuncData) (sp : Sp) : Prop where
  mkc : Mk K C g
  hb : L2.Binds K gd ["self", "functions"] []
  fn : FnOk P w K mg base CX0 k g gd ["self", "functions"] sp
  sp : ∀ {H : Hp} {Q : VK} {E : XK} {a dx fa : Addr} {fs : List Fn3}, H a = some (.ins C dx []) → H fa = some (.dK (bkV fs)) → (∀ e ∈ fs, D K H e.2.1 e.2.2) → Book b fs →
    (∀ H' g ys t xs ls, exBut a H H' → FitsB fs ys ls → ProgN K C H' a dx g ys t xs ls → Q .non H') → sp [.ref a, .ref fa] H Q E
section
variable {P : Program} {w : World} {K : PySem.W.Frag} {mg : Str → Option Value} {base : Heap} {f : Addr} {fd : FuncData}
theorem mkr_prog {C : Addr} (M : MkO P w K mg base 7 "Program" C ["self", "functions"] (sp_initB K C false)) : ∃ g gd, MkR P w K mg base 7 C false g gd (sp_initB K C false) := by
  obtain ⟨g, gd, h1, h2, h3⟩ := M.ex
  exact ⟨g, gd, h1, h2, h3, fun ha hfa hd bk q => ⟨_, _, _, _, rfl, ha, hfa, hd, bk, q⟩⟩
theorem mkr_bare {C : Addr} (M : MkX P w K mg base CX0 8 "BareProgram" C (sp_sup C (sp_initB K C true))) : ∃ g gd, MkR P w K mg base 8 C true g gd (sp_sup C (sp_initB K C true)) := by
  obtain ⟨g, gd, h1, h2, h3⟩ := M.ex
  exact ⟨g, gd, h1, h2, h3, fun ha hfa hd bk q => ⟨_, _, [], _, rfl, ha, _, _, _, _, rfl, ha, hfa, hd, bk, q⟩⟩
abbrev nm_rd : List Str := ["cls", "text"]
theorem sc_rd : FnScope nm_rd nm_rd (defScope s_program_read) := ⟨rfl, rfl, rfl, by decide +kernel, rfl, by decide +kernel, by decide +kernel⟩
def sp_read (K : PySem.W.Frag) (C : Addr) (b : Bool) : Sp := fun vs H Q _ => ∃ (ys : List Str) (ls : Str → List PyData), vs = [.ref C, .str (progT ys ls)] ∧ ys ≠ [] ∧ ys.Nodup ∧ ys.length ≤ 24 ∧ Srt ys ∧ (∀ n ∈ ys, isWordS n = true ∧ (ls n).length ≤ 1000 ∧ ∀ d ∈ ls n, isLineD d = true) ∧ (∀ ad, Book b (bkL (psOf ys ls) ad)) ∧
  ∀ (H' : Hp) (a dx g : Addr) (zs : List Str) (t : Str → Addr) (xs : Str → List V) (ms : Str → List PyData) (ad : Str → Addr), Ex H H' → FitsB (bkL (psOf ys ls) ad) zs ms → ProgN K C H' a dx g zs t xs ms → Q (.ref a) H'
theorem ok_read {C g0 : Addr} {gd : FuncData} {b : Bool} {sp : Sp} {k : Nat} (F : Fun K "read" "Program.read" s_program_read f fd) (hk : 5 ≤ k) (M : MkR P w K mg base k C b g0 gd sp) (c1 : Cl P w K mg base CX0 5 "functions_of" (sp_functions_of K)) : FnOk P w K mg base CX0 (k + 2) f fd nm_rd (sp_read K C b) := by
  refine F.ok sc_rd (fun vs H Q E h => ?_) (fun cdv Ar outer sh H vs Q E hr h => ⟨RB _ _, pss_RB, ?_⟩)
  · obtain ⟨_, _, rfl, _⟩ := h; rfl
  obtain ⟨ys, ls, rfl, hne, hnd, h24, hsrt, hy, bk, q⟩ := h
  refine rb_one (rs_ret (re_makeL (i := 0) M.mkc M.fn hr M.hb pass0 rfl (ra_cons (re_call c1 hr (hk := by omega) (ra_cons (re_var 1 rfl (ra_nil ⟨ys, ls, rfl, hne, hnd, h24, hsrt, hy, fun H1 fo ad xs e1 hfo hat => ra_nil fun a dx h1 h2 ne => ?_⟩)))))))
  have e3 : Ex H1 (upd (upd H1 dx (.own a)) a (.ins C dx [])) := fun b o hb => by
    rw [upd_ne (ne_of_none hb h1), upd_ne (ne_of_none hb h2)]; exact hb
  refine M.sp (fs := bkL (psOf ys ls) ad) upd_same (e3 _ _ (by rw [ps_bk]; exact hfo)) (fun e he => ?_) (bk ad) fun H4 g zs t xs' ms b4 ft pr => ⟨rfl, q H4 a dx g zs t xs' ms ad (fun b o hb => b4 _ _ (e3 _ _ (e1 _ _ hb)) (ne_of_none (e1 _ _ hb) h1)) ft pr⟩
  obtain ⟨p, hp, rfl⟩ := List.mem_map.mp he
  obtain ⟨n, hn, rfl⟩ := List.mem_map.mp hp
  obtain ⟨g1, g2⟩ := hat n hn
  exact .lst (.inl (.inl (e3 _ _ g1))) (g2.mono e3)
end
end Fl
end
section
set_option Elab.async false
set_option linter.all false
set_option maxRecDepth 100000
set_option maxHeartbeats 4000000
namespace PySem.W
open PySem PySem.Spec PySem.Calls PyProof.Rows Builtin Builtin.ObjectAttr Builtin.Getset_descriptor
/-! ### C.__name__, C an own class -/
section
variable {prog : Program} {w : World} {A : Around} {s : Shared} {K : Frag} {C : Addr} {R : Result → Shared → Prop}
theorem cname_get {tp v : Value} {cl : Value} {od : Option Addr} {dt : Data} {sl : Array (Option Value)} (X : K.In s.heap) (ht : typeIn K (.ref C) = some (.type "type")) (lk : K.lookup C = some ⟨cl, od, dt, sl⟩) (hs : (sl[2]?).join = some v) (h : R (.ok (.ret v)) s) :
    codeAny (model prog w) A (.call (.builtin "getset_descriptor.__get__") ⟨[.builtin "type.__name__", .ref C, tp], []⟩) R s := by
  obtain ⟨hh, g, dr, t, os⟩ := s
  have L0 := looks_typeIn (M := model prog w) X ht
  have L1 : Looks (model prog w) hh (isSubtype (.type "type") (.type "type")) true := Looks.of_pure (by rw [isSubtype_type]; kernel_rfl)
  have hx := X _ _ lk
  dsimp only at hx L0
  refine codeAny_call_builtin KF.slot_gs.plain KF.entry_gs (KF.slot_gs.check _ _ _ _ _ _ _ _ ktyn_type (KF.args_gs _ _ _) ?_)
  unfold Builtin.«getset_descriptor.__get__» descrGet
  rw [dga_obj]
  refine wpAny_bind (wpAny_pure ?_)
  unfold descrGetter descrCheckInstance descrNameAndClass isInstance
  simp only [ktyn_owner]
  repeat lk
  refine ⟨Code.quiet_builtin _ (by decide +kernel), codeAny_builtin ktyn_entry ?_⟩
  unfold Builtin.«type.__name__» Builtin.keptObject slotAt
  dsimp only
  refine wpAny_bind (wpAny_bind (wpAny_loadPart hx ?_))
  dsimp only
  rw [hs]
  exact wpAny_pure (wpAny_pure h)
end
end PySem.W
namespace Fx
open PySem PySem.Spec PyProof.Rows L2
open Evl (Ex fresh_back)
/-- o.__class__ is read as object reads it -/
structure ClsI (K : PySem.W.Frag) (C : Addr) : Prop where
  ha : PySem.W.findIn K (.ref C) "__class__" = some (some (.builtin "object.__class__"))
  hn : PySem.W.specialIn K (.builtin "object.__class__") "__get__" = some (some (.builtin "getset_descriptor.__get__"))
  htk : PySem.W.takesIn K (.builtin "object.__class__") = some true
  hm : PySem.W.mroIn K C (.type "object") = some true
/-- the name of an own class -/
structure NameOf (K : PySem.W.Frag) (C : Addr) (n : Str) : Prop where
  rd : ClX.CRead K C (.type "type")
  at_ : PySem.W.findCls K (.ref C) (.type "type") "__name__" = some (.get (.builtin "getset_descriptor.__get__") (.builtin "type.__name__") (.ref C) (.type "type"))
  ty : PySem.W.typeIn K (.ref C) = some (.type "type")
  sl : ∃ cl od dt sl tk, K.lookup C = some ⟨cl, od, dt, sl⟩ ∧ (sl[2]?).join = some (.str n tk)
section
variable {X : Cx} {e o : Expr} {pos : Pos} {ta : TE} {σ : L2.St} {H : Hp} {Q : VK}
theorem pe_cls (he : PE X e ta) (hb : attributeBase e "__class__" X.env (eval e X.env) = eval e X.env := by rfl) : PE X (.Attribute e "__class__" pos) (fun σ H Q => ta σ H fun x H1 => ∃ a C dx fs, x = .ref a ∧ H1 a = some (.ins C dx fs) ∧ Cls X.K C ∧ ClsI X.K C ∧ Q (.ref C) H1) := by
  refine ⟨fun pins s σ H Q I h => ?_⟩
  refine attr_of hb (thn (he.run pins s σ H _ I h) fun u s1 ⟨x, H1, I1, rx, a, C, dx, fs, ex, ea, c, k, q⟩ => ?_)
  subst ex
  obtain rfl : u = Value.ref a := rx
  obtain ⟨mA, O, _⟩ := ins_get I1.hok ea
  obtain ⟨od, J, _⟩ := O.look
  obtain ⟨cd, hc, _⟩ := PySem.W.any_some c.hd
  have hf : PySem.W.findObj X.K C (some od) "__class__" = some (.bind (.builtin "getset_descriptor.__get__") (.builtin "object.__class__")) := PySem.W.findObj_data (by rw [hc]; rfl) k.ha k.hn k.htk
  exact PySem.W.get_bind I1.kIn J (PySem.W.plainGet_of (c.get "__class__")).1 hf (PySem.W.plainGet_of (c.get "__class__")).2 (wpAny_call (PySem.W.class_get (s := { s1 with toks := s1.toks + 1 }) I1.kIn J k.hm (PySem.W.handed_on rfl ⟨.ref C, H1, I1.tok _, rfl, q⟩)))
theorem pe_cname (he : PE X e ta) (hb : attributeBase e "__name__" X.env (eval e X.env) = eval e X.env := by rfl) : PE X (.Attribute e "__name__" pos) (fun σ H Q => ta σ H fun x H1 => ∃ C n, x = .ref C ∧ NameOf X.K C n ∧ Q (.str n) H1) := by
  refine ⟨fun pins s σ H Q I h => ?_⟩
  refine attr_of hb (thn (he.run pins s σ H _ I h) fun u s1 ⟨x, H1, I1, rx, C, n, ex, k, q⟩ => ?_)
  subst ex
  obtain rfl : u = Value.ref C := rx
  obtain ⟨cl, od, dt, sl, tk, lk, hs⟩ := k.sl
  exact PySem.W.cls_bind I1.kIn k.rd.rd k.at_ (wpAny_call (PySem.W.cname_get (s := { s1 with toks := s1.toks + 1 }) I1.kIn k.ty lk hs (PySem.W.handed_on rfl ⟨.str n, H1, I1.tok _, ⟨tk, rfl⟩, q⟩)))
/-- o.__class__.__name__ -/
theorem re_clsname {p1 p2 : Pos} (h : RE X o σ H fun x H1 => ∃ a C dx fs n, x = .ref a ∧ H1 a = some (.ins C dx fs) ∧ Cls X.K C ∧ ClsI X.K C ∧ NameOf X.K C n ∧ Q (.str n) H1)
    (hb : attributeBase o "__class__" X.env (eval o X.env) = eval o X.env := by rfl) (hb2 : attributeBase (.Attribute o "__class__" p1) "__name__" X.env (eval (.Attribute o "__class__" p1) X.env) = eval (.Attribute o "__class__" p1) X.env := by rfl) : RE X (.Attribute (.Attribute o "__class__" p1) "__name__" p2) σ H Q :=
  re_of (pe_cname (pe_cls pe_RE hb) hb2) (h.mono fun x H1 ⟨a, C, dx, fs, n, ex, ha, c, k, nm, q⟩ => ⟨a, C, dx, fs, ex, ha, c, k, C, n, rfl, nm, q⟩)
end
/-! ### C.m(k = v, ..), m a classmethod -/
section
variable {X : Cx} {CX : CXT} {pins : List (Addr × Obj)} {σ : L2.St} {H : Hp} {s : Shared} {k : Nat} {C p g : Addr} {mc : Value} {fd : FuncData} {ps ks : List Str} {sp : Sp} {E : XK} {Q : VK} {o : Expr} {m : Str} {pos apos : Pos} {kws : List Keyword} {tk : TA} {pl : Sem Bool} {gW : List Value → List Value → List Value} {gV : List V → List V → List V}
theorem run_fnNc {us ws : List Value} {vs zs : List V} {n : Nat} (F : FnOk X.prog X.w X.K X.mg X.base CX k g fd ps sp) (hr : Room k X.A) (hb : KBn X.K fd ps n ks gW gV) (hx : Passes CX X E)
    (I : Inv X pins σ H s) (r : Vals vs us) (rz : Vals zs ws) (l1 : vs.length = n) (l2 : zs.length = ks.length) (h : sp (gV vs zs) H Q E) :
    codeAny (model X.prog X.w) X.A (.call (.ref g) ⟨us, ks.zip ws⟩) (fun r s' => match r with | .ok (.ret v) => EP X pins σ Q v s' | .ok _ => False | .error e => X.xe e s') s := by
  have r2 := hb.rel r rz
  refine codeAny_mono (F.run X.A X.stack s H ⟨us, ks.zip ws⟩ (gW us ws) (gV vs zs) Q E hr I.env0 (hb.to s us ws I.kIn (r.length.symm.trans l1) (rz.length.symm.trans l2)) r2 h) fun r s' hq => ?_
  cases r with
  | error e => exact hx pins σ H s e s' I hq
  | ok fl =>
    cases fl with
    | ret u => exact I.after hq
    | next => exact False.elim hq
    | brk => exact False.elim hq
    | cont => exact False.elim hq
theorem re_cmethK (r : ClX.CRead X.K C mc) (c : ClX.CMet X.K C mc m p g) (F : FnOk X.prog X.w X.K X.mg X.base CX k g fd ps sp) (hr : Room k X.A) (hx : Passes CX X E) (hb : KBn X.K fd ps 1 ks gW gV) (hkw : PK X kws tk)
    (h : RE X o σ H fun x H1 => x = .ref C ∧ tk σ H1 fun zs H2 => zs.length = ks.length ∧ sp (gV [.ref C] zs) H2 Q E)
    (hall : (backToKw pos (keywordEach kws X.env)).all (·.1.isSome) = true := by rfl) (hks : (backToKw pos (keywordEach kws X.env)).filterMap (·.1) = ks := by rfl)
    (hpl : ((backTo pos (starEach [] X.env)).any (·.1) || (backToKw pos (keywordEach kws X.env)).any (·.1.isNone)) = false := by rfl)
    (ht : eval (.Call (.Attribute o m apos) [] kws pos) X.env = (do
      let ov ← eval o X.env
      standAt apos.atName
      let (f, first) ← holding [ov] (getMethod ov m pl)
      callWith pos f first (backTo pos (starEach [] X.env)) (backToKw pos (keywordEach kws X.env))) := by rfl) : RE X (.Call (.Attribute o m apos) [] kws pos) σ H Q := by
  refine RE.made fun pins s I => ?_
  refine PySem.W.methodCall_KW (pl := pl) (thn (h.run pins s I) fun u s1 ⟨x, H1, I1, rx, ex, q⟩ => ?_) ht
  subst ex
  obtain rfl : u = Value.ref C := rx
  refine ClX.getmethcm_ok I1 r c fun s2 I2 => ?_
  refine PySem.W.callWith_of (P := PySem.W.MethP X.K s1.heap.objs.size g (.ref C)) hpl (PySem.W.keeps_M c.fi) (PyProof.Rows.evalArgs_kw2_nil hall (thn (hkw.run pos _ s2 σ H1 _ I2 q) fun ws s3 ⟨zs, H2, I3, rz, l2, q2⟩ => ⟨⟨ClX.pin_at I3, I3.kIn⟩, ?_⟩))
  rw [hks]
  have z : wpAny (model X.prog X.w) X.A (call (.ref s1.heap.objs.size) [] (ks.zip ws)) (EP X ((s1.heap.objs.size, PySem.W.methodObj (.ref g) (.ref C)) :: pins) σ Q) X.xe s3 :=
    wpAny_call (PySem.W.method_call (ClX.pin_at I3) (run_fnNc (us := [.ref C]) (vs := [.ref C]) F hr hb hx I3 (.cons rfl .nil) rz rfl l2 q2))
  exact thn z fun _ _ y => ClX.unpinE y
end
end Fx
end
section
set_option Elab.async false
set_option linter.all false
set_option maxRecDepth 100000
set_option maxHeartbeats 4000000
namespace Fl
open PySem PySem.Spec PyProof.Rows L2 Fx
open Evl (Ex fresh_back)
/-! ### sorted names -/
def SLe (a b : Str) : Prop := a.cps.toList ≤ b.cps.toList
theorem str_cps {a b : Str} (h : a.cps.toList = b.cps.toList) : a = b := by
  obtain ⟨⟨l⟩⟩ := a
  obtain ⟨⟨m⟩⟩ := b
  have h : l = m := h
  rw [h]
theorem rising_pw : ∀ (p : Str) (l : List Str), risingS p l = true → (p :: l).Pairwise SLe
  | p, [], _ => List.pairwise_singleton _ _
  | p, x :: r, h => by
    have h : (!ltCps x.cps.toList p.cps.toList && risingS x r) = true := h
    rw [Bool.and_eq_true, Bool.not_eq_true'] at h
    obtain ⟨h1, h2⟩ := h
    have ih := rising_pw x r h2
    have px : SLe p x := by
      rw [ltCps_eq, decide_eq_false_iff_not] at h1
      exact h1
    refine List.pairwise_cons.mpr ⟨fun y hy => ?_, ih⟩
    rcases List.mem_cons.mp hy with rfl | hy
    · exact px
    · exact List.le_trans px ((List.pairwise_cons.mp ih).1 y hy)
theorem sorted_pw : ∀ {l : List Str}, sortedS l = true → l.Pairwise SLe
  | [], _ => List.Pairwise.nil
  | x :: r, h => rising_pw x r h
theorem sle_anti {a b : Str} (h1 : SLe a b) (h2 : SLe b a) : a = b := str_cps (List.le_antisymm h1 h2)
theorem sorted_same {ys zs : List Str} (h1 : sortedS ys = true) (h2 : sortedS zs = true) (p : ys.Perm zs) : ys = zs :=
  List.Perm.eq_of_pairwise (fun a b _ _ => sle_anti) (sorted_pw h1) (sorted_pw h2) p
theorem nodup_sub : ∀ {ys zs : List Str}, ys.Nodup → zs.Nodup → ys.length = zs.length → (∀ n ∈ ys, n ∈ zs) → ys.Perm zs
  | [], zs, _, _, hl, _ => by
    cases zs with
    | nil => exact .nil
    | cons _ _ => cases hl
  | y :: r, zs, hn, hm, hl, hs => by
    have hy := hs y List.mem_cons_self
    obtain ⟨a, b, rfl⟩ := List.append_of_mem hy
    have pm : (a ++ y :: b).Perm (y :: (a ++ b)) := List.perm_middle
    have hm2 := pm.nodup_iff.mp hm
    rw [List.nodup_cons] at hn hm2
    refine (List.Perm.cons y (nodup_sub hn.2 hm2.2 ?_ fun n hn' => ?_)).trans pm.symm
    · have := pm.length_eq
      rw [List.length_cons] at this
      rw [List.length_cons] at hl
      omega
    · have h1 := pm.mem_iff.mp (hs n (List.mem_cons_of_mem _ hn'))
      rcases List.mem_cons.mp h1 with rfl | h
      · exact absurd hn' hn.1
      · exact h
theorem sorted_srt {ys : List Str} (hn : ys.Nodup) (h : sortedS ys = true) {i : Nat} {a b : Str} (ha : ys[i]? = some a) (hb : ys[i + 1]? = some b) : decide (a.cps.toList < b.cps.toList) = true := by
  have hp := sorted_pw h
  obtain ⟨h1, rfl⟩ := List.getElem?_eq_some_iff.mp ha
  obtain ⟨h2, rfl⟩ := List.getElem?_eq_some_iff.mp hb
  have le : SLe ys[i] ys[i + 1] := List.pairwise_iff_getElem.mp hp i (i + 1) h1 h2 (Nat.lt_succ_self i)
  rw [decide_eq_true_eq]
  rcases List.le_iff_lt_or_eq.mp le with h | h
  · exact h
  · have e := str_cps h
    have := (List.pairwise_iff_getElem.mp hn) i (i + 1) h1 h2 (Nat.lt_succ_self i)
    exact absurd e this

/-! ### == of lines -/
theorem eqv_flat2 {x y : PyData} (hx : flatOk x) (hy : flatOk y) : PyData.eqv x y = true ↔ x = y := by
  cases x with
  | int i =>
    cases y with
    | int j =>
      show (i == j) = true ↔ _
      rw [beq_iff_eq]
      exact ⟨fun h => by rw [h], fun h => PyData.int.inj h⟩
    | str s => exact ⟨fun h => absurd (show false = true from h) Bool.false_ne_true, fun h => nomatch h⟩
    | _ => exact hy.elim
  | str s =>
    cases y with
    | int j => exact ⟨fun h => absurd (show false = true from h) Bool.false_ne_true, fun h => nomatch h⟩
    | str u =>
      show (s == u) = true ↔ _
      rw [beq_iff_eq]
      exact ⟨fun h => by rw [h], fun h => PyData.str.inj h⟩
    | _ => exact hy.elim
  | _ => exact hx.elim
theorem eqvAll_of : ∀ {xs ys : List PyData}, (∀ x ∈ xs, ∀ y ∈ ys, (PyData.eqv x y = true ↔ x = y)) → (PyData.eqvAll xs ys = true ↔ xs = ys)
  | [], [], _ => ⟨fun _ => rfl, fun _ => rfl⟩
  | [], _ :: _, _ => ⟨fun h => absurd (show false = true from h) Bool.false_ne_true, fun h => nomatch h⟩
  | _ :: _, [], _ => ⟨fun h => absurd (show false = true from h) Bool.false_ne_true, fun h => nomatch h⟩
  | x :: xs, y :: ys, h => by
    show (PyData.eqv x y && PyData.eqvAll xs ys) = true ↔ _
    rw [Bool.and_eq_true, h x List.mem_cons_self y List.mem_cons_self, eqvAll_of fun a ha b hb => h a (List.mem_cons_of_mem _ ha) b (List.mem_cons_of_mem _ hb)]
    exact ⟨fun ⟨a, b⟩ => by rw [a, b], fun e => List.cons.inj e⟩
theorem eqv_line2 {d e : PyData} (hd : isLineD d = true) (he : isLineD e = true) : PyData.eqv d e = true ↔ d = e := by
  obtain ⟨w, xs, rfl, o1, hx⟩ := line_flat hd
  obtain ⟨u, ys, rfl, o2, hy⟩ := line_flat he
  have f1 : ∀ x ∈ (PyData.str w :: xs), flatOk x := fun x h => by
    rcases List.mem_cons.mp h with rfl | h
    · exact o1
    · exact hx x h
  have f2 : ∀ x ∈ (PyData.str u :: ys), flatOk x := fun x h => by
    rcases List.mem_cons.mp h with rfl | h
    · exact o2
    · exact hy x h
  show PyData.eqvAll (PyData.str w :: xs) (PyData.str u :: ys) = true ↔ _
  rw [eqvAll_of fun a ha b hb => eqv_flat2 (f1 a ha) (f2 b hb)]
  exact ⟨fun h => by rw [h], fun h => PyData.tuple.inj h⟩
theorem eqv_lines {ds es : List PyData} (hd : ∀ d ∈ ds, isLineD d = true) (he : ∀ d ∈ es, isLineD d = true) : PyData.eqvAll ds es = true ↔ ds = es :=
  eqvAll_of fun a ha b hb => eqv_line2 (hd a ha) (he b hb)
theorem dp_line {K : PySem.W.Frag} {H : Hp} {v : V} {d : PyData} (h : D K H v d) (ok : isLineD d = true) : Dp K H v d ∧ PyData.canLay0 d = true ∧ PyData.depth d ≤ 1 := by
  obtain ⟨w, xs, rfl, hs, hx⟩ := line_flat ok
  have hf : ∀ x ∈ (PyData.str w :: xs), flatOk x := fun x hx' => by
    rcases List.mem_cons.mp hx' with rfl | hx'
    · exact hs
    · exact hx x hx'
  obtain ⟨l1, l2⟩ := lay_flat _ hf
  cases h with
  | tup sq da => exact ⟨.tup sq (dp_all da hf), l1, by show PyData.depthAll _ + 1 ≤ 1; rw [l2]; exact Nat.le_refl 1⟩
theorem dp_lines {K : PySem.W.Frag} {H : Hp} : ∀ {vs : List V} {ds : List PyData}, DA K H vs ds → (∀ d ∈ ds, isLineD d = true) → DpAll K H vs ds ∧ PyData.canLayAll0 ds = true ∧ PyData.depthAll ds ≤ 1
  | _, _, .nil, _ => ⟨.nil, rfl, Nat.zero_le _⟩
  | _, _, .cons (d := d) (ds := ds) a t, ok => by
    obtain ⟨h1, h2, h3⟩ := dp_line a (ok _ List.mem_cons_self)
    obtain ⟨g1, g2, g3⟩ := dp_lines t fun d hd => ok d (List.mem_cons_of_mem _ hd)
    refine ⟨.cons h1 g1, ?_, Nat.max_le.mpr ⟨h3, g3⟩⟩
    show (PyData.canLay0 d && PyData.canLayAll0 ds) = true
    rw [h2, g2]; rfl
/-! ### == of two dicts of lines -/
def hitB (zs : List Str) (ls ms : Str → List PyData) (n : Str) : Bool := decide (n ∈ zs) && PyData.eqvAll (ls n) (ms n)
/-- names with their lines, as they lie in a heap -/
structure LnsOk (K : PySem.W.Frag) (H : Hp) (ys : List Str) (t : Str → Addr) (ls : Str → List PyData) : Prop where
  dat : ∀ n ∈ ys, ∃ zs, SqT K H (t n) zs ∧ DA K H zs (ls n)
  ok : ∀ n ∈ ys, ∀ d ∈ ls n, isLineD d = true
theorem dn_none {t : Str → Addr} {n : Str} : ∀ {ys : List Str}, n ∉ ys → valV (dN ys t) (.inr n) = none
  | [], _ => rfl
  | y :: r, h => by
    show valV ((Sum.inr y, V.ref (t y)) :: dN r t) (.inr n) = _
    rw [valV_neg (fun z => h (by rw [Sum.inr.inj z]; exact List.mem_cons_self))]
    exact dn_none fun z => h (List.mem_cons_of_mem _ z)
section
variable {X : Cx} {pins : List (Addr × Obj)} {σ : L2.St} {H : Hp} {s : Shared}
theorem hits_lines (I : Inv X pins σ H s) {A : Around} (hu : A.units + 64 < cLine) {zs : List Str} {u : Str → Addr} {ms : Str → List PyData} {vb : List (Key × Value)} (hz : LnsOk X.K H zs u ms) (rb : KV (dN zs u) vb) {t : Str → Addr} {ls : Str → List PyData} :
    ∀ {ys : List Str} {va : List (Key × Value)}, LnsOk X.K H ys t ls → KV (dN ys t) va → PySem.W.KeqHitsP X.prog X.w A s vb va (ys.all (hitB zs ls ms))
  | [], va, _, ra => by
    cases ra
    exact .nil
  | n :: r, va, hy, ra => by
    have ra : KV ((Sum.inr n, V.ref (t n)) :: dN r t) va := ra
    unfold KV at ra
    cases ra with
    | @cons p q ps qs h tl =>
      obtain ⟨h1, h2⟩ := h
      obtain ⟨key, v⟩ := q
      have h1' : (Sum.inr n : Key) = key := h1
      subst h1'
      have h2' : v = Value.ref (t n) := h2
      subst h2'
      have ih := hits_lines I hu hz rb (t := t) (ls := ls) (ys := r) (va := qs) ⟨fun m hm => hy.dat m (List.mem_cons_of_mem _ hm), fun m hm => hy.ok m (List.mem_cons_of_mem _ hm)⟩ tl
      by_cases hm : n ∈ zs
      · have rr : RelO (some (V.ref (u n))) (valueAt vb (.inr n)) := by rw [← dn_val (t := u) hm]; exact rb.val (.inr n)
        obtain ⟨y, hy', ry⟩ := rr.some_of
        have ry' : y = Value.ref (u n) := ry
        subst ry'
        obtain ⟨as, sq, da⟩ := hy.dat n List.mem_cons_self
        obtain ⟨bs, sq2, db⟩ := hz.dat n hm
        have o1 := hy.ok n List.mem_cons_self
        have o2 := hz.ok n hm
        obtain ⟨p1, l1, d1⟩ := dp_lines da o1
        obtain ⟨p2, l2, d2⟩ := dp_lines db o2
        obtain ⟨_, r1⟩ := Dp.reads I (.tuple (ls n)) (.ref (t n)) _ (.tup sq p1) rfl
        obtain ⟨_, r2⟩ := Dp.reads I (.tuple (ms n)) (.ref (u n)) _ (.tup sq2 p2) rfl
        have dep : PyData.depth (.tuple (ls n)) ≤ 2 := by
          show PyData.depthAll (ls n) + 1 ≤ 2
          omega
        have e := SeqAt.eqAt_reads (.tuple (ls n)) (.tuple (ms n)) A s _ _ _ _ r1 r2 l1 l2 (by have := Nat.min_le_left (PyData.depth (.tuple (ls n))) (PyData.depth (.tuple (ms n))); omega)
        have e : SeqAt.EqAt A s (.ref (t n)) (.ref (u n)) (PyData.eqvAll (ls n) (ms n)) := e
        rw [List.all_cons]
        unfold hitB
        rw [decide_eq_true hm, Bool.true_and]
        exact .hit hy' e.eqP ih
      · have rr : RelO none (valueAt vb (.inr n)) := by rw [← dn_none (t := u) hm]; exact rb.val (.inr n)
        rw [List.all_cons]
        unfold hitB
        rw [decide_eq_false hm, Bool.false_and, Bool.false_and]
        exact .miss rr.none_of
def rEqN (K : PySem.W.Frag) : R2 := fun x y H Q => ∃ a b ys zs t u ls ms, x = .ref a ∧ y = .ref b ∧ H a = some (.dK (dN ys t)) ∧ H b = some (.dK (dN zs u)) ∧ LnsOk K H ys t ls ∧ LnsOk K H zs u ms ∧ Q (.bl (ys.length == zs.length && ys.all (hitB zs ls ms))) H
theorem op_eqN (hu : X.A.units + 66 < cLine) : OpR X (compareOp .Eq) (rEqN X.K) := by
  intro pins s σ H x y v w Q I rx ry h
  obtain ⟨a, b, ys, zs, t, u, ls, ms, rfl, rfl, ha, hb, hy, hz, q⟩ := h
  cases (show v = Value.ref a from rx)
  cases (show w = Value.ref b from ry)
  obtain ⟨_, ya, va, ra, da⟩ := (show ObjOk X.prog X.w H s.heap a (.dK (dN ys t)) from I.hok a _ ha)
  obtain ⟨_, yb, vb, rb, db⟩ := (show ObjOk X.prog X.w H s.heap b (.dK (dN zs u)) from I.hok b _ hb)
  refine PySem.W.rcP_dicts (knd := mixKind X.prog X.w) (r := ys.all (hitB zs ls ms)) ya yb da db (by omega) (fun _ => hits_lines I (A := X.A.in1) (by show X.A.units + 1 + 64 < cLine; omega) hz rb hy ra) _ _ ?_
  have l1 : va.length = ys.length := by rw [← ra.length]; exact List.length_map ..
  have l2 : vb.length = zs.length := by rw [← rb.length]; exact List.length_map ..
  rw [l1, l2]
  exact ⟨.bl _, H, I, rfl, q⟩
end
/-- equal as programs just if equal as texts -/
theorem eqn_text {ys zs : List Str} {ls ms : Str → List PyData} (h0 : ys ≠ []) (k0 : zs ≠ []) (n1 : ys.Nodup) (n2 : zs.Nodup) (s1 : sortedS ys = true) (s2 : sortedS zs = true) (hw : ∀ n ∈ ys, isWordS n = true) (hl : ∀ n ∈ ys, ∀ d ∈ ls n, isLineD d = true) (kw : ∀ n ∈ zs, isWordS n = true) (kl : ∀ n ∈ zs, ∀ d ∈ ms n, isLineD d = true) :
    (ys.length == zs.length && ys.all (hitB zs ls ms)) = decide (progT ys ls = progT zs ms) := by
  by_cases h : progT ys ls = progT zs ms
  · obtain ⟨e, hls⟩ := prog_inj h0 k0 hw hl kw kl h
    subst e
    rw [decide_eq_true h, beq_self_eq_true, Bool.true_and, List.all_eq_true]
    intro n hn
    unfold hitB
    rw [decide_eq_true hn, (eqv_lines (hl n hn) (kl n hn)).mpr (hls n hn)]; rfl
  · rw [decide_eq_false h]
    cases hb : (ys.length == zs.length && ys.all (hitB zs ls ms)) with
    | false => rfl
    | true =>
      rw [Bool.and_eq_true, beq_iff_eq, List.all_eq_true] at hb
      obtain ⟨b1, b2⟩ := hb
      have hit : ∀ n ∈ ys, n ∈ zs ∧ ls n = ms n := fun n hn => by
        have := b2 n hn
        unfold hitB at this
        rw [Bool.and_eq_true, decide_eq_true_eq] at this
        exact ⟨this.1, (eqv_lines (hl n hn) (kl n this.1)).mp this.2⟩
      have e := sorted_same s1 s2 (nodup_sub n1 n2 b1 fun n hn => (hit n hn).1)
      subst e
      refine absurd ?_ h
      unfold progT
      congr 1
      exact List.map_congr_left fun n hn => by rw [(hit n hn).2]
end Fl
end
section
set_option Elab.async false
set_option linter.all false
set_option maxRecDepth 100000
set_option maxHeartbeats 4000000
namespace Fl
open PySem PySem.Spec PyProof.Rows L2 Fx
open Evl (Ex fresh_back)

/-! ### a new pen -/
theorem cut63 (ns : List Int) : ∃ ms : List Int, cutV (ns.map V.int) none (some 63) = ms.map V.int ∧ ms.length ≤ 63 := by
  refine ⟨ns.take (min 63 ns.length), ?_, by rw [List.length_take]; omega⟩
  unfold cutV
  rw [HT.sIx_none, show HT.sIx (ns.map V.int).length (ns.map V.int).length (some 63) = min 63 (ns.map V.int).length from HT.sIx_nat _ _ 63, List.drop_zero, Nat.sub_zero, List.length_map, List.map_take]
section
variable {P : Program} {w : World} {K : PySem.W.Frag} {mg : Str → Option Value} {base : Heap} {f : Addr} {fd : FuncData}
theorem sc_pen : FnScope ["_law_script"] ["_law_script"] (defScope s_pen) := ⟨rfl, rfl, rfl, by decide +kernel, rfl, by decide +kernel, by decide +kernel⟩
def sp_pen (K : PySem.W.Frag) : Sp := fun vs H Q _ => ∃ (a : Addr) (ns : List Int), vs = [.ref a] ∧ SqL K H a (ns.map V.int) ∧ ∀ p H', Ex H H' → Pen K H' p 0 → Q (.ref p) H'
theorem ok_pen (F : Fun K "_law_pen" "_law_pen" s_pen f fd) (G : Gb mg) : FnOk P w K mg base CX0 1 f fd ["_law_script"] (sp_pen K) := by
  refine F.ok sc_pen (fun vs H Q E h => ?_) (fun cdv A outer s H vs Q E hr h => ⟨RB _ _, pss_RB, ?_⟩)
  · obtain ⟨_, _, rfl, _⟩ := h; rfl
  obtain ⟨a, ns, rfl, ha, q⟩ := h
  obtain ⟨ms, em, hm⟩ := cut63 ns
  refine rb_one <| rs_ret <| re_disp fun p hp => rp_cons <| re_str <| re_ct call_list_of G.list <| ra_cons <| re_of (pe_slice sl_list pe_RE po_none (po_some pe_RE)) <| re_var 0 rfl <| re_int ⟨63, rfl, a, _, rfl, Evl.ex_l (Ex.new hp) ha, fun c hc => ra_nil ⟨c, ms.map V.int, rfl, .inl (.inl (.inl (by rw [upd_same, em]))), fun l hl => rp_cons <| re_str <| re_int <| rp_cons <| re_str <| re_int <| rp_nil ⟨?_, penV l 0 0, rfl, Nat.le_of_ble_eq_true rfl, ?_⟩⟩⟩
  · have n1 : p ≠ l := fun z => by
      rw [← z] at hl
      by_cases e : p = c
      · rw [e, upd_same] at hl; cases hl
      · rw [upd_ne e, upd_same] at hl; cases hl
    have n2 : p ≠ c := fun z => by rw [← z, upd_same] at hc; cases hc
    rw [upd_ne n1, upd_ne n2, upd_same]
  · have n1 : l ≠ p := fun z => by
      rw [z] at hl
      by_cases e : p = c
      · rw [e, upd_same] at hl; cases hl
      · rw [upd_ne e, upd_same] at hl; cases hl
    refine q p _ (ex_mut (((Ex.new hp).trans (Ex.new hc)).trans (Ex.new hl)) hp) ⟨l, ms, 0, 0, ?_, .inl ?_, hm, Int.le_refl _, by decide, Int.le_refl _⟩
    · rw [upd_same]; rfl
    · rw [upd_ne n1]; exact upd_same
end
theorem lookup_none {β : Type} {k : Str} : ∀ {l : List (Str × β)}, l.lookup k = none ↔ k ∉ l.map (·.1)
  | [] => ⟨fun _ => List.not_mem_nil, fun _ => rfl⟩
  | (k', v) :: r => by
    rw [List.lookup_cons]
    by_cases e : k = k'
    · subst e
      rw [beq_self_eq_true]
      exact ⟨(fun h => nomatch h), fun h => absurd List.mem_cons_self h⟩
    · rw [beq_eq_false_iff_ne.mpr e]
      rw [List.map_cons, List.mem_cons, not_or]
      exact ⟨fun h => ⟨e, lookup_none.mp h⟩, fun h => lookup_none.mpr h.2⟩
end Fl
end
section
set_option Elab.async false
set_option linter.all false
set_option maxRecDepth 100000
set_option maxHeartbeats 4000000
namespace Fx
open PySem PySem.Spec PyProof.Rows L2
open Evl (Ex fresh_back)
/-! ### own special methods -/
section
variable {X : Cx} {pins : List (Addr × Obj)} {σ : L2.St} {H : Hp} {s : Shared} {A : Around} {a C dx g : Addr} {fs : List (Str × V)} {nm : Str}
theorem fn_obj {K : PySem.W.Frag} (h : PySem.W.isFn K (.ref g) = true) : ∃ og, K.lookup g = some og ∧ og.cls = .type "function" := by
  unfold PySem.W.isFn at h
  have h : (PySem.W.typeIn K (.ref g) == some (.type "function")) = true := h
  have h : (K.lookup g).map (·.cls) = some (.type "function") := beq_iff_eq.mp h
  cases z : K.lookup g with
  | none => rw [z] at h; cases h
  | some o => rw [z] at h; exact ⟨o, rfl, Option.some.inj h⟩
theorem special_own (I : Inv X pins σ H s) (ha : H a = some (.ins C dx fs)) (hm : Meth X.K C nm g) {args : List Value} {Q : Option Value → Shared → Prop} {E : Value → Shared → Prop}
    (h : wpAny (model X.prog X.w) A (call (.ref g) (.ref a :: args)) (fun r s' => Q (some r) s') E s) : wpAny (model X.prog X.w) A (callSpecial? (.ref a) nm args) Q E s := by
  obtain ⟨mA, O, _⟩ := ins_get I.hok ha
  obtain ⟨odx, J, _⟩ := O.look
  obtain ⟨og, ho, hc⟩ := fn_obj hm.fn
  unfold PySem.callSpecial?
  refine wpAny_bind ?_
  unfold PySem.specialOf
  refine wpAny_bind (wpAny_typeOf_ref J.at_ ?_)
  rw [J.cls]
  refine PySem.W.looks_findIn I.kIn hm.at_ A _ _ s (fun _ _ e => e) ?_
  refine wpAny_holding (wpAny_bind (wpAny_bindSpecial_def (I.kIn _ _ ho) hc ?_))
  exact wpAny_bind (wpAny_mono h (fun r s' q => wpAny_pure q) (fun _ _ z => z))
/-- the call of the own method, seen from within -/
theorem own_call {CX : CXT} {k : Nat} {fd : FuncData} {ps : List Str} {sp : Sp} {E : XK} {Q : VK} {us : List Value} {vs : List V} (I : Inv X pins σ H s) (F : FnOk X.prog X.w X.K X.mg X.base CX k g fd ps sp) (hr : Room k A) (hA : A.frames = X.A.frames) (hb : Binds X.K fd ps []) (hx : Passes CX X E) (hl : us.length = ps.length) (rv : Vals vs us)
    (h : sp vs H Q E) : wpAny (model X.prog X.w) A (call (.ref g) us) (EP X pins σ Q) X.xe s := by
  refine wpAny_call ?_
  have e0 := I.env0
  have e1 : Env0 X.prog X.w X.K X.mg X.base A X.stack s H := ⟨hA.trans e0.frames, e0.mod, e0.bs, e0.bsz, e0.funs, e0.frf, e0.hok, e0.bare⟩
  have hb' := hb s us I.kIn (by rw [List.append_nil]; exact hl)
  rw [List.append_nil] at hb'
  refine codeAny_mono (F.run A X.stack s H ⟨us, []⟩ us vs Q E hr e1 hb' rv h) fun r s' hq => ?_
  cases r with
  | error ex => exact hx pins σ H s ex s' I hq
  | ok fl =>
    cases fl with
    | ret u => exact I.after hq
    | next => exact False.elim hq
    | brk => exact False.elim hq
    | cont => exact False.elim hq
/-- len(o), where o's class has a method for it -/
theorem call_lenO {CX : CXT} {k : Nat} {fd : FuncData} {sp : Sp} {E : XK} (hm : Meth X.K C "__len__" g) (F : FnOk X.prog X.w X.K X.mg X.base CX k g fd ["self"] sp) (hr : Room (k + 1) X.A) (hb : Binds X.K fd ["self"] []) (hx : Passes CX X E) :
    CallR X (.builtin "len") (fun xs H Q => ∃ (a dx : Addr) (fs : List (Str × V)), xs = [.ref a] ∧ H a = some (.ins C dx fs) ∧ sp [.ref a] H (fun v H' => ∃ n : Nat, v = .int (n : Nat) ∧ n < 2 ^ 62 ∧ Q (.int (n : Nat)) H') E) := by
  intro pins s σ H xs us Q I rx h
  obtain ⟨a, dx, fs, rfl, ha, h⟩ := h
  cases rx with
  | cons r1 rest =>
  cases rest
  rename_i u1
  obtain rfl : u1 = Value.ref a := r1
  refine wpAny_call (codeAny_call_builtin rfl entry_len (wpAny_pure ?_))
  unfold PySem.Builtin.len
  refine wpAny_bind (wpAny_pure ?_)
  refine wpAny_bind (special_own I ha hm ?_)
  refine wpAny_mono (own_call (vs := [V.ref a]) I F hr.in1 rfl hb hx rfl (.cons rfl .nil) h) (fun u s1 hq => ?_) (fun _ _ z => z)
  obtain ⟨v, H1, J, rv, n, rfl, hn, q⟩ := hq
  obtain ⟨tk, rfl⟩ := rv
  refine wpAny_bind (wpAny_holding ?_)
  unfold PySem.asIndex PySem.asInt?
  refine wpAny_bind (wpAny_pure (wpAny_pure ?_))
  refine wpAny_bind (wpAny_letGo ?_)
  have c1 : ¬ ((n : Nat) : Int) ≥ 2 ^ 63 := by omega
  have c2 : ¬ ((n : Nat) : Int) < 0 := by omega
  simp only [c1, c2, if_false]
  unfold PySem.retInt
  refine wpAny_bind (wpAny_mkInt ?_)
  refine wpAny_pure ?_
  exact ⟨.int (n : Nat), H1, J.kept (fun _ _ e => e), ⟨_, rfl⟩, q⟩
end
end Fx
end
section
set_option Elab.async false
set_option linter.all false
set_option maxRecDepth 100000
set_option maxHeartbeats 4000000
namespace Fx
open PySem PySem.Spec PyProof.Rows L2
open Evl (Ex fresh_back)
/-! ### o[i] by an own method -/
theorem entry_lsub : entryFor table "lifetime.subscript" = some PySem.Builtin.«lifetime.subscript» := by kernel_rfl
section
variable {X : Cx} {σ : L2.St} {H : Hp} {Q : VK} {o i : Expr} {pos : Pos} {C g : Addr}
/-- a def where it stands -/
def FnAt (K : PySem.W.Frag) (g : Addr) : Prop := ∃ oc od fd osl, K.lookup g = some ⟨oc, od, .func fd, osl⟩
theorem re_ixO {CX : CXT} {k : Nat} {fd : FuncData} {ps : List Str} {sp : Sp} {E : XK} (hl : ps.length = 2) (hm : Meth X.K C "__getitem__" g) (hd : FnAt X.K g) (F : FnOk X.prog X.w X.K X.mg X.base CX k g fd ps sp) (hr : Room (k + 1) X.A) (hb : Binds X.K fd ps []) (hx : Passes CX X E)
    (h : RE X o σ H fun x H1 => RE X i σ H1 fun y H2 => ∃ (a dx : Addr) (fs : List (Str × V)), x = .ref a ∧ H2 a = some (.ins C dx fs) ∧ sp [.ref a, y] H2 Q E)
    (hT : ∀ v u, subscripted i true v u = runValue (Code.builtin "lifetime.subscript" ⟨[v, u], []⟩) := by exact fun _ _ => rfl) : RE X (.Subscript o i pos) σ H Q := by
  refine re_of (t := fun σ H Q => RE X o σ H fun x H1 => RE X i σ H1 fun y H2 => ∃ (a dx : Addr) (fs : List (Str × V)), x = .ref a ∧ H2 a = some (.ins C dx fs) ∧ sp [.ref a, y] H2 Q E) ⟨fun pins s σ H Q I h => ?_⟩ h
  refine Subscript_ (wpAny_mono ((pe_RE (X := X) (e := o)).run pins s σ H _ I h) (fun u1 s1 h1 => ?_) (fun _ _ z => z))
  obtain ⟨x, H1, I1, r1, h1⟩ := h1
  refine wpAny_mono ((pe_RE (X := X) (e := i)).run pins s1 σ H1 _ I1 h1) (fun u2 s2 h2 => ?_) (fun _ _ z => z)
  obtain ⟨y, H2, I2, r2, a, dx, fs, rfl, ha, h2⟩ := h2
  obtain rfl : u1 = Value.ref a := r1
  unfold subscriptTail
  refine wpAny_bind ?_
  rw [getitemInPython_of_ne (by intro z; cases z)]
  obtain ⟨mA, O, _⟩ := ins_get I2.hok ha
  obtain ⟨odx, J, _⟩ := O.look
  obtain ⟨oc, od, fdd, osl, lk⟩ := hd
  unfold PySem.specialOf
  refine wpAny_bind (wpAny_bind (wpAny_typeOf_ref J.at_ ?_))
  rw [J.cls]
  refine PySem.W.looks_findIn I2.kIn hm.at_ X.A _ _ s2 (fun _ _ e => e) ?_
  refine wpAny_bind (wpAny_load (I2.kIn _ _ lk) (wpAny_pure ?_))
  refine wpAny_bind ?_
  rw [hT]
  refine wpAny_runValue (codeAny_builtin entry_lsub ?_)
  rw [PySem.Around.under_plain (by kernel_rfl) (by kernel_rfl)]
  unfold PySem.Builtin.«lifetime.subscript»
  refine wpAny_bind (special_own I2 ha hm ?_)
  refine wpAny_mono (own_call (vs := [V.ref a, y]) I2 F hr.in1 rfl hb hx (by rw [hl]; rfl) (.cons rfl (.cons r2 .nil)) h2) (fun u s3 hq => ?_) (fun _ _ z => z)
  exact wpAny_pure (wpAny_bind (wpAny_letTemporaryGo (wpAny_pure hq)))
end
end Fx
end
section
set_option Elab.async false
set_option linter.all false
set_option maxRecDepth 100000
set_option maxHeartbeats 4000000
namespace Fx
open PySem PySem.Spec PyProof.Rows L2
open Evl (Ex fresh_back)
/-! ### x in o by an own method -/
section
variable {X : Cx} {pins : List (Addr × Obj)} {σ : L2.St} {H : Hp} {s : Shared} {A : Around} {a C dx g : Addr} {fs : List (Str × V)} {nm : Str}
theorem specialOf_own (I : Inv X pins σ H s) (ha : H a = some (.ins C dx fs)) (hm : Meth X.K C nm g) {Q : Option Value → Shared → Prop} {E : Value → Shared → Prop} (h : Q (some (.ref g)) s) : wpAny (model X.prog X.w) A (specialOf (.ref a) nm) Q E s := by
  obtain ⟨mA, O, _⟩ := ins_get I.hok ha
  obtain ⟨odx, J, _⟩ := O.look
  unfold PySem.specialOf
  refine wpAny_bind (wpAny_typeOf_ref J.at_ ?_)
  rw [J.cls]
  exact PySem.W.looks_findIn I.kIn hm.at_ A _ _ s (fun _ _ e => e) h
theorem bind_own (I : Inv X pins σ H s) (hm : Meth X.K C nm g) {self : Value} {Q : Value × List Value → Shared → Prop} {E : Value → Shared → Prop} (h : Q (.ref g, [self]) s) : wpAny (model X.prog X.w) A (bindSpecial (.ref g) self) Q E s := by
  obtain ⟨og, ho, hc⟩ := fn_obj hm.fn
  exact wpAny_bindSpecial_def (I.kIn _ _ ho) hc h
theorem contains_own {v : Value} (I : Inv X pins σ H s) (ha : H a = some (.ins C dx fs)) (hm : Meth X.K C "__contains__" g) {Q : Bool → Shared → Prop} {E : Value → Shared → Prop}
    (h : wpAny (model X.prog X.w) A (call (.ref g) [.ref a, v]) (fun r s' => ∃ b, r = .bool b ∧ Q b s') E s) : wpAny (model X.prog X.w) A (PySem.contains (.ref a) v) Q E s := by
  unfold PySem.contains
  refine wpAny_holding ?_
  rw [show stdlibNamesSay? (Value.ref a) v = none from rfl]
  dsimp only
  refine wpAny_bind (specialOf_own I ha hm ?_)
  rw [if_neg (by intro z; cases z)]
  refine wpAny_bind ?_
  unfold PySem.callSpecialUnlessNone?
  refine wpAny_bind (specialOf_own I ha hm ?_)
  refine wpAny_holding (wpAny_bind (bind_own I hm ?_))
  dsimp only
  rw [if_neg (by intro z; cases z)]
  refine wpAny_bind (wpAny_mono h (fun r s' ⟨b, e, q⟩ => ?_) (fun _ _ z => z))
  subst e
  refine wpAny_pure ?_
  dsimp only
  unfold PySem.truthy
  exact wpAny_pure q
variable {CX : CXT} {k : Nat} {fd : FuncData} {ps : List Str} {sp : Sp} {E : XK}
theorem op_inO (hl : ps.length = 2) (hm : Meth X.K C "__contains__" g) (F : FnOk X.prog X.w X.K X.mg X.base CX k g fd ps sp) (hr : Room k X.A) (hb : Binds X.K fd ps []) (hx : Passes CX X E) :
    OpR X (compareOp .In) (fun x y H Q => ∃ (a dx : Addr) (fs : List (Str × V)), y = .ref a ∧ H a = some (.ins C dx fs) ∧ sp [.ref a, x] H (fun v H' => ∃ b, v = .bl b ∧ Q (.bl b) H') E) := by
  intro pins s σ H x y v u Q I r1 r2 h
  obtain ⟨a, dx, fs, rfl, ha, h⟩ := h
  obtain rfl : u = Value.ref a := r2
  unfold PySem.compareOp
  refine wpAny_bind (contains_own I ha hm ?_)
  refine wpAny_mono (own_call (vs := [V.ref a, x]) I F hr rfl hb hx (by rw [hl]; rfl) (.cons rfl (.cons r1 .nil)) h) (fun w s1 hq => ?_) (fun _ _ z => z)
  obtain ⟨z, H1, J, rv, b, rfl, q⟩ := hq
  obtain rfl : w = Value.bool b := rv
  exact ⟨b, rfl, wpAny_pure ⟨.bl b, H1, J, rfl, q⟩⟩
theorem op_notInO (hl : ps.length = 2) (hm : Meth X.K C "__contains__" g) (F : FnOk X.prog X.w X.K X.mg X.base CX k g fd ps sp) (hr : Room k X.A) (hb : Binds X.K fd ps []) (hx : Passes CX X E) :
    OpR X (compareOp .NotIn) (fun x y H Q => ∃ (a dx : Addr) (fs : List (Str × V)), y = .ref a ∧ H a = some (.ins C dx fs) ∧ sp [.ref a, x] H (fun v H' => ∃ b, v = .bl b ∧ Q (.bl (!b)) H') E) := by
  intro pins s σ H x y v u Q I r1 r2 h
  obtain ⟨a, dx, fs, rfl, ha, h⟩ := h
  obtain rfl : u = Value.ref a := r2
  unfold PySem.compareOp
  refine wpAny_bind (contains_own I ha hm ?_)
  refine wpAny_mono (own_call (vs := [V.ref a, x]) I F hr rfl hb hx (by rw [hl]; rfl) (.cons rfl (.cons r1 .nil)) h) (fun w s1 hq => ?_) (fun _ _ z => z)
  obtain ⟨z, H1, J, rv, b, rfl, q⟩ := hq
  obtain rfl : w = Value.bool b := rv
  exact ⟨b, rfl, wpAny_pure ⟨.bl (!b), H1, J, rfl, q⟩⟩
end
end Fx
end
section
set_option Elab.async false
set_option linter.all false
set_option maxRecDepth 100000
set_option maxHeartbeats 4000000
namespace Fx
open PySem PySem.Spec PyProof.Rows L2
open Evl (Ex fresh_back)
/-! ### o == p and o != p by an own method -/
section
variable {X : Cx} {pins : List (Addr × Obj)} {σ : L2.St} {H : Hp} {s : Shared} {A : Around} {a C dx g : Addr} {fs : List (Str × V)} {nm : Str}
theorem ifbound_own (I : Inv X pins σ H s) (ha : H a = some (.ins C dx fs)) (hm : Meth X.K C nm g) {args : List Value} {Q : Option Value → Shared → Prop} {E : Value → Shared → Prop}
    (h : wpAny (model X.prog X.w) A (call (.ref g) (.ref a :: args)) (fun r s' => Q (some r) s') E s) : wpAny (model X.prog X.w) A (callSpecialIfBound? (.ref a) nm args) Q E s := by
  unfold PySem.callSpecialIfBound?
  refine wpAny_holding (wpAny_bind ?_)
  unfold PySem.bindSpecialIfBound?
  refine wpAny_bind (specialOf_own I ha hm ?_)
  dsimp only
  refine wpAny_bind (wpAny_askSetting ?_)
  have b : ∀ {E' : Value → Shared → Prop}, wpAny (model X.prog X.w) A (do
      let p ← bindSpecial (.ref g) (.ref a)
      pure (some p)) (fun x s1 => wpAny (model X.prog X.w) A (match x with
        | some (g, first) => do
          let r ← call g (first ++ args)
          pure (some r)
        | _ => pure none) Q E s1) E' s := fun {E'} => by
    refine wpAny_bind (bind_own I hm (wpAny_pure ?_))
    exact wpAny_bind (wpAny_mono h (fun r s' q => wpAny_pure q) (fun _ _ z => z))
  split
  · exact b
  · exact wpAny_tryCatch b
/-- what the other side is -/
structure Oth (X : Cx) (C : Addr) (u : Value) (s : Shared) : Prop where
  ty : ∃ tb, (∀ (A : Around) (Q : Value → Shared → Prop) (E : Value → Shared → Prop), Q tb s → wpAny (model X.prog X.w) A (typeOf u) Q E s) ∧ (tb = .ref C ∨ ((Value.ref C != tb) = true ∧ ∀ (A : Around) (Q : Bool → Shared → Prop) (E : Value → Shared → Prop), Q false s → wpAny (model X.prog X.w) A (isSubtype tb (.ref C)) Q E s))
theorem oth_same {b dxb : Addr} {fsb : List (Str × V)} (I : Inv X pins σ H s) (hb : H b = some (.ins C dxb fsb)) : Oth X C (.ref b) s := by
  obtain ⟨mA, O, _⟩ := ins_get I.hok hb
  obtain ⟨odx, J, _⟩ := O.look
  exact ⟨.ref C, fun A Q E q => wpAny_typeOf_ref J.at_ (by rw [J.cls]; exact q), .inl rfl⟩
theorem try_own {u : Value} (I : Inv X pins σ H s) (ha : H a = some (.ins C dx fs)) (hm : Meth X.K C "__eq__" g) {Q : Option Value → Shared → Prop} {E : Value → Shared → Prop}
    (h : wpAny (model X.prog X.w) A (call (.ref g) [.ref a, u]) (fun r s' => ∃ b, r = .bool b ∧ Q (some (.bool b)) s') E s) : wpAny (model X.prog X.w) A (tryCompare (.ref a) "__eq__" u) Q E s := by
  unfold PySem.tryCompare
  refine wpAny_bind (ifbound_own I ha hm (wpAny_mono h (fun r s' ⟨b, e, q⟩ => ?_) (fun _ _ z => z)))
  subst e
  exact wpAny_pure q
theorem rich_from {u : Value} {op : CmpOp} (hop : op = .Eq ∨ op = .NotEq) (I : Inv X pins σ H s) (ha : H a = some (.ins C dx fs)) (ho : Oth X C u s) (hu : A.units < cLine) {Q : Value → Shared → Prop} {E : Value → Shared → Prop}
    (h : wpAny (model X.prog X.w) A (tryCompare (.ref a) (cmpInfo op).2.1 u) (fun r s' => ∃ v, r = some v ∧ Q v s') E s) : wpAny (model X.prog X.w) A (richCompare op (.ref a) u) Q E s := by
  obtain ⟨mA, O, _⟩ := ins_get I.hok ha
  obtain ⟨odx, J, _⟩ := O.look
  obtain ⟨tb, ty, hc⟩ := ho.ty
  have fin : wpAny (model X.prog X.w) A (tryCompare (.ref a) (cmpInfo op).2.1 u) (fun r s' => ∃ v, r = some v ∧ Q v s') E s := h
  rcases hop with rfl | rfl
  all_goals
    unfold PySem.richCompare
    refine wpAny_holding (wpAny_bind (wpAny_cRoomFor hu ?_))
    first | rw [show oneThing? CmpOp.Eq (Value.ref a) u = none from rfl] | rw [show oneThing? CmpOp.NotEq (Value.ref a) u = none from rfl]
    dsimp only [cmpInfo] at h ⊢
    refine wpAny_bind (wpAny_typeOf_ref J.at_ ?_)
    rw [J.cls]
    refine wpAny_bind (ty A _ _ ?_)
    have body : ∀ {Q' : Value → Shared → Prop} (k : Sem Value) (nm : Str), wpAny (model X.prog X.w) A (tryCompare (.ref a) nm u) (fun r s' => ∃ v, r = some v ∧ Q' v s') E s → wpAny (model X.prog X.w) A (do
        let r ← tryCompare (.ref a) nm u
        match r with
        | some v => pure v
        | _ => k) Q' E s := fun k nm hh => wpAny_bind (wpAny_mono hh (fun r s' ⟨v, e, q⟩ => by subst e; exact wpAny_pure q) (fun _ _ z => z))
    rcases hc with rfl | ⟨hn, hs⟩
    · rw [if_neg (by simp)]
      refine wpAny_bind (wpAny_pure ?_)
      rw [if_neg (by simp)]
      exact body _ _ h
    · rw [if_pos hn]
      refine wpAny_bind (hs A _ _ ?_)
      rw [if_neg (by simp)]
      exact body _ _ h
end
end Fx
end
section
set_option Elab.async false
set_option linter.all false
set_option maxRecDepth 100000
set_option maxHeartbeats 4000000
namespace Fx
open PySem PySem.Spec PyProof.Rows L2
open Evl (Ex fresh_back)
section
variable {X : Cx} {pins : List (Addr × Obj)} {σ : L2.St} {H : Hp} {s : Shared} {A : Around} {a C dx g : Addr} {fs : List (Str × V)} {nm : Str}
theorem oth_dict {b : Addr} {kvs : List (Key × V)} (I : Inv X pins σ H s) (hb : H b = some (.dK kvs)) : Oth X C (.ref b) s := by
  obtain ⟨_, _, vs, _, hD⟩ := dk_of I.hok hb
  obtain ⟨o, hg, hc⟩ : ∃ o, s.heap.get? b = some o ∧ o.cls = .type "dict" := Heap.DictOf.typeIs hD
  refine ⟨.type "dict", fun A Q E q => wpAny_typeOf_ref hg (by rw [hc]; exact q), .inr ⟨rfl, fun A Q E q => ?_⟩⟩
  exact PySem.W.looks_subIn I.kIn (K := X.K) (t := .type "dict") (base := .ref C) (r := false) rfl A _ _ s (fun _ _ e => e) q
theorem kind_ne : builtinKind "object.__ne__" = some Manifest.AttrKind.slot := by kernel_rfl
theorem split_ne : splitId "object.__ne__" = some ("object", "__ne__") := by kernel_rfl
theorem try_ne {u : Value} (I : Inv X pins σ H s) (ha : H a = some (.ins C dx fs)) (hm : Meth X.K C "__eq__" g) (hn : PySem.W.findIn X.K (.ref C) "__ne__" = some (some (.builtin "object.__ne__"))) (hob : PySem.W.subIn X.K (.ref C) (.type "object") = some true) (hu : A.units + 1 < cLine) {Q : Option Value → Shared → Prop} {E : Value → Shared → Prop}
    (h : wpAny (model X.prog X.w) A.in1 (call (.ref g) [.ref a, u]) (fun r s' => ∃ b, r = .bool b ∧ Q (some (.bool (!b))) s') E s) : wpAny (model X.prog X.w) A (tryCompare (.ref a) "__ne__" u) Q E s := by
  unfold PySem.tryCompare
  refine wpAny_bind ?_
  unfold PySem.callSpecialIfBound?
  refine wpAny_holding (wpAny_bind ?_)
  unfold PySem.bindSpecialIfBound?
  obtain ⟨mA, O, _⟩ := ins_get I.hok ha
  obtain ⟨odx, J, _⟩ := O.look
  refine wpAny_bind ?_
  unfold PySem.specialOf
  refine wpAny_bind (wpAny_typeOf_ref J.at_ ?_)
  rw [J.cls]
  refine PySem.W.looks_findIn I.kIn hn A _ _ s (fun _ _ e => e) ?_
  dsimp only
  refine wpAny_bind (wpAny_askSetting ?_)
  have b : ∀ {E' : Value → Shared → Prop}, wpAny (model X.prog X.w) A (do
      let p ← bindSpecial (.builtin "object.__ne__") (.ref a)
      pure (some p)) (fun x s1 => wpAny (model X.prog X.w) A (match x with
        | some (g, first) => do
          let r ← call g (first ++ [u])
          pure (some r)
        | _ => pure none) (fun r s' => wpAny (model X.prog X.w) A (match r with
        | some .notImplemented => pure none
        | none => pure none
        | some v => pure (some v)) Q E s') E s1) E' s := fun {E'} => by
    rw [show bindSpecial (Value.builtin "object.__ne__") (Value.ref a) = pure (Value.builtin "object.__ne__", [Value.ref a]) from rfl]
    refine wpAny_bind (wpAny_pure (wpAny_pure ?_))
    refine wpAny_bind (wpAny_call (codeAny_call_builtin PySem.F.slot_object_ne.plain PySem.F.entry_object_ne ?_))
    refine PySem.W.check_slot (rest := [u]) kind_ne split_ne (fun A Q E s1 k q => ?_) (PySem.F.args_object_ne_2 _ _) ?_
    · unfold PySem.isInstance
      refine wpAny_bind (wpAny_typeOf_ref (k _ _ J.at_) ?_)
      rw [J.cls]
      exact PySem.W.looks_subIn I.kIn hob A _ _ s1 k q
    unfold PySem.Builtin.«object.__ne__»
    rw [show slotArgs "__ne__" 1 ⟨[Value.ref a] ++ [u], []⟩ = pure (Value.ref a, [u]) from rfl]
    refine wpAny_bind (wpAny_pure ?_)
    refine wpAny_bind (wpAny_cRoomFor hu ?_)
    refine wpAny_bind (ifbound_own I ha hm (wpAny_mono h (fun r s' ⟨b, e, q⟩ => ?_) (fun _ _ z => z)))
    subst e
    refine wpAny_bind ?_
    unfold PySem.truthy
    exact wpAny_pure (wpAny_pure (wpAny_pure (wpAny_pure q)))
  split
  · exact b
  · exact wpAny_tryCatch b
variable {CX : CXT} {k : Nat} {fd : FuncData} {ps : List Str} {sp : Sp} {E : XK}
/-- the other side as it is seen -/
def OthV (H : Hp) (C : Addr) (y : V) : Prop := ∃ b, y = .ref b ∧ ((∃ dx fs, H b = some (.ins C dx fs)) ∨ ∃ kvs, H b = some (.dK kvs))
theorem OthV.oth {y : V} {u : Value} (I : Inv X pins σ H s) (r : RelV y u) (o : OthV H C y) : Oth X C u s := by
  obtain ⟨b, rfl, ⟨dx, fs, hb⟩ | ⟨kvs, hb⟩⟩ := o
  · obtain rfl : u = Value.ref b := r
    exact oth_same I hb
  · obtain rfl : u = Value.ref b := r
    exact oth_dict I hb
theorem op_eqO (hl : ps.length = 2) (hm : Meth X.K C "__eq__" g) (F : FnOk X.prog X.w X.K X.mg X.base CX k g fd ps sp) (hr : Room k X.A) (hb : Binds X.K fd ps []) (hx : Passes CX X E) :
    OpR X (compareOp .Eq) (fun x y H Q => ∃ (a dx : Addr) (fs : List (Str × V)), x = .ref a ∧ H a = some (.ins C dx fs) ∧ OthV H C y ∧ sp [.ref a, y] H (fun v H' => ∃ b, v = .bl b ∧ Q (.bl b) H') E) := by
  intro pins s σ H x y v u Q I r1 r2 h
  obtain ⟨a, dx, fs, rfl, ha, ho, h⟩ := h
  obtain rfl : v = Value.ref a := r1
  refine rich_from (op := .Eq) (.inl rfl) I ha (ho.oth I r2) (by have := hr.un; omega) (try_own I ha hm ?_)
  refine wpAny_mono (own_call (vs := [V.ref a, y]) I F hr rfl hb hx (by rw [hl]; rfl) (.cons rfl (.cons r2 .nil)) h) (fun w s1 hq => ?_) (fun _ _ z => z)
  obtain ⟨z, H1, J, rv, b, rfl, q⟩ := hq
  obtain rfl : w = Value.bool b := rv
  exact ⟨b, rfl, _, rfl, .bl b, H1, J, rfl, q⟩
theorem op_neO (hl : ps.length = 2) (hm : Meth X.K C "__eq__" g) (hn : PySem.W.findIn X.K (.ref C) "__ne__" = some (some (.builtin "object.__ne__"))) (hob : PySem.W.subIn X.K (.ref C) (.type "object") = some true) (F : FnOk X.prog X.w X.K X.mg X.base CX k g fd ps sp) (hr : Room (k + 1) X.A) (hb : Binds X.K fd ps []) (hx : Passes CX X E) :
    OpR X (compareOp .NotEq) (fun x y H Q => ∃ (a dx : Addr) (fs : List (Str × V)), x = .ref a ∧ H a = some (.ins C dx fs) ∧ OthV H C y ∧ sp [.ref a, y] H (fun v H' => ∃ b, v = .bl b ∧ Q (.bl (!b)) H') E) := by
  intro pins s σ H x y v u Q I r1 r2 h
  obtain ⟨a, dx, fs, rfl, ha, ho, h⟩ := h
  obtain rfl : v = Value.ref a := r1
  refine rich_from (op := .NotEq) (.inr rfl) I ha (ho.oth I r2) (by have := hr.un; omega) (try_ne I ha hm hn hob (by have := hr.un; omega) ?_)
  refine wpAny_mono (own_call (vs := [V.ref a, y]) I F hr.in1 rfl hb hx (by rw [hl]; rfl) (.cons rfl (.cons r2 .nil)) h) (fun w s1 hq => ?_) (fun _ _ z => z)
  obtain ⟨z, H1, J, rv, b, rfl, q⟩ := hq
  obtain rfl : w = Value.bool b := rv
  exact ⟨b, rfl, _, rfl, .bl (!b), H1, J, rfl, q⟩
end
end Fx
end
section
set_option Elab.async false
set_option linter.all false
set_option maxRecDepth 100000
set_option maxHeartbeats 4000000
namespace Fx
open PySem PySem.Spec PyProof.Rows L2
open Evl (Ex fresh_back)
section
variable {X : Cx} {e : Expr} {p p2 pos : Pos} {σ : L2.St} {H : Hp} {Q : VK} {x : Str} {CP : Addr}
/-- isinstance(e, C), e an instance -/
theorem re_isiO (hI : X.mg "isinstance" = none) (hT : X.mg x = some (.ref CP)) (h : RE X e σ H fun v H1 => ∃ a C dx fs b, v = .ref a ∧ H1 a = some (.ins C dx fs) ∧ Cls X.K C ∧ ClsI X.K C ∧ PySem.W.kitOne X.K (.ref C) (.ref CP) = some b ∧ Q (.bl b) H1)
    (hg : Gl X "isinstance" := by rfl) (hg2 : Gl X x := by rfl) (hd : (x == ("__debug__" : Str)) = false := by decide)
    (h1 : starEach [e, .Name x p2] X.env = (false, eval e X.env) :: starEach [.Name x p2] X.env := by rfl) : RE X (.Call (.Name "isinstance" p) [e, .Name x p2] [] pos) σ H Q :=
  re_cb (h1 := h1) (hg := hg) call_isi hI (ra_cons (h.mono fun v H1 ⟨a, C, dx, fs, b, ev, ha, c, k, kit, q⟩ => ra_cons (re_glob (v := .ref CP) hT rfl (ra_nil ⟨v, .ref CP, .ref C, .ref CP, b, rfl, .own CP, by rw [ev]; exact .base (.ins ha c k.ha k.hn k.htk k.hm), kit, q⟩) hg2 hd) rfl) h1)
end
end Fx
namespace Fl
open PySem PySem.Spec PyProof.Rows L2 Fx
open Evl (Ex fresh_back)
/-! ### Program.__eq__ -/
theorem hu66 {k : Nat} {A : Around} (hr : Room k A) : A.units + 66 < cLine := by
  have := hr.un
  omega
/-- a class of programs -/
structure PN (K : PySem.W.Frag) (CP C : Addr) (n : Str) : Prop where
  cls : Cls K C
  nF : NoAttr K C "_functions"
  isC : ClsI K C
  nm : NameOf K C n
  kit : PySem.W.kitOne K (.ref C) (.ref CP) = some true
abbrev nm_eq : List Str := ["self", "other"]
theorem sc_eq : FnScope nm_eq nm_eq (defScope s_eq) := ⟨rfl, rfl, rfl, by decide +kernel, rfl, by decide +kernel, by decide +kernel⟩
def sp_eq (K : PySem.W.Frag) (CP : Addr) : Sp := fun vs H Q _ => ∃ (a b C1 C2 dx1 dx2 g1 g2 : Addr) (n1 n2 : Str) (ys zs : List Str) (t u : Str → Addr) (xs1 xs2 : Str → List V) (ls ms : Str → List PyData), vs = [.ref a, .ref b] ∧ ProgN K C1 H a dx1 g1 ys t xs1 ls ∧ ProgN K C2 H b dx2 g2 zs u xs2 ms ∧
  PN K CP C1 n1 ∧ PN K CP C2 n2 ∧ (∀ n ∈ ys, ∀ d ∈ ls n, isLineD d = true) ∧ (∀ n ∈ zs, ∀ d ∈ ms n, isLineD d = true) ∧ Q (.bl (decide (n1 = n2) && (ys.length == zs.length && ys.all (hitB zs ls ms)))) H
section
variable {P : Program} {w : World} {K : PySem.W.Frag} {mg : Str → Option Value} {base : Heap} {f : Addr} {fd : FuncData}
theorem ok_eq {CP : Addr} (F : Fun K "__eq__" "Program.__eq__" s_eq f fd) (G : Gb mg) (gm : mg "Program" = some (.ref CP)) : FnOk P w K mg base CX0 1 f fd nm_eq (sp_eq K CP) := by
  refine F.ok sc_eq (fun vs H Q E h => ?_) (fun cdv Ar outer sh H vs Q E hr h => ⟨RB _ _, pss_RB, ?_⟩)
  · obtain ⟨_, _, _, _, _, _, _, _, _, _, _, _, _, _, _, _, _, _, rfl, _⟩ := h; rfl
  obtain ⟨a, b, C1, C2, dx1, dx2, g1, g2, n1, n2, ys, zs, t, u, xs1, xs2, ls, ms, rfl, p1, p2, N1, N2, o1, o2, q⟩ := h
  refine rb_cons <| rs_if <| rt_not <| rt_val <| re_isiO G.isinstance gm <| re_var 1 rfl ⟨b, C2, dx2, _, true, rfl, p2.ins, N2.cls, N2.isC, N2.kit, true, rfl, ?_⟩
  refine ifF <| rb_nil <| rb_one <| rs_ret <| re_and <| re_cmp op_eq <| re_clsname <| re_var 0 rfl ⟨a, C1, dx1, _, n1, rfl, p1.ins, N1.cls, N1.isC, N1.nm, re_clsname <| re_var 1 rfl ⟨b, C2, dx2, _, n2, rfl, p2.ins, N2.cls, N2.isC, N2.nm, rfl, _, rfl, ?_⟩⟩
  have hd : decide (V.str n1 = V.str n2) = decide (n1 = n2) := decide_eq_decide.mpr ⟨V.str.inj, fun e => by rw [e]⟩
  rw [hd]
  by_cases e : n1 = n2
  · rw [decide_eq_true e, Bool.true_and] at q
    rw [decide_eq_true e]
    refine ifT <| re_one <| re_cmp (op_eqN ?_) <| re_fld <| re_var 0 rfl ⟨a, C1, dx1, _, _, rfl, p1.ins, N1.cls, N1.nF, rfl, re_fld <| re_var 1 rfl ⟨b, C2, dx2, _, _, rfl, p2.ins, N2.cls, N2.nF, rfl, g1, g2, ys, zs, t, u, ls, ms, rfl, rfl, p1.dict, p2.dict, ⟨fun n hn => ⟨_, p1.seq n hn, p1.dat n hn⟩, o1⟩, ⟨fun n hn => ⟨_, p2.seq n hn, p2.dat n hn⟩, o2⟩, q⟩⟩
    exact hu66 hr
  · rw [decide_eq_false e, Bool.false_and] at q
    rw [decide_eq_false e]
    exact ifF q
end
end Fl
end
section
set_option Elab.async false
set_option linter.all false
set_option maxRecDepth 100000
set_option maxHeartbeats 4000000
namespace Fx
open PySem PySem.Spec PyProof.Rows L2
open Evl (Ex fresh_back)
section
variable {X : Cx} {o e : Expr} {σ : L2.St} {H : Hp} {Q : VK} {apos cpos : Pos}
/-- xs.extend(ys), ys a list -/
theorem re_extendL (h : RE X o σ H fun x H1 => ∃ l, x = .ref l ∧ (∃ zs, H1 l = some (.lst zs)) ∧ RE X e σ H1 fun y H2 => ∃ xs b zs, y = .ref b ∧ H2 l = some (.lst xs) ∧ H2 b = some (.lst zs) ∧ xs.length + zs.length ≤ sizeLine ∧ Q .non (upd H2 l (.lst (xs ++ zs)))) (base : attributeBase o "extend" X.env (eval o X.env) = eval o X.env := by rfl) (line : (apos.endLine == cpos.line) = true := by rfl)
    (few : (((backTo cpos (starEach [e] X.env)).all (fun x => !x.1) && (backToKw cpos (keywordEach [] X.env)).all (fun x => x.1.isSome)) && decide (([e] : List Expr).length + ([] : List Keyword).length + (if ([] : List Keyword).isEmpty = true then 0 else 1) < 30)) = true := by rfl)
    (h1 : starEach [e] X.env = (false, eval e X.env) :: starEach [] X.env := by rfl) : RE X (.Call (.Attribute o "extend" apos) [e] [] cpos) σ H Q :=
  re_of (pe_bm PySem.F.plainAttrs_list PySem.F.slot_list_extend PySem.F.type_list_extend mt_extend pe_RE pa_RA base few line h1 rfl) (h.mono fun x H1 ⟨l, ex, ⟨zs, hz⟩, q⟩ => by
    subst ex
    exact ⟨.inl ⟨rfl, _, SqL.of hz⟩, ra_cons (hs := h1) (q.mono fun y H2 ⟨xs, b, zs, ey, hl, hb, hx, q⟩ => ra_nil ⟨l, b, xs, zs, rfl, by rw [ey], hl, hb, hx, q⟩)⟩)
end
end Fx
namespace Fl
open PySem PySem.Spec PyProof.Rows L2 Fx
open Evl (Ex fresh_back)
/-! ### the law's text of a plain program -/
theorem rows_take {ys : List Str} {ls : Str → List PyData} {i : Nat} {n : Str} (h : ys[i]? = some n) : rowsR (ys.take (i + 1)) ls = rowsR (ys.take i) ls ++ (.head n :: (ls n).map .line) := by
  have tk : ys.take (i + 1) = ys.take i ++ [n] := take_snoc h
  rw [tk, rows_cat, rows_one]
  show _ ++ (Row.head n :: ((ls n).map Row.line ++ [])) = _
  rw [List.append_nil]
theorem take_rows_len {ys : List Str} {ls : Str → List PyData} {i : Nat} (h24 : ys.length ≤ 24) (hl : ∀ n ∈ ys, (ls n).length ≤ 1000) : (rowsR (ys.take i) ls).length ≤ 24024 := by
  have h1 := rows_len (ls := ls) (ys := ys.take i) fun n hn => hl n (List.mem_of_mem_take hn)
  have h2 : (ys.take i).length ≤ 24 := Nat.le_trans (List.length_take_le' i ys) h24
  omega
section
variable {P : Program} {w : World} {K : PySem.W.Frag} {mg : Str → Option Value} {base : Heap} {f : Addr} {fd : FuncData}
abbrev nm_ltx : List Str := ["_law_plain_here", "_law_parts", "_law_name", "_law_line", "_law_part"]
theorem sc_ltx : FnScope nm_ltx ["_law_plain_here"] (defScope s_l_text) := ⟨rfl, rfl, rfl, by decide +kernel, rfl, by decide +kernel, by decide +kernel⟩
def ltSc : Scope := match defBody s_l_text with
  | [_, .For _ _ [_, .Expr (.Call _ [.ListComp _ _ sc _] _ _) _] _ _, _] => sc
  | _ => default
def sp_ltext (K : PySem.W.Frag) : Sp := fun vs H Q _ => ∃ (fa : Addr) (fs : List Fn3) (ls : Str → List PyData), vs = [.ref fa] ∧ H fa = some (.dK (bkV fs)) ∧ (bkN fs).Nodup ∧ fs.length ≤ 24 ∧ fs ≠ [] ∧
  (∀ e ∈ fs, isWordS e.1 = true ∧ D K H e.2.1 e.2.2 ∧ Lines e.2.2 ∧ ls e.1 = itemsD e.2.2) ∧ ∀ H' ys, Ex H H' → ys.Perm (bkN fs) → sortedS ys = true → Q (.str (progT ys ls)) H'
theorem ok_ltext (F : Fun K "_law_text" "_law_text" s_l_text f fd) (G : Gb mg) : FnOk P w K mg base CX0 1 f fd ["_law_plain_here"] (sp_ltext K) := by
  refine F.ok sc_ltx (fun vs H Q E h => ?_) (fun cdv Ar outer sh H vs Q E hr h => ⟨RB _ _, pss_RB, ?_⟩)
  · obtain ⟨_, _, _, rfl, _⟩ := h; rfl
  obtain ⟨fa, fs, ls, rfl, hfa, hnd, h24, hne, hfs, q⟩ := h
  have sz : (5000000 : Nat) ≤ sizeLine := by rw [sizeLine_eq]; decide
  have hn64 : (bkN fs).length < 64 := by
    show (fs.map _).length < 64
    rw [List.length_map]; omega
  refine rb_cons <| rs_set 1 (by exact sc_ltx.nd) <| re_lst <| ra_nil ⟨Nat.zero_le _, fun l H1 hl e1 h1 => ?_⟩
  refine rb_cons <| rs_for (g := gName 2) PassesOwn.never rfl (pg_name (i := 2) (by exact sc_ltx.nd) rfl (Or.inl rfl)) good_name ?_
  refine ri_list <| re_cb (call_sortedD rfl) G.sorted <| ra_cons <| re_var 0 rfl <| ra_nil ⟨fa, _, bkN fs, rfl, .inl (e1 _ _ hfa), bk_keys fs, hn64, fun ys p hperm hsrt hp => ?_⟩
  have e2 : Ex H1 (upd H1 p (.lst (ys.map V.str))) := Ex.new hp
  have hp2 : upd H1 p (.lst (ys.map V.str)) p = some (.lst (ys.map V.str)) := upd_same
  have pl : p ≠ l := fun z => by rw [z, h1] at hp; cases hp
  have e02 := e1.trans e2
  have h12 := e2 _ _ h1
  generalize upd H1 p (.lst (ys.map V.str)) = H2 at *
  have ylen : ys.length ≤ 24 := by
    rw [hperm.length_eq]
    show (fs.map _).length ≤ 24
    rw [List.length_map]; exact h24
  have yfs : ∀ n ∈ ys, ∃ e ∈ fs, e.1 = n := fun n hn => by
    obtain ⟨e, he, h⟩ := List.mem_map.mp (hperm.mem_iff.mp hn)
    exact ⟨e, he, h⟩
  have yw : ∀ n ∈ ys, isWordS n = true ∧ (ls n).length ≤ 1000 ∧ ∀ d ∈ ls n, isLineD d = true := fun n hn => by
    obtain ⟨e, he, rfl⟩ := yfs n hn
    obtain ⟨a1, _, a3, a4⟩ := hfs e he
    rw [a4]
    exact ⟨a1, a3.len, a3.ok⟩
  have yne : ys ≠ [] := fun z => by
    rw [z] at hperm
    have := hperm.length_eq
    have : fs.length = 0 := by rw [← List.length_map (f := fun e : Fn3 => e.1)]; exact this.symm
    exact hne (List.length_eq_zero_iff.mp this)
  refine ⟨p, ys.map V.str, rfl, .inl (.inl hp2), _, _, _, fun i σ' H' => ∃ x, σ' = [some (.ref fa), some (.ref l), x, none, none] ∧ H' l = some (.lst (((rowsR (ys.take i) ls).map rowT).map V.str)) ∧ H' p = some (.lst (ys.map V.str)) ∧ Ex H H', walk_list (xs := ys.map V.str), ⟨_, rfl, h12, hp2, e02⟩, ?_, ?_, ?_⟩
  · rintro i σ' H' hi ⟨_, _, _, e', _⟩
    exact .inl (.inl e')
  · rintro i x σ' Ha Hb hi ⟨x2, rfl, hlb, hpb, eb⟩ ⟨rfl, hx⟩
    rw [List.getElem?_map] at hx
    obtain ⟨n, hn, rfl⟩ : ∃ n, ys[i]? = some n ∧ x = V.str n := by
      cases hy : ys[i]? with
      | none => rw [hy] at hx; cases hx
      | some n => rw [hy] at hx; exact ⟨n, rfl, (Option.some.inj hx).symm⟩
    have hm := List.mem_of_getElem? hn
    obtain ⟨e, he, en⟩ := yfs n hm
    subst en
    obtain ⟨w1, hd, hL, hls⟩ := hfs e he
    obtain ⟨k1, k8⟩ := word8 w1
    have hrl := take_rows_len (ls := ls) (i := i) ylen fun n hn => (yw n hn).2.1
    have f9 : ("function " : Str).length = 9 := rfl
    have lb : (((rowsR (ys.take i) ls).map rowT).map V.str).length ≤ 24024 := by rw [List.length_map, List.length_map]; exact hrl
    refine rb_cons <| rs_expr <| re_append <| re_var 1 rfl ⟨l, rfl, ⟨_, hlb⟩, re_op op_add_str <| re_str <| re_var 2 rfl ⟨"function ", e.1, rfl, rfl, by rw [f9]; omega, _, hlb, by omega, ?_⟩⟩
    have eb2 : Ex H (upd Hb l (.lst ((((rowsR (ys.take i) ls).map rowT).map V.str) ++ [.str ("function " ++ e.1)]))) := fun b o hb => by
      rw [upd_ne (ne_of_none hb hl)]; exact eb _ _ hb
    have hl2 : upd Hb l (.lst ((((rowsR (ys.take i) ls).map rowT).map V.str) ++ [.str ("function " ++ e.1)])) l = some (.lst ((((rowsR (ys.take i) ls).map rowT).map V.str) ++ [.str ("function " ++ e.1)])) := upd_same
    have hp2' : upd Hb l (.lst ((((rowsR (ys.take i) ls).map rowT).map V.str) ++ [.str ("function " ++ e.1)])) p = some (.lst (ys.map V.str)) := by rw [upd_ne pl]; exact hpb
    generalize upd Hb l (.lst ((((rowsR (ys.take i) ls).map rowT).map V.str) ++ [.str ("function " ++ e.1)])) = Hc at *
    have hval : valV (bkV fs) (.inr e.1) = some e.2.1 := bk_val hnd he
    have hd2 := hd.mono eb2
    refine rb_one <| rs_expr <| re_extendL <| re_var 1 rfl ⟨l, rfl, ⟨_, hl2⟩, ?_⟩
    refine re_lc (own := [("_law_line", 3)]) (g := gName 3) rfl (by exact sc_ltx.nd) (blkOk_by (N := nm_ltx) (sc := defScope s_l_text) (by decide +kernel)) (fun _ _ _ _ _ => pg_name (i := 3) (by exact sc_ltx.nd) rfl (Or.inl rfl)) good_name ?_
    refine ri_data hd2 hL.isl fun J G' xs W hG hda => re_dget (hu_of hr) <| re_var 0 rfl <| re_var 2 rfl ⟨fa, _, .inr e.1, e.2.1, rfl, eb2 _ _ hfa, rfl, hval, rfl, Ex.refl _, xs.length, _, _, fun i acc => acc = (((itemsD e.2.2).take i).map lineT).map V.str, W, by rw [hda.length]; have := hL.len; omega, hG, rfl, ?_, ?_⟩
    · rintro j x Hd He hj e3 ⟨rfl, hx⟩
      obtain ⟨z, hz, hzd⟩ := hda.getV hx
      have tkz : (itemsD e.2.2).take (j + 1) = (itemsD e.2.2).take j ++ [z] := take_snoc hz
      refine ⟨Ex.refl _, rfl, Ex.refl _, fun s0 H0 C cl fp => ?_⟩
      have okz := hL.ok z (List.mem_of_getElem? hz)
      have hzd2 := hzd.mono e3
      obtain ⟨ds, rfl, h4, hs⟩ := line_small okz
      obtain ⟨a, zs, rfl, sq, da⟩ : ∃ a zs, x = .ref a ∧ SqT K He a zs ∧ DA K He zs ds := by
        cases hzd2 with
        | tup sq da => exact ⟨_, _, rfl, sq, da⟩
      refine re_join <| re_str ⟨⟨_, rfl⟩, ?_⟩
      refine re_lc (own := [("_law_part", 4)]) (g := gName 4) rfl (by exact sc_ltx.nd) (blkOk_by (N := nm_ltx) (sc := ltSc) (by decide +kernel)) (fun _ _ _ _ _ => pg_name (i := 4) (by exact sc_ltx.nd) rfl (Or.inl rfl)) good_name <|
        ri_tup <| re_var 3 rfl ⟨a, zs, rfl, sq, zs.length, _, _, fun i acc => acc = ((ds.take i).map partT).map V.str, walk_tup, by rw [da.length]; omega, fun H' e => Evl.ex_t e sq, rfl, ?_, ?_⟩
      · rintro m y Hf Hg hm' e4 ⟨rfl, hy⟩
        obtain ⟨u, hu, hud⟩ := da.getV hy
        have hsm := hs u (List.mem_of_getElem? hu)
        have tk : ds.take (m + 1) = ds.take m ++ [u] := take_snoc hu
        refine ⟨Ex.refl _, rfl, Ex.refl _, fun s0 H0 C cl fp => ?_⟩
        rcases hsm with ⟨k, rfl, hk⟩ | ⟨t, rfl, ht⟩
        · cases hud
          refine re_ct call_str_int G.str <| ra_cons <| re_var 4 rfl <| ra_nil ⟨k, rfl, ?_, Ex.refl _, fun acc hacc => ?_⟩
          · rcases Nat.eq_zero_or_pos k.natAbs with z | h0
            · rw [z]; decide
            · exact (Nat.log2_lt (by omega)).mpr (Nat.lt_of_lt_of_le hk (Nat.le_of_ble_eq_true rfl : 10 ^ 12 ≤ 2 ^ 1920))
          · have hacc : acc = _ := hacc
            show acc ++ [_] = ((ds.take (m + 1)).map partT).map V.str
            rw [tk, hacc, List.map_append, List.map_append]; rfl
        · cases hud
          refine re_ct SkE.call_str_str G.str <| ra_cons <| re_var 4 rfl <| ra_nil ⟨t, rfl, Ex.refl _, fun acc hacc => ?_⟩
          have hacc : acc = _ := hacc
          show acc ++ [_] = ((ds.take (m + 1)).map partT).map V.str
          rw [tk, hacc, List.map_append, List.map_append]; rfl
      · rintro p3 us H3 hp3 e4 h3 hl3 hacc
        rw [da.length, List.take_length] at hacc
        subst hacc
        refine ⟨" ", p3, ds.map partT, rfl, rfl, .inl (.inl h3), ?_, e4, fun acc hacc => ?_⟩
        · have hb := sum_up (c := 13) (xs := (ds.map partT).map (·.length)) fun n hn => by
            obtain ⟨s, hs', rfl⟩ := List.mem_map.mp hn
            obtain ⟨x, hx, rfl⟩ := List.mem_map.mp hs'
            exact part_len (hs x hx)
          rw [List.length_map, List.length_map] at hb
          rw [List.length_map]
          have h1 : (" " : Str).length = 1 := rfl
          rw [h1]
          omega
        · have hacc : acc = _ := hacc
          show acc ++ [_] = (((itemsD e.2.2).take (j + 1)).map lineT).map V.str
          rw [tkz, hacc, List.map_append, List.map_append]; rfl
    · rintro p3 us H3 hp3 e3 h3 hl3 hacc
      rw [hda.length, List.take_length] at hacc
      have hacc : us = ((itemsD e.2.2).map lineT).map V.str := hacc
      subst hacc
      refine ⟨_, p3, _, rfl, e3 _ _ hl2, h3, ?_, _, rfl, ?_, ?_, fun b o hb => ?_⟩
      · have := hL.len
        simp only [List.length_append, List.length_map, List.length_cons, List.length_nil]
        omega
      · rw [upd_same, rows_take hn, hls]
        simp only [List.map_append, List.map_cons, List.map_map, List.append_assoc]
        rfl
      · rw [upd_ne pl]; exact e3 _ _ hp2'
      · rw [upd_ne (ne_of_none hb hl)]; exact e3 _ _ (eb2 _ _ hb)
  · rintro σ' H3 ⟨x2, rfl, hl3, _, e3⟩
    rw [List.length_map, List.take_length] at hl3
    have hpl := prog_len ylen yw
    have hrt := rows_text (ls := ls) yne
    refine rb_one <| rs_ret <| re_join <| re_str ⟨⟨_, rfl⟩, re_var 1 rfl ⟨"\n", l, (rowsR ys ls).map rowT, rfl, rfl, .inl (.inl hl3), ?_, ?_⟩⟩
    · have h1 : ("\n" : Str).length = 1 := rfl
      rw [hrt, join_len, h1] at hpl
      rw [h1]
      omega
    · rw [← hrt]
      exact q H3 ys e3 hperm hsrt
end
end Fl
end
section
set_option Elab.async false
set_option linter.all false
set_option maxRecDepth 100000
set_option maxHeartbeats 4000000
namespace Fl
open PySem PySem.Spec PyProof.Rows L2 Fx
open Evl (Ex fresh_back)
/-! ### the letters of a text -/
theorem word_up {s : Str} (h : isWordS s = true) : ∀ c ∈ TL.tl s, c ≤ 122 := fun c hc => by
  unfold isWordS at h
  rw [Bool.and_eq_true, List.all_eq_true] at h
  have := h.2 c hc
  rw [Bool.and_eq_true, decide_eq_true_eq, decide_eq_true_eq] at this
  omega
theorem int_up {i : Int} : ∀ c ∈ TL.tl (PyData.int i).shown, c ≤ 122 := fun c hc => by
  cases i with
  | ofNat m =>
    have hc : c ∈ TL.tl (PyData.int (m : Nat)).shown := hc
    rw [tl_nat] at hc
    have := num_digits m c hc
    omega
  | negSucc n =>
    rw [tl_neg] at hc
    rcases List.mem_cons.mp hc with rfl | hc
    · decide
    · have := num_digits (n + 1) c hc
      omega
theorem fits_up {k : Str} {x : PyData} (h : fitsD k x = true) : ∀ c ∈ TL.tl (partT x), c ≤ 122 := by
  rcases fits_small h with ⟨i, rfl, _⟩ | ⟨s, rfl, _⟩
  · exact int_up
  · unfold fitsD at h
    split at h
    · exact word_up h
    · split at h
      · exact absurd (show false = true from h) Bool.false_ne_true
      · split at h
        · exact absurd (show false = true from h) Bool.false_ne_true
        · split at h
          · rename_i c
            have : s = "link" := of_decide_eq_true c.2
            subst this
            exact word_up (by decide +kernel)
          · exact absurd (show false = true from h) Bool.false_ne_true
theorem line_up {d : PyData} (h : isLineD d = true) : ∀ x ∈ itemsD d, ∀ c ∈ TL.tl (partT x), c ≤ 122 := fun x hx => by
  obtain ⟨w, xs, kinds, v⟩ := valid_of h
  have e := v.eq
  subst e
  rcases List.mem_cons.mp hx with rfl | hx
  · exact word_up (key_word v.form).1
  · obtain ⟨i, hi⟩ := List.getElem?_of_mem hx
    have hl := (List.getElem?_eq_some_iff.mp hi).1
    obtain ⟨k, hk⟩ : ∃ k, kinds[i]? = some k := ⟨kinds[i]'(by rw [← v.len]; exact hl), List.getElem?_eq_getElem _⟩
    exact fits_up (v.fits i k x hk hi)
theorem join_up {sep : Str} (hs : ∀ c ∈ TL.tl sep, c ≤ 122) : ∀ {parts : List Str}, (∀ p ∈ parts, ∀ c ∈ TL.tl p, c ≤ 122) → ∀ c ∈ TL.tl (Str.join sep parts), c ≤ 122
  | [], _, c, hc => by cases hc
  | p :: r, h, c, hc => by
    rw [tl_join] at hc
    rcases List.mem_append.mp hc with hc | hc
    · exact h p List.mem_cons_self c hc
    · obtain ⟨q, hq, hc⟩ := List.mem_flatMap.mp hc
      rcases List.mem_append.mp hc with hc | hc
      · exact hs c hc
      · exact h q (List.mem_cons_of_mem _ hq) c hc
theorem row_up {r : Row} (h : RowOk r) : ∀ c ∈ TL.tl (rowT r), c ≤ 122 := by
  cases r with
  | head n =>
    intro c hc
    have hc : c ∈ TL.tl ("function " ++ n) := hc
    rw [tl_cat] at hc
    rcases List.mem_append.mp hc with hc | hc
    · have all : (TL.tl "function ").all (fun c => decide (c ≤ 122)) = true := by decide +kernel
      exact of_decide_eq_true (List.all_eq_true.mp all c hc)
    · exact word_up h c hc
  | line d =>
    have h : isLineD d = true := h
    obtain ⟨ds, rfl, _, h1, _⟩ := line_reads h
    refine join_up (by decide +kernel) fun p hp => ?_
    obtain ⟨x, hx, rfl⟩ := List.mem_map.mp hp
    exact line_up h x hx
/-- the names and lines of a program that the law makes -/
structure WP (ys : List Str) (ls : Str → List PyData) : Prop where
  ne : ys ≠ []
  nd : ys.Nodup
  len : ys.length ≤ 6
  srt : sortedS ys = true
  word : ∀ n ∈ ys, isWordS n = true
  l40 : ∀ n ∈ ys, (ls n).length ≤ 40
  ok : ∀ n ∈ ys, ∀ d ∈ ls n, isLineD d = true
theorem WP.short {ys : List Str} {ls : Str → List PyData} (W : WP ys ls) : (progT ys ls).length ≤ 20000 := by
  unfold progT
  rw [join_len]
  have hb := sum_up (c := 2457) (xs := (ys.map fun n => funT n (ls n)).map (·.length)) fun m hm => by
    obtain ⟨s, hs', rfl⟩ := List.mem_map.mp hm
    obtain ⟨n, hn, rfl⟩ := List.mem_map.mp hs'
    have := fun_len (W.word n hn) (ds := ls n) (W.ok n hn)
    have := W.l40 n hn
    omega
  rw [List.length_map, List.length_map] at hb
  rw [List.length_map]
  have h1 : ("\n" : Str).length = 1 := rfl
  rw [h1]
  have := W.len
  omega
theorem WP.up {ys : List Str} {ls : Str → List PyData} (W : WP ys ls) : ∀ c ∈ TL.tl (progT ys ls), c ≤ 122 := by
  rw [rows_text W.ne]
  refine join_up (by decide +kernel) fun p hp => ?_
  obtain ⟨r, hr, rfl⟩ := List.mem_map.mp hp
  exact row_up (rows_ok W.word W.ok r hr)
theorem WP.repr {ys : List Str} {ls : Str → List PyData} (W : WP ys ls) : (reprText (progT ys ls)).length ≤ sizeLine := by
  have h1 := PySem.StrLaws.reprText_len (progT ys ls) fun c hc => Nat.lt_of_le_of_lt (W.up c hc) (by decide)
  have h2 := W.short
  rw [sizeLine_eq]
  omega
theorem WP.same {ys zs : List Str} {ls ms : Str → List PyData} (W : WP ys ls) (V : WP zs ms) : (ys.length == zs.length && ys.all (hitB zs ls ms)) = decide (progT ys ls = progT zs ms) :=
  eqn_text W.ne V.ne W.nd V.nd W.srt V.srt W.word W.ok V.word V.ok
/-! ### programs drawn, in whatever order -/
theorem sum_perm {xs ys : List Nat} (h : xs.Perm ys) : xs.sum = ys.sum := by
  induction h with
  | nil => rfl
  | cons x _ ih => rw [List.sum_cons, List.sum_cons, ih]
  | swap x y l => simp only [List.sum_cons]; omega
  | trans _ _ h1 h2 => exact h1.trans h2
theorem PlainD.perm {ps qs : PlP} (hp : PlainD ps) (pm : qs.Perm ps) : PlainD qs where
  word p h := hp.word p (pm.mem_iff.mp h)
  nodup := (pm.map _).nodup_iff.mpr hp.nodup
  main := (pm.map _).mem_iff.mpr hp.main
  len := by rw [pm.length_eq]; exact hp.len
  whole p h := by
    obtain ⟨q, W⟩ := hp.whole p (pm.mem_iff.mp h)
    exact ⟨q, W.mono fun s hs => (pm.map _).mem_iff.mpr hs⟩
  l40 p h := hp.l40 p (pm.mem_iff.mp h)
  all := by rw [sum_perm (pm.map _)]; exact hp.all
theorem WholeB.mono {q : Bool} {ns ns' : List Str} {ds : List PyData} (h : WholeB q ns ds) (hs : ∀ s ∈ ns, s ∈ ns') : WholeB q ns' ds :=
  ⟨h.ok, h.bare, fun d hd s e => hs s (h.named d hd s e), h.nodup, h.jumps, h.last, h.pos⟩
theorem PlainB.perm {ps qs : PlP} (hp : PlainB ps) (pm : qs.Perm ps) : PlainB qs where
  word p h := hp.word p (pm.mem_iff.mp h)
  nodup := (pm.map _).nodup_iff.mpr hp.nodup
  main := (pm.map _).mem_iff.mpr hp.main
  len := by rw [pm.length_eq]; exact hp.len
  whole p h := (hp.whole p (pm.mem_iff.mp h)).mono fun s hs => (pm.map _).mem_iff.mpr hs
  l40 p h := hp.l40 p (pm.mem_iff.mp h)
  all := by rw [sum_perm (pm.map _)]; exact hp.all
theorem ps_perm {ps : PlP} {ad : Str → Addr} {ys : List Str} {ls : Str → List PyData} (ft : FitsB (bkL ps ad) ys ls) : (psOf ys ls).Perm ps := by
  have h1 : ys.Perm (ps.map (·.1)) := by rw [← bkN_L ps ad]; exact ft.perm
  have h2 := h1.map fun n => (n, ls n)
  have e : (ps.map (·.1)).map (fun n => (n, ls n)) = ps := by
    rw [List.map_map]
    conv => rhs; rw [← List.map_id ps]
    refine List.map_congr_left fun p hp => ?_
    have := ft.ls (p.1, .ref (ad p.1), .list p.2) (bkL_mem hp)
    show (p.1, ls p.1) = p
    rw [this]; rfl
  rw [e] at h2
  exact h2
theorem wp_of {ps : PlP} {ad : Str → Addr} {ys : List Str} {ls : Str → List PyData} (ne : ps ≠ []) (hw : ∀ p ∈ ps, isWordS p.1 = true) (nd : (ps.map (·.1)).Nodup) (h6 : ps.length ≤ 6) (l40 : ∀ p ∈ ps, p.2.length ≤ 40) (ok : ∀ p ∈ ps, ∀ d ∈ p.2, isLineD d = true) (ft : FitsB (bkL ps ad) ys ls) : WP ys ls := by
  have h1 : ys.Perm (ps.map (·.1)) := by rw [← bkN_L ps ad]; exact ft.perm
  have at_ : ∀ n ∈ ys, ∃ p ∈ ps, p.1 = n ∧ ls n = p.2 := fun n hn => by
    obtain ⟨p, hp, rfl⟩ := List.mem_map.mp (h1.mem_iff.mp hn)
    exact ⟨p, hp, rfl, ft.ls (p.1, .ref (ad p.1), .list p.2) (bkL_mem hp)⟩
  refine ⟨fun z => ?_, h1.nodup_iff.mpr nd, by rw [h1.length_eq, List.length_map]; exact h6, ft.srt, fun n hn => ?_, fun n hn => ?_, fun n hn => ?_⟩
  · rw [z] at h1
    exact ne (List.map_eq_nil_iff.mp h1.symm.eq_nil)
  · obtain ⟨p, hp, rfl, _⟩ := at_ n hn
    exact hw p hp
  · obtain ⟨p, hp, rfl, e⟩ := at_ n hn
    rw [e]; exact l40 p hp
  · obtain ⟨p, hp, rfl, e⟩ := at_ n hn
    rw [e]; exact ok p hp
theorem PlainD.wp {ps : PlP} {ad : Str → Addr} {ys : List Str} {ls : Str → List PyData} (hp : PlainD ps) (ft : FitsB (bkL ps ad) ys ls) : WP ys ls :=
  wp_of (fun z => by have := hp.main; rw [z] at this; cases this) hp.word hp.nodup hp.len hp.l40 (fun p h => let ⟨_, W⟩ := hp.whole p h; W.ok) ft
theorem PlainB.wp {ps : PlP} {ad : Str → Addr} {ys : List Str} {ls : Str → List PyData} (hp : PlainB ps) (ft : FitsB (bkL ps ad) ys ls) : WP ys ls :=
  wp_of (fun z => by have := hp.main; rw [z] at this; cases this) hp.word hp.nodup hp.len hp.l40 (fun p h => (hp.whole p h).ok) ft
theorem plain_book {ps : PlP} (ad : Str → Addr) (hp : PlainD ps) : Book false (bkL ps ad) where
  word e he := by
    obtain ⟨p, hp', rfl⟩ := List.mem_map.mp he
    exact hp.word p hp'
  nodup := by rw [bkN_L]; exact hp.nodup
  main := by rw [bkN_L]; exact hp.main
  len := by
    show (ps.map _).length ≤ 24
    rw [List.length_map]; have := hp.len; omega
  any e he := by
    obtain ⟨p, hp', rfl⟩ := List.mem_map.mp he
    obtain ⟨q, W⟩ := hp.whole p hp'
    exact ⟨rfl, Nat.le_trans (hp.l40 p hp') (by decide), fun x hx => line_short (W.ok x hx)⟩
  all := by
    show ((ps.map fun p => ((p.1, V.ref (ad p.1), PyData.list p.2) : Fn3)).map fun e => dlen e.2.2).sum ≤ 240
    rw [List.map_map]
    exact hp.all
  wrong e he := by
    obtain ⟨p, hp', rfl⟩ := List.mem_map.mp he
    obtain ⟨q, W⟩ := hp.whole p hp'
    refine W.wrong (fun s hs => ?_) (fun z => absurd z Bool.false_ne_true)
    obtain ⟨p2, hp2, rfl⟩ := List.mem_map.mp hs
    rw [bkL_val hp.nodup hp2]; rfl
  good e he := by
    obtain ⟨p, hp', rfl⟩ := List.mem_map.mp he
    obtain ⟨q, W⟩ := hp.whole p hp'
    exact W.good rfl (Nat.le_trans (hp.l40 p hp') (by decide))
  tidy e he := by
    obtain ⟨p, hp', rfl⟩ := List.mem_map.mp he
    obtain ⟨q, W⟩ := hp.whole p hp'
    exact W.tidy false
/-- read from its own text, a program is the same -/
theorem fits_again {ys zs : List Str} {ls ms : Str → List PyData} {ad : Str → Addr} (W : WP ys ls) (ft : FitsB (bkL (psOf ys ls) ad) zs ms) : zs = ys ∧ ∀ n ∈ ys, ms n = ls n := by
  have h1 : zs.Perm ((psOf ys ls).map (·.1)) := by rw [← bkN_L _ ad]; exact ft.perm
  have e : (psOf ys ls).map (·.1) = ys := by
    rw [List.map_map]
    show ys.map id = ys
    rw [List.map_id]
  rw [e] at h1
  refine ⟨sorted_same ft.srt W.srt h1, fun n hn => ?_⟩
  have hm : (n, ls n) ∈ psOf ys ls := List.mem_map_of_mem (f := fun n => (n, ls n)) hn
  exact ft.ls (n, .ref (ad n), .list (ls n)) (bkL_mem (p := (n, ls n)) hm)
theorem progT_congr {ys : List Str} {ls ms : Str → List PyData} (h : ∀ n ∈ ys, ms n = ls n) : progT ys ms = progT ys ls := by
  unfold progT
  congr 1
  exact List.map_congr_left fun n hn => by rw [h n hn]
end Fl
end
section
set_option Elab.async false
set_option linter.all false
set_option maxRecDepth 100000
set_option maxHeartbeats 4000000
namespace Fx
open PySem PySem.Spec PyProof.Rows L2
open Evl (Ex fresh_back)
section
variable {X : Cx} {pins : List (Addr × Obj)} {σ : L2.St} {H : Hp} {s : Shared} {C Cb g : Addr} {CX : CXT} {k : Nat} {fd : FuncData} {ps : List Str} {sp : Sp} {E : XK}
/-- the class of the other side: the same one, or one that stands above it -/
def Beside (K : PySem.W.Frag) (C Cb : Addr) : Prop := Cb = C ∨ (Cb ≠ C ∧ PySem.W.subIn K (.ref Cb) (.ref C) = some false)
theorem oth_ins {b dxb : Addr} {fsb : List (Str × V)} (I : Inv X pins σ H s) (hb : H b = some (.ins Cb dxb fsb)) (hc : Beside X.K C Cb) : Oth X C (.ref b) s := by
  obtain ⟨mA, O, _⟩ := ins_get I.hok hb
  obtain ⟨odx, J, _⟩ := O.look
  refine ⟨.ref Cb, fun A Q E q => wpAny_typeOf_ref J.at_ (by rw [J.cls]; exact q), ?_⟩
  rcases hc with rfl | ⟨ne, sub⟩
  · exact .inl rfl
  · exact .inr ⟨by rw [bne_iff_ne]; exact fun z => ne (Value.ref.inj z).symm, fun A Q E q => PySem.W.looks_subIn I.kIn sub A _ _ s (fun _ _ e => e) q⟩
theorem op_eqB (hl : ps.length = 2) (hm : Meth X.K C "__eq__" g) (F : FnOk X.prog X.w X.K X.mg X.base CX k g fd ps sp) (hr : Room k X.A) (hb : Binds X.K fd ps []) (hx : Passes CX X E) :
    OpR X (compareOp .Eq) (fun x y H Q => ∃ (a dx b Cb dxb : Addr) (fs fsb : List (Str × V)), x = .ref a ∧ y = .ref b ∧ H a = some (.ins C dx fs) ∧ H b = some (.ins Cb dxb fsb) ∧ Beside X.K C Cb ∧ sp [.ref a, .ref b] H (fun v H' => ∃ b, v = .bl b ∧ Q (.bl b) H') E) := by
  intro pins s σ H x y v u Q I r1 r2 h
  obtain ⟨a, dx, b, Cb, dxb, fs, fsb, rfl, rfl, ha, hb', hc, h⟩ := h
  obtain rfl : v = Value.ref a := r1
  obtain rfl : u = Value.ref b := r2
  refine rich_from (op := .Eq) (.inl rfl) I ha (oth_ins I hb' hc) (by have := hr.un; omega) (try_own I ha hm ?_)
  refine wpAny_mono (own_call (vs := [V.ref a, V.ref b]) I F hr rfl hb hx (by rw [hl]; rfl) (.cons rfl (.cons rfl .nil)) h) (fun w s1 hq => ?_) (fun _ _ z => z)
  obtain ⟨z, H1, J, rv, b, rfl, q⟩ := hq
  obtain rfl : w = Value.bool b := rv
  exact ⟨b, rfl, _, rfl, .bl b, H1, J, rfl, q⟩
theorem op_neB (hl : ps.length = 2) (hm : Meth X.K C "__eq__" g) (hn : PySem.W.findIn X.K (.ref C) "__ne__" = some (some (.builtin "object.__ne__"))) (hob : PySem.W.subIn X.K (.ref C) (.type "object") = some true) (F : FnOk X.prog X.w X.K X.mg X.base CX k g fd ps sp) (hr : Room (k + 1) X.A) (hb : Binds X.K fd ps []) (hx : Passes CX X E) :
    OpR X (compareOp .NotEq) (fun x y H Q => ∃ (a dx b Cb dxb : Addr) (fs fsb : List (Str × V)), x = .ref a ∧ y = .ref b ∧ H a = some (.ins C dx fs) ∧ H b = some (.ins Cb dxb fsb) ∧ Beside X.K C Cb ∧ sp [.ref a, .ref b] H (fun v H' => ∃ b, v = .bl b ∧ Q (.bl (!b)) H') E) := by
  intro pins s σ H x y v u Q I r1 r2 h
  obtain ⟨a, dx, b, Cb, dxb, fs, fsb, rfl, rfl, ha, hb', hc, h⟩ := h
  obtain rfl : v = Value.ref a := r1
  obtain rfl : u = Value.ref b := r2
  refine rich_from (op := .NotEq) (.inr rfl) I ha (oth_ins I hb' hc) (by have := hr.un; omega) (try_ne I ha hm hn hob (by have := hr.un; omega) ?_)
  refine wpAny_mono (own_call (vs := [V.ref a, V.ref b]) I F hr.in1 rfl hb hx (by rw [hl]; rfl) (.cons rfl (.cons rfl .nil)) h) (fun w s1 hq => ?_) (fun _ _ z => z)
  obtain ⟨z, H1, J, rv, b, rfl, q⟩ := hq
  obtain rfl : w = Value.bool b := rv
  exact ⟨b, rfl, _, rfl, .bl (!b), H1, J, rfl, q⟩
theorem call_reprS : CallR X (.builtin "repr") (fun xs H Q => ∃ x : Str, xs = [.str x] ∧ (reprText x).length ≤ sizeLine ∧ Q (.str (reprText x)) H) := by
  intro pins s σ H xs us Q I rx h
  obtain ⟨x, rfl, h2, q⟩ := h
  obtain ⟨u, rfl, ru⟩ := rx.one
  obtain ⟨t, rfl⟩ := ru
  exact PySem.P.repr_of_str ⟨.str _, H, I.tok _, ⟨_, rfl⟩, q⟩ h2
end
end Fx
namespace Fl
open PySem PySem.Spec PyProof.Rows L2 Fx
open Evl (Ex fresh_back)
/-! ### programs as they lie in a heap, and their == -/
structure PrgH (K : PySem.W.Frag) (CP C : Addr) (n : Str) (H : Hp) (a : Addr) (ys : List Str) (ls : Str → List PyData) : Prop where
  ex : ∃ dx g t xs, ProgN K C H a dx g ys t xs ls
  nm : PN K CP C n
  wp : WP ys ls
theorem ProgN.monoE {K : PySem.W.Frag} {C : Addr} {H H' : Hp} {a dx g : Addr} {ys : List Str} {t : Str → Addr} {xs : Str → List V} {ls : Str → List PyData} (p : ProgN K C H a dx g ys t xs ls) (e : Ex H H') : ProgN K C H' a dx g ys t xs ls :=
  ⟨e _ _ p.ins, e _ _ p.dict, fun n hn => Evl.ex_t e (p.seq n hn), fun n hn => (p.dat n hn).mono e⟩
section
variable {K : PySem.W.Frag} {CP C C1 C2 : Addr} {n n1 n2 : Str} {H H' : Hp} {a b : Addr} {ys zs : List Str} {ls ms : Str → List PyData} {Q : VK} {E : XK}
theorem PrgH.mono (p : PrgH K CP C n H a ys ls) (e : Ex H H') : PrgH K CP C n H' a ys ls := by
  obtain ⟨dx, g, t, xs, h⟩ := p.ex
  exact ⟨⟨dx, g, t, xs, h.monoE e⟩, p.nm, p.wp⟩
theorem PrgH.ins (p : PrgH K CP C n H a ys ls) : ∃ dx fs, H a = some (.ins C dx fs) := by
  obtain ⟨dx, g, t, xs, h⟩ := p.ex
  exact ⟨_, _, h.ins⟩
theorem eq_sp (p : PrgH K CP C1 n1 H a ys ls) (r : PrgH K CP C2 n2 H b zs ms) (q : Q (.bl (decide (n1 = n2) && decide (progT ys ls = progT zs ms))) H) : sp_eq K CP [.ref a, .ref b] H Q E := by
  obtain ⟨dx1, g1, t, xs1, h1⟩ := p.ex
  obtain ⟨dx2, g2, u, xs2, h2⟩ := r.ex
  exact ⟨a, b, C1, C2, dx1, dx2, g1, g2, n1, n2, ys, zs, t, u, xs1, xs2, ls, ms, rfl, h1, h2, p.nm, r.nm, p.wp.ok, r.wp.ok, by rw [p.wp.same r.wp]; exact q⟩
end
/-- == and != of programs -/
structure EqC (P : Program) (w : World) (K : PySem.W.Frag) (mg : Str → Option Value) (base : Heap) (CP C : Addr) : Prop where
  ex : ∃ g gd, Meth K C "__eq__" g ∧ L2.Binds K gd nm_eq [] ∧ FnOk P w K mg base CX0 1 g gd nm_eq (sp_eq K CP)
  ne : PySem.W.findIn K (.ref C) "__ne__" = some (some (.builtin "object.__ne__"))
  ob : PySem.W.subIn K (.ref C) (.type "object") = some true
section
variable {X : Cx} {x y : Expr} {σ : L2.St} {H : Hp} {Q : VK} {QB : Bool → Hp → Prop} {CP C : Addr} {pos : Pos} {j : Nat}
theorem re_eqP (T : EqC X.prog X.w X.K X.mg X.base CP C) (hr : Room j X.A) (hj : 2 ≤ j) (h : RE X x σ H fun v H1 => RE X y σ H1 fun u H2 => ∃ (a b Cb : Addr) (n1 n2 : Str) (ys zs : List Str) (ls ms : Str → List PyData), v = .ref a ∧ u = .ref b ∧ PrgH X.K CP C n1 H2 a ys ls ∧ PrgH X.K CP Cb n2 H2 b zs ms ∧ Beside X.K C Cb ∧ Q (.bl (decide (n1 = n2) && decide (progT ys ls = progT zs ms))) H2)
    (hm : behindInMarks .Eq y = false := by first | exact nobehind _ (by decide) (by decide) | rfl) : RE X (.Compare x [.Eq] [y] pos) σ H Q := by
  obtain ⟨g, gd, hM, hB, F⟩ := T.ex
  refine re_cmp (op_eqB (E := E0) rfl hM F (hr.mono (by omega)) hB pass0) (h.mono fun v H1 q => q.mono fun u H2 ⟨a, b, Cb, n1, n2, ys, zs, ls, ms, ev, eu, p, r, hc, q⟩ => ?_) hm
  obtain ⟨dx, fs, ha⟩ := p.ins
  obtain ⟨dxb, fsb, hb⟩ := r.ins
  exact ⟨a, dx, b, Cb, dxb, fs, fsb, ev, eu, ha, hb, hc, eq_sp p r ⟨_, rfl, q⟩⟩
theorem rt_neP (T : EqC X.prog X.w X.K X.mg X.base CP C) (hr : Room j X.A) (hj : 2 ≤ j) (h : RE X x σ H fun v H1 => RE X y σ H1 fun u H2 => ∃ (a b Cb : Addr) (n1 n2 : Str) (ys zs : List Str) (ls ms : Str → List PyData), v = .ref a ∧ u = .ref b ∧ PrgH X.K CP C n1 H2 a ys ls ∧ PrgH X.K CP Cb n2 H2 b zs ms ∧ Beside X.K C Cb ∧ QB (!(decide (n1 = n2) && decide (progT ys ls = progT zs ms))) H2)
    (hm : behindInMarks .NotEq y = false := by first | exact nobehind _ (by decide) (by decide) | rfl) : RT X (.Compare x [.NotEq] [y] pos) σ H QB := by
  obtain ⟨g, gd, hM, hB, F⟩ := T.ex
  refine rt_cmp (op_neB (E := E0) rfl hM T.ne T.ob F (hr.mono (by omega)) hB pass0) (h.mono fun v H1 q => q.mono fun u H2 ⟨a, b, Cb, n1, n2, ys, zs, ls, ms, ev, eu, p, r, hc, q⟩ => ?_) hm
  obtain ⟨dx, fs, ha⟩ := p.ins
  obtain ⟨dxb, fsb, hb⟩ := r.ins
  exact ⟨a, dx, b, Cb, dxb, fs, fsb, ev, eu, ha, hb, hc, eq_sp p r ⟨_, rfl, _, rfl, q⟩⟩
end
end Fl
end
section
set_option Elab.async false
set_option linter.all false
set_option maxRecDepth 100000
set_option maxHeartbeats 4000000
namespace Fl
open PySem PySem.Spec PyProof.Rows L2 Fx
open Evl (Ex fresh_back)
/-! ### the lines without those for the stack -/
theorem bareL_take {ds : List PyData} {i : Nat} {d : PyData} (h : ds[i]? = some d) : bareL (ds.take (i + 1)) = bareL (ds.take i) ++ (if decide (wordD d ∈ stackL) = true then [] else [d]) := by
  unfold bareL
  rw [filter_take _ h]
  congr 1
  cases decide (wordD d ∈ stackL) <;> rfl
theorem bk_item {ps : PlP} {ad : Str → Addr} {i : Nat} {k : Key} {v : V} (h : (bkV (bkL ps ad))[i]? = some (k, v)) : ∃ p, ps[i]? = some p ∧ k = .inr p.1 ∧ v = .ref (ad p.1) := by
  unfold bkV bkL at h
  rw [List.getElem?_map, List.getElem?_map] at h
  cases hp : ps[i]? with
  | none => rw [hp] at h; cases h
  | some p =>
    rw [hp] at h
    obtain ⟨rfl, rfl⟩ := Prod.mk.inj (Option.some.inj h)
    exact ⟨p, rfl, rfl, rfl⟩
theorem bk_len {ps : PlP} {ad : Str → Addr} : (bkV (bkL ps ad)).length = ps.length := by
  unfold bkV bkL
  rw [List.length_map, List.length_map]
theorem merge_fresh : ∀ {es : List (Key × V)} {acc : List (Key × V)}, ((acc ++ es).map (·.1)).Nodup → mergeK acc es = acc ++ es
  | [], acc, _ => (List.append_nil acc).symm
  | e :: es, acc, h => by
    show mergeK (putK acc e.1 e.2) es = _
    have hf : valV acc e.1 = none := by
      cases z : valV acc e.1 with
      | none => rfl
      | some u =>
        have := valV_in z
        rw [List.map_append] at h
        exact absurd rfl ((List.nodup_append.mp h).2.2 _ this _ (List.mem_cons_self))
    rw [putK_new _ hf, merge_fresh (es := es) (acc := acc ++ [(e.1, e.2)]) (by rw [List.append_assoc]; exact h), List.append_assoc]
    rfl
theorem pair_mem {α β : Type} {F G : α → β → Prop} : ∀ {l₁ : List α} {l₂ : List β}, Paired F l₁ l₂ → (∀ a b, b ∈ l₂ → F a b → G a b) → Paired G l₁ l₂
  | _, _, .nil, _ => .nil
  | _, _, .cons a t, h => .cons (h _ _ List.mem_cons_self a) (pair_mem t fun x y hy => h x y (List.mem_cons_of_mem _ hy))
theorem pair_map {α β γ : Type} {F : α → β → Prop} {G : α → γ → Prop} {g : β → γ} : ∀ {l₁ : List α} {l₂ : List β}, Paired F l₁ l₂ → (∀ a b, b ∈ l₂ → F a b → G a (g b)) → Paired G l₁ (l₂.map g)
  | _, _, .nil, _ => .nil
  | _, _, .cons a t, h => .cons (h _ _ List.mem_cons_self a) (pair_map t fun x y hy => h x y (List.mem_cons_of_mem _ hy))
/-- the functions behind the first k of them -/
structure BareOf (K : PySem.W.Frag) (Hd H H' : Hp) (ad : Str → Addr) (xs : Str → List V) (ps : PlP) : Prop where
  at_ : ∀ p ∈ ps, H (ad p.1) = none ∧ H' (ad p.1) = some (.lst (xs p.1)) ∧ DA K Hd (xs p.1) (bareL p.2)
structure Prp (P : Program) (w : World) (K : PySem.W.Frag) (mg : Str → Option Value) (base : Heap) (k : Nat) (C : Addr) (m : Str) (sp : Sp) : Prop where
  ex : ∃ pr g fd, PropOf K C m pr g ∧ L2.Binds K fd ["self"] [] ∧ FnOk P w K mg base CX0 k g fd ["self"] sp
section
variable {P : Program} {w : World} {K : PySem.W.Frag} {mg : Str → Option Value} {base : Heap} {f : Addr} {fd : FuncData}
abbrev nm_bl : List Str := ["_law_lines_here", "_law_line"]
theorem sc_bl : FnScope nm_bl ["_law_lines_here"] (defScope s_l_bare_lines) := ⟨rfl, rfl, rfl, by decide +kernel, rfl, by decide +kernel, by decide +kernel⟩
def sp_blines (K : PySem.W.Frag) : Sp := fun vs H Q _ => ∃ (l : Addr) (us : List V) (ds : List PyData) (Hd : Hp), vs = [.ref l] ∧ SqL K H l us ∧ DA K Hd us ds ∧ Ex Hd H ∧ (∀ d ∈ ds, isLineD d = true) ∧ ds.length ≤ 1000 ∧ ∀ H' l' ys, H l' = none → Ex H H' → H' l' = some (.lst ys) → DA K Hd ys (bareL ds) → Q (.ref l') H'
theorem ok_blines (F : Fun K "_law_bare_lines" "_law_bare_lines" s_l_bare_lines f fd) : FnOk P w K mg base CX0 1 f fd ["_law_lines_here"] (sp_blines K) := by
  refine F.ok sc_bl (fun vs H Q E h => ?_) (fun cdv Ar outer sh H vs Q E hr h => ⟨RB _ _, pss_RB, ?_⟩)
  · obtain ⟨_, _, _, _, rfl, _⟩ := h; rfl
  obtain ⟨l, us, ds, Hd, rfl, sq, da, exd, hok, h1000, q⟩ := h
  refine rb_one <| rs_ret <| re_lcIf (own := [("_law_line", 1)]) (g := gName 1) rfl (by exact sc_bl.nd) (blkOk_by (N := nm_bl) (sc := defScope s_l_bare_lines) (by decide +kernel)) (fun _ _ _ _ _ => pg_name (i := 1) (by exact sc_bl.nd) rfl (Or.inl rfl)) good_name ?_
  refine ri_list <| re_var 0 rfl ⟨l, us, rfl, sq, us.length, _, _, fun j ys => DA K Hd ys (bareL (ds.take j)), walk_list, by rw [da.length]; omega, fun H' e' => Evl.ex_l e' sq, .nil, ?_, ?_⟩
  · rintro j y H5 H6 hj e5 ⟨rfl, hy⟩
    obtain ⟨d, hdj, hyd⟩ := da.getV hy
    have okd := hok d (List.mem_of_getElem? hdj)
    have hy6 := hyd.mono (exd.trans e5)
    refine ⟨Ex.refl _, rfl, Ex.refl _, fun s0 H0 C' cl fp => ?_⟩
    refine rt_nin (ws := stackL) <| re_word <| re_var 1 rfl ⟨d, hy6, okd, _, rfl, re_tup <| ra_cons <| re_str <| ra_cons <| re_str <| ra_cons <| re_str <| ra_cons <| re_str <| ra_nil ⟨Nat.le_of_ble_eq_true rfl, fun tb H7 htb e7 h7 => ⟨tb, rfl, .inl (.inl h7), e7, fun hb s0 H0 C' cl fp => re_var 1 rfl ⟨Ex.refl _, fun acc hacc => ?_⟩, fun hb acc hacc => ?_⟩⟩⟩
    · show DA K Hd _ (bareL (ds.take (j + 1)))
      rw [bareL_take hdj, if_neg (fun z => by rw [z] at hb; cases hb)]
      exact hacc.app (.cons hyd .nil)
    · show DA K Hd _ (bareL (ds.take (j + 1)))
      rw [bareL_take hdj, if_pos (by cases z : decide (wordD d ∈ stackL) with | true => rfl | false => rw [z] at hb; cases hb), List.append_nil]
      exact hacc
  · intro l' ys H5 hl5 e5 h5 hlen5 hys
    rw [da.length, List.take_length] at hys
    exact q H5 l' ys hl5 e5 h5 hys
end
/-! ### the law: what stands while it goes -/
abbrev nm_l5 : List Str := ["_law_script", "_law_pen_here", "_law_seen", "_law_turn", "_law_plain_here", "_law_made", "_law_due", "_law_told", "_law_lists", "_law_bare", "_law_again", "_law_other", "_law_written", "_law_name"]
theorem sc_l5 : FnScope nm_l5 ["_law_script"] (defScope s_law) := ⟨rfl, rfl, rfl, by decide +kernel, rfl, by decide +kernel, by decide +kernel⟩
def forBody : Stmt → List Stmt
  | .For _ _ b _ _ => b
  | _ => []
abbrev turn5 : List Stmt := forBody ((defBody s_law).getD 2 (.Pass ⟨0, 0, 0, 0⟩))
abbrev t5 (i : Nat) : Stmt := turn5.getD i (.Pass ⟨0, 0, 0, 0⟩)
abbrev l5X (P : Program) (w : World) (K : PySem.W.Frag) (mg : Str → Option Value) (base : Heap) (f : Addr) (cdv : Value) (A : Around) (outer : List Env) (s : Shared) (H : Hp) (E : XK) : Cx := (cxOf CX0 P w K mg base nm_l5 "law" (defScope s_law) f cdv A outer s H E).nox
structure LT5 (P : Program) (w : World) (K : PySem.W.Frag) (mg : Str → Option Value) (base : Heap) (CP CB : Addr) (jp : Nat) : Prop where
  G : Gb mg
  G2 : Gb2 mg
  hjp : jp ≤ 18
  pen : Cl P w K mg base CX0 1 "_law_pen" (sp_pen K)
  plain : Cl P w K mg base CX0 jp "_law_plain" (sp_plain K)
  ltx : Cl P w K mg base CX0 1 "_law_text" (sp_ltext K)
  bl : Cl P w K mg base CX0 1 "_law_bare_lines" (sp_blines K)
  MP : MkO P w K mg base 7 "Program" CP ["self", "functions"] (sp_initB K CP false)
  MB : MkX P w K mg base CX0 8 "BareProgram" CB (sp_sup CB (sp_initB K CB true))
  txP : Prp P w K mg base 4 CP "text" (sp_ptext K CP)
  txB : Prp P w K mg base 4 CB "text" (sp_ptext K CB)
  nP : PN K CP CP "Program"
  nB : PN K CP CB "BareProgram"
  iPB : PySem.W.kitOne K (.ref CP) (.ref CB) = some false
  iBB : PySem.W.kitOne K (.ref CB) (.ref CB) = some true
  sPB : PySem.W.subIn K (.ref CP) (.ref CB) = some false
  qP : EqC P w K mg base CP CP
  qB : EqC P w K mg base CP CB
  rdP : ∃ mc p g fd, ClX.CRead K CP mc ∧ ClX.CMet K CP mc "read" p g ∧ L2.Binds K fd nm_rd [] ∧ KBn K fd nm_rd 1 ["text"] (fun us ws => us ++ ws) (fun vs zs => vs ++ zs) ∧ FnOk P w K mg base CX0 10 g fd nm_rd (sp_read K CP false)
  rdB : ∃ mc p g fd, ClX.CRead K CB mc ∧ ClX.CMet K CB mc "read" p g ∧ L2.Binds K fd nm_rd [] ∧ FnOk P w K mg base CX0 10 g fd nm_rd (sp_read K CB true)
/-- the slots -/
abbrev s5 (sa pa se : Addr) (t : Int) (fo : Addr) (x5 x6 x7 x8 x9 x10 x11 x12 : Option V) : L2.St := [some (.ref sa), some (.ref pa), some (.ref se), some (.int t), some (.ref fo), x5, x6, x7, x8, x9, x10, x11, x12, none]
section
variable {P : Program} {w : World} {K : PySem.W.Frag} {mg : Str → Option Value} {base : Heap} {f CP CB : Addr} {jp : Nat} {cdv : Value} {Ar : Around} {outer : List Env} {sh : Shared} {H0 : Hp} {E : XK}
variable {De : Ends} {H Hd : Hp} {sa pa se fo : Addr} {t : Int} {x5 x6 x7 x8 x9 x10 x11 x12 : Option V} {ps : PlP} {ad : Str → Addr} {rest : List Stmt}
/-- lists = dict([(name, bare_lines(plain[name])) for name in plain]) -/
theorem t5_5 (T : LT5 P w K mg base CP CB jp) (hr : Room 18 (l5X P w K mg base f cdv Ar outer sh H0 E).A) (hfo : H fo = some (.dK (bkV (bkL ps ad)))) (hnd : (ps.map (·.1)).Nodup) (hlen : ps.length ≤ 1000) (exd : Ex Hd H) (hfd : Hd fo = none) (hd : ∀ p ∈ ps, D K Hd (.ref (ad p.1)) (.list p.2) ∧ (∀ d ∈ p.2, isLineD d = true) ∧ p.2.length ≤ 1000)
    (q : ∀ H' fo' ad' xs, H fo' = none → Ex H H' → H' fo' = some (.dK (bkV (bkL (bareP ps) ad'))) → BareOf K Hd H H' ad' xs ps → RB (l5X P w K mg base f cdv Ar outer sh H0 E) rest De (s5 sa pa se t fo x5 x6 x7 (some (.ref fo')) x9 x10 x11 x12) H') :
    RB (l5X P w K mg base f cdv Ar outer sh H0 E) (t5 5 :: rest) De (s5 sa pa se t fo x5 x6 x7 x8 x9 x10 x11 x12) H := by
  refine rb_cons <| rs_set 8 (by exact sc_l5.nd) ?_
  refine re_ct (call_dictP rfl) T.G.dict <| ra_cons <| re_lock hfo trivial fun od => ?_
  have e02 : Ex Hd (upd H fo (.frz od (.dK (bkV (bkL ps ad))))) := fun b o hb => by
    rw [upd_ne (ne_of_none hb hfd)]
    exact exd _ _ hb
  have hfz : upd H fo (.frz od (.dK (bkV (bkL ps ad)))) fo = some (.frz od (.dK (bkV (bkL ps ad)))) := upd_same
  have un : ∀ {H3 : Hp}, Ex (upd H fo (.frz od (.dK (bkV (bkL ps ad))))) H3 → Ex H (upd H3 fo (.dK (bkV (bkL ps ad)))) := fun e3 => ex_unlock hfo e3
  have fr : ∀ {H3 : Hp} {b : Addr}, Ex (upd H fo (.frz od (.dK (bkV (bkL ps ad))))) H3 → H3 b = none → H b = none ∧ b ≠ fo := fun {H3 b} e3 hb => by
    have hbf : b ≠ fo := fun z => by rw [z, e3 _ _ hfz] at hb; cases hb
    refine ⟨?_, hbf⟩
    cases z : H b with
    | none => rfl
    | some o =>
      have := e3 b o (by rw [upd_ne hbf]; exact z)
      rw [this] at hb; cases hb
  generalize upd H fo (.frz od (.dK (bkV (bkL ps ad)))) = H2 at *
  refine re_lcS (own := [("_law_name", 13)]) (g := gName 13) rfl (by exact sc_l5.nd) (blkOk_by (N := nm_l5) (sc := defScope s_law) (by decide +kernel)) (fun _ _ _ _ _ => pg_name (i := 13) (by exact sc_l5.nd) rfl (Or.inl rfl)) good_name ?_
  refine ri_keys <| re_var 4 rfl ⟨fo, od, _, rfl, hfz, (bkV (bkL ps ad)).length, _, _, fun Dl i H' acc => Ex H2 H' ∧ ∃ (ad' : Str → Addr) (xs : Str → List V) (ts : List Addr), acc = ts.map V.ref ∧ Paired (fun t p => H' t = some (.tup [.str p.1, .ref (ad' p.1)])) ts (ps.take i) ∧ ∀ p ∈ ps.take i, H (ad' p.1) = none ∧ ad' p.1 ≠ fo ∧ ad' p.1 ≠ Dl ∧ H' (ad' p.1) = some (.lst (xs p.1)) ∧ DA K Hd (xs p.1) (bareL p.2), walk_keys, by rw [bk_len]; omega, fun Dl i H' acc h => h.1 _ _ hfz, fun Dl hD => ⟨Ex.new hD, fun _ => 0, fun _ => [], [], rfl, .nil, fun p h => nomatch h⟩, ?_, ?_⟩
  · rintro Dl i x H3 H4 acc hD hi hacc hlen' ⟨e3, ad', xs, ts, rfl, hts, hps⟩ ⟨rfl, k, v, hk, rfl⟩
    obtain ⟨p, hp, rfl, rfl⟩ := bk_item hk
    have hpm := List.mem_of_getElem? hp
    obtain ⟨hdp, hok, hl⟩ := hd p hpm
    obtain ⟨us, sq, da⟩ : ∃ us, SqL K Hd (ad p.1) us ∧ DA K Hd us p.2 := by
      cases hdp with
      | lst sq da => exact ⟨_, sq, da⟩
    have e03 := e02.trans e3
    have sq3 := Evl.ex_l e03 sq
    refine ⟨rfl, fun s0 H0 C' cl fp => re_tup <| ra_cons <| re_var 13 rfl <| ra_cons <| re_call T.bl hr <| ra_cons <| re_dgetR (hu_of hr) <| re_var 4 rfl <| re_var 13 rfl ⟨fo, _, .inr p.1, .ref (ad p.1), rfl, .inr ⟨od, e3 _ _ hfz⟩, rfl, bkL_val hnd hpm, ra_nil ⟨ad p.1, us, p.2, Hd, rfl, sq3, da, e03, hok, hl, fun H5 l ys hl5 e5 h5 hys => ?_⟩⟩⟩
    refine ra_nil ⟨Nat.le_of_ble_eq_true rfl, fun t H6 ht e6 h6 => ?_⟩
    have hacc6 : H6 Dl = some (.lst (ts.map V.ref)) := e6 _ _ (e5 _ _ hacc)
    obtain ⟨hl0, hlf⟩ := fr e3 hl5
    have hlD : l ≠ Dl := fun z => by rw [z, hacc] at hl5; cases hl5
    have tk : ps.take (i + 1) = ps.take i ++ [p] := take_snoc hp
    have fresh : ∀ q ∈ ps.take i, q.1 ≠ p.1 := fun q hq z => by
      have hn := hnd
      rw [← List.take_append_drop i ps, drop_at hp, List.map_append] at hn
      exact (List.nodup_append.mp hn).2.2 _ (List.mem_map_of_mem hq) _ (List.mem_cons_self) z
    have tD : t ≠ Dl := fun z => by rw [z, e5 _ _ hacc] at ht; cases ht
    have mt : ∀ {b : Addr} {o : HO}, H4 b = some o → b ≠ Dl → upd H6 Dl (.lst (ts.map V.ref ++ [.ref t])) b = some o := fun hb hn => by
      rw [upd_ne hn]; exact e6 _ _ (e5 _ _ hb)
    refine ⟨hacc6, fun b o hb => ?_, fun n => if n = p.1 then l else ad' n, fun n => if n = p.1 then ys else xs n, ts ++ [t], by rw [List.map_append]; rfl, ?_, fun q hq => ?_⟩
    · refine mt (e3 _ _ hb) fun z => ?_
      rw [z, hD] at hb; cases hb
    · rw [tk]
      refine Paired.snoc ?_ ?_
      · refine pair_mem hts fun t' q hq h => ?_
        show _ = some (HO.tup [V.str q.1, V.ref (if q.1 = p.1 then l else ad' q.1)])
        rw [if_neg (fresh q hq)]
        refine mt h fun z => ?_
        rw [z, hacc] at h; cases h
      · show _ = some (HO.tup [V.str p.1, V.ref (if p.1 = p.1 then l else ad' p.1)])
        rw [if_pos rfl, upd_ne tD]; exact h6
    · rw [tk] at hq
      rcases List.mem_append.mp hq with hq | hq
      · obtain ⟨g1, g2, g3, g4, g5⟩ := hps q hq
        dsimp only
        simp only [if_neg (fresh q hq)]
        exact ⟨g1, g2, g3, mt g4 g3, g5⟩
      · rw [List.mem_singleton.mp hq]
        dsimp only
        simp only [if_true]
        exact ⟨hl0, hlf, hlD, by rw [upd_ne hlD]; exact e6 _ _ h5, hys⟩
  · rintro Dl acc H3 hD hacc hlen' ⟨e3, ad', xs, ts, rfl, hts, hps⟩
    rw [bk_len, List.take_length] at hts hps
    have hDf : Dl ≠ fo := (fr (Ex.refl _) hD).2
    refine ⟨e3 _ _ hfz, ra_nil ⟨Dl, ts, (bareP ps).map fun p => ((Sum.inr p.1 : Key), V.ref (ad' p.1)), rfl, .inl (.inl (by rw [upd_ne hDf]; exact hacc)), ?_, fun fo' hfo' => ?_⟩⟩
    · show Paired _ ts ((ps.map fun p => (p.1, bareL p.2)).map _)
      rw [List.map_map]
      refine pair_map hts fun t q hq h => ?_
      refine .inl (.inl ?_)
      show upd H3 fo _ t = _
      rw [upd_ne (fun z => by rw [z, e3 _ _ hfz] at h; cases h)]
      exact h
    · have hm : mergeK [] ((bareP ps).map fun p => ((Sum.inr p.1 : Key), V.ref (ad' p.1))) = bkV (bkL (bareP ps) ad') := by
        rw [merge_fresh, bk_eq]
        · rfl
        · rw [List.nil_append, List.map_map]
          have : (bareP ps).map ((fun x : Key × V => x.1) ∘ fun p => ((Sum.inr p.1 : Key), V.ref (ad' p.1))) = (ps.map (·.1)).map Sum.inr := by
            rw [← bareP_names, List.map_map]; rfl
          rw [this]
          exact List.Pairwise.map Sum.inr (fun a b h z => h (Sum.inr.inj z)) hnd
      rw [hm]
      have hu := un e3
      refine q _ fo' ad' xs ?_ (hu.trans (Ex.new hfo')) upd_same ⟨fun p hp => ?_⟩
      · cases z : H fo' with
        | none => rfl
        | some o =>
          have := hu _ _ z
          rw [hfo'] at this; cases this
      · obtain ⟨g1, g2, g3, g4, g5⟩ := hps p hp
        have h6 : upd H3 fo (.dK (bkV (bkL ps ad))) (ad' p.1) = some (.lst (xs p.1)) := by rw [upd_ne g2]; exact g4
        refine ⟨g1, ?_, g5⟩
        rw [upd_ne (fun z => by rw [z, hfo'] at h6; cases h6)]
        exact h6
end
end Fl
end
section
set_option Elab.async false
set_option linter.all false
set_option maxRecDepth 100000
set_option maxHeartbeats 4000000
namespace Fl
open PySem PySem.Spec PyProof.Rows L2 Fx
open Evl (Ex fresh_back)
/-! ### the pen, and what stays beside it -/
/-- the pen's dict, its cells at c -/
def Pn (H : Hp) (pa c : Addr) (n : Nat) : Prop := ∃ t l : Int, H pa = some (.dK (penV c t l)) ∧ 0 ≤ t ∧ t ≤ n ∧ 0 ≤ l
def Cells (H : Hp) (c : Addr) : Prop := ∃ ns : List Int, Rd H c (.lst (ns.map V.int)) ∧ ns.length ≤ 63
section
variable {K : PySem.W.Frag} {H H' Hg : Hp} {pa c b se : Addr} {n m : Nat} {v : V} {d : PyData} {o : HO}
theorem Pn.pen (h : Pn H pa c n) (hc : Cells Hg c) (e : Ex Hg H) : Pen K H pa n := by
  obtain ⟨t, l, h1, h2, h3, h4⟩ := h
  obtain ⟨zs, h5, h6⟩ := hc
  exact ⟨c, zs, t, l, h1, Evl.ex_rd e h5, h6, h2, h3, h4⟩
theorem Pn.of (p : Pen K H' pa m) (h : Pn H pa c n) (e : exP pa H H') : Pn H' pa c m := by
  obtain ⟨t, l, h1, _⟩ := h
  obtain ⟨t', l', h2⟩ := e.cells c t l h1
  obtain ⟨c2, zs, t2, l2, g1, _, _, g4, g5, g6⟩ := p.ex
  rw [h2] at g1
  have e3 : penV c t' l' = penV c2 t2 l2 := HO.dK.inj (Option.some.inj g1)
  unfold penV at e3
  simp only [List.cons.injEq, Prod.mk.injEq, V.int.injEq] at e3
  obtain ⟨_, ⟨_, rfl⟩, ⟨_, rfl⟩, _⟩ := e3
  exact ⟨t', l', h2, g4, g5, g6⟩
theorem Pn.mono (h : Pn H pa c n) (e : Ex H H') : Pn H' pa c n := by
  obtain ⟨t, l, h1, h2⟩ := h
  exact ⟨t, l, e _ _ h1, h2⟩
theorem Pn.put (h : Pn H pa c n) (ne : b ≠ pa) : Pn (upd H b o) pa c n := by
  obtain ⟨t, l, h1, h2⟩ := h
  exact ⟨t, l, by rw [upd_ne (Ne.symm ne)]; exact h1, h2⟩
theorem ex_but (ex : Ex Hg H) (npa : Hg pa = none) (e : exBut pa H H') : Ex Hg H' := fun b o hb => e b o (ex b o hb) (ne_of_none hb npa)
/-- two addresses hidden -/
theorem hide2 {b : Addr} {o : HO} (h : H b = some o) (h1 : b ≠ pa) (h2 : b ≠ se) : hideL [pa, se] H b = some o := by
  unfold hideL
  rw [if_neg (fun z => by
    rcases List.mem_cons.mp z with z | z
    · exact h1 z
    · exact h2 (List.mem_singleton.mp z))]
  exact h
theorem ex_hide2 (ex : Ex Hg H) (h1 : Hg pa = none) (h2 : Hg se = none) : Ex Hg (hideL [pa, se] H) := fun b o hb => hide2 (ex _ _ hb) (ne_of_none hb h1) (ne_of_none hb h2)
theorem hide2_ex : Ex (hideL [pa, se] H) H := fun b o hb => (hideL_of hb).2
theorem hide2_pa : hideL [pa, se] H pa = none := by
  unfold hideL
  rw [if_pos List.mem_cons_self]
theorem hide2_se : hideL [pa, se] H se = none := by
  unfold hideL
  rw [if_pos (List.mem_cons_of_mem _ List.mem_cons_self)]
theorem PrgH.hide {CP C : Addr} {nm : Str} {a : Addr} {ys : List Str} {ls : Str → List PyData} {zs : List V} (p : PrgH K CP C nm H a ys ls) (pn : Pn H pa c n) (hs : H se = some (.lst zs)) : PrgH K CP C nm (hideL [pa, se] H) a ys ls := by
  obtain ⟨dx, g, t, xs, h⟩ := p.ex
  obtain ⟨t1, l1, hpa, _⟩ := pn
  have sq : ∀ a zs, SqT K H a zs → SqT K (hideL [pa, se] H) a zs := fun a zs h => sqt_ex (fun b o ho ts ht => hide2 ho (fun z => by
    rw [z, hpa] at ho
    rcases ht with rfl | ⟨ob, rfl⟩ <;> cases ho) fun z => by
    rw [z, hs] at ho
    rcases ht with rfl | ⟨ob, rfl⟩ <;> cases ho) h
  refine ⟨⟨dx, g, t, xs, hide2 h.ins (fun z => ?_) (fun z => ?_), hide2 h.dict (fun z => ?_) (fun z => ?_), fun n hn => sq _ _ (h.seq n hn), fun n hn => DA.lines (p.wp.ok n hn) (h.dat n hn) sq⟩, p.nm, p.wp⟩
  · have := h.ins
    rw [z, hpa] at this; cases this
  · have := h.ins
    rw [z, hs] at this; cases this
  · have := h.dict
    rw [z, hpa] at this
    have e : penV c t1 l1 = dN ys t := HO.dK.inj (Option.some.inj this)
    unfold penV dN at e
    have e2 := congrArg (fun l => l[1]?) e
    simp only [List.getElem?_map] at e2
    cases hy : ys[1]? with
    | none => rw [hy] at e2; cases e2
    | some y =>
      rw [hy] at e2
      have e2 : some (((Sum.inr "turn" : Key), V.int t1)) = some ((Sum.inr y : Key), V.ref (t y)) := e2
      have e3 := (Prod.mk.inj (Option.some.inj e2)).2
      cases e3
  · have := h.dict
    rw [z, hs] at this; cases this
end
/-- a program seen, with its text -/
def SeenE (K : PySem.W.Frag) (CP : Addr) (Hd : Hp) (r : Addr) : Prop := ∃ (a : Addr) (ys : List Str) (ls : Str → List PyData), Hd r = some (.tup [.ref a, .str (progT ys ls)]) ∧ PrgH K CP CP "Program" Hd a ys ls
theorem SeenE.mono {K : PySem.W.Frag} {CP : Addr} {H H' : Hp} {r : Addr} (h : SeenE K CP H r) (e : Ex H H') : SeenE K CP H' r := by
  obtain ⟨a, ys, ls, h1, h2⟩ := h
  exact ⟨a, ys, ls, e _ _ h1, h2.mono e⟩
/-- what stands between two turns -/
structure TI (K : PySem.W.Frag) (CP : Addr) (H Hd : Hp) (pa se cc : Addr) (n : Nat) (rs : List Addr) : Prop where
  pn : Pn H pa cc n
  hc : Cells Hd cc
  ex : Ex Hd H
  npa : Hd pa = none
  nse : Hd se = none
  nps : se ≠ pa
  hse : H se = some (.lst (rs.map V.ref))
  seen : ∀ r ∈ rs, SeenE K CP Hd r
section
variable {X : Cx} {o x y : Expr} {σ : L2.St} {H : Hp} {Q : VK} {QB : Bool → Hp → Prop} {CP C : Addr} {pos : Pos} {j : Nat}
/-- program.text -/
theorem re_textP (T : Prp X.prog X.w X.K X.mg X.base 4 C "text" (sp_ptext X.K C)) (hr : Room j X.A) (hj : 5 ≤ j) (h : RE X o σ H fun v H1 => ∃ (a : Addr) (n : Str) (ys : List Str) (ls : Str → List PyData), v = .ref a ∧ PrgH X.K CP C n H1 a ys ls ∧ ∀ H', Ex H1 H' → Q (.str (progT ys ls)) H')
    (hc : Cls X.K C) (hbs : attributeBase o "text" X.env (eval o X.env) = eval o X.env := by rfl) : RE X (.Attribute o "text" pos) σ H Q := by
  obtain ⟨pr, g, fd, hp, hb, F⟩ := T.ex
  refine re_prop hc hp F (hr.mono (by omega)) hb pass0 (h.mono fun v H1 ⟨a, n, ys, ls, ev, p, q⟩ => ?_) hbs
  obtain ⟨dx, g2, t, xs, h1⟩ := p.ex
  exact ⟨a, dx, _, ev, h1.ins, a, dx, g2, ys, t, xs, ls, rfl, h1, p.wp.nd, by have := p.wp.len; omega, fun n hn => ⟨p.wp.word n hn, rfl, Nat.le_trans (p.wp.l40 n hn) (by decide), p.wp.ok n hn⟩, q⟩
theorem rt_eqP (T : EqC X.prog X.w X.K X.mg X.base CP C) (hr : Room j X.A) (hj : 2 ≤ j) (h : RE X x σ H fun v H1 => RE X y σ H1 fun u H2 => ∃ (a b Cb : Addr) (n1 n2 : Str) (ys zs : List Str) (ls ms : Str → List PyData), v = .ref a ∧ u = .ref b ∧ PrgH X.K CP C n1 H2 a ys ls ∧ PrgH X.K CP Cb n2 H2 b zs ms ∧ Beside X.K C Cb ∧ QB (decide (n1 = n2) && decide (progT ys ls = progT zs ms)) H2)
    (hm : behindInMarks .Eq y = false := by first | exact nobehind _ (by decide) (by decide) | rfl) : RT X (.Compare x [.Eq] [y] pos) σ H QB := by
  obtain ⟨g, gd, hM, hB, F⟩ := T.ex
  refine rt_cmp (op_eqB (E := E0) rfl hM F (hr.mono (by omega)) hB pass0) (h.mono fun v H1 q => q.mono fun u H2 ⟨a, b, Cb, n1, n2, ys, zs, ls, ms, ev, eu, p, r, hc, q⟩ => ?_) hm
  obtain ⟨dx, fs, ha⟩ := p.ins
  obtain ⟨dxb, fsb, hb⟩ := r.ins
  exact ⟨a, dx, b, Cb, dxb, fs, fsb, ev, eu, ha, hb, hc, eq_sp p r ⟨_, rfl, _, rfl, q⟩⟩
end
/-- read from its text a program is the same -/
theorem read_sp {K : PySem.W.Frag} {CP C : Addr} {b : Bool} {n : Str} {H : Hp} {Q : VK} {E : XK} {ys : List Str} {ls : Str → List PyData} (W : WP ys ls) (nm : PN K CP C n) (bk : ∀ ad, Book b (bkL (psOf ys ls) ad)) (q : ∀ H' a, Ex H H' → PrgH K CP C n H' a ys ls → Q (.ref a) H') : sp_read K C b [.ref C, .str (progT ys ls)] H Q E := by
  refine ⟨ys, ls, rfl, W.ne, W.nd, by have := W.len; omega, fun i a b ha hb => sorted_srt W.nd W.srt ha hb, fun n hn => ⟨W.word n hn, Nat.le_trans (W.l40 n hn) (by decide), W.ok n hn⟩, bk, fun H' a dx g zs t xs ms ad e ft pr => ?_⟩
  obtain ⟨rfl, hls⟩ := fits_again W ft
  refine q H' a e ⟨⟨dx, g, t, xs, pr.ins, pr.dict, pr.seq, fun n hn => ?_⟩, nm, W⟩
  rw [← hls n hn]
  exact pr.dat n hn
theorem pn_ne {K : PySem.W.Frag} {CP CB : Addr} {n m : Str} (h : n ≠ m) (p : PN K CP CP n) (r : PN K CP CB m) : CP ≠ CB := fun z => by
  subst z
  obtain ⟨_, _, _, sl, tk, lk, hs⟩ := p.nm.sl
  obtain ⟨_, _, _, sl2, tk2, lk2, hs2⟩ := r.nm.sl
  rw [lk] at lk2
  cases lk2
  rw [hs] at hs2
  cases hs2
  exact h rfl
end Fl
end
section
set_option Elab.async false
set_option linter.all false
set_option maxRecDepth 100000
set_option maxHeartbeats 4000000
namespace Fl
open PySem PySem.Spec PyProof.Rows L2 Fx
open Evl (Ex fresh_back)
section
variable {P : Program} {w : World} {K : PySem.W.Frag} {mg : Str → Option Value} {base : Heap} {f CP CB : Addr} {jp : Nat} {cdv : Value} {Ar : Around} {outer : List Env} {sh : Shared} {H0 : Hp} {E : XK}
variable {De : Ends} {H Hd : Hp} {sa pa se fo a : Addr} {t : Int} {x5 x6 x7 x8 x9 x10 x11 x12 : Option V} {ps : PlP} {ad : Str → Addr} {ys : List Str} {ls : Str → List PyData} {rest : List Stmt}
/-- the text, and the program read from it -/
theorem t5_2 (T : LT5 P w K mg base CP CB jp) (hr : Room 18 (l5X P w K mg base f cdv Ar outer sh H0 E).A) (p : PrgH K CP CP "Program" H a ys ls) (bk : ∀ ad, Book false (bkL (psOf ys ls) ad))
    (k : ∀ H' x7, Ex H H' → RB (l5X P w K mg base f cdv Ar outer sh H0 E) rest De (s5 sa pa se t fo (some (.ref a)) (some (.str (progT ys ls))) x7 x8 x9 x10 x11 x12) H') :
    RB (l5X P w K mg base f cdv Ar outer sh H0 E) (t5 2 :: t5 3 :: t5 4 :: rest) De (s5 sa pa se t fo (some (.ref a)) (some (.str (progT ys ls))) x7 x8 x9 x10 x11 x12) H := by
  have W := p.wp
  refine rb_cons <| rs_if <| rt_cmp op_ne <| re_cb call_reprS T.G2.repr <| ra_cons <| re_textP (CP := CP) T.txP hr (by decide) (re_var 5 rfl ⟨a, _, ys, ls, rfl, p, fun H1 e1 => ra_nil ⟨_, rfl, W.repr, re_cb call_reprS T.G2.repr <| ra_cons <| re_var 6 rfl <| ra_nil ⟨_, rfl, W.repr, rfl, _, rfl, ?_⟩⟩⟩) T.nP.cls
  rw [decide_eq_true rfl]
  refine ifF <| rb_nil ?_
  obtain ⟨mc, pr, g, fd, r1, c1, b1, kb1, F1⟩ := T.rdP
  refine rb_cons <| rs_set 7 (by exact sc_l5.nd) <| re_cmethK (ks := ["text"]) r1 c1 F1 (hr.mono (by decide)) pass0 kb1 (pk_cons pe_RE pk_nil) <| re_glob (v := .ref CP) T.MP.gm rfl ⟨rfl, re_textP (CP := CP) T.txP hr (by decide) (re_var 5 rfl ⟨a, _, ys, ls, rfl, p.mono e1, fun H2 e2 => ⟨rfl, read_sp W T.nP bk fun H3 b e3 pb => ?_⟩⟩) T.nP.cls⟩
  have p3 := p.mono (e1.trans (e2.trans e3))
  obtain ⟨dxb, fsb, insb⟩ := pb.ins
  refine rb_cons <| rs_if <| rt_w <| rw_or <| rt_not <| rt_val <| re_isiO T.G.isinstance T.MP.gm <| re_var 7 rfl ⟨b, CP, dxb, _, true, rfl, insb, T.nP.cls, T.nP.isC, T.nP.kit, true, rfl, ?_⟩
  refine ifF <| rw_or <| rt_val <| re_isiO T.G.isinstance T.MB.gm <| re_var 7 rfl ⟨b, CP, dxb, _, false, rfl, insb, T.nP.cls, T.nP.isC, T.iPB, false, rfl, ?_⟩
  refine ifF <| rw_or <| rt_neP T.qP hr (by decide) <| re_var 7 rfl <| re_var 5 rfl ⟨b, a, CP, _, _, ys, ys, ls, ls, rfl, rfl, pb, p3, .inl rfl, ?_⟩
  rw [decide_eq_true rfl, decide_eq_true rfl]
  refine ifF <| rw_or1 <| rt_cmp op_ne <| re_textP (CP := CP) T.txP hr (by decide) (re_var 7 rfl ⟨b, _, ys, ls, rfl, pb, fun H4 e4 => re_var 6 rfl ⟨rfl, _, rfl, ?_⟩⟩) T.nP.cls
  rw [decide_eq_true rfl]
  exact ifF (rb_nil (k _ _ (e1.trans (e2.trans (e3.trans e4)))))
/-- the bare program, its text, and what is read from it -/
theorem t5_6 (T : LT5 P w K mg base CP CB jp) (hr : Room 18 (l5X P w K mg base f cdv Ar outer sh H0 E).A) (W : WP ys ls) (bk : ∀ ad, Book false (bkL (psOf ys ls) ad)) (hpB : PlainB (bareP ps)) {fo2 : Addr} {ad2 : Str → Addr} {xs2 : Str → List V} (hfo2 : H fo2 = some (.dK (bkV (bkL (bareP ps) ad2)))) (exd : Ex Hd H) (B : ∀ p ∈ ps, H (ad2 p.1) = some (.lst (xs2 p.1)) ∧ DA K Hd (xs2 p.1) (bareL p.2))
    (k : ∀ H' x9 x10, Ex H H' → RB (l5X P w K mg base f cdv Ar outer sh H0 E) rest De (s5 sa pa se t fo x5 (some (.str (progT ys ls))) x7 (some (.ref fo2)) x9 x10 x11 x12) H') :
    RB (l5X P w K mg base f cdv Ar outer sh H0 E) (t5 6 :: t5 7 :: t5 8 :: t5 9 :: rest) De (s5 sa pa se t fo x5 (some (.str (progT ys ls))) x7 (some (.ref fo2)) x9 x10 x11 x12) H := by
  obtain ⟨gB, gdB, hMB, hbB, FMB⟩ := T.MB.ex
  have dat : ∀ {H' : Hp}, Ex H H' → ∀ e ∈ bkL (bareP ps) ad2, D K H' e.2.1 e.2.2 := fun {H'} e' e he => by
    obtain ⟨p, hp', rfl⟩ := List.mem_map.mp he
    obtain ⟨p0, hp0', rfl⟩ := List.mem_map.mp hp'
    obtain ⟨g1, g2⟩ := B p0 hp0'
    exact .lst (.inl (.inl (e' _ _ g1))) ((g2.mono exd).mono e')
  refine rb_cons <| rs_set 9 (by exact sc_l5.nd) <| re_make hMB FMB (hr.mono (by decide)) T.MB.gm hbB pass0 <| ra_cons <| re_var 8 rfl <| ra_nil fun a2 dx h1 h2 ne => ?_
  have e4 : Ex H (upd (upd H dx (.own a2)) a2 (.ins CB dx [])) := fun b o hb => by
    rw [upd_ne (ne_of_none hb h1), upd_ne (ne_of_none hb h2)]; exact hb
  refine ⟨a2, dx, [], .ref fo2, rfl, upd_same, a2, dx, fo2, bkL (bareP ps) ad2, rfl, upd_same, e4 _ _ hfo2, dat e4, bookB ad2 hpB, fun H5 g zs tt xs3 ms b5 ft pr => ⟨rfl, ?_⟩⟩
  have e5 : Ex H H5 := fun b o hb => b5 _ _ (e4 _ _ hb) (ne_of_none hb h1)
  have PB : PrgH K CP CB "BareProgram" H5 a2 zs ms := ⟨⟨_, _, _, _, pr⟩, T.nB, hpB.wp ft⟩
  have bkB : ∀ ad, Book true (bkL (psOf zs ms) ad) := fun ad => bookB ad (hpB.perm (ps_perm ft))
  obtain ⟨mc, p1, g1, fd1, r1, c1, b1, F1⟩ := T.rdB
  refine rb_cons <| rs_set 10 (by exact sc_l5.nd) <| re_cmeth r1 c1 (F1.raw b1 .nil) (hr.mono (by decide)) pass0 <| re_glob (v := .ref CB) T.MB.gm rfl ⟨rfl, ra_cons <| re_textP (CP := CP) T.txB hr (by decide) (re_var 9 rfl ⟨a2, _, zs, ms, rfl, PB, fun H6 e6 => ra_nil (read_sp PB.wp T.nB bkB fun H7 b e7 pb => ?_)⟩) T.nB.cls⟩
  have e57 := e6.trans e7
  have PB7 := PB.mono e57
  obtain ⟨dxb, fsb, insb⟩ := pb.ins
  refine rb_cons <| rs_if <| rt_w <| rw_or <| rt_not <| rt_val <| re_isiO T.G.isinstance T.MB.gm <| re_var 10 rfl ⟨b, CB, dxb, _, true, rfl, insb, T.nB.cls, T.nB.isC, T.iBB, true, rfl, ?_⟩
  refine ifF <| rw_or <| rt_neP T.qB hr (by decide) <| re_var 10 rfl <| re_var 9 rfl ⟨b, a2, CB, _, _, zs, zs, ms, ms, rfl, rfl, pb, PB7, .inl rfl, ?_⟩
  rw [decide_eq_true rfl, decide_eq_true rfl]
  refine ifF <| rw_or1 <| rt_cmp op_ne <| re_textP (CP := CP) T.txB hr (by decide) (re_var 9 rfl ⟨a2, _, zs, ms, rfl, PB7, fun H8 e8 => re_call T.ltx hr (hk := by decide) <| ra_cons <| re_var 8 rfl <| ra_nil ⟨fo2, bkL (bareP ps) ad2, ms, rfl, (e5.trans (e57.trans e8)) _ _ hfo2, ?_, ?_, ?_, fun e he => ?_, fun H9 ys9 e9 hperm hsrt => ⟨rfl, _, rfl, ?_⟩⟩⟩) T.nB.cls
  · rw [bkN_L]; exact hpB.nodup
  · show ((bareP ps).map _).length ≤ 24
    rw [List.length_map]; have := hpB.len; omega
  · intro z
    have hm := hpB.main
    rw [← bkN_L _ ad2] at hm
    rw [z] at hm; cases hm
  · have hd8 := dat (e5.trans (e57.trans e8)) e he
    have hls := ft.ls e he
    obtain ⟨p, hp', rfl⟩ := List.mem_map.mp he
    exact ⟨hpB.word p hp', hd8, ⟨rfl, Nat.le_trans (hpB.l40 p hp') (by decide), (hpB.whole p hp').ok⟩, hls⟩
  have ey : ys9 = zs := sorted_same hsrt ft.srt (hperm.trans ft.perm.symm)
  subst ey
  rw [decide_eq_true rfl]
  refine ifF <| rb_nil ?_
  obtain ⟨mcP, pP, gP, fdP, rP, cP, bP, kbP, FP⟩ := T.rdP
  refine rb_cons <| rs_if <| rt_eqP T.qB hr (by decide) <| re_var 9 rfl <| re_cmeth rP cP (FP.raw bP .nil) (hr.mono (by decide)) pass0 <| re_glob (v := .ref CP) T.MP.gm rfl ⟨rfl, ra_cons <| re_var 6 rfl <| ra_nil (read_sp W T.nP bk fun H10 b2 e10 pb2 => ⟨a2, b2, CP, _, _, ys9, ys, ms, ls, rfl, rfl, PB7.mono (e8.trans (e9.trans e10)), pb2, .inr ⟨pn_ne (by decide +kernel) T.nP T.nB, T.sPB⟩, ?_⟩)⟩
  rw [decide_eq_false (by decide +kernel), Bool.false_and]
  exact ifF (rb_nil (k _ _ _ (e5.trans (e57.trans (e8.trans (e9.trans e10))))))
end
end Fl
end
section
set_option Elab.async false
set_option linter.all false
set_option maxRecDepth 100000
set_option maxHeartbeats 4000000
namespace Fl
open PySem PySem.Spec PyProof.Rows L2 Fx
open Evl (Ex fresh_back)
section
variable {P : Program} {w : World} {K : PySem.W.Frag} {mg : Str → Option Value} {base : Heap} {f CP CB : Addr} {jp : Nat} {cdv : Value} {Ar : Around} {outer : List Env} {sh : Shared} {H0 : Hp} {E : XK}
variable {De : Ends} {H Hd : Hp} {sa pa se fo a cc : Addr} {t : Int} {n : Nat} {rs : List Addr} {x4 x5 x6 x7 x8 x9 x10 x11 x12 : Option V} {ps : PlP} {ad : Str → Addr} {ys : List Str} {ls : Str → List PyData} {rest : List Stmt}
/-- all that was seen beside the new one; the new one is kept -/
theorem t5_10 (T : LT5 P w K mg base CP CB jp) (hr : Room 18 (l5X P w K mg base f cdv Ar outer sh H0 E).A) (I : TI K CP H Hd pa se cc n rs) (hrs : rs.length ≤ 100) (p : PrgH K CP CP "Program" H a ys ls)
    (k : ∀ H' Hd' r y11 y12, TI K CP H' Hd' pa se cc n (rs ++ [r]) → RB (l5X P w K mg base f cdv Ar outer sh H0 E) rest De (s5 sa pa se t fo (some (.ref a)) (some (.str (progT ys ls))) x7 x8 x9 x10 y11 y12) H') :
    RB (l5X P w K mg base f cdv Ar outer sh H0 E) (t5 10 :: t5 11 :: rest) De (s5 sa pa se t fo (some (.ref a)) (some (.str (progT ys ls))) x7 x8 x9 x10 x11 x12) H := by
  have sz : (1000 : Nat) ≤ sizeLine := by rw [sizeLine_eq]; decide
  refine rb_cons <| rs_for (g := gTup K 2 (gCons (gName 11) (gCons (gName 12) gNil))) PassesOwn.never rfl (pg_tup rfl (pgs_cons (pg_name (i := 11) (by exact sc_l5.nd) rfl (Or.inl rfl)) (pgs_cons (pg_name (i := 12) (by exact sc_l5.nd) rfl (Or.inl rfl)) pgs_nil))) good_tup2 ?_
  refine ri_list <| re_var 2 rfl ⟨se, rs.map V.ref, rfl, .inl (.inl I.hse), _, _, _, fun i σ' H' => ∃ y11 y12, σ' = s5 sa pa se t fo (some (.ref a)) (some (.str (progT ys ls))) x7 x8 x9 x10 y11 y12 ∧ H' = H, walk_list (xs := rs.map V.ref), ⟨_, _, rfl, rfl⟩, ?_, ?_, ?_⟩
  · rintro i σ' H' hi ⟨_, _, _, rfl⟩
    exact .inl (.inl I.hse)
  · rintro i x σ' Ha Hb hi ⟨y11, y12, rfl, rfl⟩ ⟨rfl, hx⟩
    rw [List.getElem?_map] at hx
    obtain ⟨r, hr', rfl⟩ : ∃ r, rs[i]? = some r ∧ x = V.ref r := by
      cases hy : rs[i]? with
      | none => rw [hy] at hx; cases hx
      | some r => rw [hy] at hx; exact ⟨r, rfl, (Option.some.inj hx).symm⟩
    obtain ⟨b, zs, ms, h1, pb⟩ := I.seen r (List.mem_of_getElem? hr')
    refine ⟨r, _, rfl, .inl (.inl (I.ex _ _ h1)), rfl, _, _, rfl, _, _, rfl, rfl, ?_⟩
    refine rb_one <| rs_if <| rt_cmp op_ne <| re_eqP T.qP hr (by decide) <| re_var 11 rfl <| re_var 5 rfl ⟨b, a, CP, _, _, zs, ys, ms, ls, rfl, rfl, pb.mono I.ex, p, .inl rfl, ?_⟩
    refine re_cmp op_eq <| re_var 12 rfl <| re_var 6 rfl ⟨rfl, rfl, _, rfl, ?_⟩
    have e : (decide (("Program" : Str) = "Program") && decide (progT zs ms = progT ys ls)) = decide (V.str (progT zs ms) = V.str (progT ys ls)) := by
      rw [decide_eq_true rfl, Bool.true_and]
      exact decide_eq_decide.mpr ⟨fun e => by rw [e], V.str.inj⟩
    rw [e, decide_eq_true rfl]
    exact ifF (rb_nil ⟨_, _, rfl, rfl⟩)
  rintro σ' H' ⟨y11, y12, rfl, rfl⟩
  refine rb_cons <| rs_expr <| re_append <| re_var 2 rfl ⟨se, rfl, ⟨_, I.hse⟩, re_tup <| ra_cons <| re_var 5 rfl <| ra_cons <| re_var 6 rfl <| ra_nil ⟨Nat.le_of_ble_eq_true rfl, fun r H2 hr2 e2 h2 => ⟨rs.map V.ref, e2 _ _ I.hse, by rw [List.length_map]; omega, ?_⟩⟩⟩
  have pn2 := I.pn.mono e2
  have hse2 := e2 _ _ I.hse
  have ex2 := I.ex.trans e2
  have exd : Ex Hd (hideL [pa, se] H2) := ex_hide2 ex2 I.npa I.nse
  have rpa : r ≠ pa := fun z => by
    obtain ⟨t1, l1, h1, _⟩ := I.pn
    rw [z, h1] at hr2; cases hr2
  have rse : r ≠ se := fun z => by
    rw [z, I.hse] at hr2; cases hr2
  have ph : PrgH K CP CP "Program" (hideL [pa, se] H2) a ys ls := (p.mono e2).hide pn2 hse2
  have up : Ex (hideL [pa, se] H2) (upd H2 se (.lst (rs.map V.ref ++ [.ref r]))) := fun b o hb => by
    obtain ⟨g1, g2⟩ := hideL_of hb
    rw [upd_ne (fun z => g1 (by rw [z]; exact List.mem_cons_of_mem _ List.mem_cons_self))]
    exact g2
  obtain ⟨ns, c1, c2⟩ := I.hc
  refine k _ (hideL [pa, se] H2) r _ _ ⟨pn2.put I.nps, ⟨ns, Evl.ex_rd exd c1, c2⟩, up, hide2_pa, hide2_se, I.nps, by rw [upd_same, List.map_append]; rfl, fun z hz => ?_⟩
  rcases List.mem_append.mp hz with hz | hz
  · exact (I.seen z hz).mono exd
  · rw [List.mem_singleton.mp hz]
    exact ⟨a, ys, ls, hide2 h2 rpa rse, ph⟩
/-- a turn -/
theorem ok_turn5 (T : LT5 P w K mg base CP CB jp) (hr : Room 19 (l5X P w K mg base f cdv Ar outer sh H0 E).A) (I : TI K CP H Hd pa se cc n rs) (hn : n + cpl ≤ 540000) (hrs : rs.length ≤ 100)
    (q : ∀ H' Hd' r y4 y5 y6 y7 y8 y9 y10 y11 y12, TI K CP H' Hd' pa se cc (n + cpl) (rs ++ [r]) → De.nx [some (.ref sa), some (.ref pa), some (.ref se), some (.int t), y4, y5, y6, y7, y8, y9, y10, y11, y12, none] H') :
    RB (l5X P w K mg base f cdv Ar outer sh H0 E) turn5 De [some (.ref sa), some (.ref pa), some (.ref se), some (.int t), x4, x5, x6, x7, x8, x9, x10, x11, x12, none] H := by
  have hr8 : Room 18 (l5X P w K mg base f cdv Ar outer sh H0 E).A := hr.mono (by decide)
  have pen : Pen K H pa n := I.pn.pen I.hc I.ex
  refine rb_cons <| rs_set 4 (by exact sc_l5.nd) <| re_call T.plain hr (hk := by have := T.hjp; omega) <| ra_cons <| re_var 1 rfl <| ra_cons <| re_int <| ra_nil ⟨pa, 4, n, rfl, by decide, by decide, by omega, pen, fun fo ps ad H1 hp hfo0 hfo1 hdat e1 pen1 => ?_⟩
  have fopa : fo ≠ pa := (pen.ne_new hfo0).symm
  have pn1 : Pn H1 pa cc (n + cpl) := Pn.of pen1 I.pn e1
  have ex1 : Ex Hd H1 := ex_but I.ex I.npa e1.but
  have hse1 := e1.but _ _ I.hse I.nps
  have bk := plain_book ad hp
  have hid : Ex (hideL [pa, fo] H1) H1 := hide2_ex
  have hidfo : hideL [pa, fo] H1 fo = none := hide2_se
  obtain ⟨gP, fdP, hMP, hbP, FMP⟩ := T.MP.ex
  refine rb_cons <| rs_two (i := 5) (j := 6) rfl (by exact sc_l5.nd) rfl rfl (by decide) rfl rfl rfl <| ra_cons <| re_make hMP FMP (hr.mono (by decide)) T.MP.gm hbP pass0 <| ra_cons <| re_var 4 rfl <| ra_nil fun a dx h1 h2 ne => ?_
  have e4 : Ex H1 (upd (upd H1 dx (.own a)) a (.ins CP dx [])) := fun b o hb => by
    rw [upd_ne (ne_of_none hb h1), upd_ne (ne_of_none hb h2)]; exact hb
  refine ⟨a, dx, fo, bkL ps ad, rfl, upd_same, e4 _ _ hfo1, fun e he => ?_, bk, fun H4 g ys tt xs ls b4 ft pr => ⟨rfl, ?_⟩⟩
  · obtain ⟨p, hp', rfl⟩ := List.mem_map.mp he
    exact ((hdat p hp').mono hid).mono e4
  have e14 : Ex H1 H4 := fun b o hb => b4 _ _ (e4 _ _ hb) (ne_of_none hb h1)
  have W := hp.wp ft
  have pgm : PrgH K CP CP "Program" H4 a ys ls := ⟨⟨_, _, _, _, pr⟩, T.nP, W⟩
  have bkr : ∀ ad, Book false (bkL (psOf ys ls) ad) := fun ad => plain_book ad (hp.perm (ps_perm ft))
  refine ra_cons <| re_call T.ltx hr (hk := by decide) <| ra_cons <| re_var 4 rfl <| ra_nil ⟨fo, bkL ps ad, ls, rfl, e14 _ _ hfo1, ?_, ?_, ?_, fun e he => ?_, fun H5 ys5 e5 hperm hsrt => ra_nil ⟨_, _, rfl, ?_⟩⟩
  · rw [bkN_L]; exact hp.nodup
  · show (ps.map _).length ≤ 24
    rw [List.length_map]; have := hp.len; omega
  · intro z
    have hm := hp.main
    rw [← bkN_L _ ad] at hm
    rw [z] at hm; cases hm
  · have hls := ft.ls e he
    obtain ⟨p, hp', rfl⟩ := List.mem_map.mp he
    obtain ⟨q0, W0⟩ := hp.whole p hp'
    exact ⟨hp.word p hp', ((hdat p hp').mono hid).mono e14, ⟨rfl, Nat.le_trans (hp.l40 p hp') (by decide), W0.ok⟩, hls⟩
  have ey : ys5 = ys := sorted_same hsrt ft.srt (hperm.trans ft.perm.symm)
  subst ey
  refine t5_2 T hr8 (pgm.mono e5) bkr fun H6 y7 e6 => ?_
  have e16 := e14.trans (e5.trans e6)
  refine t5_5 (Hd := hideL [pa, fo] H1) T hr8 (e16 _ _ hfo1) hp.nodup (by have := hp.len; omega) (hid.trans e16) hidfo (fun p hp' => ?_) fun H7 fo2 ad2 xs2 hfo2n e7 hfo2 B => ?_
  · obtain ⟨q0, W0⟩ := hp.whole p hp'
    exact ⟨hdat p hp', W0.ok, Nat.le_trans (hp.l40 p hp') (by decide)⟩
  have e17 := e16.trans e7
  refine t5_6 (Hd := hideL [pa, fo] H1) T hr8 W bkr hp.toB hfo2 (hid.trans e17) (fun p hp' => let ⟨_, g2, g3⟩ := B.at_ p hp'; ⟨g2, g3⟩) fun H8 y9 y10 e8 => ?_
  have e18 := e17.trans e8
  have I8 : TI K CP H8 Hd pa se cc (n + cpl) rs := ⟨pn1.mono e18, I.hc, ex1.trans e18, I.npa, I.nse, I.nps, e18 _ _ hse1, I.seen⟩
  refine t5_10 (rest := []) T hr8 I8 hrs (pgm.mono (e5.trans (e6.trans (e7.trans e8)))) fun H9 Hd9 r y11 y12 I9 => ?_
  exact rb_nil (q _ _ _ _ _ _ _ _ _ _ _ _ I9)
end
end Fl
end
section
set_option Elab.async false
set_option linter.all false
set_option maxRecDepth 100000
set_option maxHeartbeats 4000000
namespace Fl
open PySem PySem.Spec PyProof.Rows L2 Fx
open Evl (Ex fresh_back)
/-! ### the program that stops at once -/
abbrev stL : List PyData := [lend "stop"]
theorem whole_st : Whole true ["main"] stL := by
  refine ⟨⟨fun _ => some [], [], ownB (lend "stop") true, ?_⟩, by decide +kernel, ?_, ⟨lend "stop", rfl, by decide +kernel⟩, by decide⟩
  · refine ⟨by decide +kernel, fun s h => (nomatch h), fun h => ?_, fun h => ?_, [], by decide +kernel, rfl, rfl⟩
    · rcases h with h | h
      · exact absurd h (by decide +kernel)
      · exact absurd h (by decide +kernel)
    · exact absurd h (by decide +kernel)
  · intro d hd hj
    rw [List.mem_singleton.mp hd] at hj
    exact absurd hj (by decide +kernel)
theorem plain_st : PlainD [("main", stL)] where
  word p h := by rw [List.mem_singleton.mp h]; exact (by decide +kernel : isWordS "main" = true)
  nodup := List.nodup_cons.mpr ⟨List.not_mem_nil, List.nodup_nil⟩
  main := List.mem_singleton.mpr rfl
  len := by decide
  whole p h := by rw [List.mem_singleton.mp h]; exact ⟨true, whole_st⟩
  l40 p h := by rw [List.mem_singleton.mp h]; decide
  all := by decide
def lsS : Str → List PyData := fun _ => stL
theorem wp_st {ls : Str → List PyData} (h : ls "main" = stL) : WP ["main"] ls where
  ne := List.cons_ne_nil _ _
  nd := List.nodup_cons.mpr ⟨List.not_mem_nil, List.nodup_nil⟩
  len := by decide
  srt := rfl
  word n hn := by rw [List.mem_singleton.mp hn]; exact (by decide +kernel : isWordS "main" = true)
  l40 n hn := by rw [List.mem_singleton.mp hn, h]; decide
  ok n hn d hd := by
    rw [List.mem_singleton.mp hn, h] at hd
    rw [List.mem_singleton.mp hd]
    exact (by decide +kernel : isLineD (lend "stop") = true)
theorem st_text : progT ["main"] lsS = "function main\nstop" := by decide +kernel
theorem tup_book {q : Bool} {ds : List PyData} {v : V} (W : Whole q ["main"] ds) (hl : ds.length ≤ 40) : Book false [("main", v, .tuple ds)] where
  word e he := by rw [List.mem_singleton.mp he]; exact (show isWordS "main" = true by decide +kernel)
  nodup := List.nodup_cons.mpr ⟨fun z => (nomatch z), List.nodup_nil⟩
  main := List.mem_cons_self
  len := Nat.le_of_ble_eq_true rfl
  any e he := by
    rw [List.mem_singleton.mp he]
    exact ⟨rfl, Nat.le_trans hl (by decide), fun x hx => line_short (W.ok x hx)⟩
  all := by
    show ds.length + 0 ≤ 240
    omega
  wrong e he := by
    rw [List.mem_singleton.mp he]
    refine W.wrong (fun s hs => ?_) (fun z => absurd z Bool.false_ne_true)
    rw [List.mem_singleton.mp hs]; rfl
  good e he := by
    rw [List.mem_singleton.mp he]
    exact W.good rfl (Nat.le_trans hl (by decide))
  tidy e he := by
    rw [List.mem_singleton.mp he]
    exact W.tidy false
section
variable {P : Program} {w : World} {K : PySem.W.Frag} {mg : Str → Option Value} {base : Heap} {f : Addr} {fd : FuncData}
def sp_ofB (K : PySem.W.Frag) (C : Addr) : Sp := fun vs H Q E => ∃ t ds, vs = [.ref C, .ref t] ∧ D K H (.ref t) (.tuple ds) ∧ Book false [("main", .ref t, .tuple ds)] ∧ ∀ H' a dx g ys t' xs ls, Ex H H' → FitsB [("main", .ref t, .tuple ds)] ys ls → ProgN K C H' a dx g ys t' xs ls → Q (.ref a) H'
theorem sc_ofB : FnScope ["cls", "lines"] ["cls", "lines"] (defScope s_of) := ⟨rfl, rfl, rfl, by decide +kernel, rfl, by decide +kernel, by decide +kernel⟩
theorem ok_ofB {C : Addr} (F : Fun K "of" "Program.of" s_of f fd) (M : MkO P w K mg base 7 "Program" C ["self", "functions"] (sp_initB K C false)) : FnR P w K mg base CX0 9 f (fun vs H Q E => ∃ ws rest, vs = ws ++ rest ∧ ws.length = ["cls"].length ∧ rest.length ≤ sizeLine ∧ ∀ p, H p = Option.none → sp_ofB K C (ws ++ [V.ref p]) (upd H p (.tup rest)) Q E) := by
  obtain ⟨oc, od, kV, doc, pm, an, cdv, ct, osl, rfl, lk, hcd⟩ := F.ex
  refine StX.fn_star (ps := ["cls"]) (pv := "lines") lk hcd sc_ofB StX.cxUp_none (StX.bind_star1 (B := fun us => bindArgs (PySem.W.fnOf "of" "Program.of" (defArgs s_of) (defBody s_of) (defScope s_of) .none kV doc pm an cdv ct) ⟨us, []⟩) (p1 := "cls") (pv := "lines") (fun a => rfl) (fun a r rs => rfl)) (fun A outer s H vs Q E hr h => ⟨RB _ _, pss_RB, ?_⟩)
  obtain ⟨t, ds, rfl, hd, bk, q⟩ := h
  obtain ⟨g, gd, hM, hb, FM⟩ := M.ex
  refine rb_one (rs_ret (re_makeL (i := 0) hM FM hr hb pass0 rfl (ra_cons (re_dict1 fun p hp => re_str (re_var 1 rfl ⟨upd_same, .inr "main", rfl, ra_nil fun a dx h1 h2 ne => ?_⟩)))))
  have e1 : Ex H (upd (upd H p (.dK [])) p (.dK [(.inr "main", .ref t)])) := fun b o hb => by
    rw [upd_ne (ne_of_none hb hp), upd_ne (ne_of_none hb hp)]; exact hb
  have hp1 : upd (upd H p (.dK [])) p (.dK [(.inr "main", .ref t)]) p = some (.dK [(.inr "main", .ref t)]) := upd_same
  generalize upd (upd H p (.dK [])) p (.dK [(.inr "main", .ref t)]) = H1 at *
  have e3 : Ex H1 (upd (upd H1 dx (.own a)) a (.ins C dx [])) := fun b o hb => by
    rw [upd_ne (ne_of_none hb h1), upd_ne (ne_of_none hb h2)]; exact hb
  refine ⟨a, dx, p, [("main", .ref t, .tuple ds)], rfl, upd_same, e3 _ _ hp1, fun e he => ?_, bk, fun H4 g ys tt xs ls b4 ft pr => ⟨rfl, q H4 a dx g ys tt xs ls (fun b o hb => b4 _ _ (e3 _ _ (e1 _ _ hb)) (ne_of_none (e1 _ _ hb) h1)) ft pr⟩⟩
  rw [List.mem_singleton.mp he]
  exact (hd.mono e1).mono e3
end
/-- Program.of -/
structure COf (P : Program) (w : World) (K : PySem.W.Frag) (mg : Str → Option Value) (base : Heap) (CP : Addr) : Prop where
  cof : ∃ mc p g, ClX.CRead K CP mc ∧ ClX.CMet K CP mc "of" p g ∧ FnR P w K mg base CX0 9 g (fun vs H Q E => ∃ ws rest, vs = ws ++ rest ∧ ws.length = ["cls"].length ∧ rest.length ≤ sizeLine ∧ ∀ p, H p = Option.none → sp_ofB K CP (ws ++ [V.ref p]) (upd H p (.tup rest)) Q E)
section
variable {P : Program} {w : World} {K : PySem.W.Frag} {mg : Str → Option Value} {base : Heap} {f CP CB : Addr} {jp : Nat} {cdv : Value} {Ar : Around} {outer : List Env} {sh : Shared} {H0 : Hp}
variable {H : Hp} {Q : VK} {sa : Addr}
theorem ok_last5 {σ : L2.St} (T : LT5 P w K mg base CP CB jp) (C : COf P w K mg base CP) (hr : Room 19 (l5X P w K mg base f cdv Ar outer sh H0 E0).A) (q : ∀ H', Q (.bl true) H') :
    RB (l5X P w K mg base f cdv Ar outer sh H0 E0) [(defBody s_law).getD 3 (.Pass ⟨0, 0, 0, 0⟩)] { nx := fun _ H' => Q .non H', rt := Q } σ H := by
  obtain ⟨mcP, pP, gP, fdP, rP, cP, bP, kbP, FP⟩ := T.rdP
  obtain ⟨mcO, pO, gO, rO, cO, FO⟩ := C.cof
  have W : WP ["main"] lsS := wp_st rfl
  have bk : ∀ ad, Book false (bkL (psOf ["main"] lsS) ad) := fun ad => plain_book ad plain_st
  refine rb_one <| rs_ret <| re_eqP T.qP hr (by decide) <| re_cmeth rP cP (FP.raw bP .nil) (hr.mono (by decide)) pass0 <| re_glob (v := .ref CP) T.MP.gm rfl ⟨rfl, ra_cons <| re_str <| ra_nil ?_⟩
  rw [← st_text]
  refine read_sp W T.nP bk fun H1 b e1 pb => ?_
  refine re_cmeth rO cO FO (hr.mono (by decide)) pass0 <| re_glob (v := .ref CP) T.MP.gm rfl ⟨rfl, ra_cons <| re_tup <| ra_cons <| re_str <| ra_nil ⟨Nat.le_of_ble_eq_true rfl, fun p H2 hp e2 h2 => ra_nil ⟨[.ref CP], [.ref p], rfl, rfl, Nat.le_of_ble_eq_true rfl, fun p2 hp2 => ?_⟩⟩⟩
  have e3 : Ex H2 (upd H2 p2 (.tup [.ref p])) := Ex.new hp2
  have dt : D K (upd H2 p2 (.tup [.ref p])) (.ref p2) (.tuple stL) := .tup (.inl (.inl upd_same)) (.cons (.tup (.inl (.inl (e3 _ _ h2))) (.cons (.str _) .nil)) .nil)
  refine ⟨p2, stL, rfl, dt, tup_book whole_st (by decide), fun H4 a dx g ys t' xs ls e4 ft pr => ?_⟩
  have ey : ys = (["main"] : List Str) := List.perm_singleton.mp ft.perm
  subst ey
  have el : ls "main" = stL := ft.ls _ List.mem_cons_self
  refine ⟨b, a, CP, _, _, ["main"], ["main"], lsS, ls, rfl, rfl, pb.mono (e2.trans (e3.trans e4)), ⟨⟨_, _, _, _, pr⟩, T.nP, wp_st el⟩, .inl rfl, ?_⟩
  rw [decide_eq_true rfl, decide_eq_true (progT_congr (ls := ls) (ms := lsS) fun n hn => by rw [List.mem_singleton.mp hn, el]; rfl)]
  exact q _
theorem ok_body5 {ns : List Int} (T : LT5 P w K mg base CP CB jp) (C : COf P w K mg base CP) (hr : Room 19 (l5X P w K mg base f cdv Ar outer sh H0 E0).A) (hS : SqL K H sa (ns.map V.int)) (q : ∀ H', Q (.bl true) H') :
    RB (l5X P w K mg base f cdv Ar outer sh H0 E0) (defBody s_law) { nx := fun _ H' => Q .non H', rt := Q } (L2.start nm_l5 [.ref sa]) H := by
  have hcpl : cpl = 31520 := by decide +kernel
  refine rb_cons <| rs_set 1 (by exact sc_l5.nd) <| re_call T.pen hr (hk := by decide) <| ra_cons <| re_var 0 rfl <| ra_nil ⟨sa, ns, rfl, hS, fun pa H1 e1 pen => ?_⟩
  refine rb_cons <| rs_set 2 (by exact sc_l5.nd) <| re_lst <| ra_nil ⟨Nat.zero_le _, fun se H2 hse e2 h2 => ?_⟩
  have hS2 := Evl.ex_l (e1.trans e2) hS
  obtain ⟨cc, zs, t1, l1, p1, p2, p3, p4, p5, p6⟩ := pen.ex
  have nps : se ≠ pa := fun z => by rw [z, p1] at hse; cases hse
  have cpa : cc ≠ pa := fun z => by
    rcases p2 with h | ⟨ob, h⟩ <;> (rw [z, p1] at h; cases h)
  have cse : cc ≠ se := fun z => by
    rcases p2 with h | ⟨ob, h⟩ <;> (rw [z, hse] at h; cases h)
  have I0 : TI K CP H2 (hideL [pa, se] H2) pa se cc 0 [] := by
    refine ⟨⟨t1, l1, e2 _ _ p1, p4, p5, p6⟩, ⟨zs, ?_, p3⟩, hide2_ex, hide2_pa, hide2_se, nps, h2, fun r hr => nomatch hr⟩
    rcases p2 with h | ⟨ob, h⟩
    · exact .inl (hide2 (e2 _ _ h) cpa cse)
    · exact .inr ⟨ob, hide2 (e2 _ _ h) cpa cse⟩
  refine rb_cons <| rs_for (g := gName 3) PassesOwn.never rfl (pg_name (i := 3) (by exact sc_l5.nd) rfl (Or.inl rfl)) good_name ?_
  refine ri_range (n := 0) T.G2.range <| ra_cons <| re_add <| re_int <| re_cb (call_min2 rfl) T.G2.min <| ra_cons <| re_int <| ra_cons <| re_cb call_len T.G.len <| ra_cons <| re_var 0 rfl <| ra_nil ⟨_, ns.length, rfl, .inl ⟨_, hS2, (List.length_map ..).symm⟩, ra_nil ⟨5, (ns.length : Nat), rfl, 5, _, rfl, rfl, ra_nil ⟨_, rfl, ?_, ?_, ?_⟩⟩⟩
  · split <;> omega
  · split <;> omega
  have hn : (5 + (if ((ns.length : Nat) : Int) < 5 then ((ns.length : Nat) : Int) else 5)).toNat ≤ 10 := by split <;> omega
  generalize (5 + (if ((ns.length : Nat) : Int) < 5 then ((ns.length : Nat) : Int) else 5)).toNat = many at *
  refine ⟨many, _, _, fun i σ' H' => ∃ y3 y4 y5 y6 y7 y8 y9 y10 y11 y12, σ' = [some (.ref sa), some (.ref pa), some (.ref se), y3, y4, y5, y6, y7, y8, y9, y10, y11, y12, none] ∧ ∃ Hd rs, rs.length = i ∧ TI K CP H' Hd pa se cc (cpl * i) rs, walk_range, ⟨_, _, _, _, _, _, _, _, _, _, rfl, _, [], rfl, I0⟩, fun _ _ _ _ _ => trivial, ?_, ?_⟩
  · rintro i x σ' Ha Hb hi ⟨y3, y4, y5, y6, y7, y8, y9, y10, y11, y12, rfl, Hd, rs, hl, I⟩ ⟨rfl, rfl⟩
    have hi' : i < 10 := by omega
    have hb : cpl * i ≤ cpl * 9 := Nat.mul_le_mul_left _ (by omega)
    exact ok_turn5 T hr I (by omega) (by omega) fun H' Hd' r z4 z5 z6 z7 z8 z9 z10 z11 z12 I' => ⟨_, _, _, _, _, _, _, _, _, _, rfl, Hd', rs ++ [r], by rw [List.length_append, hl]; rfl, by rw [Nat.mul_succ]; exact I'⟩
  rintro σ' H3 ⟨y3, y4, y5, y6, y7, y8, y9, y10, y11, y12, rfl, _⟩
  exact ok_last5 T C hr q
end
end Fl
end
section
set_option Elab.async false
set_option linter.all false
set_option maxRecDepth 100000
set_option maxHeartbeats 4000000
namespace Fl
open PySem PySem.Spec PyProof.Rows L2 Fx
open PySem.Calls NdefX _root_.ClX
open Evl (Ex fresh_back)
/-! ### the law called from outside, where repr may be asked for -/
section
variable {P : Program} {w : World} {K : PySem.W.Frag} {mg : Str → Option Value} {base : Heap} {f c : Addr}
theorem mkx_super {CX : CXT} {C f g : Addr} {gd : FuncData} {sp : Sp} {k : Nat} (M : Mk K C f) (gm : mg "BareProgram" = some (.ref C)) (T : SupC P K mg C f g) (F : FnOk P w K mg base CX k g gd ["self", "functions"] sp) (hb : L2.Binds K gd ["self", "functions"] [])
    (hx : ∀ (F0 : NF) (A : Around) (outer : List Env) (s : Shared) (H : Hp) (E : XK), Passes CX (ncx CX P w K mg base ["self", "functions", "__class__"] F0 f A outer s H E) E) : MkX P w K mg base CX (k + 1) "BareProgram" C (sp_sup C sp) := by
  obtain ⟨fd, ⟨oc, od, osl, lk⟩, FO⟩ := ok_super T F hb hx
  refine ⟨gm, f, fd, M, fun s us hk hl => ?_, FO⟩
  obtain ⟨cc, cda, oc', kV, doc, pm, ct, od', an, osl', lk', _⟩ := T.fn
  rw [lk] at lk'
  cases lk'
  match us, hl with
  | [_, _], _ => exact .of_eq rfl
theorem law_fn {CP CB : Addr} {jp : Nat} {A : Around} {outer : List Env} {s : Shared} {H : Hp} {a : Addr} {ns : List Int} {Q : VK} {dV kV doc pm ct oc : Value} {an od : Option Addr} {osl : Array (Option Value)}
    (lk : K.lookup f = some ⟨oc, od, .func (PySem.W.fnOf "law" "law" (defArgs s_law) (defBody s_law) (defScope s_law) dV kV doc pm an (.ref c) ct), osl⟩) (hcd : PySem.W.codeIn K (.ref c) "law" = true)
    (T : LT5 P w K mg base CP CB jp) (C : COf P w K mg base CP) (hr : Room 20 A) (e0 : Env0 P w K mg base A outer s H)
    (hb : BindsTo s (PySem.W.fnOf "law" "law" (defArgs s_law) (defBody s_law) (defScope s_law) dV kV doc pm an (.ref c) ct) ⟨[.ref a], []⟩ [("_law_script", .ref a)])
    (hS : SqL K H a (ns.map V.int)) (h63 : ns.length ≤ 63) (q : ∀ H', Q (.bl true) H') :
    codeAny (model P w) A (Code.call (.ref f) ⟨[.ref a], []⟩) (CR CX0 outer P w H s Q E0) s := by
  have S := sc_l5
  have KX : K.In s.heap := e0.mod.kin.keeps fun b o e => (e0.bs b o e).1
  have lim := e0.mod.nolimit.keeps fun b o e => (e0.bs b o e).1
  have r : Vals [V.ref a] [Value.ref a] := .cons rfl .nil
  refine codeAny_call_function hr.depth (KX f _ lk) rfl S.co S.gen rfl (PySem.W.codeRec_of KX hcd) (hb (model P w) A.in1 _ _ (wpAny_newFunctionEnv_cells S.kind (fun x hx => ?_) fun env he s1 x => ?_))
  · rw [List.mem_singleton.mp hx]
    exact .inl (show List.lookup ("_law_script" : Str) (defScope s_law).names = some NameKind.local by decide +kernel)
  subst he
  refine ⟨lim.keeps x.toInCall.keep, codeAny_func ?_⟩
  have I := inv_start (CX := CX0) (P := P) (w := w) (E := E0) (us := [Value.ref a]) (vs := [V.ref a]) S hr.hd e0 rfl r x
  have body := ok_body5 (f := f) (cdv := .ref c) (outer := outer) (sh := s) (H0 := H) (Q := Q) T C (hr.deeper _) hS q
  have ht : PSs (cxOf CX0 P w K mg base nm_l5 "law" (defScope s_law) f (.ref c) A outer s H E0) (defBody s_law) (RB (l5X P w K mg base f (.ref c) A outer s H E0) (defBody s_law)) := PSs.nox pss_RB
  refine wpAny_mono (ht.run [] s1 (L2.start nm_l5 [V.ref a]) H { nx := fun _ H' => Q .non H', rt := Q } I body) (fun fl s' hs => ?_) (fun e s' hs => hs)
  cases fl with
  | next =>
    obtain ⟨σ', H', J, q⟩ := hs
    exact ⟨.non, H', J.os, J.bare, J.base, J.hok, rfl, q⟩
  | brk => obtain ⟨_, _, _, q⟩ := hs; exact q.elim
  | cont => obtain ⟨_, _, _, q⟩ := hs; exact q.elim
  | ret u =>
    obtain ⟨v, σ', H', J, rv, q⟩ := hs
    exact ⟨v, H', J.os, J.bare, J.base, J.hok, rv, q⟩
theorem law_callG {mb : Str → Option Value} {s₁ : Shared} {fa a : Addr} {vs : List Value} {ns : List Int} (KX : K.In s₁.heap) (hns : s₁.heap.Ns mainGlobals mg) (hb : s₁.heap.Ns builtinsNs mb) (hbb : ∀ x : Str, x ≠ "__name__" → mb x = bootBuiltins x) (hlim : s₁.heap.NoLimit) (hg : s₁.gens = #[])
    (ha : s₁.heap.get? a = some { cls := Value.type "list", data := Data.seq vs.toArray }) (hi : IntsAre vs ns) (h63 : ns.length ≤ 63)
    (run : ∀ (base : Heap) (H : Hp), K.In base → base.Ns mainGlobals mg → Env0 P w K mg base callerA [] s₁ H → SqL K H a (ns.map V.int) →
      codeAny (model P w) callerA (Code.call (.ref fa) ⟨[.ref a], []⟩) (CR CX0 [] P w H s₁ (fun v _ => v = .bl true) E0) s₁) :
    codeAny (model P w) callerA (Code.call (.ref fa) ⟨[.ref a], []⟩) (fun r s' => r = Except.ok (Flow.ret (Value.bool true)) ∧ OldK s₁.heap s'.heap ∧ s'.os = s₁.os ∧ AllBare s'.gens) s₁ := by
  have rv := vals_ints hi
  have lenV := IntsAre.length hi
  -- what is seen of the heap
  have core : ∀ H : Hp, (∀ b, H b = none ∨ (b = a ∧ K.lookup a = none ∧ H b = some (.frz { cls := Value.type "list", data := Data.seq vs.toArray } (.lst (ns.map V.int))))) → SqL K H a (ns.map V.int) → HOk P w H s₁.heap →
      codeAny (model P w) callerA (Code.call (.ref fa) ⟨[.ref a], []⟩) (fun r s' => r = Except.ok (Flow.ret (Value.bool true)) ∧ OldK s₁.heap s'.heap ∧ s'.os = s₁.os ∧ AllBare s'.gens) s₁ := by
    intro H hO hS hok
    have noX : ∀ {b : Addr} {o : Obj}, s₁.heap.get? b = some o → (∀ vs n, o.data ≠ Data.seq vs n) → H b = none := fun {b o} e h1 => by
      rcases hO b with h | ⟨rfl, _, _⟩
      · exact h
      · rw [ha] at e
        cases e
        exact absurd rfl (h1 _ _)
    have up : ∀ {b : Addr} {o : Obj}, s₁.heap.get? b = some o → H b = none → (hidT s₁.heap H).get? b = some o := hidT_get
    have nsK : ∀ {b : Addr} {m : Str → Option Value}, s₁.heap.Ns b m → (hidT s₁.heap H).Ns b m := fun ⟨o, es, ep, h1, h2, h3⟩ => ⟨o, es, ep, up h1 (noX h1 (fun _ _ z => by rw [h2] at z; cases z)), h2, h3⟩
    have hKb : K.In (hidT s₁.heap H) := fun b o e => up (KX b o e) (by
      rcases hO b with h | ⟨rfl, h, _⟩
      · exact h
      · rw [h] at e; cases e)
    have hM : L2.Mod K mg (hidT s₁.heap H) := ⟨hKb, nsK hns, ⟨mb, nsK hb, hbb⟩, let ⟨mc, h1, h2⟩ := hlim; ⟨mc, nsK h1, h2⟩⟩
    have e0 : Env0 P w K mg (hidT s₁.heap H) callerA [] s₁ H := ⟨rfl, hM, fun b o e => of_hidT e, Nat.le_of_eq (hidT_size s₁.heap H), trivial, fun b hb => absurd hb List.not_mem_nil, hok, AllBare.of_eq hg⟩
    refine codeAny_mono (run _ H hKb (nsK hns) e0 hS) fun r s' h => ?_
    cases r with
    | error e => exact h.elim
    | ok fl =>
      cases fl with
      | next => exact h.elim
      | brk => exact h.elim
      | cont => exact h.elim
      | ret u =>
        obtain ⟨v, H', os, bare, un, hok', r', rfl⟩ := h
        obtain rfl : u = Value.bool true := r'
        have key : ∀ (b : Addr) (o : Obj), s₁.heap.get? b = some o → s'.heap.get? b = some o := fun b o e => by
          rcases hO b with h | ⟨rfl, _, h⟩
          · exact un.keep b o e h List.not_mem_nil List.not_mem_nil
          · have g1 := (hok' b _ (un.frzs b _ _ h)).1
            rw [ha] at e
            cases e
            exact g1
        exact ⟨rfl, ⟨fun b o e => .inl (key b o e), fun b o e => ⟨o, key b o e⟩⟩, os, bare⟩
  cases hk : K.lookup a with
  | none =>
    refine core (fun b => if b = a then some (.frz { cls := Value.type "list", data := Data.seq vs.toArray } (.lst (ns.map V.int))) else none) (fun b => ?_) (.inl (.inr ⟨{ cls := Value.type "list", data := Data.seq vs.toArray }, if_pos rfl⟩)) (fun b u z => ?_)
    · by_cases h : b = a
      · exact .inr ⟨h, hk, if_pos h⟩
      · exact .inl (if_neg h)
    · dsimp only at z
      by_cases h : b = a
      · rw [if_pos h] at z
        cases z
        rw [h]
        exact ⟨ha, by rw [List.length_map]; exact Nat.le_trans h63 (by rw [sizeLine_eq]; decide), vs, 0, rv, ha⟩
      · rw [if_neg h] at z; cases z
  | some o =>
    have eo := KX a o hk
    rw [ha] at eo
    cases eo
    refine core (fun _ => none) (fun b => .inl rfl) (.inr ⟨_, vs.toArray, 0, hk, rfl, rfl, rfl, ?_, rv⟩) (fun b u z => nomatch z)
    have : vs.toArray.size = vs.length := by simp
    rw [this, lenV]
    exact Nat.le_trans h63 (by rw [sizeLine_eq]; decide)
end
end Fl
end
section
set_option Elab.async false
set_option linter.all false
set_option maxRecDepth 100000
set_option maxHeartbeats 2000000
namespace Fl
open PySem PySem.Spec PyProof.Rows L2 Fx
open Evl (Ex fresh_back)
/-! ### the module's tables, told by what is written -/
def strsAre : List Value → List Str → Bool
  | [], [] => true
  | .str x _ :: vs, w :: ws => x == w && strsAre vs ws
  | _, _ => false
theorem strsAre_ok : ∀ {vs : List Value} {ws : List Str}, strsAre vs ws = true → Vals (ws.map V.str) vs
  | [], [], _ => .nil
  | [], _ :: _, h => nomatch h
  | v :: vs, [], h => by cases v <;> exact nomatch h
  | v :: vs, w :: ws, h => by
    cases v with
    | str x t =>
      have h : (x == w && strsAre vs ws) = true := h
      rw [Bool.and_eq_true] at h
      have e : x = w := by simpa using h.1
      exact .cons ⟨t, by rw [e]⟩ (strsAre_ok h.2)
    | _ => exact nomatch h
def tupStrs (K : PySem.W.Frag) (b : Addr) (ws : List Str) : Bool := match K.lookup b with
  | some o => (o.cls == Value.type "tuple") && (match o.data with | .seq its _ => decide (its.size ≤ 100) && strsAre its.toList ws | _ => false)
  | none => false
theorem tupStrs_ok {K : PySem.W.Frag} {b : Addr} {ws : List Str} (h : tupStrs K b ws = true) (H : Hp) : SqT K H b (ws.map V.str) := by
  unfold tupStrs at h
  cases hl : K.lookup b with
  | none => rw [hl] at h; exact nomatch h
  | some o =>
    rw [hl] at h
    have h : ((o.cls == Value.type "tuple") && (match o.data with | .seq its _ => decide (its.size ≤ 100) && strsAre its.toList ws | _ => false)) = true := h
    rw [Bool.and_eq_true] at h
    have hc : o.cls = Value.type "tuple" := by simpa using h.1
    cases hd : o.data with
    | seq its n =>
      rw [hd] at h
      have h2 : (decide (its.size ≤ 100) && strsAre its.toList ws) = true := h.2
      rw [Bool.and_eq_true, decide_eq_true_eq] at h2
      exact .inr ⟨o, its, n, hl, hc, hd, Nat.le_trans h2.1 (by rw [sizeLine_eq]; decide), strsAre_ok h2.2⟩
    | _ => rw [hd] at h; exact nomatch h.2
def keysAll (K : PySem.W.Frag) (a : Addr) (ks : List Str) : Bool := match K.lookup a with
  | some o => (match o.data with | .dict es _ => es.toList.all (fun e => match e.key with | .str w _ => ks.contains w | _ => false) | _ => false)
  | none => false
theorem keysAll_ok {K : PySem.W.Frag} {a : Addr} {ks : List Str} {z : Str} (h : keysAll K a ks = true) (hz : z ∉ ks) : PySem.W.nsIn K a z = some none := by
  unfold keysAll at h
  unfold PySem.W.nsIn
  cases hl : K.lookup a with
  | none => rw [hl] at h; exact nomatch h
  | some o =>
    rw [hl] at h
    obtain ⟨oc, od, dt, sl⟩ := o
    cases dt with
    | dict es n =>
      have h : (es.toList.all fun e => match e.key with | .str w _ => ks.contains w | _ => false) = true := h
      rw [List.all_eq_true] at h
      have hf : es.toList.find? (fun x => x.key.isStr z) = none := by
        rw [List.find?_eq_none]
        intro e he
        have := h e he
        cases hk : e.key with
        | str w t =>
          rw [hk] at this
          have hw : w ∈ ks := by simpa using this
          intro hs
          have : w = z := by simpa [Value.isStr] using hs
          exact hz (this ▸ hw)
        | _ => rw [hk] at this; exact nomatch this
      have hr : (es.toList.any fun x => x.refKey) = false := by
        rw [List.any_eq_false]
        intro e he
        have := h e he
        cases hk : e.key with
        | str w t => simp [DictEntry.refKey, hk]
        | _ => rw [hk] at this; exact nomatch this
      show (match es.toList.find? (fun x => x.key.isStr z) with
        | some e => some (some e.val)
        | none => if (es.toList.any fun x => x.refKey) = true then none else some none) = some none
      rw [hf, hr]
      rfl
    | _ => exact nomatch h
def formsOk (K : PySem.W.Frag) (a : Addr) : Bool := keysAll K a (forms.map (·.1)) && forms.all fun e => match PySem.W.nsIn K a e.1 with
  | some (some (.ref b)) => tupStrs K b e.2
  | _ => false
def sizesOk (K : PySem.W.Frag) (a : Addr) : Bool := keysAll K a (sizes.map (·.1)) && sizes.all fun e => match PySem.W.nsIn K a e.1 with
  | some (some (.int i _)) => i == e.2
  | _ => false
theorem lookup_memG {β : Type} {k : Str} {v : β} : ∀ {l : List (Str × β)}, l.lookup k = some v → (k, v) ∈ l
  | [], h => nomatch h
  | (k', v') :: r, h => by
    rw [List.lookup_cons] at h
    by_cases e : k = k'
    · subst e
      rw [beq_self_eq_true] at h
      cases h
      exact List.mem_cons_self
    · rw [beq_eq_false_iff_ne.mpr e] at h
      exact List.mem_cons_of_mem _ (lookup_memG h)
section
variable {P : Program} {w : World} {K : PySem.W.Frag} {mg : Str → Option Value} {h base : Heap}
theorem frm_mk {a : Addr} {es : Array DictEntry} {n : Nat} (X : K.In h) (G : h.Ns mainGlobals mg) (ha : PySem.W.nsIn K mainGlobals "FORMS" = some (some (.ref a))) (l : K.lookup a = some { cls := Value.type "dict", data := Data.dict es n }) (k : PySem.W.KeysLit w.params es.toList) (lo : (a == sysModules) = false) (ok : formsOk K a = true) : Frm K w mg := by
  unfold formsOk at ok
  rw [Bool.and_eq_true, List.all_eq_true] at ok
  refine ⟨a, es, n, PySem.W.mg_of X G ha, ⟨l, k, lo⟩, fun z => ?_⟩
  cases hz : forms.lookup z with
  | none => exact keysAll_ok ok.1 (lookup_none.mp hz)
  | some kinds =>
    have := ok.2 _ (lookup_memG hz)
    have this : (match PySem.W.nsIn K a z with | some (some (.ref b)) => tupStrs K b kinds | _ => false) = true := this
    show ∃ b, PySem.W.nsIn K a z = some (some (.ref b)) ∧ ∀ H, SqT K H b (kinds.map V.str)
    split at this
    · rename_i b hb
      exact ⟨b, hb, tupStrs_ok this⟩
    · exact nomatch this
theorem sizes_mk {a : Addr} {es : Array DictEntry} {n : Nat} (X : K.In h) (G : h.Ns mainGlobals mg) (ha : PySem.W.nsIn K mainGlobals "SIZES" = some (some (.ref a))) (l : K.lookup a = some { cls := Value.type "dict", data := Data.dict es n }) (k : PySem.W.KeysLit w.params es.toList) (lo : (a == sysModules) = false) (ok : sizesOk K a = true) :
    ∃ a es n, mg "SIZES" = some (.ref a) ∧ KDict K w a es n ∧ ∀ z : Str, ∃ r, PySem.W.nsIn K a z = some r ∧ match sizes.lookup z with | some i => ∃ t, r = some (.int i t) | none => r = none := by
  unfold sizesOk at ok
  rw [Bool.and_eq_true, List.all_eq_true] at ok
  refine ⟨a, es, n, PySem.W.mg_of X G ha, ⟨l, k, lo⟩, fun z => ?_⟩
  cases hz : sizes.lookup z with
  | none => exact ⟨none, keysAll_ok ok.1 (lookup_none.mp hz), rfl⟩
  | some i =>
    have := ok.2 _ (lookup_memG hz)
    have this : (match PySem.W.nsIn K a z with | some (some (.int j _)) => j == i | _ => false) = true := this
    split at this
    · rename_i j t hb
      have e : j = i := by simpa using this
      exact ⟨_, hb, t, by rw [e]⟩
    · exact nomatch this
theorem tup_mk {x : Str} {a : Addr} {ws : List Str} (X : K.In h) (G : h.Ns mainGlobals mg) (ha : PySem.W.nsIn K mainGlobals x = some (some (.ref a))) (ok : tupStrs K a ws = true) : ∃ a, mg x = some (.ref a) ∧ ∀ H, SqT K H a (ws.map V.str) := ⟨a, PySem.W.mg_of X G ha, tupStrs_ok ok⟩
theorem int_mk {x : Str} {i : Int} {t : Tok} (X : K.In h) (G : h.Ns mainGlobals mg) (ha : PySem.W.nsIn K mainGlobals x = some (some (.int i t))) : ∃ t, mg x = some (.int i t) := ⟨t, PySem.W.mg_of X G ha⟩
/-- a def of the module: where it stands -/
def GD (K : PySem.W.Frag) (mg : Str → Option Value) (x : Str) (st : Stmt) : Prop := ∃ f fd, mg x = some (.ref f) ∧ Fun K x x st f fd
theorem gd_mk {x : Str} {st : Stmt} {f : Addr} {oc : Value} {od an : Option Addr} {osl : Array (Option Value)} {kV doc pm cdv ct : Value} (X : K.In h) (G : h.Ns mainGlobals mg) (a : PySem.W.nsIn K mainGlobals x = some (some (.ref f)))
    (l : K.lookup f = some { cls := oc, dict := od, data := Data.func (PySem.W.fnOf x x (defArgs st) (defBody st) (defScope st) Value.none kV doc pm an cdv ct), slots := osl }) (c : PySem.W.codeIn K cdv x = true) (k : PySem.W.keepIn K (.ref f) = true) : GD K mg x st := ⟨f, _, PySem.W.mg_of X G a, fun_mk l c k⟩
theorem GD.cl {x : Str} {st : Stmt} {ps : List Str} {CX : CXT} {k : Nat} {sp : Sp} (g : GD K mg x st) (ok : ∀ f fd, Fun K x x st f fd → FnOk P w K mg base CX k f fd ps sp)
    (hb : ∀ (kV doc pm : Value) (an : Option Addr) (cdv ct : Value) (us : List Value), us.length = ps.length → bindArgs (PySem.W.fnOf x x (defArgs st) (defBody st) (defScope st) Value.none kV doc pm an cdv ct) { pos := us } = pure (ps.zip us)) : Cl P w K mg base CX k x sp := by
  obtain ⟨f, fd, hm, F⟩ := g
  exact ⟨f, fd, ps, hm, F.kp, F.binds hb, ok f fd F⟩
end
end Fl
end
section
set_option Elab.async false
set_option linter.all false
set_option maxRecDepth 100000
set_option maxHeartbeats 4000000
namespace Fl
open PySem PySem.Spec PyProof.Rows L2 Fx
open Evl (Ex fresh_back)
theorem Cl.up {P : Program} {w : World} {K : PySem.W.Frag} {mg : Str → Option Value} {base : Heap} {CX : CXT} {k j : Nat} {x : Str} {sp : Sp} (c : Cl P w K mg base CX k x sp) (h : k ≤ j) : Cl P w K mg base CX j x sp := by
  obtain ⟨f, fd, ps, h1, h2, h3, F⟩ := c.ex
  exact ⟨f, fd, ps, h1, h2, h3, F.mono h⟩
/-- all defs of the row but law, where they stand -/
structure AllD (K : PySem.W.Frag) (mg : Str → Option Value) : Prop where
  g_is_int : GD K mg "is_int" s_is_int
  g_is_number : GD K mg "is_number" s_is_number
  g_is_word : GD K mg "is_word" s_is_word
  g_is_list : GD K mg "is_list" s_is_list
  g_is_filled_list : GD K mg "is_filled_list" s_is_filled_list
  g__fits : GD K mg "_fits" s_fits
  g_is_line : GD K mg "is_line" s_is_line
  g_named_function : GD K mg "named_function" s_named_function
  g_named_label : GD K mg "named_label" s_named_label
  g_marks_of : GD K mg "marks_of" s_marks_of
  g__leads : GD K mg "_leads" s_leads
  g_reached_ways : GD K mg "reached_ways" s_reached_ways
  g__entry_of : GD K mg "_entry_of" s_entry_of
  g__has_value : GD K mg "_has_value" s_has_value
  g__row_behind : GD K mg "_row_behind" s_row_behind
  g_rows_of : GD K mg "rows_of" s_rows_of
  g__own_behind : GD K mg "_own_behind" s_own_behind
  g_own_indexes : GD K mg "own_indexes" s_own_indexes
  g__needs_own : GD K mg "_needs_own" s_needs_own
  g_is_tidy : GD K mg "is_tidy" s_is_tidy
  g__names_are_there : GD K mg "_names_are_there" s_names_are_there
  g__first_wrong : GD K mg "_first_wrong" s_first_wrong
  g__are_functions : GD K mg "_are_functions" s_are_functions
  g__check_lengths : GD K mg "_check_lengths" s_check_lengths
  g_check_functions : GD K mg "check_functions" s_check_functions
  g__law_pen : GD K mg "_law_pen" s_pen
  g__law_draw : GD K mg "_law_draw" s_draw
  g__law_pick : GD K mg "_law_pick" s_pick
  g__law_words : GD K mg "_law_words" s_words
  g__law_number : GD K mg "_law_number" s_number
  g__law_plain_line : GD K mg "_law_plain_line" s_plain_line
  g__law_called : GD K mg "_law_called" s_called
  g__law_call : GD K mg "_law_call" s_lcall
  g__law_item : GD K mg "_law_item" s_item
  g__law_items : GD K mg "_law_items" s_items
  g__law_lines : GD K mg "_law_lines" s_lines
  g__law_plain : GD K mg "_law_plain" s_plain
  g_line_text : GD K mg "line_text" s_line_text
  g__function_text : GD K mg "_function_text" s_u_function_text
  g_text_of : GD K mg "text_of" s_text_of
  g_part_of : GD K mg "part_of" s_part_of
  g_line_of : GD K mg "line_of" s_line_of
  g__is_head : GD K mg "_is_head" s_u_is_head
  g_functions_of : GD K mg "functions_of" s_functions_of
  g__law_text : GD K mg "_law_text" s_l_text
  g__law_bare_lines : GD K mg "_law_bare_lines" s_l_bare_lines
/-- the classes, where they stand -/
structure AllC (P : Program) (K : PySem.W.Frag) (mg : Str → Option Value) (CP CB : Addr) : Prop where
  gmP : mg "Program" = some (.ref CP)
  gmB : mg "BareProgram" = some (.ref CB)
  pcP : PCb K CP false
  pcB : PCb K CB true
  initP : ∃ f fd, Mk K CP f ∧ Fun K "__init__" "Program.__init__" s_init f fd
  initB : ∃ f g gd, Mk K CB f ∧ SupC P K mg CB f g ∧ Fun K "__init__" "Program.__init__" s_init g gd
  keepP : ∃ f fd, Meth K CP "_keep" f ∧ Fun K "_keep" "Program._keep" s_keep f fd
  keepB : ∃ f fd, Meth K CB "_keep" f ∧ Fun K "_keep" "Program._keep" s_keep f fd
  textP : ∃ pr g fd, PropOf K CP "text" pr g ∧ Fun K "text" "Program.text" s_program_text g fd
  textB : ∃ pr g fd, PropOf K CB "text" pr g ∧ Fun K "text" "Program.text" s_program_text g fd
  isP : ClsI K CP
  isB : ClsI K CB
  nmP : NameOf K CP "Program"
  nmB : NameOf K CB "BareProgram"
  kPP : PySem.W.kitOne K (.ref CP) (.ref CP) = some true
  kBP : PySem.W.kitOne K (.ref CB) (.ref CP) = some true
  kPB : PySem.W.kitOne K (.ref CP) (.ref CB) = some false
  kBB : PySem.W.kitOne K (.ref CB) (.ref CB) = some true
  sPB : PySem.W.subIn K (.ref CP) (.ref CB) = some false
  eqP : ∃ f fd, Meth K CP "__eq__" f ∧ Fun K "__eq__" "Program.__eq__" s_eq f fd
  eqB : ∃ f fd, Meth K CB "__eq__" f ∧ Fun K "__eq__" "Program.__eq__" s_eq f fd
  neP : PySem.W.findIn K (.ref CP) "__ne__" = some (some (.builtin "object.__ne__"))
  neB : PySem.W.findIn K (.ref CB) "__ne__" = some (some (.builtin "object.__ne__"))
  obP : PySem.W.subIn K (.ref CP) (.type "object") = some true
  obB : PySem.W.subIn K (.ref CB) (.type "object") = some true
  rdP : ∃ mc p g fd, ClX.CRead K CP mc ∧ ClX.CMet K CP mc "read" p g ∧ Fun K "read" "Program.read" s_program_read g fd
  rdB : ∃ mc p g fd, ClX.CRead K CB mc ∧ ClX.CMet K CB mc "read" p g ∧ Fun K "read" "Program.read" s_program_read g fd
  cof : ∃ mc p g fd, ClX.CRead K CP mc ∧ ClX.CMet K CP mc "of" p g ∧ Fun K "of" "Program.of" s_of g fd
section
variable {P : Program} {w : World} {K : PySem.W.Frag} {mg : Str → Option Value} {base : Heap} {CP CB : Addr}
theorem lt_mk (A : AllD K mg) (B : AllC P K mg CP CB) (G : Gb mg) (G2 : Gb2 mg) (GM : Gm mg) (Fm : Frm K w mg) (F2 : Frm2 K w mg) : LT5 P w K mg base CP CB 12 ∧ COf P w K mg base CP := by
  have c_is_int : Cl P w K mg base CX0 1 "is_int" (sp_is_int K) := A.g_is_int.cl (ps := ["value"]) (fun f fd F => ok_is_int F G) (fun _ _ _ _ _ _ us hl => match us, hl with | [_], _ => rfl)
  have c_is_number : Cl P w K mg base CX0 2 "is_number" (sp_is_number K) := A.g_is_number.cl (ps := ["value"]) (fun f fd F => ok_is_number F G c_is_int) (fun _ _ _ _ _ _ us hl => match us, hl with | [_], _ => rfl)
  have c_is_word : Cl P w K mg base CX0 1 "is_word" (sp_is_word K) := A.g_is_word.cl (ps := ["value"]) (fun f fd F => ok_is_word F G) (fun _ _ _ _ _ _ us hl => match us, hl with | [_], _ => rfl)
  have c_is_list : Cl P w K mg base CX0 1 "is_list" (sp_is_list K) := A.g_is_list.cl (ps := ["value"]) (fun f fd F => ok_is_list F G) (fun _ _ _ _ _ _ us hl => match us, hl with | [_], _ => rfl)
  have c_is_filled_list : Cl P w K mg base CX0 2 "is_filled_list" (sp_is_filled_list K) := A.g_is_filled_list.cl (ps := ["value"]) (fun f fd F => ok_is_filled_list F G c_is_list) (fun _ _ _ _ _ _ us hl => match us, hl with | [_], _ => rfl)
  have c__fits : Cl P w K mg base CX0 3 "_fits" (sp_fits K) := A.g__fits.cl (ps := ["kind", "part"]) (fun f fd F => ok_fits F G c_is_word c_is_number c_is_int) (fun _ _ _ _ _ _ us hl => match us, hl with | [_, _], _ => rfl)
  have c_is_line : Cl P w K mg base CX0 4 "is_line" (sp_is_line K) := A.g_is_line.cl (ps := ["value"]) (fun f fd F => ok_is_line F G Fm c__fits) (fun _ _ _ _ _ _ us hl => match us, hl with | [_], _ => rfl)
  have c_named_function : Cl P w K mg base CX0 1 "named_function" (sp_named_function K) := A.g_named_function.cl (ps := ["line"]) (fun f fd F => ok_named_function F ) (fun _ _ _ _ _ _ us hl => match us, hl with | [_], _ => rfl)
  have c_named_label : Cl P w K mg base CX0 1 "named_label" (sp_named_label K) := A.g_named_label.cl (ps := ["line"]) (fun f fd F => ok_named_label F F2) (fun _ _ _ _ _ _ us hl => match us, hl with | [_], _ => rfl)
  have c_marks_of : Cl P w K mg base CX0 1 "marks_of" (sp_marks_of K) := A.g_marks_of.cl (ps := ["lines"]) (fun f fd F => ok_marks_of F G) (fun _ _ _ _ _ _ us hl => match us, hl with | [_], _ => rfl)
  have c__leads : Cl P w K mg base CX0 1 "_leads" (sp_leads K) := A.g__leads.cl (ps := ["lines", "at", "marks"]) (fun f fd F => ok_leads F G) (fun _ _ _ _ _ _ us hl => match us, hl with | [_, _, _], _ => rfl)
  have c_reached_ways : Cl P w K mg base CX0 2 "reached_ways" (sp_reached_ways K) := A.g_reached_ways.cl (ps := ["lines"]) (fun f fd F => ok_reached_ways F G c_marks_of c__leads) (fun _ _ _ _ _ _ us hl => match us, hl with | [_], _ => rfl)
  have c__entry_of : Cl P w K mg base CX0 1 "_entry_of" (sp_entry_of K) := A.g__entry_of.cl (ps := ["line"]) (fun f fd F => ok_entry_of F ) (fun _ _ _ _ _ _ us hl => match us, hl with | [_], _ => rfl)
  have c__has_value : Cl P w K mg base CX0 1 "_has_value" (sp_has_value K) := A.g__has_value.cl (ps := ["row", "k"]) (fun f fd F => ok_has_value F G) (fun _ _ _ _ _ _ us hl => match us, hl with | [_, _], _ => rfl)
  have c__row_behind : Cl P w K mg base CX0 2 "_row_behind" (sp_row_behind K) := A.g__row_behind.cl (ps := ["line", "row"]) (fun f fd F => ok_row_behind F G c__entry_of c__has_value) (fun _ _ _ _ _ _ us hl => match us, hl with | [_, _], _ => rfl)
  have c_rows_of : Cl P w K mg base CX0 3 "rows_of" (sp_rows_of K) := A.g_rows_of.cl (ps := ["lines", "ways"]) (fun f fd F => ok_rows_of F G c__row_behind) (fun _ _ _ _ _ _ us hl => match us, hl with | [_, _], _ => rfl)
  have c__own_behind : Cl P w K mg base CX0 1 "_own_behind" (sp_own_behind K) := A.g__own_behind.cl (ps := ["line", "own"]) (fun f fd F => ok_own_behind F F2) (fun _ _ _ _ _ _ us hl => match us, hl with | [_, _], _ => rfl)
  have c_own_indexes : Cl P w K mg base CX0 2 "own_indexes" (sp_own_indexes K) := A.g_own_indexes.cl (ps := ["lines", "ways"]) (fun f fd F => ok_own_indexes F G c__own_behind) (fun _ _ _ _ _ _ us hl => match us, hl with | [_, _], _ => rfl)
  have c__needs_own : Cl P w K mg base CX0 1 "_needs_own" (sp_needs_own K) := A.g__needs_own.cl (ps := ["line"]) (fun f fd F => ok_needs_own F ) (fun _ _ _ _ _ _ us hl => match us, hl with | [_], _ => rfl)
  have c_is_tidy : Cl P w K mg base CX0 4 "is_tidy" (sp_is_tidy K) := A.g_is_tidy.cl (ps := ["lines", "bare"]) (fun f fd F => ok_is_tidy F G F2 c_reached_ways c_rows_of c_own_indexes c__needs_own) (fun _ _ _ _ _ _ us hl => match us, hl with | [_, _], _ => rfl)
  have c__names_are_there : Cl P w K mg base CX0 2 "_names_are_there" (sp_there K) := A.g__names_are_there.cl (ps := ["line", "labels", "functions"]) (fun f fd F => ok_there F c_named_label c_named_function) (fun _ _ _ _ _ _ us hl => match us, hl with | [_, _, _], _ => rfl)
  have c__first_wrong : Cl P w K mg base CX0 5 "_first_wrong" (sp_first_wrong K) := A.g__first_wrong.cl (ps := ["lines", "functions", "bare"]) (fun f fd F => ok_first_wrong F G F2 c_marks_of c_is_line c__names_are_there) (fun _ _ _ _ _ _ us hl => match us, hl with | [_, _, _], _ => rfl)
  have c__are_functions : Cl P w K mg base CX0 3 "_are_functions" (sp_are_functions K) := A.g__are_functions.cl (ps := ["value"]) (fun f fd F => ok_are_functions F G c_is_word c_is_filled_list) (fun _ _ _ _ _ _ us hl => match us, hl with | [_], _ => rfl)
  have c__check_lengths : Cl P w K mg base CX0 1 "_check_lengths" (sp_check_lengths K) := A.g__check_lengths.cl (ps := ["functions"]) (fun f fd F => ok_check_lengths F G) (fun _ _ _ _ _ _ us hl => match us, hl with | [_], _ => rfl)
  have c_check_functions : Cl P w K mg base CX0 6 "check_functions" (sp_checkB K) := A.g_check_functions.cl (ps := ["functions", "bare"]) (fun f fd F => ok_checkB F G c__are_functions c__first_wrong c__check_lengths c_is_tidy) (fun _ _ _ _ _ _ us hl => match us, hl with | [_, _], _ => rfl)
  have c__law_pen : Cl P w K mg base CX0 1 "_law_pen" (sp_pen K) := A.g__law_pen.cl (ps := ["_law_script"]) (fun f fd F => ok_pen F G) (fun _ _ _ _ _ _ us hl => match us, hl with | [_], _ => rfl)
  have c__law_draw : Cl P w K mg base CX0 1 "_law_draw" (sp_draw K) := A.g__law_draw.cl (ps := ["_law_pen_here", "_law_many"]) (fun f fd F => ok_draw F G G2) (fun _ _ _ _ _ _ us hl => match us, hl with | [_, _], _ => rfl)
  have c__law_pick : Cl P w K mg base CX0 2 "_law_pick" (sp_pick K) := A.g__law_pick.cl (ps := ["_law_pen_here", "_law_options"]) (fun f fd F => ok_pick F G c__law_draw) (fun _ _ _ _ _ _ us hl => match us, hl with | [_, _], _ => rfl)
  have c_pickS : Cl P w K mg base CX0 2 "_law_pick" (sp_pickS K) := A.g__law_pick.cl (ps := ["_law_pen_here", "_law_options"]) (fun f fd F => ok_pickS F G c__law_draw) (fun _ _ _ _ _ _ us hl => match us, hl with | [_, _], _ => rfl)
  have c__law_words : Cl P w K mg base CX0 3 "_law_words" (sp_words K) := A.g__law_words.cl (ps := ["_law_pen_here", "_law_many"]) (fun f fd F => ok_words F G G2 c__law_draw c__law_pick c_pickS) (fun _ _ _ _ _ _ us hl => match us, hl with | [_, _], _ => rfl)
  have c__law_number : Cl P w K mg base CX0 3 "_law_number" (sp_number K) := A.g__law_number.cl (ps := ["_law_pen_here"]) (fun f fd F => ok_number F G c__law_draw c__law_pick) (fun _ _ _ _ _ _ us hl => match us, hl with | [_], _ => rfl)
  have c__law_plain_line : Cl P w K mg base CX0 4 "_law_plain_line" (sp_pline K) := A.g__law_plain_line.cl (ps := ["_law_pen_here", "_law_world"]) (fun f fd F => ok_pline F G c__law_draw c__law_pick c__law_number) (fun _ _ _ _ _ _ us hl => match us, hl with | [_, _], _ => rfl)
  have c__law_called : Cl P w K mg base CX0 3 "_law_called" (sp_called K) := A.g__law_called.cl (ps := ["_law_pen_here", "_law_world"]) (fun f fd F => ok_called F G c__law_draw c__law_pick) (fun _ _ _ _ _ _ us hl => match us, hl with | [_, _], _ => rfl)
  have c__law_call : Cl P w K mg base CX0 4 "_law_call" (sp_lcall K) := A.g__law_call.cl (ps := ["_law_pen_here", "_law_world"]) (fun f fd F => ok_lcall F G c__law_draw c__law_pick c__law_called) (fun _ _ _ _ _ _ us hl => match us, hl with | [_, _], _ => rfl)
  have c_item0 : Cl P w K mg base CX0 5 "_law_item" (sp_item K 0) := A.g__law_item.cl (ps := ["_law_pen_here", "_law_world", "_law_deep"]) (fun f fd F => ok_item F G G2 c__law_draw c__law_pick c__law_plain_line c__law_call (fun d' h => nomatch h) (Nat.le_refl 4) (by decide)) (fun _ _ _ _ _ _ us hl => match us, hl with | [_, _, _], _ => rfl)
  have c_items0 : Cl P w K mg base CX0 6 "_law_items" (sp_items K 0) := A.g__law_items.cl (ps := ["_law_pen_here", "_law_world", "_law_many", "_law_deep"]) (fun f fd F => ok_items F G2 c__law_draw c_item0 (by decide) (by decide)) (fun _ _ _ _ _ _ us hl => match us, hl with | [_, _, _, _], _ => rfl)
  have c_item1 : Cl P w K mg base CX0 7 "_law_item" (sp_item K 1) := A.g__law_item.cl (ps := ["_law_pen_here", "_law_world", "_law_deep"]) (fun f fd F => ok_item F G G2 c__law_draw c__law_pick c__law_plain_line c__law_call (fun d' h => by cases h; exact c_items0) (by decide) (by decide)) (fun _ _ _ _ _ _ us hl => match us, hl with | [_, _, _], _ => rfl)
  have c_items1 : Cl P w K mg base CX0 8 "_law_items" (sp_items K 1) := A.g__law_items.cl (ps := ["_law_pen_here", "_law_world", "_law_many", "_law_deep"]) (fun f fd F => ok_items F G2 c__law_draw c_item1 (by decide) (by decide)) (fun _ _ _ _ _ _ us hl => match us, hl with | [_, _, _, _], _ => rfl)
  have c_item2 : Cl P w K mg base CX0 9 "_law_item" (sp_item K 2) := A.g__law_item.cl (ps := ["_law_pen_here", "_law_world", "_law_deep"]) (fun f fd F => ok_item F G G2 c__law_draw c__law_pick c__law_plain_line c__law_call (fun d' h => by cases h; exact c_items1) (by decide) (by decide)) (fun _ _ _ _ _ _ us hl => match us, hl with | [_, _, _], _ => rfl)
  have c_items2 : Cl P w K mg base CX0 10 "_law_items" (sp_items K 2) := A.g__law_items.cl (ps := ["_law_pen_here", "_law_world", "_law_many", "_law_deep"]) (fun f fd F => ok_items F G2 c__law_draw c_item2 (by decide) (by decide)) (fun _ _ _ _ _ _ us hl => match us, hl with | [_, _, _, _], _ => rfl)
  have c__law_lines : Cl P w K mg base CX0 11 "_law_lines" (sp_lines K) := A.g__law_lines.cl (ps := ["_law_pen_here", "_law_world"]) (fun f fd F => ok_lines F G c__law_draw c__law_pick c__law_called (c_items0.up (by decide)) (c_items1.up (by decide)) c_items2 (by decide)) (fun _ _ _ _ _ _ us hl => match us, hl with | [_, _], _ => rfl)
  have c__law_plain : Cl P w K mg base CX0 12 "_law_plain" (sp_plain K) := A.g__law_plain.cl (ps := ["_law_pen_here", "_law_many"]) (fun f fd F => ok_plain F G G2 c__law_draw c__law_pick c__law_words c__law_plain_line c__law_lines (by decide)) (fun _ _ _ _ _ _ us hl => match us, hl with | [_, _], _ => rfl)
  have c_line_text : Cl P w K mg base CX0 1 "line_text" (sp_line_text K) := A.g_line_text.cl (ps := ["line"]) (fun f fd F => ok_line_text F G) (fun _ _ _ _ _ _ us hl => match us, hl with | [_], _ => rfl)
  have c__function_text : Cl P w K mg base CX0 2 "_function_text" (sp_ftext K) := A.g__function_text.cl (ps := ["name", "lines"]) (fun f fd F => ok_ftext F G c_line_text) (fun _ _ _ _ _ _ us hl => match us, hl with | [_, _], _ => rfl)
  have c_text_of : Cl P w K mg base CX0 3 "text_of" (sp_text_of K) := A.g_text_of.cl (ps := ["functions"]) (fun f fd F => ok_text_of F G c__function_text) (fun _ _ _ _ _ _ us hl => match us, hl with | [_], _ => rfl)
  have c_part_of : Cl P w K mg base CX0 1 "part_of" (sp_part_of) := A.g_part_of.cl (ps := ["part"]) (fun f fd F => ok_part_of F G GM) (fun _ _ _ _ _ _ us hl => match us, hl with | [_], _ => rfl)
  have c_line_of : Cl P w K mg base CX0 2 "line_of" (sp_line_of) := A.g_line_of.cl (ps := ["row"]) (fun f fd F => ok_line_of F G c_part_of) (fun _ _ _ _ _ _ us hl => match us, hl with | [_], _ => rfl)
  have c__is_head : Cl P w K mg base CX0 2 "_is_head" (sp_is_head) := A.g__is_head.cl (ps := ["row", "last"]) (fun f fd F => ok_is_head F G c_is_word) (fun _ _ _ _ _ _ us hl => match us, hl with | [_, _], _ => rfl)
  have c_functions_of : Cl P w K mg base CX0 5 "functions_of" (sp_functions_of K) := A.g_functions_of.cl (ps := ["text"]) (fun f fd F => ok_functions_of F G c_line_of c__is_head c_is_line) (fun _ _ _ _ _ _ us hl => match us, hl with | [_], _ => rfl)
  have c__law_text : Cl P w K mg base CX0 1 "_law_text" (sp_ltext K) := A.g__law_text.cl (ps := ["_law_plain_here"]) (fun f fd F => ok_ltext F G) (fun _ _ _ _ _ _ us hl => match us, hl with | [_], _ => rfl)
  have c__law_bare_lines : Cl P w K mg base CX0 1 "_law_bare_lines" (sp_blines K) := A.g__law_bare_lines.cl (ps := ["_law_lines_here"]) (fun f fd F => ok_blines F ) (fun _ _ _ _ _ _ us hl => match us, hl with | [_], _ => rfl)
  obtain ⟨fk, fdk, mk, Fk⟩ := B.keepP
  have mP : Mt P w K mg base CX0 1 CP "_keep" ["self", "functions"] (sp_keepB K CP) := ⟨fk, fdk, mk, Fk.binds (fun _ _ _ _ _ _ us hl => match us, hl with | [_, _], _ => rfl), ok_keepB Fk G B.pcP⟩
  obtain ⟨fk2, fdk2, mk2, Fk2⟩ := B.keepB
  have mB : Mt P w K mg base CX0 1 CB "_keep" ["self", "functions"] (sp_keepB K CB) := ⟨fk2, fdk2, mk2, Fk2.binds (fun _ _ _ _ _ _ us hl => match us, hl with | [_, _], _ => rfl), ok_keepB Fk2 G B.pcB⟩
  obtain ⟨fp, fdp, Mp, Fp⟩ := B.initP
  have MP : MkO P w K mg base 7 "Program" CP ["self", "functions"] (sp_initB K CP false) := ⟨B.gmP, fp, fdp, Mp, Fp.binds (fun _ _ _ _ _ _ us hl => match us, hl with | [_, _], _ => rfl), ok_initB Fp B.pcP c_check_functions mP⟩
  obtain ⟨fB, gB, gdB, MkB, SB, FB⟩ := B.initB
  have bB : L2.Binds K gdB ["self", "functions"] [] := FB.binds (fun _ _ _ _ _ _ us hl => match us, hl with | [_, _], _ => rfl)
  have MB : MkX P w K mg base CX0 8 "BareProgram" CB (sp_sup CB (sp_initB K CB true)) := mkx_super MkB B.gmB SB (ok_initB FB B.pcB c_check_functions mB) bB (fun _ _ _ _ _ _ => fun _ _ _ _ _ _ _ h => h.elim)
  obtain ⟨pr1, q1, fq1, r1, Fq1⟩ := B.textP
  have txP : Prp P w K mg base 4 CP "text" (sp_ptext K CP) := ⟨pr1, q1, fq1, r1, Fq1.binds (fun _ _ _ _ _ _ us hl => match us, hl with | [_], _ => rfl), ok_ptext Fq1 B.pcP c_text_of⟩
  obtain ⟨pr2, q2, fq2, r2, Fq2⟩ := B.textB
  have txB : Prp P w K mg base 4 CB "text" (sp_ptext K CB) := ⟨pr2, q2, fq2, r2, Fq2.binds (fun _ _ _ _ _ _ us hl => match us, hl with | [_], _ => rfl), ok_ptext Fq2 B.pcB c_text_of⟩
  have nP : PN K CP CP "Program" := ⟨B.pcP.cls, B.pcP.nF, B.isP, B.nmP, B.kPP⟩
  have nB : PN K CP CB "BareProgram" := ⟨B.pcB.cls, B.pcB.nF, B.isB, B.nmB, B.kBP⟩
  obtain ⟨fe, fde, me, Fe⟩ := B.eqP
  have qP : EqC P w K mg base CP CP := ⟨⟨fe, fde, me, Fe.binds (fun _ _ _ _ _ _ us hl => match us, hl with | [_, _], _ => rfl), ok_eq Fe G B.gmP⟩, B.neP, B.obP⟩
  obtain ⟨fe2, fde2, me2, Fe2⟩ := B.eqB
  have qB : EqC P w K mg base CP CB := ⟨⟨fe2, fde2, me2, Fe2.binds (fun _ _ _ _ _ _ us hl => match us, hl with | [_, _], _ => rfl), ok_eq Fe2 G B.gmP⟩, B.neB, B.obB⟩
  obtain ⟨g0, gd0, MR0⟩ := mkr_prog MP
  obtain ⟨g1, gd1, MR1⟩ := mkr_bare MB
  obtain ⟨mcP, pP, gP, fdP, a1, a2, FP⟩ := B.rdP
  have kb : KBn K fdP nm_rd 1 ["text"] (fun us ws => us ++ ws) (fun vs zs => vs ++ zs) := by
    obtain ⟨oc, od, kV, doc, pm, an, cdv, ct, osl, rfl, lk, hcd⟩ := FP.ex
    refine ⟨fun s us ws _ l1 l2 => ?_, fun r1 r2 => r1.append r2⟩
    match us, ws, l1, l2 with
    | [_], [_], _, _ => exact .of_eq rfl
  obtain ⟨mcB, pB, gB2, fdB, b1, b2, FB2⟩ := B.rdB
  obtain ⟨mcO, pO, gO, fdO, d1, d2, FO⟩ := B.cof
  exact ⟨⟨G, G2, by decide, c__law_pen, c__law_plain, c__law_text, c__law_bare_lines, MP, MB, txP, txB, nP, nB, B.kPB, B.kBB, B.sPB, qP, qB,
    ⟨mcP, pP, gP, fdP, a1, a2, FP.binds (fun _ _ _ _ _ _ us hl => match us, hl with | [_, _], _ => rfl), kb, (ok_read FP (by decide) MR0 c_functions_of).mono (by decide)⟩,
    ⟨mcB, pB, gB2, fdB, b1, b2, FB2.binds (fun _ _ _ _ _ _ us hl => match us, hl with | [_, _], _ => rfl), (ok_read FB2 (by decide) MR1 c_functions_of).mono (by decide)⟩⟩, ⟨mcO, pO, gO, d1, d2, ok_ofB FO MP⟩⟩
end
end Fl
end
section
set_option Elab.async false
set_option linter.all false
set_option maxRecDepth 100000
set_option maxHeartbeats 2000000
namespace Fl
open PySem PySem.Spec PyProof.Rows L2 Fx
open Evl (Ex fresh_back)
section
variable {K : PySem.W.Frag} {w : World} {mg : Str → Option Value} {h : Heap}
theorem cls_some {K : PySem.W.Frag} {S : Addr} (h : PySem.W.isClsIn K S = true) : ∃ cd, PySem.W.clsIn K S = some cd := by
  have h' : (PySem.W.clsIn K S).isSome = true := h
  exact Option.isSome_iff_exists.mp h'
theorem supC_mk {P : Program} {C CP f g cc cda : Addr} {oc : Value} {od : Option Addr} {fd : FuncData} {osl : Array (Option Value)} {kV doc pm ct : Value} {an : Option Addr} {ccl : Value} {cdd : Option Addr} {vs : Array Value} {ccs : Array (Option Value)} {file : Str} {tf : Tok} {cl : Value} {cld : Option Addr} {csl : Array (Option Value)}
    (lf : K.lookup f = some ⟨oc, od, .func fd, osl⟩) (e : fd = PySem.W.fnX "__init__" "BareProgram.__init__" (defArgs s_bare_init) (defBody s_bare_init) (defScope s_bare_init) [("__class__", cc)] .none kV doc pm an (.ref cda) ct) (cf : PySem.W.codeIn K (.ref cda) "BareProgram.__init__" = true)
    (lc : K.lookup cda = some ⟨ccl, cdd, .fields vs, ccs⟩) (vc : vs[2]? = some (.str file tf)) (fl : ((P.main.file : Str) == file) = true) (lcell : K.lookup cc = some ⟨cl, cld, .cell (some (.ref C)), csl⟩)
    (top : (P.main.scope.names.lookup ("super" : Str)).isSome = false) (mgs : mg "super" = none) (cls : PySem.W.isClsIn K C = true) (sub : PySem.W.mroIn K C (.ref C) = some true) (opq : PySem.W.nsIn K cStatics "thirdparty.any" = some none)
    (gm : mg "Program" = some (.ref CP)) (fg : PySem.W.findIn K (.ref CP) "__init__" = some (some (.ref g))) (sup : PySem.W.ks_superIn K C C "__init__" = some (some (.ref g))) (ty : PySem.W.typeIn K (.ref g) = some (.type "function")) (fi : PySem.W.fnIn K g = true) : SupC P K mg C f g := by
  subst e
  exact ⟨⟨cc, cda, oc, kV, doc, pm, ct, od, an, osl, lf, cf, ⟨ccl, cdd, vs, ccs, file, tf, lc, vc, fl⟩, cl, cld, csl, lcell⟩, top, mgs, cls_some cls, sub, opq, sup, ty, fi⟩
theorem kit_own {K : PySem.W.Frag} {S T : Addr} {b : Bool} (h2 : PySem.W.isClsIn K T = true) (h3 : PySem.W.typeIn K (.ref T) = some (.type "type")) (h4 : PySem.W.subIn K (.ref S) (.ref T) = some b) (h5 : (Value.ref S == Value.ref T) = true → b = true) : PySem.W.kitOne K (.ref S) (.ref T) = some b := by
  unfold PySem.W.kitOne PySem.W.kitCls
  have h2' : (PySem.W.clsIn K T).isSome = true := h2
  by_cases e : (Value.ref S == Value.ref T) = true
  · rw [if_pos e, h5 e]
  · rw [if_neg e]
    simp only [h2', h3, h4]
    rfl
theorem name_mk {C : Addr} {n : Str} {cl : Value} {od : Option Addr} {dt : Data} {sl : Array (Option Value)} {tk : Tok} (rd : PySem.W.readsIn K C (.type "type") = true) (ga : PySem.W.specialIn K (.ref C) "__getattribute__" = some (some (.builtin "type.__getattribute__"))) (at_ : PySem.W.findCls K (.ref C) (.type "type") "__name__" = some (.get (.builtin "getset_descriptor.__get__") (.builtin "type.__name__") (.ref C) (.type "type")))
    (ty : PySem.W.typeIn K (.ref C) = some (.type "type")) (lk : K.lookup C = some { cls := cl, dict := od, data := dt, slots := sl }) (hs : (sl[2]?).join = some (.str n tk)) : NameOf K C n := ⟨⟨rd, ga⟩, at_, ty, _, _, _, _, _, lk, hs⟩
/-- all that the end asks of what is written -/
def LawF (q : Program) (K : PySem.W.Frag) (w : World) (mg : Str → Option Value) (fa : Addr) : Prop := ∃ CP CB c oc kV doc pm ct an od osl,
  K.lookup fa = some { cls := oc, dict := od, data := Data.func (PySem.W.fnOf "law" "law" (defArgs s_law) (defBody s_law) (defScope s_law) Value.none kV doc pm an (.ref c) ct), slots := osl } ∧ PySem.W.codeIn K (.ref c) "law" = true ∧
  AllD K mg ∧ AllC q K mg CP CB ∧ Gb mg ∧ Gb2 mg ∧ Gm mg ∧ Frm K w mg ∧ Frm2 K w mg
theorem lawF_mk {q : Program} {fa fb CP CB c : Addr} {oc kV doc pm ct : Value} {an od : Option Addr} {osl : Array (Option Value)} (X : K.In h) (G : h.Ns mainGlobals mg) (hmg : mg "law" = some (.ref fa)) (ha : PySem.W.nsIn K mainGlobals "law" = some (some (.ref fb)))
    (l : K.lookup fb = some { cls := oc, dict := od, data := Data.func (PySem.W.fnOf "law" "law" (defArgs s_law) (defBody s_law) (defScope s_law) Value.none kV doc pm an (.ref c) ct), slots := osl }) (hc : PySem.W.codeIn K (.ref c) "law" = true)
    (B : AllC q K mg CP CB) (A : AllD K mg) (g1 : Gb mg) (g2 : Gb2 mg) (g3 : Gm mg) (f1 : Frm K w mg) (f2 : Frm2 K w mg) : LawF q K w mg fa := by
  have e := hmg.symm.trans (PySem.W.mg_of X G ha)
  cases e
  exact ⟨CP, CB, c, oc, kV, doc, pm, ct, an, od, osl, l, hc, A, B, g1, g2, g3, f1, f2⟩
end
theorem k05_walk {l : PySem.W.OpenLaw} {q : Program} {loose : List Str} {XP : (Str → Option Value) → Heap → Prop} {YP : World → Heap → Prop} {d : DefRec} {Kp : Params → PySem.W.Frag} (hn : l.most = some 63) (hdf : d.params.defaults = []) (hname : d.name = "law")
    (hY : ∀ (w : World) (h : Heap), YP w h → (Kp w.params).In h)
    (F : ∀ (w : World) (mg : Str → Option Value) (fa : Addr) (h : Heap), (Kp w.params).In h → h.Ns mainGlobals mg → mg "law" = some (.ref fa) → LawF l.prog (Kp w.params) w mg fa) :
    PySem.W.WalkO q loose XP YP l.row.toRowW d [] (fun f vs => PySem.call f vs) :=
  Att.attach_callB hn hdf fun w s₀ s₁ mg mb fa o pm cd doc a vs ns G Y ho hd hcd hmg hobj hints hlen hbits hg => by
    rw [hname] at hmg
    have KX := hY w s₁.heap Y
    obtain ⟨CP, CB, c, oc, kV, doc, pm, ct, an, od, osl, lk, hc, A, B, g1, g2, g3, f1, f2⟩ := F w mg fa s₁.heap KX G.T.g hmg
    refine law_callG KX G.T.g G.T.b G.T.builtins G.T.nolimit hg hobj hints hlen fun base H hKb hGb e0 hS => ?_
    obtain ⟨T, C⟩ := lt_mk (P := l.prog) (base := base) A B g1 g2 g3 f1 f2
    exact law_fn lk hc T C ⟨rfl, by decide, by decide⟩ e0 (.of_eq rfl) hS hlen (fun H' => rfl)
end Fl
end
set_option Elab.async false
set_option linter.all false
open PySem PySem.W PyProof.Rows
set_option maxRecDepth 100000 in
set_option maxHeartbeats 0 in
theorem PySem.Challenge.cw_foldlines_k05_whole_texts_written_and_re_holds : PySem.Challenge.rw_foldlines_k05_whole_texts_written_and_re.Holds :=
  Fl.hd (by
  k_fill
  refine Fl.k05_walk (l := PySem.Challenge.rw_foldlines_k05_whole_texts_written_and_re) rfl rfl rfl (fun w h Y => PySem.W.kIn_of Y) ?z1_F
  case z1_F =>
    intro w mg fa h KX G hmg
    refine' Fl.lawF_mk KX G hmg ?z2_aL ?z2_lL ?z2_cL ?z2_B ?z2_A ?z2_g1 ?z2_g2 ?z2_g3 ?z2_f1 ?z2_f2
    case z2_aL => k_is
    case z2_lL => k_is
    case z2_cL => k_is
    case z2_B =>
      refine' ⟨?z3_gmP, ?z3_gmB, ?z3_pcP, ?z3_pcB, ?z3_initP, ?z3_initB, ?z3_keepP, ?z3_keepB, ?z3_textP, ?z3_textB, ?z3_isP, ?z3_isB, ?z3_nmP, ?z3_nmB, ?z3_kPP, ?z3_kBP, ?z3_kPB, ?z3_kBB, ?z3_sPB, ?z3_eqP, ?z3_eqB, ?z3_neP, ?z3_neB, ?z3_obP, ?z3_obB, ?z3_rdP, ?z3_rdB, ?z3_cof⟩
      case z3_gmP => exact PySem.W.mg_of KX G (by k_is)
      case z3_gmB => exact PySem.W.mg_of KX G (by k_is)
      case z3_pcP =>
        refine' ⟨⟨?z4_pg, ?z4_hd, ?z4_po, ?z4_sa⟩, ⟨?z4_at1, rfl, ?z4_get, by decide⟩, ?z4_nF⟩
        case z4_pg => k_is
        case z4_hd => k_is
        case z4_po => k_is
        case z4_sa => k_is
        case z4_at1 => k_is
        case z4_get => k_is
        case z4_nF => show PySem.W.findIn _ _ _ = some none; k_is
      case z3_pcB =>
        refine' ⟨⟨?z5_pg, ?z5_hd, ?z5_po, ?z5_sa⟩, ⟨?z5_at1, rfl, ?z5_get, by decide⟩, ?z5_nF⟩
        case z5_pg => k_is
        case z5_hd => k_is
        case z5_po => k_is
        case z5_sa => k_is
        case z5_at1 => k_is
        case z5_get => k_is
        case z5_nF => show PySem.W.findIn _ _ _ = some none; k_is
      case z3_initP =>
        refine' ⟨_, _, ⟨?z6_mk, ?z6_fi, ?z6_fn, ?z6_kp⟩, L2.fun_mk ?z6_l ?z6_c ?z6_k⟩
        case z6_mk => k_is
        case z6_fi => k_is
        case z6_fn => k_is
        case z6_kp => k_is
        case z6_l => k_is
        case z6_c => k_is
        case z6_k => k_is
      case z3_initB =>
        refine' ⟨_, _, _, ⟨?z7_mk, ?z7_fi, ?z7_fn, ?z7_kp⟩, Fl.supC_mk ?z7_lf ?z7_e ?z7_cf ?z7_lc ?z7_vc ?z7_fl ?z7_lcell ?z7_top ?z7_mgs ?z7_cls ?z7_sub ?z7_opq ?z7_gm ?z7_fg ?z7_sup ?z7_ty ?z7_fi2, L2.fun_mk ?z7_l ?z7_c ?z7_k⟩
        case z7_mk => k_is
        case z7_fi => k_is
        case z7_fn => k_is
        case z7_kp => k_is
        case z7_lf => k_is
        case z7_e => exact rfl
        case z7_cf => k_is
        case z7_lc => k_is
        case z7_vc => exact rfl
        case z7_fl => decide +kernel
        case z7_lcell => k_is
        case z7_top => decide +kernel
        case z7_mgs => exact PySem.W.mg_none_of KX G (by k_is)
        case z7_cls => k_is
        case z7_sub => k_is
        case z7_opq => k_is
        case z7_gm => exact PySem.W.mg_of KX G (by k_is)
        case z7_fg => k_is
        case z7_sup => kernel_rfl
        case z7_ty => k_is
        case z7_fi2 => k_is
        case z7_l => k_is
        case z7_c => k_is
        case z7_k => k_is
      case z3_keepP =>
        refine' ⟨_, _, ⟨?z8_fi, ?z8_fn, ?z8_kp⟩, L2.fun_mk ?z8_l ?z8_c ?z8_k⟩
        case z8_fi => k_is
        case z8_fn => k_is
        case z8_kp => k_is
        case z8_l => k_is
        case z8_c => k_is
        case z8_k => k_is
      case z3_keepB =>
        refine' ⟨_, _, ⟨?z9_fi, ?z9_fn, ?z9_kp⟩, L2.fun_mk ?z9_l ?z9_c ?z9_k⟩
        case z9_fi => k_is
        case z9_fn => k_is
        case z9_kp => k_is
        case z9_l => k_is
        case z9_c => k_is
        case z9_k => k_is
      case z3_eqP =>
        refine' ⟨_, _, ⟨?z10_fi, ?z10_fn, ?z10_kp⟩, L2.fun_mk ?z10_l ?z10_c ?z10_k⟩
        case z10_fi => k_is
        case z10_fn => k_is
        case z10_kp => k_is
        case z10_l => k_is
        case z10_c => k_is
        case z10_k => k_is
      case z3_eqB =>
        refine' ⟨_, _, ⟨?z11_fi, ?z11_fn, ?z11_kp⟩, L2.fun_mk ?z11_l ?z11_c ?z11_k⟩
        case z11_fi => k_is
        case z11_fn => k_is
        case z11_kp => k_is
        case z11_l => k_is
        case z11_c => k_is
        case z11_k => k_is
      case z3_textP =>
        refine' ⟨_, _, _, ⟨?z12_fi, ?z12_sg, ?z12_tk, ⟨_, ?z12_rc⟩⟩, L2.fun_mk ?z12_l ?z12_c ?z12_k⟩
        case z12_fi => k_is
        case z12_sg => k_is
        case z12_tk => k_is
        case z12_rc => exact rfl
        case z12_l => k_is
        case z12_c => k_is
        case z12_k => k_is
      case z3_textB =>
        refine' ⟨_, _, _, ⟨?z13_fi, ?z13_sg, ?z13_tk, ⟨_, ?z13_rc⟩⟩, L2.fun_mk ?z13_l ?z13_c ?z13_k⟩
        case z13_fi => k_is
        case z13_sg => k_is
        case z13_tk => k_is
        case z13_rc => exact rfl
        case z13_l => k_is
        case z13_c => k_is
        case z13_k => k_is
      case z3_isP =>
        refine' ⟨?z14_ha, ?z14_hn, ?z14_htk, ?z14_hm⟩
        case z14_ha => k_is
        case z14_hn => k_is
        case z14_htk => k_is
        case z14_hm => k_is
      case z3_isB =>
        refine' ⟨?z15_ha, ?z15_hn, ?z15_htk, ?z15_hm⟩
        case z15_ha => k_is
        case z15_hn => k_is
        case z15_htk => k_is
        case z15_hm => k_is
      case z3_nmP =>
        refine' Fl.name_mk ?z16_rd ?z16_ga ?z16_at ?z16_ty ?z16_lk ?z16_sl
        case z16_rd => k_is
        case z16_ga => k_is
        case z16_at => k_is
        case z16_ty => k_is
        case z16_lk => k_is
        case z16_sl => exact rfl
      case z3_nmB =>
        refine' Fl.name_mk ?z17_rd ?z17_ga ?z17_at ?z17_ty ?z17_lk ?z17_sl
        case z17_rd => k_is
        case z17_ga => k_is
        case z17_at => k_is
        case z17_ty => k_is
        case z17_lk => k_is
        case z17_sl => exact rfl
      case z3_kPP =>
        refine' Fl.kit_own ?z18_a ?z18_b ?z18_c (fun _ => rfl)
        case z18_a => k_is
        case z18_b => k_is
        case z18_c => k_is
      case z3_kBP =>
        refine' Fl.kit_own ?z19_a ?z19_b ?z19_c (fun _ => rfl)
        case z19_a => k_is
        case z19_b => k_is
        case z19_c => k_is
      case z3_kBB =>
        refine' Fl.kit_own ?z20_a ?z20_b ?z20_c (fun _ => rfl)
        case z20_a => k_is
        case z20_b => k_is
        case z20_c => k_is
      case z3_kPB =>
        refine' Fl.kit_own ?z21_a ?z21_b ?z21_c ?z21_d
        case z21_a => k_is
        case z21_b => k_is
        case z21_c => k_is
        case z21_d => decide +kernel
      case z3_sPB => k_is
      case z3_neP => k_is
      case z3_neB => k_is
      case z3_obP => k_is
      case z3_obB => k_is
      case z3_rdP =>
        refine' ⟨.type "type", _, _, _, ⟨?z22_rd, ?z22_ga⟩, ⟨?z22_fc, ⟨_, ?z22_rc⟩, ?z22_fi⟩, L2.fun_mk ?z22_l ?z22_c ?z22_k⟩
        case z22_rd => k_is
        case z22_ga => k_is
        case z22_fc => k_is
        case z22_rc => exact rfl
        case z22_fi => k_is
        case z22_l => k_is
        case z22_c => k_is
        case z22_k => k_is
      case z3_rdB =>
        refine' ⟨.type "type", _, _, _, ⟨?z23_rd, ?z23_ga⟩, ⟨?z23_fc, ⟨_, ?z23_rc⟩, ?z23_fi⟩, L2.fun_mk ?z23_l ?z23_c ?z23_k⟩
        case z23_rd => k_is
        case z23_ga => k_is
        case z23_fc => k_is
        case z23_rc => exact rfl
        case z23_fi => k_is
        case z23_l => k_is
        case z23_c => k_is
        case z23_k => k_is
      case z3_cof =>
        refine' ⟨.type "type", _, _, _, ⟨?z24_rd, ?z24_ga⟩, ⟨?z24_fc, ⟨_, ?z24_rc⟩, ?z24_fi⟩, L2.fun_mk ?z24_l ?z24_c ?z24_k⟩
        case z24_rd => k_is
        case z24_ga => k_is
        case z24_fc => k_is
        case z24_rc => exact rfl
        case z24_fi => k_is
        case z24_l => k_is
        case z24_c => k_is
        case z24_k => k_is
    case z2_A =>
      refine' ⟨?z25_g_is_int, ?z25_g_is_number, ?z25_g_is_word, ?z25_g_is_list, ?z25_g_is_filled_list, ?z25_g__fits, ?z25_g_is_line, ?z25_g_named_function, ?z25_g_named_label, ?z25_g_marks_of, ?z25_g__leads, ?z25_g_reached_ways, ?z25_g__entry_of, ?z25_g__has_value, ?z25_g__row_behind, ?z25_g_rows_of, ?z25_g__own_behind, ?z25_g_own_indexes, ?z25_g__needs_own, ?z25_g_is_tidy, ?z25_g__names_are_there, ?z25_g__first_wrong, ?z25_g__are_functions, ?z25_g__check_lengths, ?z25_g_check_functions, ?z25_g__law_pen, ?z25_g__law_draw, ?z25_g__law_pick, ?z25_g__law_words, ?z25_g__law_number, ?z25_g__law_plain_line, ?z25_g__law_called, ?z25_g__law_call, ?z25_g__law_item, ?z25_g__law_items, ?z25_g__law_lines, ?z25_g__law_plain, ?z25_g_line_text, ?z25_g__function_text, ?z25_g_text_of, ?z25_g_part_of, ?z25_g_line_of, ?z25_g__is_head, ?z25_g_functions_of, ?z25_g__law_text, ?z25_g__law_bare_lines⟩
      case z25_g_is_int =>
        refine' Fl.gd_mk KX G ?z26_a ?z26_l ?z26_c ?z26_k
        case z26_a => k_is
        case z26_l => k_is
        case z26_c => k_is
        case z26_k => k_is
      case z25_g_is_number =>
        refine' Fl.gd_mk KX G ?z27_a ?z27_l ?z27_c ?z27_k
        case z27_a => k_is
        case z27_l => k_is
        case z27_c => k_is
        case z27_k => k_is
      case z25_g_is_word =>
        refine' Fl.gd_mk KX G ?z28_a ?z28_l ?z28_c ?z28_k
        case z28_a => k_is
        case z28_l => k_is
        case z28_c => k_is
        case z28_k => k_is
      case z25_g_is_list =>
        refine' Fl.gd_mk KX G ?z29_a ?z29_l ?z29_c ?z29_k
        case z29_a => k_is
        case z29_l => k_is
        case z29_c => k_is
        case z29_k => k_is
      case z25_g_is_filled_list =>
        refine' Fl.gd_mk KX G ?z30_a ?z30_l ?z30_c ?z30_k
        case z30_a => k_is
        case z30_l => k_is
        case z30_c => k_is
        case z30_k => k_is
      case z25_g__fits =>
        refine' Fl.gd_mk KX G ?z31_a ?z31_l ?z31_c ?z31_k
        case z31_a => k_is
        case z31_l => k_is
        case z31_c => k_is
        case z31_k => k_is
      case z25_g_is_line =>
        refine' Fl.gd_mk KX G ?z32_a ?z32_l ?z32_c ?z32_k
        case z32_a => k_is
        case z32_l => k_is
        case z32_c => k_is
        case z32_k => k_is
      case z25_g_named_function =>
        refine' Fl.gd_mk KX G ?z33_a ?z33_l ?z33_c ?z33_k
        case z33_a => k_is
        case z33_l => k_is
        case z33_c => k_is
        case z33_k => k_is
      case z25_g_named_label =>
        refine' Fl.gd_mk KX G ?z34_a ?z34_l ?z34_c ?z34_k
        case z34_a => k_is
        case z34_l => k_is
        case z34_c => k_is
        case z34_k => k_is
      case z25_g_marks_of =>
        refine' Fl.gd_mk KX G ?z35_a ?z35_l ?z35_c ?z35_k
        case z35_a => k_is
        case z35_l => k_is
        case z35_c => k_is
        case z35_k => k_is
      case z25_g__leads =>
        refine' Fl.gd_mk KX G ?z36_a ?z36_l ?z36_c ?z36_k
        case z36_a => k_is
        case z36_l => k_is
        case z36_c => k_is
        case z36_k => k_is
      case z25_g_reached_ways =>
        refine' Fl.gd_mk KX G ?z37_a ?z37_l ?z37_c ?z37_k
        case z37_a => k_is
        case z37_l => k_is
        case z37_c => k_is
        case z37_k => k_is
      case z25_g__entry_of =>
        refine' Fl.gd_mk KX G ?z38_a ?z38_l ?z38_c ?z38_k
        case z38_a => k_is
        case z38_l => k_is
        case z38_c => k_is
        case z38_k => k_is
      case z25_g__has_value =>
        refine' Fl.gd_mk KX G ?z39_a ?z39_l ?z39_c ?z39_k
        case z39_a => k_is
        case z39_l => k_is
        case z39_c => k_is
        case z39_k => k_is
      case z25_g__row_behind =>
        refine' Fl.gd_mk KX G ?z40_a ?z40_l ?z40_c ?z40_k
        case z40_a => k_is
        case z40_l => k_is
        case z40_c => k_is
        case z40_k => k_is
      case z25_g_rows_of =>
        refine' Fl.gd_mk KX G ?z41_a ?z41_l ?z41_c ?z41_k
        case z41_a => k_is
        case z41_l => k_is
        case z41_c => k_is
        case z41_k => k_is
      case z25_g__own_behind =>
        refine' Fl.gd_mk KX G ?z42_a ?z42_l ?z42_c ?z42_k
        case z42_a => k_is
        case z42_l => k_is
        case z42_c => k_is
        case z42_k => k_is
      case z25_g_own_indexes =>
        refine' Fl.gd_mk KX G ?z43_a ?z43_l ?z43_c ?z43_k
        case z43_a => k_is
        case z43_l => k_is
        case z43_c => k_is
        case z43_k => k_is
      case z25_g__needs_own =>
        refine' Fl.gd_mk KX G ?z44_a ?z44_l ?z44_c ?z44_k
        case z44_a => k_is
        case z44_l => k_is
        case z44_c => k_is
        case z44_k => k_is
      case z25_g_is_tidy =>
        refine' Fl.gd_mk KX G ?z45_a ?z45_l ?z45_c ?z45_k
        case z45_a => k_is
        case z45_l => k_is
        case z45_c => k_is
        case z45_k => k_is
      case z25_g__names_are_there =>
        refine' Fl.gd_mk KX G ?z46_a ?z46_l ?z46_c ?z46_k
        case z46_a => k_is
        case z46_l => k_is
        case z46_c => k_is
        case z46_k => k_is
      case z25_g__first_wrong =>
        refine' Fl.gd_mk KX G ?z47_a ?z47_l ?z47_c ?z47_k
        case z47_a => k_is
        case z47_l => k_is
        case z47_c => k_is
        case z47_k => k_is
      case z25_g__are_functions =>
        refine' Fl.gd_mk KX G ?z48_a ?z48_l ?z48_c ?z48_k
        case z48_a => k_is
        case z48_l => k_is
        case z48_c => k_is
        case z48_k => k_is
      case z25_g__check_lengths =>
        refine' Fl.gd_mk KX G ?z49_a ?z49_l ?z49_c ?z49_k
        case z49_a => k_is
        case z49_l => k_is
        case z49_c => k_is
        case z49_k => k_is
      case z25_g_check_functions =>
        refine' Fl.gd_mk KX G ?z50_a ?z50_l ?z50_c ?z50_k
        case z50_a => k_is
        case z50_l => k_is
        case z50_c => k_is
        case z50_k => k_is
      case z25_g__law_pen =>
        refine' Fl.gd_mk KX G ?z51_a ?z51_l ?z51_c ?z51_k
        case z51_a => k_is
        case z51_l => k_is
        case z51_c => k_is
        case z51_k => k_is
      case z25_g__law_draw =>
        refine' Fl.gd_mk KX G ?z52_a ?z52_l ?z52_c ?z52_k
        case z52_a => k_is
        case z52_l => k_is
        case z52_c => k_is
        case z52_k => k_is
      case z25_g__law_pick =>
        refine' Fl.gd_mk KX G ?z53_a ?z53_l ?z53_c ?z53_k
        case z53_a => k_is
        case z53_l => k_is
        case z53_c => k_is
        case z53_k => k_is
      case z25_g__law_words =>
        refine' Fl.gd_mk KX G ?z54_a ?z54_l ?z54_c ?z54_k
        case z54_a => k_is
        case z54_l => k_is
        case z54_c => k_is
        case z54_k => k_is
      case z25_g__law_number =>
        refine' Fl.gd_mk KX G ?z55_a ?z55_l ?z55_c ?z55_k
        case z55_a => k_is
        case z55_l => k_is
        case z55_c => k_is
        case z55_k => k_is
      case z25_g__law_plain_line =>
        refine' Fl.gd_mk KX G ?z56_a ?z56_l ?z56_c ?z56_k
        case z56_a => k_is
        case z56_l => k_is
        case z56_c => k_is
        case z56_k => k_is
      case z25_g__law_called =>
        refine' Fl.gd_mk KX G ?z57_a ?z57_l ?z57_c ?z57_k
        case z57_a => k_is
        case z57_l => k_is
        case z57_c => k_is
        case z57_k => k_is
      case z25_g__law_call =>
        refine' Fl.gd_mk KX G ?z58_a ?z58_l ?z58_c ?z58_k
        case z58_a => k_is
        case z58_l => k_is
        case z58_c => k_is
        case z58_k => k_is
      case z25_g__law_item =>
        refine' Fl.gd_mk KX G ?z59_a ?z59_l ?z59_c ?z59_k
        case z59_a => k_is
        case z59_l => k_is
        case z59_c => k_is
        case z59_k => k_is
      case z25_g__law_items =>
        refine' Fl.gd_mk KX G ?z60_a ?z60_l ?z60_c ?z60_k
        case z60_a => k_is
        case z60_l => k_is
        case z60_c => k_is
        case z60_k => k_is
      case z25_g__law_lines =>
        refine' Fl.gd_mk KX G ?z61_a ?z61_l ?z61_c ?z61_k
        case z61_a => k_is
        case z61_l => k_is
        case z61_c => k_is
        case z61_k => k_is
      case z25_g__law_plain =>
        refine' Fl.gd_mk KX G ?z62_a ?z62_l ?z62_c ?z62_k
        case z62_a => k_is
        case z62_l => k_is
        case z62_c => k_is
        case z62_k => k_is
      case z25_g_line_text =>
        refine' Fl.gd_mk KX G ?z63_a ?z63_l ?z63_c ?z63_k
        case z63_a => k_is
        case z63_l => k_is
        case z63_c => k_is
        case z63_k => k_is
      case z25_g__function_text =>
        refine' Fl.gd_mk KX G ?z64_a ?z64_l ?z64_c ?z64_k
        case z64_a => k_is
        case z64_l => k_is
        case z64_c => k_is
        case z64_k => k_is
      case z25_g_text_of =>
        refine' Fl.gd_mk KX G ?z65_a ?z65_l ?z65_c ?z65_k
        case z65_a => k_is
        case z65_l => k_is
        case z65_c => k_is
        case z65_k => k_is
      case z25_g_part_of =>
        refine' Fl.gd_mk KX G ?z66_a ?z66_l ?z66_c ?z66_k
        case z66_a => k_is
        case z66_l => k_is
        case z66_c => k_is
        case z66_k => k_is
      case z25_g_line_of =>
        refine' Fl.gd_mk KX G ?z67_a ?z67_l ?z67_c ?z67_k
        case z67_a => k_is
        case z67_l => k_is
        case z67_c => k_is
        case z67_k => k_is
      case z25_g__is_head =>
        refine' Fl.gd_mk KX G ?z68_a ?z68_l ?z68_c ?z68_k
        case z68_a => k_is
        case z68_l => k_is
        case z68_c => k_is
        case z68_k => k_is
      case z25_g_functions_of =>
        refine' Fl.gd_mk KX G ?z69_a ?z69_l ?z69_c ?z69_k
        case z69_a => k_is
        case z69_l => k_is
        case z69_c => k_is
        case z69_k => k_is
      case z25_g__law_text =>
        refine' Fl.gd_mk KX G ?z70_a ?z70_l ?z70_c ?z70_k
        case z70_a => k_is
        case z70_l => k_is
        case z70_c => k_is
        case z70_k => k_is
      case z25_g__law_bare_lines =>
        refine' Fl.gd_mk KX G ?z71_a ?z71_l ?z71_c ?z71_k
        case z71_a => k_is
        case z71_l => k_is
        case z71_c => k_is
        case z71_k => k_is
    case z2_g1 =>
      refine' ⟨?z72_n_isinstance, ?z72_n_int, ?z72_n_bool, ?z72_n_str, ?z72_n_len, ?z72_n_all, ?z72_n_list, ?z72_n_tuple, ?z72_n_dict, ?z72_n_zip, ?z72_n_sum, ?z72_n_enumerate, ?z72_n_sorted, ?z72_n_max, ?z72_n_leastN, ?z72_n_greatestN, ?z72_n_letters, ?z72_n_entry, ?z72_n_regs, ?z72_n_lines, ?z72_n_allL, ?z72_n_funs⟩
      case z72_n_isinstance => exact PySem.W.mg_none_of KX G (by k_is)
      case z72_n_int => exact PySem.W.mg_none_of KX G (by k_is)
      case z72_n_bool => exact PySem.W.mg_none_of KX G (by k_is)
      case z72_n_str => exact PySem.W.mg_none_of KX G (by k_is)
      case z72_n_len => exact PySem.W.mg_none_of KX G (by k_is)
      case z72_n_all => exact PySem.W.mg_none_of KX G (by k_is)
      case z72_n_list => exact PySem.W.mg_none_of KX G (by k_is)
      case z72_n_tuple => exact PySem.W.mg_none_of KX G (by k_is)
      case z72_n_dict => exact PySem.W.mg_none_of KX G (by k_is)
      case z72_n_zip => exact PySem.W.mg_none_of KX G (by k_is)
      case z72_n_sum => exact PySem.W.mg_none_of KX G (by k_is)
      case z72_n_enumerate => exact PySem.W.mg_none_of KX G (by k_is)
      case z72_n_sorted => exact PySem.W.mg_none_of KX G (by k_is)
      case z72_n_max => exact PySem.W.mg_none_of KX G (by k_is)
      case z72_n_leastN => exact Fl.int_mk KX G (by k_is)
      case z72_n_greatestN => exact Fl.int_mk KX G (by k_is)
      case z72_n_letters => exact Fl.int_mk KX G (by k_is)
      case z72_n_entry => exact Fl.int_mk KX G (by k_is)
      case z72_n_regs => exact Fl.int_mk KX G (by k_is)
      case z72_n_lines => exact Fl.int_mk KX G (by k_is)
      case z72_n_allL => exact Fl.int_mk KX G (by k_is)
      case z72_n_funs => exact Fl.int_mk KX G (by k_is)
    case z2_g2 =>
      refine' ⟨?z73_n_abs, ?z73_n_range, ?z73_n_min, ?z73_n_repr, ?z73_n_veE⟩
      case z73_n_abs => exact PySem.W.mg_none_of KX G (by k_is)
      case z73_n_range => exact PySem.W.mg_none_of KX G (by k_is)
      case z73_n_min => exact PySem.W.mg_none_of KX G (by k_is)
      case z73_n_repr => exact PySem.W.mg_none_of KX G (by k_is)
      case z73_n_veE => exact PySem.W.mg_none_of KX G (by k_is)
    case z2_g3 =>
      refine' ⟨?z74_n_any⟩
      case z74_n_any => exact PySem.W.mg_none_of KX G (by k_is)
    case z2_f1 =>
      refine' Fl.frm_mk KX G ?z75_ha ?z75_hl ?z75_hk ?z75_lo ?z75_ok
      case z75_ha => k_is
      case z75_hl => k_is
      case z75_hk => k_keys
      case z75_lo => first | rfl | decide
      case z75_ok => kernel_rfl
    case z2_f2 =>
      refine' ⟨?z76_jw, ?z76_sw, ?z76_cw, ?z76_ew⟩
      case z76_jw =>
        refine' Fl.tup_mk KX G ?z77_ha ?z77_ok
        case z77_ha => k_is
        case z77_ok => kernel_rfl
      case z76_sw =>
        refine' Fl.tup_mk KX G ?z78_ha ?z78_ok
        case z78_ha => k_is
        case z78_ok => kernel_rfl
      case z76_cw =>
        refine' Fl.tup_mk KX G ?z79_ha ?z79_ok
        case z79_ha => k_is
        case z79_ok => kernel_rfl
      case z76_ew =>
        refine' Fl.tup_mk KX G ?z80_ha ?z80_ok
        case z80_ha => k_is
        case z80_ok => kernel_rfl)
