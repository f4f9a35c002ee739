import PyProof.Rows.All
import Wide.All
import OpenK.AllK
import Wide.FinOn
import Lean
import PyProof.EqAt
import PyProof.EqKinds
import PyProof.TupleCall
import OpenK.KOwn
import PySem.Str
import KE.LcSums
import PySem.Builtin.Int.W1All
import PyProof.WalksEnum
import PyProof.InstEq
import PyProof.Rows.EnumRows
import PyProof.Rows.SetFrom
import PyProof.SetRoads
import PyProof.TableCode
import PySem.Challenge.RW_rowmill_k54_sizes_and_slots
set_option genSizeOf false in
set_option genInjectivity false in
structure PySem.W.Fast where
(tw2031403786331049284 tw14328618587806438400 tw14828558658139582624 tw10695818426593499360 tw13363713388692692192 tw6863761562777863584 tw9719500325895471552 tw6906709145524597216 tw6297578109172300384 tw3424013994894985952 tw9290396956804121344 tw16639696521575598848 tw18345998421503889441 tw6606813542954950721 tw11455010421964244097 tw12403605838935362881 tw6230719258020321601 tw17912863857546814785 tw10191033554812509537 tw7210579845191510369 tw2031075697145055745 tw1394461079405085185 tw16264288473027450401 tw3400546099137553985 tw12343174440379393729 tw8081092567425791681 tw10385568406754851521 tw16678288660404132641 tw8873049974123014977 tw14894137868889909089 tw9314776836586983329 tw4295647641759921154 tw10458396552435000354 tw2459824921877612642 tw593508748622407938 tw9827966908556997122 tw6398617294249285250 tw2909204584332000034 tw11880039092233700226 tw11504065091284792643 tw1700653907627926883 tw16926130282820793731 tw12245196534981079619 tw14517119076459477667 tw1612651688131866307 tw2708414217092686627 tw487418624016807875 tw11158978767796826244 tw1234898855850569892 tw17608602931472577732 tw8962008128869617860 tw3134010190935689476 tw10285168666185650564 tw17413122329457487268 tw16907282251364021700 tw18402398437345477156 tw15638558498302214724 tw5086549656706403972 tw1949648731352501924 tw11806240171039666916 tw17330075985405671236 tw13671005790223713156 tw15149249840378710948 tw17705385623840337860 tw6873426453724834788 tw599984893107721253 tw12243601200260729925 tw6174206309239456869 tw8156327257058544773 tw3264301575000729733 tw16101572289446253733 tw13014411585136148773 tw17493747041446496677 tw15537071643937945157 tw5862997791965334277 tw1834548966263242597 tw3587393709934716869 tw2438226366236440517 tw4721714567536990310 tw12330273157205652582 tw14525542264422091014 tw3641171431067068806 tw13692660619421782470 tw3320875742652204550 tw6947626747487706886 tw16804997665695666982 tw13131151098253385574 tw9294777444150509414 tw14822858527692548167 tw8817390149637044295 tw10275666715093101671 tw4180589136623690919 tw12251232605317089479 tw9582193046430315079 tw4172574506226817831 tw6678521655960911719 tw10861092972500974471 tw17966021616422119335 tw17280448334387826663 tw10348990655772813320 tw14032293153773992104 tw5858037397553074408 tw12286260116593567976 tw4202545693003217224 tw2291948107148317192 tw10709696936870717992 tw16868398907052232264 tw14357173865135736488 tw5597517089995961000 tw16595523294305302184 tw3407925253606221512 tw6512690391055399624 tw16909719098103424776 tw9250103172234397544 tw2958093992844070888 tw6037705303417783433 tw17859774686871386345 tw15169626194694770025 tw4156888165436201417 tw16064592086726898121 tw4185705578043712201 tw16363861904488944361 tw3767862851657506569 tw12056920394040995593 tw10578036963012709193 tw6699688529602960329 tw17559567392013968426 tw17000729868429967466 tw5732690192540779626 tw13000539991749777546 tw17233413171436681386 tw3241722408852398442 tw1591801636125959562 tw12860744735678567850 tw4531205270793752074 tw16666346503591094826 tw4101169510526516842 tw5690809559178907306 tw3113673494026052266 tw17044270375482934986 tw17654409271022096427 tw12788935764885909611 tw16971615936785694859 tw13662923441764754571 tw10707845964898704555 tw17525828619953445067 tw17365383597939411179 tw5131403049114640683 tw3908266292079099307 tw803864131247658443 tw2071575147754934891 tw12510828664892185355 tw13532140303417965451 tw9998405819834427404 tw16903630935319182380 tw7260987465516865612 tw2530627048990491788 tw1425343252962833548 tw13800156257534978284 tw6534283554191099116 tw9512193851157852428 tw3729182857090462028 tw216459442310324588 tw7541779685263953292 tw15254503182796423756 tw4846340598076864140 tw3466990154589934444 tw15616062452611489676 tw16791256099749051372 tw10066746501097935917 tw5080524207359780909 tw3676368786173880365 tw3861490910524977229 tw13453712632557028525 tw2299149173950314669 tw15943918749059316909 tw6155165768642256077 tw13221917834644022605 tw17318187642882000269 tw7549123726262440365 tw9815033025486876141 tw17653453328894139917 tw323685907878755853 tw1592691716863172141 tw288622354442689133 tw14764330898796308077 tw2364447191009458797 tw4475343914525497037 tw17237161387968658157 tw10224128992664558349 tw10723007245717318445 tw18395058540651894605 tw14711375594959235917 tw7423115184781885261 tw11391533933556832141 tw16228000431055483789 tw7682571513421083565 tw4762764800581122989 tw8961676625249243150 tw1042184209079148590 tw1164047997761605678 tw7744500234823643342 tw17349293704994550990 tw7328083853092564206 tw18228764109328918830 tw3990187922922407662 tw3709858458999186190 tw16429617535786956654 tw17001527706357901198 tw764422578467508142 tw13819615304424817775 tw2683277723834774735 tw13924663665714805039 tw14634986226524130671 tw8481180308914666895 tw2519234669340277295 tw8561018273669856815 tw10476500072202390063 tw6675062807819425487 tw11845096739804395343 tw5460756111133686607 tw5878418049562012591 tw1725974079620644912 tw7877546736296819760 tw356776023353681072 tw17016747890729260336 tw3010485251928717648 tw13603555073230367120 tw11212507762508760528 tw6239675575111292432 tw14623573414419588688 tw1450917410050836144 tw3028534654123962224 tw6947514005914048464 tw6621076295419525072 tw16817253984136542417 tw17624275145264439601 tw14867923318574602673 tw3237637054437192113 tw1017772499492368049 tw3989782593765596945 tw16093860970260549553 tw9503473168059758513 tw2044871961502698449 tw8360673139681157105 tw12193317230876013586 tw7263411152893060306 tw1829920684894385362 tw8815048126814248178 tw1317230689114421618 tw5588822865136980530 tw16667136723053105714 tw16851154711873057362 tw3459591550804629106 tw17644076075148021490 tw1111791471226129170 tw1511413868894839570 tw12503973257801209778 tw7725998344510602194 tw16430452308945605683 tw16581858468811354259 tw6682752576323516563 tw15554196638649284851 tw11080309995733613843 tw3693873205971695987 tw1766506346424115635 tw5658806311913145875 tw8306035395395625523 tw9821332728907903539 tw12656290750936046291 tw3580146351275481875 tw14953320795945020275 tw704257581376757619 tw8248425903305298867 tw1131310913814337620 tw10874321357785144404 tw10482666714311976020 tw16817128926005495924 tw16333615882812415124 tw14979895567197011156 tw15756997011354454260 tw7877836468680081716 tw3739151502697651636 tw7073324992570980788 tw8141187679767934420 tw15412590362731422292 tw4073007428242168404 tw15432873483917574996 tw15561747476872791924 tw5156533765958907860 tw14301712502646242292 tw14069269067770532885 tw5702647476726408277 tw13816696995360692405 tw5566926997113392437 tw9805182045666391509 tw16504984786743915989 tw14108861579171785237 tw3649683633303329333 tw50327697390963349 tw17236685170043024053 tw8211139360874998549 tw17874328013371443061 tw2497119174454363061 tw4591171472028892085 tw17792854368715713493 tw16431321802792208373 tw16790830923780022261 tw9056862899213808662 tw5324395634398536758 tw15214892721369507990 tw10525545505111369942 tw4566392266208053526 tw11050571241466219798 tw4447707610247560534 tw4769003934891163062 tw15639984773805905366 tw4799396600470139446 tw1799377190483167862 tw223819873075765878 tw9181859492353685142 tw10698294554484809398 tw16780788845169545974 tw14120340586862458710 tw3446656874163306326 tw8568808031489940342 tw14373472086463303606 tw18308659894612906966 tw4811715699564662871 tw4352811299939772567 tw17469814591313222007 tw11539129923453695351 tw5774352997487658455 tw15880967476461012759 tw11434133883131998135 tw12391489525096464311 tw11856495953619841080 tw8621069956069866584 tw17853105280823102616 tw7219553911764163800 tw4147737801255670040 tw9243519063649205560 tw5862819176733378904 tw12195806180025577848 tw4837129981272326552 tw15313947871439948248 tw15338800794242726520 tw2858626530935075480 tw2382961071547538200 tw75016826652727192 tw14728416707192528824 tw10892910479751392184 tw17639204481312025560 tw6991747673498835960 tw2151687610359836793 tw17050169565721879705 tw4547777326125365529 tw13440393033186025785 tw15891640815901655385 tw8820367469383794137 tw3884425941252730361 tw12222526916269552473 tw15717493127127676761 tw10639875941132426298 tw8386728372531620986 tw4671704957055013050 tw17370392440475698362 tw12504685115014683098 tw17030487801050295770 tw11587392805346839098 tw18086012802080837178 tw10871833845298514490 tw15763623382034739930 tw11440507297040049978 tw7981574216340073274 tw10111878575029284666 tw16367982181263320026 tw8430788617922331675 tw1397300917371317339 tw9729393433555930235 tw7504550605136383131 tw8296167075870320827 tw12408958643124186363 tw2177312578093773083 tw8950189445620826523 tw14414594755087160795 tw3114626074165278171 tw8835748548646057467 tw9937214543308590619 tw12639463675405549083 tw7808357187444885083 tw10336500622632051355 tw5605705714514954971 tw3327441305163409115 tw7355860518398459739 tw14474268662461879163 tw2790097251501856667 tw6227330754943490011 tw11157647315180479451 tw17353801001301335068 tw10028548824978506812 tw13001696161235729468 tw2165924537192881244 tw5375776318634378396 tw8415820631005343964 tw13001080019557363964 tw3510812431668667676 tw8606834781875829084 tw1089359774281745788 tw16817428203525544348 tw16480610409298568604 tw14337022169961858716 tw13382822566226745084 tw18140726275799594844 tw1758792891114733500 tw4903987799839242269 tw16782249394612578397 tw17978811452452481213 tw2157404777926775133 tw4211130877556703613 tw12351681849724036541 tw5412025316493617597 tw11135881280288932381 tw6362594098643581 tw7288630241863530205 tw16980584772527425309 tw3453492098475018173 tw1984459492698847358 tw4787164823910390942 tw7331310386022556894 tw18429049527854843454 tw13260347883474946750 tw16311412702611603134 tw1867212805623978718 tw8480445378030784254 tw7684560928389412638 tw3440481272118797246 tw12654353954845080574 tw9362184087021104191 tw127940157939648639 tw8348791616804688127 tw6974488233116269823 tw1917259374635800895 tw4990715534441861535 tw5559012628760415775 tw14857431465953746463 tw15718924236185631359 tw11909533277597081247 tw8522075419158494911 tw664437397233986239 tw13367882938376904415 tw14929695840204336895 tw7300215667259419423 tw10550175155557924703:True)
set_option Elab.async false
set_option linter.all false
set_option maxRecDepth 100000
namespace L2
open PySem PySem.Spec PyProof.Rows
abbrev Key := Sum Int Str
def keyIs : Key → Value → Bool
  | .inl k, v => Value.isInt k v
  | .inr x, v => Value.isStrOf x v
def keyH (w : World) : Key → Int
  | .inl k => hashInt k
  | .inr x => hashStr w x
theorem zbe : ∀ {k : Key} {v : Value}, keyIs k v = true → (∃ i t, k = Sum.inl i ∧ v = Value.int i t) ∨ (∃ x t, k = Sum.inr x ∧ v = Value.str x t)
  | .inl i, v, h => by
    obtain ⟨t, e⟩ := Value.isInt_shape (k := i) (v := v) h
    exact .inl ⟨i, t, rfl, e⟩
  | .inr x, v, h => by
    obtain ⟨t, e⟩ := Value.isStrOf_shape (x := x) (v := v) h
    exact .inr ⟨x, t, rfl, e⟩
theorem key_ll (a b : Int) : decide ((Sum.inl a : Key) = Sum.inl b) = (a == b) := by
  by_cases e : a = b
  · subst e; simp
  · have h : ¬ (Sum.inl a : Key) = Sum.inl b := fun q => e (Sum.inl.inj q)
    rw [decide_eq_false h]
    exact (beq_eq_false_iff_ne.mpr e).symm
theorem key_rr (a b : Str) : decide ((Sum.inr a : Key) = Sum.inr b) = decide (a = b) := by
  by_cases e : a = b
  · subst e; simp
  · have h : ¬ (Sum.inr a : Key) = Sum.inr b := fun q => e (Sum.inr.inj q)
    rw [decide_eq_false h, decide_eq_false e]
theorem key_lr (a : Int) (b : Str) : decide ((Sum.inl a : Key) = Sum.inr b) = false := decide_eq_false (fun q => nomatch q)
theorem key_rl (a : Str) (b : Int) : decide ((Sum.inr a : Key) = Sum.inl b) = false := decide_eq_false (fun q => nomatch q)
def ziN (prog : Program) (w : World) : PySem.KeyKind prog w Key where
  is := keyIs
  hash := keyH w
  inj := fun v a b ha hb => by
    rcases zbe ha with ⟨i, t, rfl, rfl⟩ | ⟨x, t, rfl, rfl⟩
    · rcases zbe hb with ⟨j, u, rfl, e⟩ | ⟨y, u, rfl, e⟩
      · injection e with e1 _; rw [e1]
      · exact nomatch e
    · rcases zbe hb with ⟨j, u, rfl, e⟩ | ⟨y, u, rfl, e⟩
      · exact nomatch e
      · injection e with e1 _; rw [e1]
  byValue := fun k v h => by
    rcases zbe h with ⟨i, t, rfl, rfl⟩ | ⟨x, t, rfl, rfl⟩ <;> rfl
  pyHash := fun hv h => by
    rcases zbe hv with ⟨i, t, rfl, rfl⟩ | ⟨x, t, rfl, rfl⟩
    · exact wpAny_pyHash_int h
    · exact wpAny_pyHash_str h
  eqBool := fun hu hv h => by
    rcases zbe hu with ⟨i, t, rfl, rfl⟩ | ⟨x, t, rfl, rfl⟩
    · rcases zbe hv with ⟨j, u, rfl, rfl⟩ | ⟨y, u, rfl, rfl⟩
      · rw [key_ll] at h; exact wpAny_eqBool_int h
      · rw [key_lr] at h; exact SeqAt.EqAt.int_str i t y u _ _ _ _ h
    · rcases zbe hv with ⟨j, u, rfl, rfl⟩ | ⟨y, u, rfl, rfl⟩
      · rw [key_rl] at h; exact SeqAt.EqAt.str_int x t j u _ _ _ _ h
      · rw [key_rr] at h; exact wpAny_eqBool_str h
  «strs» := fun k x t v h => by
    rcases zbe h with ⟨i, u, rfl, e⟩ | ⟨y, u, rfl, e⟩
    · exact nomatch e
    · injection e with e1 _
      subst e1
      cases v <;> rfl
end L2
namespace L2
open PySem PySem.Spec PyProof.Rows
inductive V where
  | non | bl (b : Bool) | int (i : Int) | str (x : Str) | byt (b : Array UInt8) | flt (b : UInt64) | ref (a : Addr) | ty (n : String)
  deriving DecidableEq
def zaV : V → Value → Prop
  | .non, u => u = Value.none
  | .bl b, u => u = Value.bool b
  | .int i, u => ∃ t, u = Value.int i t
  | .str x, u => ∃ t, u = Value.str x t
  | .byt b, u => ∃ t, u = Value.bytes b t
  | .flt b, u => ∃ t, u = Value.float b t
  | .ref a, u => u = Value.ref a
  | .ty n, u => u = Value.type n
abbrev zaD : List V → List Value → Prop := Paired zaV
theorem zaD.length {xs : List V} {us : List Value} (r : zaD xs us) : xs.length = us.length := Paired.length r
theorem zaD.get : ∀ {xs : List V} {us : List Value} {i : Nat} {x : V}, zaD xs us → xs[i]? = some x → ∃ u, us[i]? = some u ∧ zaV x u
  | _, _, _, _, .nil, e => by simp at e
  | _, _, 0, _, .cons r _, e => by simp at e; subst e; exact ⟨_, rfl, r⟩
  | _, _, i + 1, x, .cons _ t, e => by
    obtain ⟨u, h1, h2⟩ := zaD.get (i := i) (x := x) t (by simpa using e)
    exact ⟨u, by simpa using h1, h2⟩
theorem zaD.set {x : V} {u : Value} (r : zaV x u) : ∀ {xs : List V} {us : List Value} (i : Nat), zaD xs us → zaD (xs.set i x) (us.set i u)
  | _, _, _, .nil => .nil
  | _, _, 0, .cons _ t => .cons r t
  | _, _, i + 1, .cons q t => .cons q (zaD.set r i t)
theorem zaD.append : ∀ {xs ys : List V} {us ws : List Value}, zaD xs us → zaD ys ws → zaD (xs ++ ys) (us ++ ws)
  | _, _, _, _, .nil, s => s
  | _, _, _, _, .cons r t, s => .cons r (zaD.append t s)
theorem zaD.take : ∀ {xs : List V} {us : List Value} (n : Nat), zaD xs us → zaD (xs.take n) (us.take n)
  | _, _, 0, _ => .nil
  | _, _, _ + 1, .nil => .nil
  | _, _, n + 1, .cons r t => .cons r (zaD.take n t)
def zf6 : Option V → Option Value → Prop
  | some v, some u => zaV v u
  | none, none => True
  | _, _ => False
def KV {κ : Type} : List (κ × V) → List (κ × Value) → Prop := Paired fun (p : κ × V) (q : κ × Value) => p.1 = q.1 ∧ zaV p.2 q.2
def kV : Key → V
  | .inl i => .int i
  | .inr x => .str x
inductive HO where
  | lst (xs : List V)
  | tup (xs : List V)
  | dK (kvs : List (Key × V)) | dT (kvs : List (List Key × V))
  | set (S : Int → Bool) (n : Nat)
  | ins (C dx : Addr) (fs : List (Str × V))
  | own (x : Addr)
  | xd (fs : List (Str × V))
  | met (f x : Addr)
  | rng (lo hi : Int)
  | frz (o : Obj) (u : HO)
  | tbl (ps : Array Value)
  | exc (C : Addr) (dx : Option Addr) (fs : List (Str × V))
  | ext (φ : Heap → Prop)
abbrev Hp := Addr → Option HO
def upd (H : Hp) (a : Addr) (o : HO) : Hp := fun b => if b = a then some o else H b
theorem zba {H : Hp} {a : Addr} {o : HO} : upd H a o a = some o := by unfold upd; rw [if_pos rfl]
theorem zaN {H : Hp} {a b : Addr} {o : HO} (h : b ≠ a) : upd H a o b = H b := by unfold upd; rw [if_neg h]
theorem ne_of {H : Hp} {a b : Addr} {o u : HO} (h : H a = some o) (h' : H b = some u) (d : o ≠ u) : a ≠ b := by
  intro e; subst e; rw [h] at h'; exact d (Option.some.inj h')
theorem zbf {H : Hp} {a b : Addr} {o : HO} (h : H a = some o) (h' : H b = none) : a ≠ b := by
  intro e; subst e; rw [h] at h'; cases h'
def NsO (h : Heap) (dx : Option Addr) (mA : Str → Option Value) : Prop := match dx with
  | some d => h.Ns1 d mA
  | none => ∀ n, mA n = none
section
variable (P : Program) (w : World)
def zb1 (H : Hp) (h : Heap) (a : Addr) : HO → Prop
  | .lst xs => xs.length ≤ sizeLine ∧ ∃ (its : List Value) (n : Nat), zaD xs its ∧ h.get? a = some { cls := .type "list", data := .seq its.toArray n }
  | .tup xs => xs.length ≤ sizeLine ∧ ∃ its : List Value, zaD xs its ∧ IsTup h a its.toArray
  | .dK kvs => kvs.length ≤ sizeLine ∧ (a == sysModules) = false ∧ ∃ vs, KV kvs vs ∧ h.DictOf (ziN P w) a vs
  | .dT kvs => kvs.length ≤ sizeLine ∧ (a == sysModules) = false ∧ ∃ xs : List (List Key × Addr × Value),
      Paired (fun (p : List Key × V) (q : List Key × Addr × Value) => p.1 = q.1 ∧ H q.2.1 = some (.tup (p.1.map kV)) ∧ zaV p.2 q.2.2) kvs xs ∧
      ∃ o es ep, h.get? a = some o ∧ o.ExactDict ∧ o.data = .dict es ep ∧ es.toList = xs.map (entryOfKey (tupleKind (ziN P w))) ∧ (xs.map (·.1)).Nodup
  | .set S n => h.SetOf (intKind P w) a S n
  | .ins C dx fs => H dx = some (.own a) ∧ fs.length ≤ 1000 ∧ dx ≠ a ∧ h.get? a = some (PySem.W.instObj C dx) ∧
      ∃ mA, h.Ns1 dx mA ∧ (∀ f, zf6 (fs.lookup f) (mA f)) ∧ PySem.Within mA (fs.map (·.1))
  | .own _ => ∃ o, h.get? a = some o
  | .xd fs => ∃ mA, h.Ns1 a mA ∧ ∀ f, zf6 (fs.lookup f) (mA f)
  | .rng lo hi => ∃ t u v, h.get? a = some { cls := .type "range", data := .fields #[.int lo t, .int hi u, .int 1 v] }
  | .frz o u => h.get? a = some o ∧ zb1 H h a u
  | .tbl ps => h.get? a = some { cls := .none, data := .fields ps }
  | .met f x => h.get? a = some (PySem.W.methodObj (.ref f) (.ref x))
  | .exc C dx fs => ∃ o vs, h.get? a = some o ∧ o.cls = .ref C ∧ o.dict = dx ∧ o.data = .fields vs ∧ fs.length ≤ 1000 ∧ (∀ d, dx = some d → H d = some (.own a) ∧ d ≠ a) ∧
      ∃ mA, NsO h dx mA ∧ (∀ f, zf6 (fs.lookup f) (mA f)) ∧ PySem.Within mA (fs.map (·.1))
  | .ext φ => φ h ∧ (∃ o, h.get? a = some o) ∧ ∀ h1 h2 : Heap, φ h1 → (∀ o, h1.get? a = some o → h2.get? a = some o) → φ h2
def HOk (H : Hp) (h : Heap) : Prop := ∀ a o, H a = some o → zb1 P w H h a o
end
section
variable {P : Program} {w : World} {H H' : Hp} {h h' : Heap} {a : Addr} {o : HO}
theorem zb1.lt (x : zb1 P w H h a o) : a < h.objs.size := by
  cases o with
  | lst xs => obtain ⟨_, _, _, _, e⟩ := x; exact Heap.lt_size e
  | tup xs => obtain ⟨_, _, _, p⟩ := x; exact p.lt
  | dK kvs => obtain ⟨_, _, _, _, o, _, _, e, _⟩ := x; exact Heap.lt_size e
  | dT kvs => obtain ⟨_, _, _, _, o, _, _, e, _⟩ := x; exact Heap.lt_size e
  | set S n => obtain ⟨o, _, _, _, e, _⟩ := x; exact Heap.lt_size e
  | ins C dx fs => obtain ⟨_, _, _, e, _⟩ := x; exact Heap.lt_size e
  | own y => obtain ⟨_, e⟩ := x; exact Heap.lt_size e
  | xd fs => obtain ⟨_, ⟨_, _, _, e, _⟩, _⟩ := x; exact Heap.lt_size e
  | rng lo hi => obtain ⟨_, _, _, e⟩ := x; exact Heap.lt_size e
  | frz ob u => obtain ⟨e, _⟩ := x; exact Heap.lt_size e
  | tbl ps => exact Heap.lt_size (show h.get? a = some _ from x)
  | met f y => exact Heap.lt_size (show h.get? a = some _ from x)
  | exc C dx fs => obtain ⟨_, _, e, _⟩ := x; exact Heap.lt_size e
  | ext φ => obtain ⟨_, ⟨_, e⟩, _⟩ := x; exact Heap.lt_size e
theorem Paired.mapP {α β : Type} {F G : α → β → Prop} : ∀ {l₁ : List α} {l₂ : List β}, Paired F l₁ l₂ → (∀ a b, F a b → G a b) → Paired G l₁ l₂
  | _, _, .nil, _ => .nil
  | _, _, .cons r t, f => .cons (f _ _ r) (Paired.mapP t f)
theorem zb1.stay (x : zb1 P w H h a o) (k : ∀ b u, (b = a ∨ H b = some (.own a)) → h.get? b = some u → h'.get? b = some u)
    (ho : ∀ b, H b = some (.own a) → H' b = some (.own a)) (ht : ∀ b xs, H b = some (.tup xs) → H' b = some (.tup xs)) : zb1 P w H' h' a o := by
  induction o with
  | lst xs => obtain ⟨z, its, n, r, e⟩ := x; exact ⟨z, its, n, r, k _ _ (.inl rfl) e⟩
  | tup xs => obtain ⟨z, its, r, ob, e, c⟩ := x; exact ⟨z, its, r, ob, k _ _ (.inl rfl) e, c⟩
  | dK kvs => obtain ⟨z, y, vs, r, ob, es, ep, e, c⟩ := x; exact ⟨z, y, vs, r, ob, es, ep, k _ _ (.inl rfl) e, c⟩
  | dT kvs =>
    obtain ⟨z, y, xs, r, ob, es, ep, e, c⟩ := x
    exact ⟨z, y, xs, Paired.mapP r fun p q z => ⟨z.1, ht _ _ z.2.1, z.2.2⟩, ob, es, ep, k _ _ (.inl rfl) e, c⟩
  | set S n => obtain ⟨ob, es, ep, t, e, c⟩ := x; exact ⟨ob, es, ep, t, k _ _ (.inl rfl) e, c⟩
  | ins C dx fs =>
    obtain ⟨d, z, ne, e, mA, ⟨od, es, ep, e2, c⟩, r⟩ := x
    exact ⟨ho _ d, z, ne, k _ _ (.inl rfl) e, mA, ⟨od, es, ep, k _ _ (.inr d) e2, c⟩, r⟩
  | own y => obtain ⟨ob, e⟩ := x; exact ⟨ob, k _ _ (.inl rfl) e⟩
  | xd fs => obtain ⟨mA, ⟨od, es, ep, e, c⟩, r⟩ := x; exact ⟨mA, ⟨od, es, ep, k _ _ (.inl rfl) e, c⟩, r⟩
  | rng lo hi => obtain ⟨t, u, v, e⟩ := x; exact ⟨t, u, v, k _ _ (.inl rfl) e⟩
  | frz ob u ih => obtain ⟨e, q⟩ := x; exact ⟨k _ _ (.inl rfl) e, ih q⟩
  | tbl ps =>
    have e : h.get? a = some { cls := .none, data := .fields ps } := x
    show h'.get? a = some { cls := .none, data := .fields ps }
    exact k a _ (.inl rfl) e
  | met f y =>
    have e : h.get? a = some (PySem.W.methodObj (.ref f) (.ref y)) := x
    show h'.get? a = some (PySem.W.methodObj (.ref f) (.ref y))
    exact k a _ (.inl rfl) e
  | exc C dx fs =>
    obtain ⟨ob, vs, e, hc, hd, hv, hl, hw, mA, hm, r⟩ := x
    refine ⟨ob, vs, k _ _ (.inl rfl) e, hc, hd, hv, hl, fun d q => ⟨ho _ (hw d q).1, (hw d q).2⟩, mA, ?_, r⟩
    cases dx with
    | none => exact hm
    | some d =>
      obtain ⟨od, es, ep, e2, c⟩ := hm
      exact ⟨od, es, ep, k _ _ (.inr (hw d rfl).1) e2, c⟩
  | ext φ => obtain ⟨p, ⟨o, e⟩, st⟩ := x; exact ⟨st _ _ p fun o q => k _ _ (.inl rfl) q, ⟨o, k _ _ (.inl rfl) e⟩, st⟩
theorem HOk.lt (x : HOk P w H h) (e : H a = some o) : a < h.objs.size := (x a o e).lt
theorem HOk.fresh (x : HOk P w H h) (e : h.objs.size ≤ a) : H a = none := by
  cases q : H a with
  | none => rfl
  | some u => exact absurd (Nat.lt_of_lt_of_le (x.lt q) e) (Nat.lt_irrefl _)
theorem HOk.kept (x : HOk P w H h) (k : ∀ b u, h.get? b = some u → h'.get? b = some u) : HOk P w H h' := fun a o e =>
  (x a o e).stay (fun b u _ q => k b u q) (fun _ q => q) fun _ _ q => q
theorem HOk.laid (x : HOk P w H h) (k : ∀ b u, h.get? b = some u → h'.get? b = some u) (hp : h.objs.size ≤ a) (new : zb1 P w (upd H a o) h' a o) : HOk P w (upd H a o) h' := fun b u e => by
  have hn := x.fresh hp
  by_cases hb : b = a
  · subst hb; rw [zba] at e; cases e; exact new
  · rw [zaN hb] at e
    exact (x b u e).stay (fun c v _ q => k c v q) (fun c q => by rw [zaN (zbf q hn)]; exact q) fun c xs q => by rw [zaN (zbf q hn)]; exact q
end
def Rd (H : Hp) (a : Addr) (u : HO) : Prop := H a = some u ∨ ∃ o, H a = some (.frz o u)
theorem Rd.ok {P : Program} {w : World} {H : Hp} {h : Heap} {a : Addr} {u : HO} (r : Rd H a u) (x : HOk P w H h) : zb1 P w H h a u := by
  rcases r with r | ⟨o, r⟩
  · exact x a u r
  · obtain ⟨_, q⟩ := x a _ r
    exact q
def Mut : Option HO → Prop
  | some (.lst _) => True
  | some (.dK _) => True
  | some (.dT _) => True
  | some (.set _ _) => True
  | some (.ins _ _ _) => True
  | some (.exc _ _ _) => True
  | some (.ext _) => True
  | _ => False
section
variable {P : Program} {w : World} {H : Hp} {h h' : Heap} {x e : Addr} {o' : HO}
theorem HOk.write (ok : HOk P w H h) (mu : Mut (H x)) (he : e = x ∨ H e = some (.own x)) (k : ∀ b u, b ≠ e → h.get? b = some u → h'.get? b = some u) (heo : ∃ u, h'.get? e = some u)
    (new : zb1 P w (upd H x o') h' x o') : HOk P w (upd H x o') h' := fun b u q => by
  have nown : ∀ c y, H c = some (.own y) → c ≠ x := fun c y r z => by subst z; rw [r] at mu; exact mu
  have ntup : ∀ c xs, H c = some (.tup xs) → c ≠ x := fun c xs r z => by subst z; rw [r] at mu; exact mu
  by_cases hb : b = x
  · subst hb; rw [zba] at q; cases q; exact new
  · rw [zaN hb] at q
    by_cases hbe : b = e
    · have q' : H b = some (.own x) := by
        rcases he with z | z
        · exact absurd (hbe.trans z) hb
        · rw [hbe]; exact z
      rw [q] at q'; cases q'
      obtain ⟨v, hv⟩ := heo
      exact ⟨v, by rw [hbe]; exact hv⟩
    · refine (ok b u q).stay (fun c v hc r => k c v ?_ r) (fun c r => by rw [zaN (nown c b r)]; exact r) fun c xs r => by rw [zaN (ntup c xs r)]; exact r
      rcases hc with rfl | hc
      · exact hbe
      · rintro rfl
        rcases he with z | z
        · exact nown c b hc z
        · rw [hc] at z; cases z; exact hb rfl
end
structure Un (fs ex : List Addr) (H H' : Hp) (h h' : Heap) : Prop where
  keep : ∀ b o, h.get? b = some o → H b = none → b ∉ fs → b ∉ ex → h'.get? b = some o
  slot : ∀ b o, h.get? b = some o → H b = none → b ∈ fs → b ∉ ex → ∃ sl, h'.get? b = some { o with slots := sl }
  free : ∀ b o, h.get? b = some o → H b = none → b ∉ ex → H' b = none
  there : ∀ b o, h.get? b = some o → b ∉ ex → ∃ o', h'.get? b = some o'
  tups : ∀ b xs, H b = some (.tup xs) → H' b = some (.tup xs)
  frzs : ∀ b o u, H b = some (.frz o u) → H' b = some (.frz o u)
  tbls : ∀ b ps, H b = some (.tbl ps) → ∃ more, H' b = some (.tbl (ps ++ more))
section
variable {fs fs' ex ex' : List Addr} {H H1 H2 : Hp} {h h1 h2 h' : Heap} {a x e : Addr} {o : HO}
theorem Un.any (u : Un fs ex H H1 h h1) {b : Addr} {ob : Obj} (q : h.get? b = some ob) (n : H b = none) (hx : b ∉ ex) : ∃ sl, h1.get? b = some { ob with slots := sl } := by
  by_cases hb : b ∈ fs
  · exact u.slot b ob q n hb hx
  · exact ⟨ob.slots, u.keep b ob q n hb hx⟩
theorem Un.kept (k : ∀ b u, h.get? b = some u → h'.get? b = some u) : Un fs ex H H h h' :=
  ⟨fun b ob q _ _ _ => k b ob q, fun b ob q _ _ _ => ⟨ob.slots, k b ob q⟩, fun _ _ _ n _ => n, fun b ob q _ => ⟨ob, k b ob q⟩, fun _ _ q => q, fun _ _ _ q => q, fun _ ps q => ⟨#[], by rw [q]; simp⟩⟩
theorem Un.refl : Un fs ex H H h h := Un.kept fun _ _ q => q
theorem Un.laid (k : ∀ b u, h.get? b = some u → h'.get? b = some u) (hp : h.objs.size ≤ a) (hn : H a = none) : Un fs ex H (upd H a o) h h' where
  keep := fun b u q _ _ _ => k b u q
  slot := fun b u q _ _ _ => ⟨u.slots, k b u q⟩
  free := fun b u q n _ => by rw [zaN (Nat.ne_of_lt (Nat.lt_of_lt_of_le (Heap.lt_size q) hp))]; exact n
  there := fun b u q _ => ⟨u, k b u q⟩
  tups := fun b xs q => by rw [zaN (zbf q hn)]; exact q
  frzs := fun b u xs q => by rw [zaN (zbf q hn)]; exact q
  tbls := fun b ps q => ⟨#[], by rw [zaN (zbf q hn), q]; simp⟩
theorem Un.write (mu : Mut (H x)) (he : e = x ∨ H e = some (.own x)) (k : ∀ b u, b ≠ e → h.get? b = some u → h'.get? b = some u) (heo : ∃ u, h'.get? e = some u) : Un fs ex H (upd H x o) h h' := by
  have hx : ∀ b, H b = none → b ≠ x := fun b n z => by subst z; rw [n] at mu; exact mu
  have hb : ∀ b, H b = none → b ≠ e := fun b n z => by
    subst z
    rcases he with r | r
    · exact hx b n r
    · rw [n] at r; cases r
  have hm : ∀ b u, H b = some u → ¬ Mut (some u) → b ≠ x := fun b u q nm z => by subst z; rw [q] at mu; exact nm mu
  refine ⟨fun b u q n _ _ => k b u (hb b n) q, fun b u q n _ _ => ⟨u.slots, k b u (hb b n) q⟩, fun b u q n _ => by rw [zaN (hx b n)]; exact n, fun b u q _ => ?_,
    fun b xs q => by rw [zaN (hm b _ q fun z => z)]; exact q, fun b u xs q => by rw [zaN (hm b _ q fun z => z)]; exact q, fun b ps q => ⟨#[], by rw [zaN (hm b _ q fun z => z), q]; simp⟩⟩
  by_cases hbe : b = e
  · subst hbe; exact heo
  · exact ⟨u, k b u hbe q⟩
end
def trk (h : Heap) (H : Hp) : List Addr := (List.range h.objs.size).filter fun a => (H a).isSome
def ziS (h : Heap) (H : Hp) : Heap := PySem.W.hideAll h (trk h H)
theorem zlU (h : Heap) (H : Hp) : (ziS h H).objs.size = h.objs.size := PySem.W.hideAll_size _ _
theorem zmN {h : Heap} {H : Hp} {b : Addr} {o : Obj} (e : h.get? b = some o) (n : H b = none) : (ziS h H).get? b = some o :=
  PySem.W.hideAll_get _ e fun hm => by
    have q : (H b).isSome = true := (List.mem_filter.mp hm).2
    rw [n] at q; simp at q
theorem of_hidT {h : Heap} {H : Hp} {b : Addr} {o : Obj} (e : (ziS h H).get? b = some o) : h.get? b = some o ∧ H b = none := by
  have e' : h.get? b = some o := PySem.W.of_hideAll (trk h H) e
  refine ⟨e', ?_⟩
  cases q : H b with
  | none => rfl
  | some x =>
    have hm : b ∈ trk h H := List.mem_filter.mpr ⟨List.mem_range.mpr (Heap.lt_size e'), by simp [q]⟩
    have z : (ziS h H).get? b = none := PySem.W.hideAll_none (trk h H) hm
    rw [z] at e; cases e
def allNews (g h : Heap) (L : Addr) : List (Addr × Obj) := (List.range h.objs.size).filterMap fun a => if a = L ∨ (g.get? a).isSome = true then none else (h.get? a).map fun o => (a, o)
def zc1 (g h : Heap) (L d : Addr) : List (Addr × Obj) := (allNews g h L).filter fun p => decide (p.1 ≠ d)
end L2
namespace L2
open PySem PySem.Spec PyProof.Rows
structure Mod (K : PySem.W.Frag) (mg : Str → Option Value) (base : Heap) : Prop where
  kin : K.In base
  glob : base.Ns mainGlobals mg
  blt : ∃ mb, base.Ns builtinsNs mb ∧ ∀ x : Str, x ≠ "__name__" → mb x = bootBuiltins x
  nolimit : base.NoLimit
structure Cx where
  prog : Program
  w : World
  K : PySem.W.Frag
  mg : Str → Option Value
  base : Heap
  A : Around
  N : List Str
  s₀ : Shared
  H₀ : Hp
  env : Env
  outer : List Env
  stack : List Env
  ex : List Addr
  fn : Str → Bool
  calm : Bool
  pn : List (Addr × Obj)
  xe : Value → Shared → Prop
def frs (l : List Env) : List Addr := l.filterMap (·.frame)
abbrev Cx.fs (X : Cx) : List Addr := frs X.outer
def Vis (sc : Scope) (x : Str) : Prop := sc.names.lookup x = some .local ∨ sc.names.lookup x = some .cell ∨ sc.names.lookup x = some .free
def Loc (sc : Scope) (x : Str) : Prop := sc.names.lookup x = some .local ∨ sc.names.lookup x = some .cell
def Look (env : Env) (h : Heap) (m : Str → Option Value) (x : Str) (u : Value) : Prop :=
  (env.kindOf x = some .local ∧ m x = some u) ∨ ((env.kindOf x = some .cell ∨ env.kindOf x = some .free) ∧ ∃ c, env.cells.lookup x = some c ∧ h.IsCell c (some u))
structure Cx.Ok (X : Cx) : Prop where
  mod : Mod X.K X.mg X.base
  kind : X.env.scope.kind = .function
  glob : X.env.globals = mainGlobals
  blt : X.env.builtins = builtinsNs
  above : X.s₀.heap.objs.size ≤ X.env.locals
  inj : ∀ x y c, X.env.cells.lookup x = some c → X.env.cells.lookup y = some c → x = y
  has : ∀ x, (X.env.kindOf x = some .cell ∨ X.env.kindOf x = some .free) → ∃ c, X.env.cells.lookup x = some c
  cab : ∀ x c, X.fn x = true → X.env.cells.lookup x = some c → X.s₀.heap.objs.size ≤ c
  hd : X.calm = true → X.A.handled = none
  frames : X.A.frames = some X.stack
  stk : X.stack = X.outer ∨ (X.stack = X.env :: X.outer ∧ X.env.frame = some X.env.locals)
  exf : ∀ b ∈ X.ex, b ≠ X.env.locals ∧ ∀ x c, X.env.cells.lookup x = some c → c ≠ b
  bs : ∀ b o, X.base.get? b = some o → X.s₀.heap.get? b = some o ∧ X.H₀ b = none
  bsz : X.base.objs.size ≤ X.s₀.heap.objs.size
  noex : ∀ b o, X.base.get? b = some o → b ∉ X.ex
  exfs : ∀ b ∈ X.ex, b ∉ X.fs
  funs : X.s₀.heap.FunFrames X.base X.outer
  frf : ∀ b ∈ X.fs, X.H₀ b = none
structure Inv (X : Cx) (pins : List (Addr × Obj)) (σ : List (Option V)) (H : Hp) (s : Shared) : Prop where
  ok : X.Ok
  os : s.os = X.s₀.os
  bare : AllBare s.gens
  base : Un X.fs X.ex X.H₀ H X.s₀.heap s.heap
  loc : ∃ m, s.heap.Ns X.env.locals m ∧ ∀ (i : Nat) (x : Str) (v : V), X.N[i]? = some x → σ[i]? = some (some v) → Vis X.env.scope x → ∃ u, zaV v u ∧ Look X.env s.heap m x u
  cell : ∀ x c, X.env.cells.lookup x = some c → ∃ v, s.heap.IsCell c v
  free : H X.env.locals = none
  freeC : ∀ x c, X.env.cells.lookup x = some c → H c = none
  pin : ∀ p ∈ X.pn ++ pins, s.heap.get? p.1 = some p.2 ∧ H p.1 = none ∧ p.1 ≠ X.env.locals ∧ p.1 ∉ X.fs ∧ ∀ v, p.2.data ≠ .cell v
  hok : HOk X.prog X.w H s.heap
  len : σ.length = X.N.length
section
variable {X : Cx} {pins : List (Addr × Obj)} {σ : List (Option V)} {H H' : Hp} {s : Shared} {h' : Heap}
theorem Cx.Ok.nofr (ok : X.Ok) {b : Addr} {o : Obj} (e : X.base.get? b = some o) : b ∉ X.fs := fun hb => by
  have := (ok.funs.mem hb).1
  rw [e] at this; cases this
theorem Inv.bs (I : Inv X pins σ H s) : ∀ b o, X.base.get? b = some o → s.heap.get? b = some o ∧ H b = none := fun b o e =>
  ⟨I.base.keep b o (I.ok.bs b o e).1 (I.ok.bs b o e).2 (I.ok.nofr e) (I.ok.noex b o e), I.base.free b o (I.ok.bs b o e).1 (I.ok.bs b o e).2 (I.ok.noex b o e)⟩
theorem Inv.bk (I : Inv X pins σ H s) : ∀ b o, X.base.get? b = some o → s.heap.get? b = some o := fun b o e => (I.bs b o e).1
theorem Inv.mod (I : Inv X pins σ H s) : Mod X.K X.mg X.base := I.ok.mod
theorem Inv.kIn (I : Inv X pins σ H s) : X.K.In s.heap := I.ok.mod.kin.keeps I.bk
theorem Inv.nolimit (I : Inv X pins σ H s) : s.heap.NoLimit := I.ok.mod.nolimit.keeps I.bk
theorem Inv.fr (I : Inv X pins σ H s) : ∃ m, Fr X.base X.env.locals s.heap m :=
  let ⟨m, hn, _⟩ := I.loc
  ⟨m, hn, I.bk, Nat.le_trans I.ok.bsz I.ok.above⟩
theorem Inv.lt (I : Inv X pins σ H s) : X.env.locals < s.heap.objs.size := let ⟨_, hn, _⟩ := I.loc; hn.lt
theorem Inv.sz (I : Inv X pins σ H s) : X.s₀.heap.objs.size ≤ s.heap.objs.size := Nat.le_trans I.ok.above (Nat.le_of_lt I.lt)
theorem Inv.nofs (I : Inv X pins σ H s) {a : Addr} (h : s.heap.objs.size ≤ a) : a ∉ X.fs := fun hb => by
  obtain ⟨_, o, ho, _⟩ := I.ok.funs.mem hb
  exact absurd (Nat.lt_of_lt_of_le (Heap.lt_size ho) (Nat.le_trans I.sz h)) (Nat.lt_irrefl _)
theorem Inv.cne (I : Inv X pins σ H s) : ∀ x c, X.env.cells.lookup x = some c → c ≠ X.env.locals := fun x c e z => by
  obtain ⟨v, o, ho, hd⟩ := I.cell x c e
  obtain ⟨m, ⟨o', es, ep, ho', hd', _⟩, _⟩ := I.loc
  rw [z, ho'] at ho; cases ho; rw [hd'] at hd; cases hd
theorem Inv.funs (I : Inv X pins σ H s) : s.heap.FunFrames X.base X.outer := by
  have all : ∀ (l : List Env), (∀ b ∈ frs l, b ∈ X.fs) → X.s₀.heap.FunFrames X.base l → s.heap.FunFrames X.base l := by
    intro l
    induction l with
    | nil => intro _ _; trivial
    | cons env r ih =>
      intro hs hl
      obtain ⟨hk, ⟨L, o, hf, hn, ho, hd⟩, hr⟩ := hl
      have hL : L ∈ X.fs := hs L (by unfold frs; rw [List.filterMap_cons, hf]; exact List.mem_cons_self)
      obtain ⟨sl, e⟩ := I.base.slot L o ho (I.ok.frf L hL) hL fun z => I.ok.exfs L z hL
      exact ⟨hk, ⟨L, _, hf, hn, e, hd⟩, ih (fun b hb => hs b (by unfold frs; rw [List.filterMap_cons, hf]; exact List.mem_cons_of_mem _ hb)) hr⟩
  exact all X.outer (fun _ hb => hb) I.ok.funs
theorem Inv.stack (I : Inv X pins σ H s) : s.heap.FunFrames X.base X.stack := by
  rcases I.ok.stk with e | ⟨e, hf⟩
  · rw [e]; exact I.funs
  · rw [e]
    obtain ⟨m, hn, _⟩ := I.loc
    refine .cons (by rw [I.ok.kind]; decide) hf hn ?_ I.funs
    exact Heap.get?_none_of_le (Nat.le_trans I.ok.bsz I.ok.above)
theorem Inv.stkSub (I : Inv X pins σ H s) : ∀ b ∈ frs X.stack, b ∈ X.env.locals :: X.fs := fun b hb => by
  rcases I.ok.stk with e | ⟨e, hf⟩
  · rw [e] at hb; exact List.mem_cons_of_mem _ hb
  · rw [e] at hb
    unfold frs at hb
    rw [List.filterMap_cons, hf] at hb
    exact hb
theorem Inv.stkFree (I : Inv X pins σ H s) : ∀ b ∈ frs X.stack, H b = none := fun b hb => by
  rcases List.mem_cons.mp (I.stkSub b hb) with e | hb
  · rw [e]; exact I.free
  · obtain ⟨_, o, ho, _⟩ := I.ok.funs.mem hb
    exact I.base.free b o ho (I.ok.frf b hb) fun z => I.ok.exfs b z hb
theorem Inv.step {g' : Array GenState} {t' : Nat} {d' : Drawn} {ch : List Addr} (I : Inv X pins σ H s)
    (hch : ∀ b ∈ ch, (b ∈ X.ex ∨ X.s₀.heap.objs.size ≤ b) ∧ b ≠ X.env.locals ∧ (∀ x c, X.env.cells.lookup x = some c → c ≠ b) ∧ ∀ p ∈ X.pn ++ pins, p.1 ≠ b)
    (keep : ∀ b o, b ≠ X.env.locals → b ∉ X.fs → b ∉ ch → s.heap.get? b = some o → H b = none → h'.get? b = some o)
    (slot : ∀ b o, b ≠ X.env.locals → b ∈ X.fs → b ∉ ch → s.heap.get? b = some o → H b = none → ∃ sl, h'.get? b = some { o with slots := sl }) (free : ∀ b o, b ∉ ch → s.heap.get? b = some o → H b = none → H' b = none)
    (there : ∀ b o, b ∉ ch → s.heap.get? b = some o → ∃ o', h'.get? b = some o')
    (tups : ∀ b xs, H b = some (.tup xs) → H' b = some (.tup xs)) (frzs : ∀ b o u, H b = some (.frz o u) → H' b = some (.frz o u)) (tbls : ∀ b ps, H b = some (.tbl ps) → ∃ more, H' b = some (.tbl (ps ++ more)))
    (ns : ∀ m, s.heap.Ns X.env.locals m → h'.Ns X.env.locals m) (hok : HOk X.prog X.w H' h') (hg : AllBare g') :
    Inv X pins σ H' { s with heap := h', gens := g', drawn := d', toks := t' } := by
  have neL : ∀ b o, X.s₀.heap.get? b = some o → b ≠ X.env.locals := fun b o e => Nat.ne_of_lt (Nat.lt_of_lt_of_le (Heap.lt_size e) I.ok.above)
  have neC : ∀ b o, X.s₀.heap.get? b = some o → b ∉ X.ex → b ∉ ch := fun b o e hx hb => by
    rcases (hch b hb).1 with z | z
    · exact hx z
    · exact absurd (Nat.lt_of_lt_of_le (Heap.lt_size e) z) (Nat.lt_irrefl _)
  have cellK : ∀ x c, X.env.cells.lookup x = some c → ∀ v, s.heap.IsCell c v → h'.IsCell c v := fun x c e v ⟨o, ho, hd⟩ => by
    have nch : c ∉ ch := fun z => (hch c z).2.2.1 x c e rfl
    by_cases hc : c ∈ X.fs
    · obtain ⟨sl, q⟩ := slot c o (I.cne x c e) hc nch ho (I.freeC x c e)
      exact ⟨_, q, hd⟩
    · exact ⟨o, keep c o (I.cne x c e) hc nch ho (I.freeC x c e), hd⟩
  refine ⟨I.ok, I.os, hg, ⟨fun b o e n hb hx => ?_, fun b o e n hb hx => ?_, fun b o e n hx => ?_, fun b o e hx => ?_, fun b xs e => tups b xs (I.base.tups b xs e), fun b o xs e => frzs b o xs (I.base.frzs b o xs e), fun b ps e => ?_⟩, ?_, fun x c e => ?_, ?_, fun x c e => ?_, fun p hp => ?_, hok, I.len⟩
  · exact keep b o (neL b o e) hb (neC b o e hx) (I.base.keep b o e n hb hx) (I.base.free b o e n hx)
  · obtain ⟨sl, e1⟩ := I.base.slot b o e n hb hx
    obtain ⟨sl', e2⟩ := slot b _ (neL b o e) hb (neC b o e hx) e1 (I.base.free b o e n hx)
    exact ⟨sl', e2⟩
  · obtain ⟨o', e1⟩ := I.base.there b o e hx
    exact free b o' (neC b o e hx) e1 (I.base.free b o e n hx)
  · obtain ⟨o', e1⟩ := I.base.there b o e hx
    exact there b o' (neC b o e hx) e1
  · obtain ⟨m1, e1⟩ := I.base.tbls b ps e
    obtain ⟨m2, e2⟩ := tbls b _ e1
    exact ⟨m1 ++ m2, by rw [e2, Array.append_assoc]⟩
  · obtain ⟨m, hn, hl⟩ := I.loc
    refine ⟨m, ns m hn, fun i x v e1 e2 e3 => ?_⟩
    obtain ⟨u, r, l⟩ := hl i x v e1 e2 e3
    refine ⟨u, r, ?_⟩
    rcases l with l | ⟨k, c, e, z⟩
    · exact .inl l
    · exact .inr ⟨k, c, e, cellK x c e _ z⟩
  · obtain ⟨v, z⟩ := I.cell x c e
    exact ⟨v, cellK x c e v z⟩
  · obtain ⟨m, ⟨o, _, _, ho, _⟩, _⟩ := I.loc
    exact free _ o (fun z => (hch _ z).2.1 rfl) ho I.free
  · obtain ⟨v, o, ho, hd⟩ := I.cell x c e
    exact free c o (fun z => (hch c z).2.2.1 x c e rfl) ho (I.freeC x c e)
  · obtain ⟨e, n, ne, nf, d⟩ := I.pin p hp
    have nch : p.1 ∉ ch := fun z => (hch p.1 z).2.2.2 p hp rfl
    exact ⟨keep p.1 p.2 ne nf nch e n, free p.1 p.2 nch e n, ne, nf, d⟩
theorem Inv.un {t' : Nat} (I : Inv X pins σ H s) (u : Un X.fs [] H H' s.heap h') (hok : HOk X.prog X.w H' h') : Inv X pins σ H' { s with heap := h', toks := t' } := by
  obtain ⟨m, ⟨o, es, ep, ho, r⟩, _⟩ := id I.loc
  obtain ⟨sl, hL⟩ := u.any ho I.free (by simp)
  exact I.step (g' := s.gens) (d' := s.drawn) (ch := []) (fun _ z => nomatch z) (fun b o _ hb _ e n => u.keep b o e n hb (by simp)) (fun b o _ hb _ e n => u.slot b o e n hb (by simp)) (fun b o _ e n => u.free b o e n (by simp)) (fun b o _ e => u.there b o e (by simp)) u.tups u.frzs u.tbls (fun m' hm => by
    obtain ⟨o', es', ep', ho', r'⟩ := hm
    rw [ho] at ho'; cases ho'
    exact ⟨_, es', ep', hL, r'⟩) hok I.bare
theorem Inv.call {g' : Array GenState} {t' : Nat} {d' : Drawn} {ch : List Addr} (I : Inv X pins σ H s) (u : Un (frs X.stack) ch H H' s.heap h') (hok : HOk X.prog X.w H' h') (hg : AllBare g')
    (hch : ∀ b ∈ ch, (b ∈ X.ex ∨ X.s₀.heap.objs.size ≤ b) ∧ b ≠ X.env.locals ∧ (∀ x c, X.env.cells.lookup x = some c → c ≠ b) ∧ ∀ p ∈ X.pn ++ pins, p.1 ≠ b) :
    Inv X pins σ H' { s with heap := h', gens := g', drawn := d', toks := t' } := by
  obtain ⟨m, ⟨o, es, ep, ho, r⟩, _⟩ := id I.loc
  obtain ⟨sl, hL⟩ := u.any ho I.free fun z => (hch _ z).2.1 rfl
  exact I.step (ch := ch) hch (fun b o hL hb hc e n => u.keep b o e n (fun z => (List.mem_cons.mp (I.stkSub b z)).elim hL hb) hc) (fun b o _ _ hc e n => u.any e n hc) (fun b o hc e n => u.free b o e n hc) (fun b o hc e => u.there b o e hc) u.tups u.frzs u.tbls (fun m' hm => by
    obtain ⟨o', es', ep', ho', r'⟩ := hm
    rw [ho] at ho'; cases ho'
    exact ⟨_, es', ep', hL, r'⟩) hok hg
theorem Inv.turned {t' : Nat} {it : Addr} (I : Inv X pins σ H s) (k : ∀ b o, b ≠ it → s.heap.get? b = some o → h'.get? b = some o) (hn : H it = none) (hL : it ≠ X.env.locals)
    (h1 : it ∈ X.ex ∨ X.s₀.heap.objs.size ≤ it) (h2 : ∀ x c, X.env.cells.lookup x = some c → c ≠ it) (h3 : ∀ p ∈ X.pn ++ pins, p.1 ≠ it) : Inv X pins σ H { s with heap := h', toks := t' } := by
  have nit : ∀ b u, H b = some u → b ≠ it := fun b u e z => by rw [z, hn] at e; cases e
  refine I.step (g' := s.gens) (d' := s.drawn) (ch := [it]) (fun b hb => ?_) (fun b o _ _ hc e _ => k b o (fun z => hc (by simp [z])) e) (fun b o _ _ hc e _ => ⟨o.slots, k b o (fun z => hc (by simp [z])) e⟩) (fun _ _ _ _ n => n)
    (fun b o hc e => ⟨o, k b o (fun z => hc (by simp [z])) e⟩) (fun _ _ e => e) (fun _ _ _ e => e) (fun b ps e => ⟨#[], by rw [e]; simp⟩) (fun m hm => ?_) (fun b u e => ?_) I.bare
  · have e : b = it := by simpa using hb
    subst e
    exact ⟨h1, hL, h2, h3⟩
  · obtain ⟨o, es, ep, ho, r⟩ := hm
    exact ⟨o, es, ep, k _ o (Ne.symm hL) ho, r⟩
  · refine (I.hok b u e).stay (fun c v hc q => k c v ?_ q) (fun _ q => q) fun _ _ q => q
    rcases hc with z | z
    · rw [z]; exact nit b u e
    · exact nit c _ z
theorem Inv.tok (I : Inv X pins σ H s) (t : Nat) : Inv X pins σ H { s with toks := t } := I.un (h' := s.heap) (t' := t) Un.refl I.hok
theorem Inv.kept {t' : Nat} (I : Inv X pins σ H s) (k : ∀ b u, s.heap.get? b = some u → h'.get? b = some u) : Inv X pins σ H { s with heap := h', toks := t' } := I.un (Un.kept k) (I.hok.kept k)
theorem Inv.laid {a : Addr} {o : HO} {t' : Nat} (I : Inv X pins σ H s) (k : ∀ b u, s.heap.get? b = some u → h'.get? b = some u) (hp : s.heap.objs.size ≤ a) (new : zb1 X.prog X.w (upd H a o) h' a o) :
    Inv X pins σ (upd H a o) { s with heap := h', toks := t' } := I.un (Un.laid k hp (I.hok.fresh hp)) (I.hok.laid k hp new)
theorem Inv.write {x e : Addr} {o : HO} {t' : Nat} (I : Inv X pins σ H s) (mu : Mut (H x)) (he : e = x ∨ H e = some (.own x)) (k : ∀ b u, b ≠ e → s.heap.get? b = some u → h'.get? b = some u) (heo : ∃ u, h'.get? e = some u)
    (new : zb1 X.prog X.w (upd H x o) h' x o) : Inv X pins σ (upd H x o) { s with heap := h', toks := t' } := I.un (Un.write mu he k heo) (I.hok.write mu he k heo new)
theorem Inv.pins_of {pins' : List (Addr × Obj)} (I : Inv X pins σ H s) (h : ∀ p ∈ pins', s.heap.get? p.1 = some p.2 ∧ H p.1 = none ∧ p.1 ≠ X.env.locals ∧ p.1 ∉ X.fs ∧ ∀ v, p.2.data ≠ .cell v) : Inv X pins' σ H s :=
  ⟨I.ok, I.os, I.bare, I.base, I.loc, I.cell, I.free, I.freeC, fun p hp => (List.mem_append.mp hp).elim (fun z => I.pin p (List.mem_append_left _ z)) (h p), I.hok, I.len⟩
theorem zjD {N : List Str} (hN : N.Nodup) {i j : Nat} {x : Str} (a : N[i]? = some x) (b : N[j]? = some x) : i = j := by
  obtain ⟨h1, e1⟩ := List.getElem?_eq_some_iff.mp a
  obtain ⟨h2, e2⟩ := List.getElem?_eq_some_iff.mp b
  exact (List.getElem_inj hN).mp (e1.trans e2.symm)
theorem zlB {M : Model} {A : Around} {E : Value → Shared → Prop} {i : Nat} {x : Str} {v : V} {u : Value} {Q : Unit → Shared → Prop} (I : Inv X pins σ H s) (hN : X.N.Nodup) (hi : X.N[i]? = some x) (hx : Loc X.env.scope x) (r : zaV v u)
    (h : ∀ s', Inv X pins (σ.set i (some v)) H s' → (∃ a, Heap.SameBut a s.heap s'.heap ∧ (a = X.env.locals ∨ X.env.cells.lookup x = some a)) → Q () s') (hf : X.fn x = true ∨ X.env.scope.names.lookup x = some .local := by first | exact .inl rfl | exact .inr rfl | assumption) : wpAny M A (storeName X.env x u) Q E s := by
  obtain ⟨m, hn, hl⟩ := id I.loc
  have hcls : (X.env.scope.kind == .class || (X.env.scope.kind == .module && X.env.locals != X.env.globals)) = false := by rw [I.ok.kind]; rfl
  have hiσ : i < σ.length := by rw [I.len]; exact (List.getElem?_eq_some_iff.mp hi).1
  have cne := I.cne
  have tracked : ∀ {a : Addr} {h' : Heap}, (∃ o, s.heap.get? a = some o ∧ H a = none) → Heap.SameBut a s.heap h' → HOk X.prog X.w H h' := fun {a h'} ha hs b ob e => by
    obtain ⟨_, _, hfree⟩ := ha
    refine (I.hok b ob e).stay (fun c w' hc q => (hs.2 c ?_).trans q) (fun _ q => q) fun _ _ q => q
    rintro rfl
    rcases hc with rfl | hc
    · rw [hfree] at e; cases e
    · rw [hfree] at hc; cases hc
  rcases hx with hk | hk
  · refine wpAny_storeName_local hk hn (fun h' hn' hs => ?_) hcls
    obtain ⟨oL, _, _, hoL, _⟩ := id hn
    refine h _ ⟨I.ok, I.os, I.bare, ⟨fun b o e n hb hx => ?_, fun b o e n hb hx => ?_, I.base.free, fun b o e hx => ?_, I.base.tups, I.base.frzs, I.base.tbls⟩, ⟨_, hn', fun j y v' e1 e2 e3 => ?_⟩, fun y c e => ?_, I.free, I.freeC, fun p hp => ?_, tracked ⟨oL, hoL, I.free⟩ hs, by simpa using I.len⟩ ⟨_, hs, .inl rfl⟩
    · exact (hs.2 b (Nat.ne_of_lt (Nat.lt_of_lt_of_le (Heap.lt_size e) I.ok.above))).trans (I.base.keep b o e n hb hx)
    · obtain ⟨sl, e1⟩ := I.base.slot b o e n hb hx
      exact ⟨sl, (hs.2 b (Nat.ne_of_lt (Nat.lt_of_lt_of_le (Heap.lt_size e) I.ok.above))).trans e1⟩
    · obtain ⟨o', e1⟩ := I.base.there b o e hx
      exact ⟨o', (hs.2 b (Nat.ne_of_lt (Nat.lt_of_lt_of_le (Heap.lt_size e) I.ok.above))).trans e1⟩
    · by_cases hj : j = i
      · subst hj
        rw [hi] at e1; cases e1
        rw [List.getElem?_set_self hiσ] at e2
        cases e2
        exact ⟨u, r, .inl ⟨hk, by simp⟩⟩
      · rw [List.getElem?_set_ne (Ne.symm hj)] at e2
        obtain ⟨u', r', q⟩ := hl j y v' e1 e2 e3
        refine ⟨u', r', ?_⟩
        rcases q with ⟨k, e⟩ | ⟨k, c, e, z⟩
        · refine .inl ⟨k, ?_⟩
          have : y ≠ x := fun e => hj (zjD hN e1 (e ▸ hi))
          simp [this, e]
        · exact .inr ⟨k, c, e, z.sameBut hs (cne y c e)⟩
    · obtain ⟨w', z⟩ := I.cell y c e
      exact ⟨w', z.sameBut hs (cne y c e)⟩
    · obtain ⟨e, n, ne, nf, d⟩ := I.pin p hp
      exact ⟨(hs.2 p.1 ne).trans e, n, ne, nf, d⟩
  · have hfn : X.fn x = true := by
      rcases hf with z | z
      · exact z
      · rw [z] at hk; cases hk
    obtain ⟨c, hc⟩ := I.ok.has x (.inl hk)
    obtain ⟨w', z⟩ := I.cell x c hc
    refine wpAny_storeName_cell I.ok.kind hk hc z (fun h' hc' hs => ?_)
    obtain ⟨oc, hoc, hocd⟩ := id z
    refine h { s with heap := h' } ⟨I.ok, I.os, I.bare, ⟨fun b o e n hb hx => ?_, fun b o e n hb hx => ?_, I.base.free, fun b o e hx => ?_, I.base.tups, I.base.frzs, I.base.tbls⟩, ⟨m, hn.sameBut hs (Ne.symm (cne x c hc)), fun j y v' e1 e2 e3 => ?_⟩, fun y c' e => ?_, I.free, I.freeC, fun p hp => ?_, tracked ⟨oc, hoc, I.freeC x c hc⟩ hs, by simpa using I.len⟩ ⟨c, hs, .inr hc⟩
    · exact (hs.2 b (Nat.ne_of_lt (Nat.lt_of_lt_of_le (Heap.lt_size e) (I.ok.cab x c hfn hc)))).trans (I.base.keep b o e n hb hx)
    · obtain ⟨sl, e1⟩ := I.base.slot b o e n hb hx
      exact ⟨sl, (hs.2 b (Nat.ne_of_lt (Nat.lt_of_lt_of_le (Heap.lt_size e) (I.ok.cab x c hfn hc)))).trans e1⟩
    · obtain ⟨o', e1⟩ := I.base.there b o e hx
      exact ⟨o', (hs.2 b (Nat.ne_of_lt (Nat.lt_of_lt_of_le (Heap.lt_size e) (I.ok.cab x c hfn hc)))).trans e1⟩
    · by_cases hj : j = i
      · subst hj
        rw [hi] at e1; cases e1
        rw [List.getElem?_set_self hiσ] at e2
        cases e2
        exact ⟨u, r, .inr ⟨.inl hk, c, hc, hc'⟩⟩
      · rw [List.getElem?_set_ne (Ne.symm hj)] at e2
        obtain ⟨u', r', q⟩ := hl j y v' e1 e2 e3
        refine ⟨u', r', ?_⟩
        rcases q with q | ⟨k, c', e, z'⟩
        · exact .inl q
        · refine .inr ⟨k, c', e, z'.sameBut hs ?_⟩
          rintro rfl
          exact hj (zjD hN e1 (I.ok.inj _ _ _ e hc ▸ hi))
    · by_cases hcc : c' = c
      · subst hcc; exact ⟨_, hc'⟩
      · obtain ⟨w2, z2⟩ := I.cell y c' e
        exact ⟨w2, z2.sameBut hs hcc⟩
    · obtain ⟨e, n, ne, nf, d⟩ := I.pin p hp
      refine ⟨(hs.2 p.1 ?_).trans e, n, ne, nf, d⟩
      intro q
      rw [q, hoc] at e
      have q' : oc = p.2 := Option.some.inj e
      exact d w' (by rw [← q']; exact hocd)
theorem zg5 {M : Model} {A : Around} {E : Value → Shared → Prop} {i : Nat} {x : Str} {v : V} {u : Value} {Q : Unit → Shared → Prop} (I : Inv X pins σ H s) (hN : X.N.Nodup) (hi : X.N[i]? = some x) (hx : Loc X.env.scope x) (r : zaV v u)
    (h : ∀ s', Inv X pins (σ.set i (some v)) H s' → Q () s') (hf : X.fn x = true ∨ X.env.scope.names.lookup x = some .local := by first | exact .inl rfl | exact .inr rfl | assumption) : wpAny M A (storeName X.env x u) Q E s :=
  zlB I hN hi hx r (fun s' I' _ => h s' I') hf
theorem Inv.call' {s' : Shared} {ch : List Addr} (I : Inv X pins σ H s) (ho : s'.os = s.os) (u : Un (frs X.stack) ch H H' s.heap s'.heap) (hok : HOk X.prog X.w H' s'.heap) (hg : AllBare s'.gens)
    (hch : ∀ b ∈ ch, (b ∈ X.ex ∨ X.s₀.heap.objs.size ≤ b) ∧ b ≠ X.env.locals ∧ (∀ x c, X.env.cells.lookup x = some c → c ≠ b) ∧ ∀ p ∈ X.pn ++ pins, p.1 ≠ b) : Inv X pins σ H' s' := by
  obtain ⟨h', g', d', t', o'⟩ := s'
  have e : o' = s.os := ho
  subst e
  exact I.call (g' := g') (t' := t') (d' := d') u hok hg hch
end
abbrev XK := Value → Option Addr → Hp → Prop
abbrev St := List (Option V)
abbrev VK := V → Hp → Prop
abbrev TE := St → Hp → VK → Prop
abbrev TT := St → Hp → (Bool → Hp → Prop) → Prop
abbrev TA := St → Hp → (List V → Hp → Prop) → Prop
structure zhL where
  nx : St → Hp → Prop
  rt : VK
  bk : St → Hp → Prop := fun _ _ => False
  ct : St → Hp → Prop := fun _ _ => False
abbrev TS := zhL → St → Hp → Prop
def EP (X : Cx) (pins : List (Addr × Obj)) (σ : St) (Q : VK) (u : Value) (s' : Shared) : Prop := ∃ v H', Inv X pins σ H' s' ∧ zaV v u ∧ Q v H'
def TP (X : Cx) (pins : List (Addr × Obj)) (σ : St) (Q : Bool → Hp → Prop) (b : Bool) (s' : Shared) : Prop := ∃ H', Inv X pins σ H' s' ∧ Q b H'
def AP (X : Cx) (pins : List (Addr × Obj)) (σ : St) (Q : List V → Hp → Prop) (us : List Value) (s' : Shared) : Prop := ∃ vs H', Inv X pins σ H' s' ∧ zaD vs us ∧ Q vs H'
def SP (X : Cx) (pins : List (Addr × Obj)) (D : zhL) (f : Flow) (s' : Shared) : Prop :=
  match f with
  | .next => ∃ σ' H', Inv X pins σ' H' s' ∧ D.nx σ' H'
  | .brk => ∃ σ' H', Inv X pins σ' H' s' ∧ D.bk σ' H'
  | .cont => ∃ σ' H', Inv X pins σ' H' s' ∧ D.ct σ' H'
  | .ret u => ∃ v σ' H', Inv X pins σ' H' s' ∧ zaV v u ∧ D.rt v H'
def PE (X : Cx) (e : Expr) (t : TE) : Prop :=
  ∀ (pins : List (Addr × Obj)) (s : Shared) (σ : St) (H : Hp) (Q : VK), Inv X pins σ H s → t σ H Q → wpAny (model X.prog X.w) X.A (eval e X.env) (EP X pins σ Q) X.xe s
def PT (X : Cx) (e : Expr) (t : TT) : Prop :=
  ∀ (pins : List (Addr × Obj)) (s : Shared) (σ : St) (H : Hp) (Q : Bool → Hp → Prop), Inv X pins σ H s → t σ H Q → wpAny (model X.prog X.w) X.A (isTrue e X.env (eval e X.env)) (TP X pins σ Q) X.xe s
def PW (X : Cx) (e : Expr) (t : TT) : Prop :=
  ∀ (whole : Sem Value) (pins : List (Addr × Obj)) (s : Shared) (σ : St) (H : Hp) (Q : Bool → Hp → Prop), Inv X pins σ H s → t σ H Q → wpAny (model X.prog X.w) X.A (isTrue e X.env whole) (TP X pins σ Q) X.xe s
theorem PW.pt {X : Cx} {e : Expr} {t : TT} (h : PW X e t) : PT X e t := h _
def PA (X : Cx) (es : List Expr) (t : TA) : Prop :=
  ∀ (pos : Pos) (pins : List (Addr × Obj)) (s : Shared) (σ : St) (H : Hp) (Q : List V → Hp → Prop), Inv X pins σ H s → t σ H Q → wpAny (model X.prog X.w) X.A (spliced (backTo pos (starEach es X.env))) (AP X pins σ Q) X.xe s
def PS (X : Cx) (st : Stmt) (t : TS) : Prop :=
  ∀ (pins : List (Addr × Obj)) (s : Shared) (σ : St) (H : Hp) (D : zhL), Inv X pins σ H s → t D σ H → wpAny (model X.prog X.w) X.A (exec st X.env) (SP X pins D) X.xe s
def PSs (X : Cx) (st : List Stmt) (t : TS) : Prop :=
  ∀ (pins : List (Addr × Obj)) (s : Shared) (σ : St) (H : Hp) (D : zhL), Inv X pins σ H s → t D σ H → wpAny (model X.prog X.w) X.A (execs st X.env) (SP X pins D) X.xe s
theorem thn {α : Type} {t : Sem α} {Q Q' : α → Shared → Prop} {M : Model} {A : Around} {E : Value → Shared → Prop} {s : Shared} (h : wpAny M A t Q E s) (hQ : ∀ a s, Q a s → Q' a s) : wpAny M A t Q' E s := wpAny_mono h hQ fun _ _ x => x
end L2
namespace L2
open PySem PySem.Spec PyProof.Rows
section
variable {X : Cx}
def tVar (i : Nat) : TE := fun σ H Q => ∃ v, σ[i]? = some (some v) ∧ Q v H
def tC (v : V) : TE := fun _ H Q => Q v H
theorem pe_var {i : Nat} {x : Str} {pos : Pos} (hN : X.N[i]? = some x) (hv : Vis X.env.scope x) (hd : (x == ("__debug__" : Str)) = false := by decide) (hcd : (x == ("__classdict__" : Str)) = false := by decide) : PE X (.Name x pos) (tVar i) := by
  intro pins s σ H Q I h
  obtain ⟨v, e, h⟩ := h
  obtain ⟨m, hn, hl⟩ := I.loc
  obtain ⟨u, r, l⟩ := hl i x v hN e hv
  have fin : EP X pins σ Q u s := ⟨v, H, I, r, h⟩
  rcases l with ⟨hk, hm⟩ | ⟨hk, c, hc, hcell⟩
  · exact wpAny_Name (wpAny_loadName_local I.ok.kind hk hn hm fin) hd
  · rcases hk with hk | hk
    · exact wpAny_Name (wpAny_loadName_cell I.ok.kind hk hc hcell fin) hd
    · exact wpAny_Name (wpAny_loadName_free I.ok.kind hk hc hcell fin hcd) hd
theorem pe_int {i j pos} : PE X (.Constant (.int i) j pos) (tC (.int i)) := fun _ _ _ H _ I h => wpAny_Constant_int ⟨.int i, H, I.tok _, ⟨_, rfl⟩, h⟩
theorem pe_bl {b j pos} : PE X (.Constant (.bool b) j pos) (tC (.bl b)) := fun _ _ _ H _ I h => Constant_bool ⟨.bl b, H, I, rfl, h⟩
theorem pe_non {j pos} : PE X (.Constant .none j pos) (tC .non) := fun _ _ _ H _ I h => Constant_none ⟨.non, H, I, rfl, h⟩
theorem pe_str {x j pos} : PE X (.Constant (.str x) j pos) (tC (.str x)) := fun _ _ _ H _ I h => Calls.Constant_str ⟨.str x, H, I.tok _, ⟨_, rfl⟩, h⟩
def Gl (X : Cx) (x : Str) : Prop := X.env.kindOf x = some .globalImplicit
theorem zfZ {E : Value → Shared → Prop} {pins : List (Addr × Obj)} {s : Shared} {σ : St} {H : Hp} {x : Str} {u : Value} {pos : Pos} {Q : Value → Shared → Prop} (I : Inv X pins σ H s) (hg : Gl X x) (hm : X.mg x = some u) (h : Q u s)
    (hd : (x == ("__debug__" : Str)) = false := by decide) : wpAny (model X.prog X.w) X.A (eval (.Name x pos) X.env) Q E s :=
  Calls.Name_function_global I.ok.kind hg (Calls.loadGlobal_global (by rw [I.ok.glob]; exact I.mod.glob.keeps I.bk) hm h) hd
theorem ziP {E : Value → Shared → Prop} {pins : List (Addr × Obj)} {s : Shared} {σ : St} {H : Hp} {x : Str} {u : Value} {pos : Pos} {Q : Value → Shared → Prop} (I : Inv X pins σ H s) (hg : Gl X x) (hm : X.mg x = none) (hv : bootBuiltins x = some u) (h : Q u s)
    (hn : x ≠ "__name__" := by decide) (hd : (x == ("__debug__" : Str)) = false := by decide) : wpAny (model X.prog X.w) X.A (eval (.Name x pos) X.env) Q E s := by
  obtain ⟨mb, h1, h2⟩ := I.mod.blt
  exact Calls.Name_function_global I.ok.kind hg (Calls.loadGlobal_builtin (by rw [I.ok.glob]; exact I.mod.glob.keeps I.bk) hm (by rw [I.ok.blt]; exact h1.keeps I.bk) ((h2 x hn).trans hv) h) hd
theorem zk0 {x : Str} {v : V} {u : Value} {pos : Pos} (hg : Gl X x) (hm : X.mg x = some u) (r : zaV v u) (hd : (x == ("__debug__" : Str)) = false := by decide) : PE X (.Name x pos) (tC v) :=
  fun _ _ _ H _ I h => zfZ I hg hm ⟨v, H, I, r, h⟩ hd
theorem pe_bltn {x : Str} {v : V} {u : Value} {pos : Pos} (hg : Gl X x) (hm : X.mg x = none) (hv : bootBuiltins x = some u) (r : zaV v u) (hn : x ≠ "__name__" := by decide) (hd : (x == ("__debug__" : Str)) = false := by decide) : PE X (.Name x pos) (tC v) :=
  fun _ _ _ H _ I h => ziP I hg hm hv ⟨v, H, I, r, h⟩ hn hd
def t2I (ta tb : TE) (k : Int → Int → Hp → Prop) : St → Hp → Prop := fun σ H => ta σ H fun x H1 => tb σ H1 fun y H2 => ∃ i j, x = .int i ∧ y = .int j ∧ k i j H2
variable {a b : Expr} {ta tb : TE} {pos : Pos}
def tCmp (p : Int → Int → Bool) (ta tb : TE) : TE := fun σ H Q => t2I ta tb (fun i j H2 => Q (.bl (p i j)) H2) σ H
abbrev tLt : TE → TE → TE := tCmp fun i j => decide (i < j)
abbrev tLe : TE → TE → TE := tCmp fun i j => decide (i ≤ j)
abbrev tGt : TE → TE → TE := tCmp fun i j => decide (j < i)
abbrev tGe : TE → TE → TE := tCmp fun i j => decide (j ≤ i)
abbrev tEqI : TE → TE → TE := tCmp fun i j => decide (i = j)
abbrev tNeI : TE → TE → TE := tCmp fun i j => !decide (i = j)
variable {tA tB' : TT} {zc1 : List Expr}
def zfP (t u : TT) : TT := fun σ H Q => t σ H fun c H1 => if c = true then u σ H1 Q else Q false H1
def tOr (t u : TT) : TT := fun σ H Q => t σ H fun c H1 => if c = true then Q true H1 else u σ H1 Q
def zem (t : TT) : TT := fun σ H Q => t σ H fun c H1 => Q (!c) H1
theorem pw_and1 (ha : PT X a tA) : PW X (.BoolOp .And [a] pos) tA := by
  intro wh pins s σ H Q I h
  refine isTrue_and (thn (ha pins s σ H Q I h) fun c s1 e => ?_)
  cases c with
  | true => exact isTrue_and_nil e
  | false => exact e
theorem pw_or1 (ha : PT X a tA) : PW X (.BoolOp .Or [a] pos) tA := by
  intro wh pins s σ H Q I h
  refine isTrue_or (thn (ha pins s σ H Q I h) fun c s1 e => ?_)
  cases c with
  | false => exact isTrue_or_nil e
  | true => exact e
theorem pw_and (ha : PT X a tA) (hb : PW X (.BoolOp .And (b :: zc1) pos) tB') : PW X (.BoolOp .And (a :: b :: zc1) pos) (zfP tA tB') := by
  intro wh pins s σ H Q I h
  refine isTrue_and (thn (ha pins s σ H _ I h) fun c s1 ⟨H1, I1, q1⟩ => ?_)
  cases c with
  | true => exact hb wh pins s1 σ H1 Q I1 q1
  | false => exact ⟨H1, I1, q1⟩
theorem pw_or (ha : PT X a tA) (hb : PW X (.BoolOp .Or (b :: zc1) pos) tB') : PW X (.BoolOp .Or (a :: b :: zc1) pos) (tOr tA tB') := by
  intro wh pins s σ H Q I h
  refine isTrue_or (thn (ha pins s σ H _ I h) fun c s1 ⟨H1, I1, q1⟩ => ?_)
  cases c with
  | true => exact ⟨H1, I1, q1⟩
  | false => exact hb wh pins s1 σ H1 Q I1 q1
theorem pt_not (ha : PT X a tA) : PT X (.UnaryOp .Not a pos) (zem tA) := by
  intro pins s σ H Q I h
  exact isTrue_not (ha pins s σ H (fun c H1 => Q (!c) H1) I h)
def tAndV (ta tb : TE) : TE := fun σ H Q => ta σ H fun x H1 => ∃ c, x = .bl c ∧ if c = true then tb σ H1 Q else Q (.bl false) H1
def tNotV (ta : TE) : TE := fun σ H Q => ta σ H fun x H1 => ∃ c, x = .bl c ∧ Q (.bl (!c)) H1
theorem pe_one {op} {t : TE} (h : PE X a t) : PE X (.BoolOp op [a] pos) t := fun pins s σ H Q I hw => BoolOp_one (h pins s σ H Q I hw)
theorem pe_and (ha : PE X a ta) (hb : PE X (.BoolOp .And (b :: zc1) pos) tb) : PE X (.BoolOp .And (a :: b :: zc1) pos) (tAndV ta tb) := by
  intro pins s σ H Q I h
  refine BoolOp_and (thn (ha pins s σ H _ I h) fun v s1 ⟨x, H1, I1, r1, q1⟩ => ?_)
  obtain ⟨c, rfl, q1⟩ := q1
  cases r1
  refine wpAny_truthy_bool ?_
  cases c with
  | true => exact hb pins s1 σ H1 Q I1 q1
  | false => exact ⟨.bl false, H1, I1, rfl, q1⟩
theorem pe_not (ha : PE X a ta) : PE X (.UnaryOp .Not a pos) (tNotV ta) := by
  intro pins s σ H Q I h
  refine UnaryOp_ (thn (ha pins s σ H _ I h) fun v s1 ⟨x, H1, I1, r1, q1⟩ => ?_)
  obtain ⟨c, rfl, q1⟩ := q1
  cases r1
  exact not_of (wpAny_truthy_bool ⟨.bl (!c), H1, I1, rfl, q1⟩)
def tIf (t : TT) (ta tb : TE) : TE := fun σ H Q => t σ H fun c H1 => if c = true then ta σ H1 Q else tb σ H1 Q
theorem zmo {c : Expr} (hc : PT X c tA) (ha : PE X a ta) (hb : PE X b tb) : PE X (.IfExp c a b pos) (tIf tA ta tb) := by
  intro pins s σ H Q I h
  refine wpAny_IfExp (thn (hc pins s σ H _ I h) fun d s1 ⟨H1, I1, q1⟩ => ?_)
  cases d with
  | true => exact ha pins s1 σ H1 Q I1 q1
  | false => exact hb pins s1 σ H1 Q I1 q1
end
end L2
namespace L2
open PySem PySem.Spec PyProof.Rows
def SqL (K : PySem.W.Frag) (H : Hp) (a : Addr) (xs : List V) : Prop :=
  Rd H a (.lst xs) ∨
    ∃ (o : Obj) (its : Array Value) (n : Nat), K.lookup a = some o ∧ o.cls = .type "list" ∧ o.dict = none ∧ o.data = .seq its n ∧ its.size ≤ sizeLine ∧ zaD xs its.toList
def SqT (K : PySem.W.Frag) (H : Hp) (a : Addr) (xs : List V) : Prop :=
  Rd H a (.tup xs) ∨
    ∃ (o : Obj) (its : Array Value) (n : Nat), K.lookup a = some o ∧ o.cls = .type "tuple" ∧ o.data = .seq its n ∧ its.size ≤ sizeLine ∧ zaD xs its.toList
def absV : Value → Option V
  | .none => some .non
  | .bool b => some (.bl b)
  | .int i _ => some (.int i)
  | .str x _ => some (.str x)
  | .bytes b _ => some (.byt b)
  | .float b _ => some (.flt b)
  | .ref a => some (.ref a)
  | .type n => some (.ty n)
  | _ => none
theorem zaV.abs {x : V} {u : Value} (r : zaV x u) : absV u = some x := by
  cases x with
  | non => cases r; rfl
  | bl _ => cases r; rfl
  | int _ => obtain ⟨t, rfl⟩ := r; rfl
  | str _ => obtain ⟨t, rfl⟩ := r; rfl
  | byt _ => obtain ⟨t, rfl⟩ := r; rfl
  | flt _ => obtain ⟨t, rfl⟩ := r; rfl
  | ref _ => cases r; rfl
  | ty _ => cases r; rfl
theorem zaV.inj {x y : V} {u : Value} (r : zaV x u) (q : zaV y u) : x = y := Option.some.inj (r.abs.symm.trans q.abs)
theorem zaD.inj : ∀ {xs ys : List V} {us : List Value}, zaD xs us → zaD ys us → xs = ys
  | _, _, _, .nil, .nil => rfl
  | _, _, _, .cons r t, .cons r' t' => by rw [r.inj r', zaD.inj t t']
section
variable {X : Cx} {pins : List (Addr × Obj)} {σ : St} {H : Hp} {s : Shared} {a : Addr} {xs ys : List V}
theorem SqL.of {K : PySem.W.Frag} (h : H a = some (.lst xs)) : SqL K H a xs := .inl (.inl h)
theorem SqT.of {K : PySem.W.Frag} (h : H a = some (.tup xs)) : SqT K H a xs := .inl (.inl h)
theorem Inv.list (I : Inv X pins σ H s) (h : SqL X.K H a xs) : ∃ its : List Value, zaD xs its ∧ PlainL s.heap a its.toArray ∧ xs.length ≤ sizeLine := by
  rcases h with h | ⟨o, its, n, hk, hc, hd, hs, hz, r⟩
  · obtain ⟨z, its, n, r, e⟩ := h.ok I.hok
    exact ⟨its, r, ⟨_, n, e, rfl, rfl, rfl⟩, z⟩
  · refine ⟨its.toList, r, ⟨o, n, I.kIn a o hk, hc, hd, by simpa using hs⟩, ?_⟩
    have e := r.length
    simp only [Array.length_toList] at e
    omega
theorem Inv.tuple (I : Inv X pins σ H s) (h : SqT X.K H a xs) : ∃ its : List Value, zaD xs its ∧ IsTup s.heap a its.toArray ∧ xs.length ≤ sizeLine := by
  rcases h with h | ⟨o, its, n, hk, hc, hs, hz, r⟩
  · obtain ⟨z, its, r, p⟩ := h.ok I.hok
    exact ⟨its, r, p, z⟩
  · refine ⟨its.toList, r, ⟨o, I.kIn a o hk, hc, n, by simpa using hs⟩, ?_⟩
    have e := r.length
    simp only [Array.length_toList] at e
    omega
theorem Inv.list_inj (I : Inv X pins σ H s) (h : SqL X.K H a xs) (h' : SqL X.K H a ys) : xs = ys := by
  obtain ⟨its, r, ⟨o, n, e, _, _, d⟩, _⟩ := I.list h
  obtain ⟨its', r', ⟨o', n', e', _, _, d'⟩, _⟩ := I.list h'
  rw [e] at e'; cases e'
  rw [d] at d'
  injection d' with d1 _
  have : its = its' := by simpa using congrArg Array.toList d1
  subst this
  exact r.inj r'
theorem Inv.tuple_inj (I : Inv X pins σ H s) (h : SqT X.K H a xs) (h' : SqT X.K H a ys) : xs = ys := by
  obtain ⟨its, r, ⟨o, e, _, n, d⟩, _⟩ := I.tuple h
  obtain ⟨its', r', ⟨o', e', _, n', d'⟩, _⟩ := I.tuple h'
  rw [e] at e'; cases e'
  rw [d] at d'
  injection d' with d1 _
  have : its = its' := by simpa using congrArg Array.toList d1
  subst this
  exact r.inj r'
end
abbrev Cx.wish (X : Cx) (E : Value → Shared → Prop) : Cx := { X with xe := E }
abbrev Cx.nox (X : Cx) : Cx := X.wish fun _ _ => False
theorem Cx.Ok.wish {X : Cx} (ok : X.Ok) (E : Value → Shared → Prop) : (X.wish E).Ok :=
  ⟨ok.mod, ok.kind, ok.glob, ok.blt, ok.above, ok.inj, ok.has, ok.cab, ok.hd, ok.frames, ok.stk, ok.exf, ok.bs, ok.bsz, ok.noex, ok.exfs, ok.funs, ok.frf⟩
theorem Cx.Ok.unwish {X : Cx} {E : Value → Shared → Prop} (ok : (X.wish E).Ok) : X.Ok :=
  ⟨ok.mod, ok.kind, ok.glob, ok.blt, ok.above, ok.inj, ok.has, ok.cab, ok.hd, ok.frames, ok.stk, ok.exf, ok.bs, ok.bsz, ok.noex, ok.exfs, ok.funs, ok.frf⟩
section
variable {X : Cx} {pins : List (Addr × Obj)} {σ : St} {H : Hp} {s : Shared} {E : Value → Shared → Prop}
theorem Inv.wish (I : Inv X pins σ H s) (E : Value → Shared → Prop) : Inv (X.wish E) pins σ H s := ⟨I.ok.wish E, I.os, I.bare, I.base, I.loc, I.cell, I.free, I.freeC, I.pin, I.hok, I.len⟩
theorem Inv.unwish (I : Inv (X.wish E) pins σ H s) : Inv X pins σ H s := ⟨I.ok.unwish, I.os, I.bare, I.base, I.loc, I.cell, I.free, I.freeC, I.pin, I.hok, I.len⟩
theorem SP.unwish {D : zhL} {f : Flow} {s' : Shared} (h : SP (X.wish E) pins D f s') : SP X pins D f s' := by
  cases f with
  | next => obtain ⟨σ', H', I, q⟩ := h; exact ⟨σ', H', I.unwish, q⟩
  | brk => obtain ⟨σ', H', I, q⟩ := h; exact ⟨σ', H', I.unwish, q⟩
  | cont => obtain ⟨σ', H', I, q⟩ := h; exact ⟨σ', H', I.unwish, q⟩
  | ret u => obtain ⟨v, σ', H', I, r, q⟩ := h; exact ⟨v, σ', H', I.unwish, r, q⟩
theorem PSs.nox {st : List Stmt} {t : TS} (h : PSs X.nox st t) : PSs X st t := fun pins s σ H D I hw =>
  wpAny_mono (h pins s σ H D (I.wish _) hw) (fun _ _ q => q.unwish) fun _ _ z => False.elim z
end
section
variable {X : Cx} {st : Stmt} {zc1 : List Stmt} {t u : TS} {e : Expr} {te : TE} {pos : Pos}
def tNext : TS := fun D σ H => D.nx σ H
def tSeq (t u : TS) : TS := fun D σ H => t { D with nx := u D } σ H
theorem zkX : PSs X [] tNext := fun _ _ σ H _ I h => wpAny_execs_nil ⟨σ, H, I, h⟩
theorem zjx (h1 : PS X st t) (h2 : PSs X zc1 u) : PSs X (st :: zc1) (tSeq t u) := by
  intro pins s σ H D I h
  refine wpAny_execs_cons (thn (h1 pins s σ H { D with nx := u D } I h) fun f s1 q => ?_)
  cases f with
  | next =>
    obtain ⟨σ', H', I', q⟩ := q
    exact h2 pins s1 σ' H' D I' q
  | ret v => exact q
  | brk => exact q
  | cont => exact q
theorem ziy (h1 : PS X st t) : PSs X [st] t := by
  intro pins s σ H D I h
  refine wpAny_execs_cons (thn (h1 pins s σ H D I h) fun f s1 q => ?_)
  cases f with
  | next => exact wpAny_execs_nil q
  | ret v => exact q
  | brk => exact q
  | cont => exact q
theorem Inv.quiet {pins : List (Addr × Obj)} {σ : St} {H : Hp} {s : Shared} (I : Inv X pins σ H s) : interactive X.env = false := by simp [interactive, I.ok.kind]
def tDrop (te : TE) : TS := fun D σ H => te σ H fun _ H1 => D.nx σ H1
theorem ps_expr (he : PE X e te) (hs : swapsWith e none pos.line X.env = pure false := by rfl) : PS X (.Expr e pos) (tDrop te) := by
  intro pins s σ H D I h
  exact wpAny_Expr_any (thn (he pins s σ H _ I h) fun v s1 ⟨x, H1, I1, r1, q1⟩ => ⟨σ, H1, I1, q1⟩) I.quiet hs
def tRet (te : TE) : TS := fun D σ H => te σ H D.rt
theorem zmh (he : PE X e te) : PS X (.Return (some e) pos) (tRet te) := by
  intro pins s σ H D I h
  exact wpAny_Return_some (thn (he pins s σ H _ I h) fun v s1 ⟨x, H1, I1, r1, q1⟩ => ⟨x, σ, H1, I1, r1, q1⟩)
def tIfS (c : TT) (t u : TS) : TS := fun D σ H => c σ H fun b H1 => if b = true then t D σ H1 else u D σ H1
theorem ps_if {c : Expr} {a b : List Stmt} {tc : TT} (hc : PT X c tc) (ha : PSs X a t) (hb : PSs X b u) : PS X (.If c a b pos) (tIfS tc t u) := by
  intro pins s σ H D I h
  refine wpAny_If (thn (hc pins s σ H _ I h) fun d s1 ⟨H1, I1, q1⟩ => ?_)
  cases d with
  | true => exact ha pins s1 σ H1 D I1 q1
  | false => exact hb pins s1 σ H1 D I1 q1
end
abbrev TG := V → St → Hp → (St → Hp → Prop) → Prop
abbrev TGs := List V → St → Hp → (St → Hp → Prop) → Prop
def PG (X : Cx) (target : Expr) (t : TG) : Prop :=
  ∀ (pins : List (Addr × Obj)) (s : Shared) (σ : St) (H : Hp) (v : V) (u : Value) (Q : St → Hp → Prop), Inv X pins σ H s → zaV v u → t v σ H Q →
    wpAny (model X.prog X.w) X.A (assign target X.env u) (fun _ s' => ∃ σ' H', Inv X pins σ' H' s' ∧ Q σ' H') X.xe s
abbrev TSet := V → V → V → Hp → (Hp → Prop) → Prop
def PSet (X : Cx) (t : TSet) : Prop :=
  ∀ (pins : List (Addr × Obj)) (s : Shared) (σ : St) (H : Hp) (o i v : V) (ov iv u : Value) (Q : Hp → Prop), Inv X pins σ H s → zaV o ov → zaV i iv → zaV v u → t o i v H Q →
    wpAny (model X.prog X.w) X.A (setItem ov iv u) (fun _ s' => ∃ H', Inv X pins σ H' s' ∧ Q H') X.xe s
abbrev TIp := V → V → Hp → VK → Prop
section
variable {X : Cx} {pos : Pos}
def zck (i : Nat) : TG := fun v σ H Q => Q (σ.set i (some v)) H
theorem zkY {i : Nat} {x : Str} (hN : X.N.Nodup) (hi : X.N[i]? = some x) (hx : Loc X.env.scope x) (hf : X.fn x = true ∨ X.env.scope.names.lookup x = some .local := by first | exact .inl rfl | exact .inr rfl | assumption) : PG X (.Name x pos) (zck i) := by
  intro pins s σ H v u Q I r h
  exact wpAny_assign_Name (zg5 I hN hi hx r (fun s' I' => ⟨_, H, I', h⟩) hf)
def gSub (to ti : TE) (t : TSet) : TG := fun v σ H Q => to σ H fun o H1 => ti σ H1 fun i H2 => t o i v H2 fun H3 => Q σ H3
theorem pg_sub {o i : Expr} {to ti : TE} {t : TSet} (ho : PE X o to) (hi : PE X i ti) (hs : PSet X t)
    (ha : ∀ v, assign (.Subscript o i pos) X.env v = (do
      let ov ← holding [v] (eval o X.env)
      let iv ← holding [v, ov] (eval i X.env)
      standAt pos
      holding [v, ov, iv] (setItem ov iv v)
      release [v, ov, iv] []) := by intro _; rfl) : PG X (.Subscript o i pos) (gSub to ti t) := by
  intro pins s σ H v u Q I r h
  rw [ha]
  refine wpAny_bind (wpAny_holding (thn (ho pins s σ H _ I h) fun ov s1 ⟨x, H1, I1, r1, q1⟩ => ?_))
  refine wpAny_bind (wpAny_holding (thn (hi pins s1 σ H1 _ I1 q1) fun iv s2 ⟨y, H2, I2, r2, q2⟩ => ?_))
  refine wpAny_bind (wpAny_standAt (wpAny_bind (wpAny_holding (thn (hs pins s2 σ H2 x y v ov iv u _ I2 r1 r2 r q2) fun _ s3 ⟨H3, I3, q3⟩ => ?_))))
  exact wpAny_release ⟨σ, H3, I3, q3⟩
def tAsg (te : TE) (g : TG) : TS := fun D σ H => te σ H fun x H1 => g x σ H1 D.nx
theorem ps_asg {tg e : Expr} {te : TE} {g : TG} (he : PE X e te) (hg : PG X tg g) (hs : swapsWithSole [tg] e pos.line X.env = pure false := by rfl) (hw : swappedStores [tg] e X.env = pure none := by rfl)
    (h1 : (assignEach [tg] X.env).map (·.2) = [assign tg X.env] := by rfl) : PS X (.Assign [tg] e pos) (tAsg te g) := by
  intro pins s σ H D I h
  refine wpAny_Assign_stores (thn (he pins s σ H _ I h) fun v s1 ⟨x, H1, I1, r1, q1⟩ => ?_) hs hw
  rw [h1]
  exact thn (hg pins s1 σ H1 x v _ I1 r1 q1) fun _ s2 q => q
theorem ps_set {i : Nat} {x : Str} {e : Expr} {te : TE} {pos' : Pos} (hN : X.N.Nodup) (hi : X.N[i]? = some x) (hx : Loc X.env.scope x) (he : PE X e te) (hs : swapsWith e (some (.Name x pos')) pos.line X.env = pure false := by rfl) (hf : X.fn x = true ∨ X.env.scope.names.lookup x = some .local := by first | exact .inl rfl | exact .inr rfl | assumption) :
    PS X (.Assign [.Name x pos'] e pos) (tAsg te (zck i)) := by
  intro pins s σ H D I h
  refine wpAny_Assign_Name (thn (he pins s σ H _ I h) fun v s1 ⟨y, H1, I1, r1, q1⟩ => ?_) hs
  exact zg5 I1 hN hi hx r1 (fun s2 I2 => ⟨_, H1, I2, q1⟩) hf
end
section
variable {X : Cx} {pos : Pos}
end
structure It where
  go : Nat → Hp → Prop
  yld : Nat → Hp → V → Hp → Prop
  stop : Nat → Hp → Prop
def zgW (X : Cx) (pins : List (Addr × Obj)) (H : Hp) (b : Addr) : Prop :=
  H b = none ∧ b ≠ X.env.locals ∧ b ∉ X.fs ∧ (b ∈ X.ex ∨ X.s₀.heap.objs.size ≤ b) ∧ (∀ x c, X.env.cells.lookup x = some c → c ≠ b) ∧ ∀ p ∈ X.pn ++ pins, p.1 ≠ b
theorem Inv.fpOk {X : Cx} {pins : List (Addr × Obj)} {σ : St} {H H' : Hp} {s : Shared} {b : Addr} (I : Inv X pins σ H s) (hb : s.heap.objs.size ≤ b) (hn : H' b = none) : zgW X pins H' b := by
  refine ⟨hn, Nat.ne_of_gt (Nat.lt_of_lt_of_le I.lt hb), I.nofs hb, .inr (Nat.le_trans I.sz hb), fun x c e z => ?_, fun p hp z => ?_⟩
  · obtain ⟨v, q⟩ := I.cell x c e
    exact absurd (Nat.lt_of_lt_of_le q.lt (by rw [z]; exact hb)) (Nat.lt_irrefl _)
  · exact absurd (Nat.lt_of_lt_of_le (Heap.lt_size (I.pin p hp).1) (by rw [z]; exact hb)) (Nat.lt_irrefl _)
structure zi5 (P : Program) (w : World) (K : PySem.W.Frag) (tg : Expr) (J : It) (fp : List Addr) (it : Addr) (tn : Nat → Heap → Prop) : Prop where
  mem : it ∈ fp
  obj : ∀ i h, tn i h → ∀ b ∈ fp, ∃ o, h.get? b = some o ∧ ∀ v, o.data ≠ .cell v
  keep : ∀ i h h', tn i h → (∀ b ∈ fp, ∀ o, h.get? b = some o → h'.get? b = some o) → tn i h'
  item : ∀ (X : Cx), X.prog = P → X.w = w → X.K = K → X.calm = true → ∀ (i : Nat) (pins : List (Addr × Obj)) (s : Shared) (σ : St) (H : Hp) (E : Value → Shared → Prop), Inv X pins σ H s → (∀ b ∈ fp, zgW X pins H b) → tn i s.heap → J.go i H →
    wpAny (model P w) X.A (pyNext (.ref it)) (fun r s1 => ∃ u, r = some u ∧
      wpAny (model P w) X.A (letOwnedTupleGo tg (.ref it) u) (fun _ s2 => ∃ x H', Inv X pins σ H' s2 ∧ zaV x u ∧ J.yld i H x H' ∧ tn (i + 1) s2.heap ∧ ∀ b ∈ fp, H' b = none) E s1) E s
  done : ∀ (X : Cx), X.prog = P → X.w = w → X.K = K → X.calm = true → ∀ (i : Nat) (pins : List (Addr × Obj)) (s : Shared) (σ : St) (H : Hp) (E : Value → Shared → Prop), Inv X pins σ H s → (∀ b ∈ fp, zgW X pins H b) → tn i s.heap → J.stop i H →
    wpAny (model P w) X.A (pyNext (.ref it)) (fun r s1 => r = none ∧ Inv X pins σ H s1) E s
  self : ∀ (A : Around) (i : Nat) (s : Shared) (Q : Value → Shared → Prop) (E : Value → Shared → Prop), tn i s.heap → Q (.ref it) s → wpAny (model P w) A (pyIter (.ref it)) Q E s
abbrev TI := St → Hp → (It → Hp → Prop) → Prop
def PIE (X : Cx) (pins : List (Addr × Obj)) (σ : St) (tg : Expr) (R : It → Hp → Prop) (itv : Value) (s2 : Shared) : Prop :=
  ∃ (it : Addr) (fp : List Addr) (tn : Nat → Heap → Prop) (J : It) (H' : Hp), itv = .ref it ∧ Inv X pins σ H' s2 ∧ zi5 X.prog X.w X.K tg J fp it tn ∧ tn 0 s2.heap ∧ (∀ b ∈ fp, zgW X pins H' b) ∧ R J H'
def PI (X : Cx) (tg iter : Expr) (wi : TI) : Prop :=
  ∀ (pins : List (Addr × Obj)) (s : Shared) (σ : St) (H : Hp) (R : It → Hp → Prop), Inv X pins σ H s → wi σ H R →
    wpAny (model X.prog X.w) X.A (eval iter X.env) (fun v s1 => wpAny (model X.prog X.w) X.A (pyIter v) (PIE X pins σ tg R) X.xe s1) X.xe s
theorem go_of {M : Model} {A : Around} {E : Value → Shared → Prop} {s : Shared} {tg : Expr} {it : Addr} {u : Value} {o : Obj} {n : String} {vs : Array Value} {Q : Unit → Shared → Prop} (ho : s.heap.get? it = some o) (hc : o.cls = .type n) (hd : o.data = .fields vs)
    (hn : ["enumerate", "zip", "dict_itemiterator", "dict_reverseitemiterator", "odict_iterator", "itertools.zip_longest", "itertools.pairwise"].contains n = false) (hQ : Q () s) : wpAny M A (letOwnedTupleGo tg (.ref it) u) Q E s := by
  unfold letOwnedTupleGo
  cases tg <;> first
    | exact wpAny_pure hQ
    | (cases u <;> first
        | exact wpAny_pure hQ
        | (refine wpAny_bind (wpAny_load ho ?_)
           rw [hc, hd]
           show wpAny M A (if (["enumerate", "zip", "dict_itemiterator", "dict_reverseitemiterator", "odict_iterator", "itertools.zip_longest", "itertools.pairwise"].contains n && vs[0]? == some (rawInt _)) = true then _ else _) Q E s
           rw [if_neg (by intro h; rw [hn, Bool.false_and] at h; cases h)]
           exact wpAny_pure hQ))
def Itl (K : PySem.W.Frag) (a : Addr) : It :=
  ⟨fun i H => ∃ xs x, SqL K H a xs ∧ xs[i]? = some x, fun i H x H' => H' = H ∧ ∀ xs, SqL K H a xs → xs[i]? = some x, fun i H => ∃ xs, SqL K H a xs ∧ xs.length ≤ i⟩
def Itt (K : PySem.W.Frag) (a : Addr) : It :=
  ⟨fun i H => ∃ xs x, SqT K H a xs ∧ xs[i]? = some x, fun i H x H' => H' = H ∧ ∀ xs, SqT K H a xs → xs[i]? = some x, fun i H => ∃ xs, SqT K H a xs ∧ xs.length ≤ i⟩
def Itr (lo : Int) (n : Nat) : It := ⟨fun i _ => i < n, fun i H x H' => H' = H ∧ x = .int (lo + i), fun i _ => n ≤ i⟩
theorem zlz {P : Program} {w : World} {K : PySem.W.Frag} {tg : Expr} (a it : Addr) : zi5 P w K tg (Itl K a) [it] it (fun i h => h.IsListIter it a i) where
  mem := by simp
  obj := fun i h st b hb => by
    have e : b = it := by simpa using hb
    subst e
    obtain ⟨o, e, c, d⟩ := st
    exact ⟨o, e, fun v z => by rw [d] at z; cases z⟩
  keep := fun i h h' st k => st.at fun o e => k it (by simp) o e
  item := by
    intro X hP hw hK hc i pins s σ H E I hf st hg
    subst hP hw hK
    obtain ⟨xs, x, hq, hx⟩ := hg
    obtain ⟨its, rv, p, hz⟩ := I.list hq
    obtain ⟨u, hu, ru⟩ := rv.get hx
    obtain ⟨f0, f1, f2, f3, f4, f5⟩ := hf it (by simp)
    refine wpAny_pyNext_list_item st p.isList (x := u) (by simpa using hu) fun h' st' sb => ?_
    have I1 : Inv X pins σ H { s with heap := h' } := I.turned (t' := s.toks) (fun b o hb e => (sb.2 b hb).trans e) f0 f1 f3 f4 f5
    obtain ⟨o, e, c, d⟩ := id st'
    exact ⟨u, rfl, go_of (s := { s with heap := h' }) e c d (by decide) ⟨x, H, I1, ru, ⟨rfl, fun ys hy => by rw [I.list_inj hy hq]; exact hx⟩, st', fun b hb => (hf b hb).1⟩⟩
  done := by
    intro X hP hw hK hc i pins s σ H E I hf st hg
    subst hP hw hK
    obtain ⟨xs, hq, hx⟩ := hg
    obtain ⟨its, rv, p, hz⟩ := I.list hq
    obtain ⟨f0, f1, f2, f3, f4, f5⟩ := hf it (by simp)
    have hl := rv.length
    exact wpAny_pyNext_list_end (I.ok.hd hc) st p.isList (by simp; omega) fun h' eb => ⟨rfl, I.turned (t' := s.toks) (fun b o hb e => eb b o hb e) f0 f1 f3 f4 f5⟩
  self := fun _ _ _ _ _ st h => wpAny_pyIter_listiter st h
theorem zj1 {P : Program} {w : World} {K : PySem.W.Frag} {tg : Expr} (a it : Addr) : zi5 P w K tg (Itt K a) [it] it (fun i h => h.IsTupleIter it a i) where
  mem := by simp
  obj := fun i h st b hb => by
    have e : b = it := by simpa using hb
    subst e
    obtain ⟨o, e, c, d⟩ := st
    exact ⟨o, e, fun v z => by rw [d] at z; cases z⟩
  keep := fun i h h' st k => st.at fun o e => k it (by simp) o e
  item := by
    intro X hP hw hK hc i pins s σ H E I hf st hg
    subst hP hw hK
    obtain ⟨xs, x, hq, hx⟩ := hg
    obtain ⟨its, rv, p, hz⟩ := I.tuple hq
    obtain ⟨u, hu, ru⟩ := rv.get hx
    obtain ⟨f0, f1, f2, f3, f4, f5⟩ := hf it (by simp)
    refine wpAny_pyNext_tuple_item st (show s.heap.IsTuple a its.toArray from p) (x := u) (by simpa using hu) fun h' st' sb => ?_
    have I1 : Inv X pins σ H { s with heap := h' } := I.turned (t' := s.toks) (fun b o hb e => (sb.2 b hb).trans e) f0 f1 f3 f4 f5
    obtain ⟨o, e, c, d⟩ := id st'
    exact ⟨u, rfl, go_of (s := { s with heap := h' }) e c d (by decide) ⟨x, H, I1, ru, ⟨rfl, fun ys hy => by rw [I.tuple_inj hy hq]; exact hx⟩, st', fun b hb => (hf b hb).1⟩⟩
  done := by
    intro X hP hw hK hc i pins s σ H E I hf st hg
    subst hP hw hK
    obtain ⟨xs, hq, hx⟩ := hg
    obtain ⟨its, rv, p, hz⟩ := I.tuple hq
    obtain ⟨f0, f1, f2, f3, f4, f5⟩ := hf it (by simp)
    have hl := rv.length
    exact wpAny_pyNext_tuple_end (I.ok.hd hc) st (show s.heap.IsTuple a its.toArray from p) (by simp; omega) fun h' eb => ⟨rfl, I.turned (t' := s.toks) (fun b o hb e => eb b o hb e) f0 f1 f3 f4 f5⟩
  self := fun _ _ _ _ _ st h => wpAny_pyIter_tupleiter st h
theorem zj2 {P : Program} {w : World} {K : PySem.W.Frag} {tg : Expr} (it : Addr) (lo : Int) (n : Nat) : zi5 P w K tg (Itr lo n) [it] it (fun i h => IsRangeIter h it (lo + (i : Nat) * 1) ((n : Int) - (i : Nat)) 1) where
  mem := by simp
  obj := fun i h st b hb => by
    have e : b = it := by simpa using hb
    subst e
    exact ⟨_, st, fun v z => by
      have z' : Data.fields _ = Data.cell v := z
      cases z'⟩
  keep := fun i h h' st k => k it (by simp) _ st
  item := by
    intro X hP hw hK hc i pins s σ H E I hf st hg
    subst hP hw hK
    obtain ⟨f0, f1, f2, f3, f4, f5⟩ := hf it (by simp)
    have W := Walks.range (prog := X.prog) (w := X.w) (I.ok.hd hc) it lo 1 n
    refine W.item i s _ _ hg st fun v h' tk hv st' kk => ?_
    obtain ⟨t, rfl⟩ := hv
    have I1 : Inv X pins σ H { s with heap := h', toks := tk } := I.turned (fun b o hb e => kk b o (by simpa using hb) e) f0 f1 f3 f4 f5
    refine ⟨_, rfl, go_of (s := { s with heap := h', toks := tk }) (n := "range_iterator") st' rfl rfl (by decide) ⟨.int (lo + i), H, I1, ⟨t, ?_⟩, ⟨rfl, rfl⟩, st', fun b hb => (hf b hb).1⟩⟩
    rw [Int.mul_one]
  done := by
    intro X hP hw hK hc i pins s σ H E I hf st hg
    subst hP hw hK
    obtain ⟨f0, f1, f2, f3, f4, f5⟩ := hf it (by simp)
    exact wpAny_pyNext_range_end (I.ok.hd hc) st (by have : n ≤ i := hg; omega) fun h' eb => ⟨rfl, I.turned (t' := s.toks) (fun b o hb e => eb b o hb e) f0 f1 f3 f4 f5⟩
  self := fun _ _ _ _ _ st h => wpAny_pyIter_rangeiter st h
end L2
namespace L2
open PySem PySem.Spec PyProof.Rows
section
variable {X : Cx} {tg : Expr}
theorem zme {pins : List (Addr × Obj)} {σ : St} {H : Hp} {s : Shared} {R : It → Hp → Prop} {E : Value → Shared → Prop} {lo hi : Int} {t u v : Tok} {tk : Nat} (I : Inv X pins σ H s) (h1 : -(2 ^ 62) ≤ lo) (h2 : lo < 2 ^ 62) (h3 : -(2 ^ 62) ≤ hi) (h4 : hi < 2 ^ 62)
    (q : R (Itr lo (hi - lo).toNat) H) : wpAny (model X.prog X.w) X.A (pyIter (.ref s.heap.objs.size)) (PIE X pins σ tg R) E { s with heap := s.heap.push { cls := .type "range", data := .fields #[.int lo t, .int hi u, .int 1 v] }, toks := tk } := by
  refine wpAny_pyIter_range (IsRange.new ..) (small_one h1 h2 h3 h4) ?_
  have I1 : Inv X pins σ H { s with heap := s.heap.push { cls := .type "range", data := .fields #[.int lo t, .int hi u, .int 1 v] }, toks := tk } := I.kept fun b o e => Heap.get?_push_of_some _ e
  refine ⟨(s.heap.push { cls := .type "range", data := .fields #[.int lo t, .int hi u, .int 1 v] }).objs.size, [(s.heap.push { cls := .type "range", data := .fields #[.int lo t, .int hi u, .int 1 v] }).objs.size], _, _, H, rfl,
    I1.kept (t' := tk) fun b o e => Heap.get?_push_of_some _ e, zj2 _ lo (hi - lo).toNat, ?_, fun b hb => ?_, q⟩
  · have e1 : lo + ((0 : Nat) : Int) * 1 = lo := by simp
    have e2 : (((hi - lo).toNat : Nat) : Int) - ((0 : Nat) : Int) = Builtin.Range.rangeSize lo hi 1 := by rw [rangeSize_one]; split <;> omega
    show IsRangeIter _ _ (lo + ((0 : Nat) : Int) * 1) ((((hi - lo).toNat : Nat) : Int) - ((0 : Nat) : Int)) 1
    rw [e1, e2]
    exact Heap.get?_push_size _ rfl
  · have e : b = (s.heap.push { cls := .type "range", data := .fields #[.int lo t, .int hi u, .int 1 v] }).objs.size := by simpa using hb
    subst e
    exact I1.fpOk (Nat.le_refl _) (I1.hok.fresh (Nat.le_refl _))
def iRng1 (ta : TA) : TI := fun σ H R => ta σ H fun vs H1 => ∃ j : Int, vs = [.int j] ∧ -(2 ^ 62) ≤ j ∧ j < 2 ^ 62 ∧ R (Itr 0 j.toNat) H1
theorem zlH {a : Expr} {ta : TA} {p pos : Pos} (hg : Gl X "range") (hm : X.mg "range" = none) (ha : PA X [a] ta) (hs : starEach [a] X.env = [(false, eval a X.env)] := by rfl) : PI X tg (.Call (.Name "range" p) [a] [] pos) (iRng1 ta) := by
  intro pins s σ H R I h
  refine Call_ (ziP I hg hm boot_range (PyProof.Rows.callWith_type1 (thn (ha pos pins s σ H _ I h) fun us s1 ⟨vs, H1, I1, r1, q1⟩ => ?_) hs rfl))
  obtain ⟨j, e, q1, q2, q⟩ := q1
  subst e
  cases r1 with
  | cons r rr =>
    cases rr
    obtain ⟨t, rfl⟩ := r
    exact call_range_1 (zme I1 (by omega) (by omega) q1 q2 (by simpa using q))
def tFor (wi : TI) (g : TG) (tb : TS) : TS := fun D σ H => wi σ H fun J H1 => ∃ W : Nat → Nat → St → Hp → Prop, (∃ m, W 0 m σ H1) ∧ ∀ i m σ H, W i m σ H →
  (J.stop i H ∧ D.nx σ H) ∨ (J.go i H ∧ ∃ N : St → Hp → Prop, (∀ σ' H', N σ' H' → ∃ m', m' < m ∧ W (i + 1) m' σ' H') ∧ ∀ x H', J.yld i H x H' → g x σ H' fun σ2 H2 => tb { D with nx := N, ct := N, bk := D.nx } σ2 H2)
def zhn (fp : List Addr) (h : Heap) : List (Addr × Obj) := fp.filterMap fun b => (h.get? b).map fun o => (b, o)
theorem zes {fp : List Addr} {h : Heap} {b : Addr} {o : Obj} (hb : b ∈ fp) (e : h.get? b = some o) : (b, o) ∈ zhn fp h := List.mem_filterMap.mpr ⟨b, hb, by rw [e]; rfl⟩
theorem zlK {fp : List Addr} {h : Heap} {p : Addr × Obj} (hp : p ∈ zhn fp h) : p.1 ∈ fp ∧ h.get? p.1 = some p.2 := by
  obtain ⟨b, hb, e⟩ := List.mem_filterMap.mp hp
  cases q : h.get? b with
  | none => rw [q] at e; cases e
  | some o =>
    rw [q] at e
    have e' : (b, o) = p := Option.some.inj e
    subst e'
    exact ⟨hb, q⟩
theorem Inv.pinned {pins : List (Addr × Obj)} {σ : St} {H : Hp} {s : Shared} {fp : List Addr} (I : Inv X pins σ H s) (hf : ∀ b ∈ fp, zgW X pins H b) (ho : ∀ b ∈ fp, ∃ o, s.heap.get? b = some o ∧ ∀ v, o.data ≠ .cell v) : Inv X (pins ++ zhn fp s.heap) σ H s :=
  I.pins_of fun p hp => (List.mem_append.mp hp).elim (fun z => I.pin p (List.mem_append_right _ z)) fun z => by
    obtain ⟨hb, e⟩ := zlK z
    obtain ⟨f0, f1, f2, _⟩ := hf p.1 hb
    obtain ⟨o, e', d⟩ := ho p.1 hb
    rw [e] at e'; cases e'
    exact ⟨e, f0, f1, f2, d⟩
theorem Inv.unpinned {pins pl : List (Addr × Obj)} {σ : St} {H : Hp} {s : Shared} (I : Inv X (pins ++ pl) σ H s) : Inv X pins σ H s := I.pins_of fun p hp => I.pin p (List.mem_append_right _ (List.mem_append_left _ hp))
theorem ps_for {iter : Expr} {body : List Stmt} {wi : TI} {g : TG} {tb : TS} {pos : Pos} (hp : PassesOwn (model X.prog X.w) X.A X.env X.xe) (hc : X.calm = true) (hi : PI X tg iter wi) (hg : PG X tg g) (hb : PSs X body tb)
    (hs : ∀ x, foldedSetIterable iter X.env x = pure x := by intro _; rfl) : PS X (.For tg iter body [] pos) (tFor wi g tb) := by
  intro pins s σ H D I h
  refine wpAny_For (thn (hi pins s σ H _ I h) fun v s1 h1 => thn h1 fun itv s2 h2 => ?_) hs
  obtain ⟨it, fp, tn, J, H2, e, I2, T, st2, f2, W, ⟨m0, w0⟩, turn⟩ := h2
  subst e
  -- what stays true of the iterator's objects through the loop
  have stat : ∀ {H' : Hp}, (∀ b ∈ fp, H' b = none) → ∀ b ∈ fp, zgW X pins H' b := fun hn b hb => ⟨hn b hb, (f2 b hb).2⟩
  refine codeAny_forLoop_any (fun n s' => ∃ i σ' H', Inv X pins σ' H' s' ∧ tn i s'.heap ∧ (∀ b ∈ fp, H' b = none) ∧ W i n σ' H') ?_ m0 ⟨0, σ, H2, I2, st2, fun b hb => (f2 b hb).1, w0⟩
  rintro n s3 ⟨i, σ3, H3, I3, st3, fr3, w3⟩
  rcases turn i n σ3 H3 w3 with ⟨stop, qn⟩ | ⟨go, N, hN, step⟩
  · refine wpAny_passesOwn hp (thn (T.done X rfl rfl rfl hc i pins s3 σ3 H3 X.xe I3 (stat fr3) st3 stop) fun r s4 ⟨hr, I4⟩ => ?_)
    subst hr
    exact wpAny_execs_nil ⟨σ3, H3, I4, qn⟩
  · refine wpAny_passesOwn hp (thn (T.item X rfl rfl rfl hc i pins s3 σ3 H3 X.xe I3 (stat fr3) st3 go) fun r s4 ⟨u, hr, h4⟩ => ?_)
    subst hr
    refine wpAny_passesOwn hp (thn h4 fun _ s5 ⟨x, H5, I5, r5, y5, st5, fr5⟩ => ?_)
    have I5' := I5.pinned (stat fr5) (T.obj _ _ st5)
    refine wpAny_passesOwn hp (thn (hg _ s5 σ3 H5 x u _ I5' r5 (step x H5 y5)) fun _ s6 ⟨σ6, H6, I6, q6⟩ => ?_)
    refine wpAny_passesOwn hp (thn (hb _ s6 σ6 H6 _ I6 q6) fun f s7 q7 => ?_)
    have again : ∀ {σ7 : St} {H7 : Hp}, Inv X (pins ++ zhn fp s5.heap) σ7 H7 s7 → N σ7 H7 → ∃ m, m < n ∧ ∃ i σ' H', Inv X pins σ' H' s7 ∧ tn i s7.heap ∧ (∀ b ∈ fp, H' b = none) ∧ W i m σ' H' := fun {σ7 H7} I7 n7 => by
      obtain ⟨m', hm, w7⟩ := hN σ7 H7 n7
      refine ⟨m', hm, i + 1, σ7, H7, I7.unpinned, T.keep _ _ _ st5 fun b hb o e => (I7.pin (b, o) (List.mem_append_right _ (List.mem_append_right _ (zes hb e)))).1, fun b hb => ?_, w7⟩
      obtain ⟨o, e, d⟩ := T.obj _ _ st5 b hb
      exact (I7.pin (b, o) (List.mem_append_right _ (List.mem_append_right _ (zes hb e)))).2.1
    cases f with
    | next => obtain ⟨σ7, H7, I7, n7⟩ := q7; exact again I7 n7
    | cont => obtain ⟨σ7, H7, I7, n7⟩ := q7; exact again I7 n7
    | brk => obtain ⟨σ7, H7, I7, q7⟩ := q7; exact ⟨σ7, H7, I7.unpinned, q7⟩
    | ret v => obtain ⟨x7, σ7, H7, I7, r7, q7⟩ := q7; exact ⟨x7, σ7, H7, I7.unpinned, r7, q7⟩
end
end L2
namespace L2
open PySem PySem.Spec PyProof.Rows
abbrev R2 := V → V → Hp → VK → Prop
def OpR (X : Cx) (f : Value → Value → Sem Value) (r : R2) : Prop :=
  ∀ (pins : List (Addr × Obj)) (s : Shared) (σ : St) (H : Hp) (x y : V) (v u : Value) (Q : VK), Inv X pins σ H s → zaV x v → zaV y u → r x y H Q →
    wpAny (model X.prog X.w) X.A (f v u) (EP X pins σ Q) X.xe s
def UnR (X : Cx) (f : Value → Sem Value) (r : V → Hp → VK → Prop) : Prop :=
  ∀ (pins : List (Addr × Obj)) (s : Shared) (σ : St) (H : Hp) (x : V) (v : Value) (Q : VK), Inv X pins σ H s → zaV x v → r x H Q →
    wpAny (model X.prog X.w) X.A (f v) (EP X pins σ Q) X.xe s
def zdN (X : Cx) (f : Value) (r : List V → Hp → VK → Prop) : Prop :=
  ∀ (pins : List (Addr × Obj)) (s : Shared) (σ : St) (H : Hp) (xs : List V) (us : List Value) (Q : VK), Inv X pins σ H s → zaD xs us → r xs H Q →
    wpAny (model X.prog X.w) X.A (call f us) (EP X pins σ Q) X.xe s
def TruR (X : Cx) (r : V → Hp → (Bool → Hp → Prop) → Prop) : Prop :=
  ∀ (pins : List (Addr × Obj)) (s : Shared) (σ : St) (H : Hp) (x : V) (v : Value) (Q : Bool → Hp → Prop), Inv X pins σ H s → zaV x v → r x H Q →
    wpAny (model X.prog X.w) X.A (truthy v) (TP X pins σ Q) X.xe s
def tOp (r : R2) (ta tb : TE) : TE := fun σ H Q => ta σ H fun x H1 => tb σ H1 fun y H2 => r x y H2 Q
def tUn (r : V → Hp → VK → Prop) (ta : TE) : TE := fun σ H Q => ta σ H fun x H1 => r x H1 Q
def rI (C : Int → Int → Prop) (g : Int → Int → V) : R2 := fun x y H Q => ∃ i j, x = .int i ∧ y = .int j ∧ C i j ∧ Q (g i j) H
def rI0 (g : Int → Int → V) : R2 := fun x y H Q => ∃ i j, x = .int i ∧ y = .int j ∧ Q (g i j) H
def rU (g : Int → V) : V → Hp → VK → Prop := fun x H Q => ∃ i, x = .int i ∧ Q (g i) H
section
variable {X : Cx} {a b c : Expr} {ta tb tc : TE} {pos : Pos}
theorem binT (ha : PE X a ta) (hb : PE X b tb) {pins : List (Addr × Obj)} {s : Shared} {σ : St} {H : Hp} {R : V → V → Hp → Prop} (I : Inv X pins σ H s)
    (h : ta σ H fun x H1 => tb σ H1 fun y H2 => R x y H2) {Q : Value → Shared → Prop} {f : Value → Value → Sem Value}
    (hf : ∀ v u s2 x y H2, Inv X pins σ H2 s2 → zaV x v → zaV y u → R x y H2 → wpAny (model X.prog X.w) X.A (f v u) Q X.xe s2) :
    wpAny (model X.prog X.w) X.A (eval a X.env) (fun v s₁ => wpAny (model X.prog X.w) X.A (eval b X.env) (fun u s₂ => wpAny (model X.prog X.w) X.A (f v u) Q X.xe s₂) X.xe s₁) X.xe s := by
  refine thn (ha pins s σ H _ I h) fun v s1 ⟨x, H1, I1, r1, q1⟩ => ?_
  refine thn (hb pins s1 σ H1 _ I1 q1) fun u s2 ⟨y, H2, I2, r2, q2⟩ => ?_
  exact hf v u s2 x y H2 I2 r1 r2 q2
theorem pe_op {op : Operator} {r : R2} (ho : OpR X (binaryOp op) r) (ha : PE X a ta) (hb : PE X b tb) : PE X (.BinOp a op b pos) (tOp r ta tb) := by
  intro pins s σ H Q I h
  exact wpAny_BinOp (binT ha hb I h fun v u s2 x y H2 I2 rx ry q => ho pins s2 σ H2 x y v u Q I2 rx ry q)
theorem pe_un {op : UnaryOp} {r : V → Hp → VK → Prop} (ho : UnR X (unaryOp op) r) (ha : PE X a ta) : PE X (.UnaryOp op a pos) (tUn r ta) := by
  intro pins s σ H Q I h
  exact UnaryOp_ (thn (ha pins s σ H _ I h) fun v s1 ⟨x, H1, I1, r1, q1⟩ => ho pins s1 σ H1 x v Q I1 r1 q1)
theorem opI {f : Value → Value → Sem Value} {C : Int → Int → Prop} {g : Int → Int → Int}
    (rule : ∀ (i j : Int) (t u : Tok) (s : Shared) (Q : Value → Shared → Prop) (E : Value → Shared → Prop), C i j → Q (.int (g i j) s.toks) { s with toks := s.toks + 1 } → wpAny (model X.prog X.w) X.A (f (.int i t) (.int j u)) Q E s) :
    OpR X f (rI C fun i j => .int (g i j)) := by
  intro pins s σ H x y v u Q I rx ry h
  obtain ⟨i, j, rfl, rfl, hc, q⟩ := h
  obtain ⟨t, rfl⟩ := rx
  obtain ⟨t', rfl⟩ := ry
  exact rule i j t t' s _ _ hc ⟨.int (g i j), H, I.tok _, ⟨_, rfl⟩, q⟩
theorem opI0 {f : Value → Value → Sem Value} {g : Int → Int → Int}
    (rule : ∀ (i j : Int) (t u : Tok) (s : Shared) (Q : Value → Shared → Prop) (E : Value → Shared → Prop), Q (.int (g i j) s.toks) { s with toks := s.toks + 1 } → wpAny (model X.prog X.w) X.A (f (.int i t) (.int j u)) Q E s) :
    OpR X f (rI0 fun i j => .int (g i j)) := by
  intro pins s σ H x y v u Q I rx ry h
  obtain ⟨i, j, rfl, rfl, q⟩ := h
  obtain ⟨t, rfl⟩ := rx
  obtain ⟨t', rfl⟩ := ry
  exact rule i j t t' s _ _ ⟨.int (g i j), H, I.tok _, ⟨_, rfl⟩, q⟩
theorem opB0 {f : Value → Value → Sem Value} {g : Int → Int → Bool}
    (rule : ∀ (i j : Int) (t u : Tok) (s : Shared) (Q : Value → Shared → Prop) (E : Value → Shared → Prop), Q (.bool (g i j)) s → wpAny (model X.prog X.w) X.A (f (.int i t) (.int j u)) Q E s) :
    OpR X f (rI0 fun i j => .bl (g i j)) := by
  intro pins s σ H x y v u Q I rx ry h
  obtain ⟨i, j, rfl, rfl, q⟩ := h
  obtain ⟨t, rfl⟩ := rx
  obtain ⟨t', rfl⟩ := ry
  exact rule i j t t' s _ _ ⟨.bl (g i j), H, I, rfl, q⟩
def CDiv (i j : Int) : Prop := 0 < j ∧ j < 1073741824
def CPow (i j : Int) : Prop := 0 ≤ j ∧ j ≤ 1000000 ∧ i.natAbs < 2 ^ 64
def CMul (i j : Int) : Prop := (-(2 ^ 64) < i ∧ i < 2 ^ 64) ∨ (-(2 ^ 64) < j ∧ j < 2 ^ 64)
theorem CMul.ok {i j : Int} (h : CMul i j) : IntMulOk i j := by
  rcases h with ⟨h1, h2⟩ | ⟨h1, h2⟩
  · exact .of_left (intBits_le_64 h1 h2)
  · exact .of_right (intBits_le_64 h1 h2)
theorem op_add : OpR X (binaryOp .Add) (rI0 fun i j => .int (i + j)) := opI0 fun _ _ _ _ _ _ _ q => add_int q
theorem op_sub : OpR X (binaryOp .Sub) (rI0 fun i j => .int (i - j)) := opI0 fun _ _ _ _ _ _ _ q => sub_int q
theorem op_mul : OpR X (binaryOp .Mult) (rI CMul fun i j => .int (i * j)) := opI fun _ _ _ _ _ _ _ hc q => mul_int q hc.ok
theorem op_fdiv : OpR X (binaryOp .FloorDiv) (rI CDiv fun i j => .int (i / j)) := opI fun i j _ _ _ _ _ hc q => by
  have h1 : (0 : Int) < j := hc.1
  have h2 : j < 1073741824 := hc.2
  exact floordiv_int (by omega) (by rw [Int.fdiv_eq_ediv_of_nonneg i (by omega)]; exact q) (.inl (PyProof.noPylong_small (by omega)))
theorem op_mod : OpR X (binaryOp .Mod) (rI (fun _ j => 0 < j) fun i j => .int (i % j)) := opI fun i j _ _ _ _ _ hc q => by
  have h1 : (0 : Int) < j := hc
  exact mod_int' (by omega) (by rw [Int.fmod_eq_emod_of_nonneg i (by omega)]; exact q)
theorem op_pow : OpR X (binaryOp .Pow) (rI CPow fun i j => .int (i ^ j.toNat)) := opI fun _ _ _ _ _ _ _ hc q => pow_int_small hc.1 hc.2.1 hc.2.2 q
theorem unI {f : Value → Sem Value} {g : Int → Int}
    (rule : ∀ (i : Int) (t : Tok) (s : Shared) (Q : Value → Shared → Prop) (E : Value → Shared → Prop), Q (.int (g i) s.toks) { s with toks := s.toks + 1 } → wpAny (model X.prog X.w) X.A (f (.int i t)) Q E s) :
    UnR X f (rU fun i => .int (g i)) := by
  intro pins s σ H x v Q I rx h
  obtain ⟨i, rfl, q⟩ := h
  obtain ⟨t, rfl⟩ := rx
  exact rule i t s _ _ ⟨.int (g i), H, I.tok _, ⟨_, rfl⟩, q⟩
theorem un_neg : UnR X (unaryOp .USub) (rU fun i => .int (-i)) := unI fun _ _ _ _ _ q => neg_int q
end
def scal : V → V → Bool
  | .non, .non => true | .non, .int _ => true | .int _, .non => true | .non, .bl _ => true | .bl _, .non => true | .non, .str _ => true | .str _, .non => true
  | .int _, .int _ => true | .bl _, .bl _ => true | .str _, .str _ => true | .byt _, .byt _ => true
  | .int _, .str _ => true | .str _, .int _ => true | .bl _, .str _ => true | .str _, .bl _ => true
  | _, _ => false
def rEq : R2 := fun x y H Q => scal x y = true ∧ Q (.bl (decide (x = y))) H
def rNe : R2 := fun x y H Q => scal x y = true ∧ Q (.bl (!decide (x = y))) H
theorem zll {i j : Int} : decide (V.int i = V.int j) = (i == j) := by
  rw [Bool.eq_iff_iff]
  simp
theorem zmS {i j : Bool} : decide (V.bl i = V.bl j) = (i == j) := by
  rw [Bool.eq_iff_iff]
  simp
theorem zlk {i j : Str} : decide (V.str i = V.str j) = (i == j) := by
  rw [Bool.eq_iff_iff]
  simp
theorem zlm {i j : Array UInt8} : decide (V.byt i = V.byt j) = (i.toList == j.toList) := by
  rw [Bool.eq_iff_iff]
  cases i
  cases j
  simp
section
variable {X : Cx} {a b c : Expr} {ta tb tc : TE} {pos : Pos}
theorem zaJ {pins : List (Addr × Obj)} {σ : St} {H : Hp} {s : Shared} {Q : VK} {k k' : Bool} (I : Inv X pins σ H s) (q : Q (.bl k) H) (e : k = k') : EP X pins σ Q (.bool k') s := by
  subst e
  exact ⟨.bl k, H, I, rfl, q⟩
theorem op_eq : OpR X (compareOp .Eq) rEq := by
  intro pins s σ H x y v u Q I rx ry h
  obtain ⟨hs, q⟩ := h
  cases x with
  | non =>
    cases rx
    cases y with
    | non => cases ry; exact PySem.EqNone.eq_none_none (zaJ I q (by simp))
    | bl j => cases ry; exact PySem.EqNone.eq_none_bool (zaJ I q (by simp))
    | int j => obtain ⟨t', rfl⟩ := ry; exact PySem.EqNone.eq_none_int (zaJ I q (by simp))
    | str j => obtain ⟨t', rfl⟩ := ry; exact PySem.EqNone.eq_none_str (zaJ I q (by simp))
    | _ => exact absurd (show false = true from hs) Bool.false_ne_true
  | bl i =>
    cases rx
    cases y with
    | non => cases ry; exact PySem.EqNone.eq_bool_none (zaJ I q (by simp))
    | bl j => cases ry; exact eq_bool (zaJ I q zmS)
    | str j => obtain ⟨t', rfl⟩ := ry; exact PySem.EqMixed.eq_bool_str (zaJ I q (by simp))
    | _ => exact absurd (show false = true from hs) Bool.false_ne_true
  | int i =>
    obtain ⟨t, rfl⟩ := rx
    cases y with
    | non => cases ry; exact PySem.EqNone.eq_int_none (zaJ I q (by simp))
    | int j => obtain ⟨t', rfl⟩ := ry; exact eq_int (zaJ I q zll)
    | str j => obtain ⟨t', rfl⟩ := ry; exact PySem.EqMixed.eq_int_str (zaJ I q (by simp))
    | _ => exact absurd (show false = true from hs) Bool.false_ne_true
  | str i =>
    obtain ⟨t, rfl⟩ := rx
    cases y with
    | non => cases ry; exact PySem.EqNone.eq_str_none (zaJ I q (by simp))
    | bl j => cases ry; exact PySem.EqMixed.eq_str_bool (zaJ I q (by simp))
    | int j => obtain ⟨t', rfl⟩ := ry; exact PySem.EqMixed.eq_str_int (zaJ I q (by simp))
    | str j => obtain ⟨t', rfl⟩ := ry; exact eq_str (zaJ I q zlk)
    | _ => exact absurd (show false = true from hs) Bool.false_ne_true
  | byt i =>
    obtain ⟨t, rfl⟩ := rx
    cases y with
    | byt j => obtain ⟨t', rfl⟩ := ry; exact PySem.W.eq_bytes (zaJ I q zlm)
    | _ => exact absurd (show false = true from hs) Bool.false_ne_true
  | _ => cases y <;> exact absurd (show false = true from hs) Bool.false_ne_true
theorem op_ne : OpR X (compareOp .NotEq) rNe := by
  intro pins s σ H x y v u Q I rx ry h
  obtain ⟨hs, q⟩ := h
  cases x with
  | non =>
    cases rx
    cases y with
    | non => cases ry; exact PySem.EqNone.ne_none_none (zaJ I q (by simp))
    | bl j => cases ry; exact PySem.EqNone.ne_none_bool (zaJ I q (by simp))
    | int j => obtain ⟨t', rfl⟩ := ry; exact PySem.EqNone.ne_none_int (zaJ I q (by simp))
    | str j => obtain ⟨t', rfl⟩ := ry; exact PySem.EqNone.ne_none_str (zaJ I q (by simp))
    | _ => exact absurd (show false = true from hs) Bool.false_ne_true
  | bl i =>
    cases rx
    cases y with
    | non => cases ry; exact PySem.EqNone.ne_bool_none (zaJ I q (by simp))
    | bl j => cases ry; exact ne_bool (zaJ I q (congrArg not zmS))
    | str j => obtain ⟨t', rfl⟩ := ry; exact PySem.EqMixed.ne_bool_str (zaJ I q (by simp))
    | _ => exact absurd (show false = true from hs) Bool.false_ne_true
  | int i =>
    obtain ⟨t, rfl⟩ := rx
    cases y with
    | non => cases ry; exact PySem.EqNone.ne_int_none (zaJ I q (by simp))
    | int j => obtain ⟨t', rfl⟩ := ry; exact ne_int (zaJ I q (congrArg not zll))
    | str j => obtain ⟨t', rfl⟩ := ry; exact PySem.EqMixed.ne_int_str (zaJ I q (by simp))
    | _ => exact absurd (show false = true from hs) Bool.false_ne_true
  | str i =>
    obtain ⟨t, rfl⟩ := rx
    cases y with
    | non => cases ry; exact PySem.EqNone.ne_str_none (zaJ I q (by simp))
    | bl j => cases ry; exact PySem.EqMixed.ne_str_bool (zaJ I q (by simp))
    | int j => obtain ⟨t', rfl⟩ := ry; exact PySem.EqMixed.ne_str_int (zaJ I q (by simp))
    | str j => obtain ⟨t', rfl⟩ := ry; exact ne_str (zaJ I q (congrArg not zlk))
    | _ => exact absurd (show false = true from hs) Bool.false_ne_true
  | byt i =>
    obtain ⟨t, rfl⟩ := rx
    cases y with
    | byt j => obtain ⟨t', rfl⟩ := ry; exact PySem.W.ne_bytes (zaJ I q (congrArg not zlm))
    | _ => exact absurd (show false = true from hs) Bool.false_ne_true
  | _ => cases y <;> exact absurd (show false = true from hs) Bool.false_ne_true
theorem op_lt : OpR X (compareOp .Lt) (rI0 fun i j => .bl (decide (i < j))) := opB0 fun _ _ _ _ _ _ _ q => lt_int q
theorem op_le : OpR X (compareOp .LtE) (rI0 fun i j => .bl (decide (i ≤ j))) := opB0 fun _ _ _ _ _ _ _ q => le_int q
theorem op_ge : OpR X (compareOp .GtE) (rI0 fun i j => .bl (decide (j ≤ i))) := opB0 fun _ _ _ _ _ _ _ q => ge_int q
theorem op_isN : OpR X (compareOp .Is) (fun x y H Q => y = .non ∧ Q (.bl (decide (x = .non))) H) := by
  intro pins s σ H x y v u Q I rx ry h
  obtain ⟨rfl, q⟩ := h
  cases ry
  refine is_none_gen (zaJ I q ?_)
  cases x <;> first
    | (cases rx; rfl)
    | (obtain ⟨t, rfl⟩ := rx; rfl)
theorem zk8 : OpR X (compareOp .IsNot) (fun x y H Q => y = .non ∧ Q (.bl (!decide (x = .non))) H) := by
  intro pins s σ H x y v u Q I rx ry h
  obtain ⟨rfl, q⟩ := h
  cases ry
  refine isnot_none_gen (zaJ I q ?_)
  cases x <;> first
    | (cases rx; rfl)
    | (obtain ⟨t, rfl⟩ := rx; rfl)
theorem OpR.or {f : Value → Value → Sem Value} {r r' : R2} (h : OpR X f r) (h' : OpR X f r') : OpR X f (fun x y H Q => r x y H Q ∨ r' x y H Q) := by
  intro pins s σ H x y v u Q I rx ry q
  rcases q with q | q
  · exact h pins s σ H x y v u Q I rx ry q
  · exact h' pins s σ H x y v u Q I rx ry q
theorem pe_cmpR {op : CmpOp} {r : R2} (ho : OpR X (compareOp op) r) (ha : PE X a ta) (hb : PE X b tb) (hm : behindInMarks op b = false) : PE X (.Compare a [op] [b] pos) (tOp r ta tb) := by
  intro pins s σ H Q I h
  exact wpAny_Compare1 (binT ha hb I h fun v u s2 x y H2 I2 rx ry q => ho pins s2 σ H2 x y v u Q I2 rx ry q) hm
def tTest (t : TE) : TT := fun σ H Q => t σ H fun x H' => ∃ k, x = .bl k ∧ Q k H'
theorem pt_cmpR {op : CmpOp} {r : R2} (ho : OpR X (compareOp op) r) (ha : PE X a ta) (hb : PE X b tb) (hm : behindInMarks op b = false) : PT X (.Compare a [op] [b] pos) (tTest (tOp r ta tb)) := by
  intro pins s σ H Q I h
  refine wpAny_isTrue_Compare1 (thn (ha pins s σ H _ I h) fun v s1 ⟨x, H1, I1, r1, q1⟩ => thn (hb pins s1 σ H1 _ I1 q1) fun u s2 ⟨y, H2, I2, r2, q2⟩ =>
    thn (ho pins s2 σ H2 x y v u _ I2 r1 r2 q2) fun c s3 ⟨z, H3, I3, r3, k, e, q3⟩ => ?_) hm
  subst e
  cases r3
  exact wpAny_truthy_bool ⟨H3, I3, q3⟩
def zl7 (r r' : R2) (ta tb tc : TE) : TE := fun σ H Q => ta σ H fun x H1 => tb σ H1 fun y H2 => r x y H2 fun z H3 => ∃ k, z = .bl k ∧
  (if k = true then tc σ H3 fun w' H4 => r' y w' H4 Q else Q (.bl false) H3)
theorem zmq {op op' : CmpOp} {r r' : R2} (ho : OpR X (compareOp op) r) (ho' : OpR X (compareOp op') r') (ha : PE X a ta) (hb : PE X b tb) (hc : PE X c tc)
    (hm : lastMarks [op, op'] [b, c] = false := by with_unfolding_all rfl) : PE X (.Compare a [op, op'] [b, c] pos) (zl7 r r' ta tb tc) := by
  intro pins s σ H Q I h
  refine Compare_chain (thn (ha pins s σ H _ I h) fun v s1 ⟨x, H1, I1, r1, q1⟩ => chain_link (thn (hb pins s1 σ H1 _ I1 q1) fun u s2 ⟨y, H2, I2, r2, q2⟩ =>
    thn (ho pins s2 σ H2 x y v u _ I2 r1 r2 q2) fun d s3 ⟨z, H3, I3, r3, k, e, q3⟩ => ?_)) hm
  subst e
  cases r3
  refine wpAny_truthy_bool ?_
  cases k with
  | false => exact ite_ff ⟨.bl false, H3, I3, rfl, q3⟩
  | true => exact ite_tt (chain_last (thn (hc pins s3 σ H3 _ I3 q3) fun w' s4 ⟨z', H4, I4, r4, q4⟩ => ho' pins s4 σ H4 y z' u w' Q I4 r2 r4 q4))
def TruV (K : PySem.W.Frag) (x : V) (H : Hp) (k : Bool) : Prop :=
  match x with
  | .non => k = false
  | .bl b => k = b
  | .int i => k = (i != 0)
  | .str y => y.length ≤ sizeLine ∧ k = ((y.length : Int) != 0)
  | .byt y => y.size ≤ sizeLine ∧ k = ((y.size : Int) != 0)
  | .ref p => (∃ xs, SqL K H p xs ∧ k = !xs.isEmpty) ∨ (∃ xs, SqT K H p xs ∧ k = !xs.isEmpty) ∨ ∃ kvs, H p = some (.dK kvs) ∧ k = !kvs.isEmpty
  | _ => False
theorem zkh {κ : Type} {kvs : List (κ × V)} {vs : List (κ × Value)} (r : KV kvs vs) : (!vs.isEmpty) = !kvs.isEmpty := by
  cases r <;> rfl
theorem zhv {xs : List V} {its : List Value} (r : zaD xs its) : (!its.toArray.isEmpty) = !xs.isEmpty := by
  cases r <;> simp
theorem zgl : (sizeLine : Nat) < 2 ^ 63 := by rw [sizeLine_eq]; decide
theorem zl5 : TruR X (fun x H Q => ∃ k, TruV X.K x H k ∧ Q k H) := by
  intro pins s σ H x v Q I rx h
  obtain ⟨k, e, q⟩ := h
  have hl := zgl
  have hs : sizeLine = 16777216 := sizeLine_eq
  cases x with
  | non =>
    cases rx
    have e' : k = false := e
    subst e'
    exact truthy_none ⟨H, I, q⟩
  | bl b =>
    cases rx
    have e' : k = b := e
    subst e'
    exact wpAny_truthy_bool ⟨H, I, q⟩
  | int i =>
    obtain ⟨t, rfl⟩ := rx
    have e' : k = (i != 0) := e
    subst e'
    exact PySem.P.truthy_int ⟨H, I, q⟩
  | str y =>
    obtain ⟨t, rfl⟩ := rx
    obtain ⟨hy, e'⟩ : y.length ≤ sizeLine ∧ k = ((y.length : Int) != 0) := e
    subst e'
    exact PySem.P.truthy_str (by omega) ⟨H, I.tok _, q⟩
  | byt y =>
    obtain ⟨t, rfl⟩ := rx
    obtain ⟨hy, e'⟩ : y.size ≤ sizeLine ∧ k = ((y.size : Int) != 0) := e
    subst e'
    exact PySem.W.truthy_bytes (by omega) ⟨H, I.tok _, q⟩
  | ref p =>
    cases rx
    have e' : (∃ xs, SqL X.K H p xs ∧ k = !xs.isEmpty) ∨ (∃ xs, SqT X.K H p xs ∧ k = !xs.isEmpty) ∨ ∃ kvs, H p = some (.dK kvs) ∧ k = !kvs.isEmpty := e
    rcases e' with ⟨xs, hx, e'⟩ | ⟨xs, hx, e'⟩ | ⟨kvs, hx, e'⟩
    · subst e'
      obtain ⟨its, r, pl, hz⟩ := I.list hx
      have hlen := r.length
      exact wpAny_truthy_list pl.isList (by simp only [List.size_toArray]; omega) ⟨H, I.tok _, by rw [zhv r]; exact q⟩
    · subst e'
      obtain ⟨its, r, pl, hz⟩ := I.tuple hx
      have hlen := r.length
      exact truthy_tuple pl (by simp only [List.size_toArray]; omega) ⟨H, I.tok _, by rw [zhv r]; exact q⟩
    · subst e'
      obtain ⟨hz, hS, vs, r, m⟩ : kvs.length ≤ sizeLine ∧ (p == sysModules) = false ∧ ∃ vs, KV kvs vs ∧ s.heap.DictOf (ziN X.prog X.w) p vs := I.hok p _ hx
      have hlen : kvs.length = vs.length := Paired.length r
      exact wpAny_truthy_dict hS m (by omega) ⟨H, I.tok _, by rw [zkh r]; exact q⟩
  | _ => exact (show False from e).elim
theorem zmg (ha : PE X a ta) (he : ∀ whole, isTrue a X.env whole = (do let v ← whole; standAt a.pos; holding [v] (truthy v))) :
    PT X a (fun σ H Q => ta σ H fun x H' => ∃ k, TruV X.K x H' k ∧ Q k H') := by
  intro pins s σ H Q I h
  exact isTrue_plain (thn (ha pins s σ H _ I h) fun v s1 ⟨x, H1, I1, r1, q1⟩ => zl5 pins s1 σ H1 x v Q I1 r1 q1) (he _)
theorem zj9 : OpR X (binaryOp .Add) (fun x y H Q => ∃ i j, x = .str i ∧ y = .str j ∧ i.length + j.length ≤ sizeLine ∧ Q (.str (i ++ j)) H) := by
  intro pins s σ H x y v u Q I rx ry h
  obtain ⟨i, j, rfl, rfl, hz, q⟩ := h
  obtain ⟨t, rfl⟩ := rx
  obtain ⟨t', rfl⟩ := ry
  exact add_str (fun t' tk => ⟨.str (i ++ j), H, I.tok _, ⟨_, rfl⟩, q⟩) hz
theorem zjb {x : V} {us : List Value} (r : zaD [x] us) : ∃ u, us = [u] ∧ zaV x u := by
  cases r with
  | cons r1 r2 => cases r2; exact ⟨_, rfl, r1⟩
theorem vals2 {x y : V} {us : List Value} (r : zaD [x, y] us) : ∃ u w', us = [u, w'] ∧ zaV x u ∧ zaV y w' := by
  cases r with
  | cons r1 r2 =>
    cases r2 with
    | cons r3 r4 => cases r4; exact ⟨_, _, rfl, r1, r3⟩
theorem zl1 (hc : X.calm = true) : zdN X (.builtin "max") (fun xs H Q => ∃ i j, xs = [.int i, .int j] ∧ Q (.int (if j > i then j else i)) H) := by
  intro pins s σ H xs us Q I r h
  obtain ⟨i, j, rfl, q⟩ := h
  obtain ⟨u, w', rfl, ⟨t, rfl⟩, ⟨t', rfl⟩⟩ := vals2 r
  refine max_two_ints (I.ok.hd hc) fun h' tk k => ⟨_, H, I.kept k, ?_, q⟩
  by_cases hj : j > i
  · rw [if_pos hj, if_pos hj]; exact ⟨_, rfl⟩
  · rw [if_neg hj, if_neg hj]; exact ⟨_, rfl⟩
theorem zl0 (hc : X.calm = true) : zdN X (.builtin "min") (fun xs H Q => ∃ i j, xs = [.int i, .int j] ∧ Q (.int (if j < i then j else i)) H) := by
  intro pins s σ H xs us Q I r h
  obtain ⟨i, j, rfl, q⟩ := h
  obtain ⟨u, w', rfl, ⟨t, rfl⟩, ⟨t', rfl⟩⟩ := vals2 r
  refine min_two_ints (I.ok.hd hc) fun h' tk k => ⟨_, H, I.kept k, ?_, q⟩
  by_cases hj : j < i
  · rw [if_pos hj, if_pos hj]; exact ⟨_, rfl⟩
  · rw [if_neg hj, if_neg hj]; exact ⟨_, rfl⟩
theorem zib : zdN X (.type "int") (fun xs H Q => (∃ i, xs = [.int i] ∧ Q (.int i) H) ∨ ∃ k, xs = [.bl k] ∧ Q (.int (if k then 1 else 0)) H) := by
  intro pins s σ H xs us Q I r h
  rcases h with ⟨i, rfl, q⟩ | ⟨k, rfl, q⟩
  · obtain ⟨u, rfl, t, rfl⟩ := zjb r
    exact call_int_int ⟨.int i, H, I, ⟨_, rfl⟩, q⟩
  · obtain ⟨u, rfl, r1⟩ := zjb r
    cases r1
    exact call_int_bool ⟨.int (if k then 1 else 0), H, I.tok _, ⟨_, rfl⟩, q⟩
def LenV (K : PySem.W.Frag) (x : V) (H : Hp) (n : Nat) : Prop :=
  match x with
  | .str y => y.length ≤ sizeLine ∧ n = y.length
  | .byt y => y.size ≤ sizeLine ∧ n = y.size
  | .ref p => (∃ xs, SqL K H p xs ∧ n = xs.length) ∨ ∃ xs, SqT K H p xs ∧ n = xs.length
  | _ => False
theorem zjX : zdN X (.builtin "len") (fun xs H Q => ∃ x n, xs = [x] ∧ LenV X.K x H n ∧ Q (.int n) H) := by
  intro pins s σ H xs us Q I r h
  obtain ⟨x, n, rfl, e, q⟩ := h
  obtain ⟨u, rfl, rx⟩ := zjb r
  have hl := zgl
  have hs : sizeLine = 16777216 := sizeLine_eq
  cases x with
  | str y =>
    obtain ⟨t, rfl⟩ := rx
    obtain ⟨hy, e'⟩ : y.length ≤ sizeLine ∧ n = y.length := e
    subst e'
    exact len_str (by omega) ⟨.int _, H, I.tok _, ⟨_, rfl⟩, q⟩
  | byt y =>
    obtain ⟨t, rfl⟩ := rx
    obtain ⟨hy, e'⟩ : y.size ≤ sizeLine ∧ n = y.size := e
    subst e'
    exact PySem.W.len_bytes (by omega) ⟨.int _, H, I.tok _, ⟨_, rfl⟩, q⟩
  | ref p =>
    cases rx
    have e' : (∃ xs, SqL X.K H p xs ∧ n = xs.length) ∨ ∃ xs, SqT X.K H p xs ∧ n = xs.length := e
    rcases e' with ⟨xs, hx, e'⟩ | ⟨xs, hx, e'⟩
    · subst e'
      obtain ⟨its, r', pl, hz⟩ := I.list hx
      have hlen := r'.length
      exact Calls.call_len_list pl.isList (by simp only [List.size_toArray]; omega) ⟨.int xs.length, H, I.tok _, ⟨_, by simp only [List.size_toArray]; rw [hlen]⟩, q⟩
    · subst e'
      obtain ⟨its, r', pl, hz⟩ := I.tuple hx
      have hlen := r'.length
      exact len_tuple pl (by simp only [List.size_toArray]; omega) ⟨.int xs.length, H, I.tok _, ⟨_, by simp only [List.size_toArray]; rw [hlen]⟩, q⟩
  | _ => exact (show False from e).elim
end
end L2
namespace L2
open PySem PySem.Spec PyProof.Rows
structure ObjM (h : Heap) (x dx C : Addr) (mA : Str → Option Value) : Prop where
  obj : h.get? x = some (PySem.W.instObj C dx)
  ns : h.Ns1 dx mA
  ne : dx ≠ x
theorem zh2 {h : Heap} {dx : Addr} {mA : Str → Option Value} (n : h.Ns1 dx mA) : ∃ od, h.get? dx = some od ∧ ∀ name, PySem.W.lookIn name od = some (mA name) := by
  obtain ⟨o, es, ep, ho, hd, hk, _, hm⟩ := n
  refine ⟨o, ho, fun name => ?_⟩
  have e := hm name
  unfold nsFind findBy at e
  rw [← Array.find?_toList] at e
  unfold PySem.W.lookIn
  rw [hd]
  dsimp only
  split
  · rename_i y q
    rw [q] at e
    exact congrArg some e
  · rename_i q
    rw [q] at e
    have a : es.toList.any (·.refKey) = false := by
      rw [List.any_eq_false]
      intro y hy
      obtain ⟨z, t, hkey⟩ := hk y (Array.mem_toList_iff.mp hy)
      simp [DictEntry.refKey, hkey]
    have a' : ¬ es.toList.any (·.refKey) = true := by rw [a]; exact Bool.false_ne_true
    rw [if_neg a']
    exact congrArg some e
theorem ObjM.look {h : Heap} {x dx C : Addr} {mA : Str → Option Value} (I : ObjM h x dx C mA) : ∃ od, PySem.W.InstAt h x (PySem.W.instObj C dx) C (some od) ∧ ∀ name, PySem.W.lookIn name od = some (mA name) :=
  let ⟨od, ho, hl⟩ := zh2 I.ns
  ⟨od, ⟨I.obj, rfl, rfl, ho⟩, hl⟩
section
variable {prog : Program} {w : World} {A : Around} {E : Value → Shared → Prop} {s : Shared} {K : PySem.W.Frag} {x dx C f : Addr} {mA : Str → Option Value} {name : Str} {v : Value}
theorem get_map {expr : Bool} {Q : Value → Shared → Prop} (X : K.In s.heap) (I : ObjM s.heap x dx C mA) (hg : PySem.W.plainGet K C name = true) (hh : PySem.W.hasDictIn K C = true)
    (ha : PySem.W.findIn K (.ref C) name = some none) (hv : mA name = some v) (hv' : PySem.W.handedIn v = true) (h : Q v { s with toks := s.toks + 1 }) :
    wpAny (model prog w) A (getAttr (.ref x) name expr) Q E s := by
  obtain ⟨od, J, hl⟩ := I.look
  exact PySem.W.get_value X J (PySem.W.plainGet_of hg).1 (PySem.W.findObj_own hh ha rfl (by rw [hl, hv])) hv' h
theorem zmP {pl : Sem Bool} {Q : Value × List Value → Shared → Prop} (X : K.In s.heap) (I : ObjM s.heap x dx C mA) (hg : PySem.W.plainGet K C name = true)
    (hf : PySem.W.findIn K (.ref C) name = some (some (.ref f))) (ht : PySem.W.isFn K (.ref f) = true) (hv : mA name = none) (h : Q (.ref f, [.ref x]) s) :
    wpAny (model prog w) A (getMethod (.ref x) name pl) Q E s := by
  obtain ⟨od, J, hl⟩ := I.look
  exact PySem.W.method_fn X J (PySem.W.plainGet_of hg).1 (PySem.W.plainGet_of hg).2 hf (beq_iff_eq.mp ht) (by show (PySem.W.lookIn name od).map (·.isSome) = some false; rw [hl, hv]; rfl) h
theorem set_map {ns : List Str} {Q : Unit → Shared → Prop} (X : K.In s.heap) (I : ObjM s.heap x dx C mA)
    (hs : PySem.W.findIn K (.ref C) "__setattr__" = some (some (.builtin "object.__setattr__"))) (hp : PySem.W.plainOver K C = true) (ht : PySem.W.takerIn K C name = some none) (hh : PySem.W.hasDictIn K C = true)
    (hw : PySem.Within mA ns) (hsz : ns.length ≤ sizeLine)
    (h : ∀ h', ObjM h' x dx C (fun y => if y = name then some v else mA y) → Heap.SameBut dx s.heap h' → Q () { s with heap := h', toks := s.toks + 2 }) :
    wpAny (model prog w) A (setAttr (.ref x) name v) Q E s := by
  obtain ⟨od, J, hl⟩ := I.look
  refine PySem.W.set_plain X J hs (PySem.W.osa_open (s := { s with toks := s.toks + 1 }) (r := none) X J hp ht fun b => ?_)
  obtain ⟨cd, hc, hd'⟩ := PySem.W.any_some hh
  have hx : s.heap.get? x = some ⟨.ref C, some dx, .plain, #[]⟩ := I.obj
  refine wpAny_bind (wpAny_pure (wpAny_bind (wpAny_bind (wpAny_loadPart hx (wpAny_bind (PySem.W.Looks.here (s := { s with toks := s.toks + 1 }) (PySem.W.looks_clsIn X hc) ?_))))))
  rw [hd']
  refine wpAny_pure (a := some dx) (wpAny_bind (wpAny_pure (wpAny_bind ?_)))
  refine wpAny_nsSet1 (s := { s with toks := s.toks + 1 }) I.ns fun h' hn2 hs2 => ?_
  obtain ⟨oD, esD, epD, hoD, hdD, hcD⟩ := hn2.count (PySem.Within.cons name v hw)
  refine wpAny_bind (wpAny_lookBehind hoD (by rw [hdD]; exact pastItsLine_dict (Nat.le_trans hcD (by rw [List.length_cons]; omega))) ?_)
  exact wpAny_pure (h _ ⟨(hs2.2 _ (Ne.symm I.ne)).trans I.obj, hn2, I.ne⟩ hs2)
theorem zmy {R : Result → Shared → Prop} {vs : List Value} {kw : List (Str × Value)} (X : K.In s.heap) (hm : PySem.W.makesIn K C = true)
    (hi : PySem.W.findIn K (.ref C) "__init__" = some (some (.ref f))) (hf : PySem.W.typeIn K (.ref f) = some (.type "function"))
    (h : codeAny (model prog w) (A.under (.builtin "type.__call__" ⟨.ref C :: vs, kw⟩)) (.call (.ref f) ⟨.ref (s.heap.objs.size + 1) :: vs, kw⟩) (PySem.W.InitBack (s.heap.objs.size + 1) R)
      { s with heap := (s.heap.push PySem.W.emptyDict).push (PySem.W.instObj C s.heap.objs.size) }) :
    codeAny (model prog w) A (.call (.ref C) ⟨vs, kw⟩) R s := by
  obtain ⟨hh, g, d, t, os⟩ := s
  exact PySem.W.make_core (PySem.W.makes_of X hm) (PySem.W.looks_findIn X hi) (fun self => PySem.W.bind_fn X self hf) (.inl rfl) h
end
def zd7 (f : Str) (v : V) : List (Str × V) → List (Str × V)
  | [] => [(f, v)]
  | (g, x) :: r => if g = f then (g, v) :: r else (g, x) :: zd7 f v r
theorem zgz (f g : Str) (v : V) : ∀ fs : List (Str × V), (zd7 f v fs).lookup g = if g = f then some v else fs.lookup g
  | [] => by
    show List.lookup g [(f, v)] = _
    by_cases h : g = f
    · have hb : (g == f) = true := beq_iff_eq.mpr h
      simp only [List.lookup, hb, if_pos h]
    · have hb : (g == f) = false := beq_eq_false_iff_ne.mpr h
      simp only [List.lookup, hb, if_neg h]
  | (k, x) :: r => by
    have ih := zgz f g v r
    rw [show zd7 f v ((k, x) :: r) = (if k = f then (k, v) :: r else (k, x) :: zd7 f v r) from rfl]
    by_cases hk : k = f
    · rw [if_pos hk]
      by_cases h : g = k
      · have hb : (g == k) = true := beq_iff_eq.mpr h
        simp only [List.lookup, hb, if_pos (h.trans hk)]
      · have hb : (g == k) = false := beq_eq_false_iff_ne.mpr h
        simp only [List.lookup, hb, if_neg (fun e : g = f => h (e.trans hk.symm))]
    · rw [if_neg hk]
      by_cases h : g = k
      · have hb : (g == k) = true := beq_iff_eq.mpr h
        simp only [List.lookup, hb, if_neg (fun e : g = f => hk (h.symm.trans e))]
      · have hb : (g == k) = false := beq_eq_false_iff_ne.mpr h
        simp only [List.lookup, hb]
        exact ih
theorem zgm (f : Str) (v : V) : ∀ fs : List (Str × V), f ∈ (zd7 f v fs).map (·.1) ∧ ∀ g, g ∈ fs.map (·.1) → g ∈ (zd7 f v fs).map (·.1)
  | [] => ⟨by simp [zd7], fun g h => by simp at h⟩
  | (k, x) :: r => by
    obtain ⟨i1, i2⟩ := zgm f v r
    rw [show zd7 f v ((k, x) :: r) = (if k = f then (k, v) :: r else (k, x) :: zd7 f v r) from rfl]
    by_cases hk : k = f
    · rw [if_pos hk]
      subst hk
      exact ⟨by simp, fun g h => by simpa using h⟩
    · rw [if_neg hk]
      refine ⟨?_, fun g h => ?_⟩
      · rw [List.map_cons]
        exact List.mem_cons_of_mem _ i1
      · rw [List.map_cons] at h ⊢
        rcases List.mem_cons.mp h with e | e
        · exact List.mem_cons.mpr (.inl e)
        · exact List.mem_cons_of_mem _ (i2 g e)
theorem zgA (f : Str) (v : V) : ∀ fs : List (Str × V), (zd7 f v fs).length ≤ fs.length + 1
  | [] => by simp [zd7]
  | (k, x) :: r => by
    have ih := zgA f v r
    rw [show zd7 f v ((k, x) :: r) = (if k = f then (k, v) :: r else (k, x) :: zd7 f v r) from rfl]
    by_cases hk : k = f
    · rw [if_pos hk, List.length_cons, List.length_cons]; omega
    · rw [if_neg hk, List.length_cons, List.length_cons]; omega
theorem zf6.some_of {v : V} {o : Option Value} (r : zf6 (some v) o) : ∃ u, o = some u ∧ zaV v u := by
  cases o with
  | none => exact (show False from r).elim
  | some u => exact ⟨u, rfl, r⟩
theorem zf6.none_of {o : Option Value} (r : zf6 none o) : o = none := by
  cases o with
  | none => rfl
  | some u => exact (show False from r).elim
theorem zlV {v : V} {u : Value} (r : zaV v u) : PySem.W.handedIn u = true := by
  cases v with
  | non => cases (show u = Value.none from r); rfl
  | bl b => cases (show u = Value.bool b from r); rfl
  | int i => obtain ⟨t, e⟩ := (show ∃ t, u = Value.int i t from r); cases e; rfl
  | str x => obtain ⟨t, e⟩ := (show ∃ t, u = Value.str x t from r); cases e; rfl
  | byt b => obtain ⟨t, e⟩ := (show ∃ t, u = Value.bytes b t from r); cases e; rfl
  | flt b => obtain ⟨t, e⟩ := (show ∃ t, u = Value.float b t from r); cases e; rfl
  | ref a => cases (show u = Value.ref a from r); rfl
  | ty n => cases (show u = Value.type n from r); rfl
section
variable {P : Program} {w : World} {H H' : Hp} {h h' : Heap} {a C dx : Addr} {fs fs' : List (Str × V)}
theorem zg1 (hok : HOk P w H h) (e : H a = some (.ins C dx fs)) : ∃ mA, ObjM h a dx C mA ∧ (∀ f, zf6 (fs.lookup f) (mA f)) ∧ PySem.Within mA (fs.map (·.1)) ∧ fs.length ≤ 1000 ∧ H dx = some (.own a) := by
  obtain ⟨d, z, ne, ob, mA, n, r, q⟩ := (show zb1 P w H h a (.ins C dx fs) from hok a _ e)
  exact ⟨mA, ⟨ob, n, ne⟩, r, q, z, d⟩
end
structure Cls (K : PySem.W.Frag) (C : Addr) : Prop where
  pg : PySem.W.plainGet K C Str.empty = true
  hd : PySem.W.hasDictIn K C = true
  po : PySem.W.plainOver K C = true
  sa : PySem.W.findIn K (.ref C) "__setattr__" = some (some (.builtin "object.__setattr__"))
theorem Cls.get {K : PySem.W.Frag} {C : Addr} (c : Cls K C) (f : Str) : PySem.W.plainGet K C f = true := c.pg
def zew (K : PySem.W.Frag) (C : Addr) (f : Str) : Prop := PySem.W.findIn K (.ref C) f = some none
theorem zew.taker {K : PySem.W.Frag} {C : Addr} {f : Str} (n : zew K C f) : PySem.W.takerIn K C f = some none := by
  unfold PySem.W.takerIn
  rw [show PySem.W.findIn K (.ref C) f = some none from n]
  rfl
structure Con (K : PySem.W.Frag) (C : Addr) (f : Str) (v : V) (u : Value) : Prop where
  at_ : PySem.W.findIn K (.ref C) f = some (some u)
  rel : zaV v u
  get : PySem.W.specialIn K u "__get__" = some none
  cp : PySem.W.copiedNames.contains f = false
structure Meth (K : PySem.W.Frag) (C : Addr) (m : Str) (f : Addr) : Prop where
  at_ : PySem.W.findIn K (.ref C) m = some (some (.ref f))
  fn : PySem.W.isFn K (.ref f) = true
  kp : PySem.W.keepIn K (.ref f) = true
section
variable {X : Cx} {pins : List (Addr × Obj)} {σ : St} {H : Hp} {s : Shared} {a C dx : Addr} {fs : List (Str × V)} {f : Str} {v : V} {A : Around} {E : Value → Shared → Prop}
theorem zki {b : Bool} {Q : Value → Shared → Prop} (I : Inv X pins σ H s) (e : H a = some (.ins C dx fs)) (c : Cls X.K C) (n : zew X.K C f) (l : fs.lookup f = some v)
    (h : ∀ u s', Inv X pins σ H s' → zaV v u → Q u s') : wpAny (model X.prog X.w) A (getAttr (.ref a) f b) Q E s := by
  obtain ⟨mA, O, r, _, _, _⟩ := zg1 I.hok e
  obtain ⟨u, hu, ru⟩ := zf6.some_of (v := v) (o := mA f) (by rw [← l]; exact r f)
  exact get_map I.kIn O (c.get f) c.hd n hu (zlV ru) (h u _ (I.tok _) ru)
theorem zhw {m : Str} {g : Addr} {pl : Sem Bool} {Q : Value × List Value → Shared → Prop} (I : Inv X pins σ H s) (e : H a = some (.ins C dx fs)) (c : Cls X.K C) (k : Meth X.K C m g) (l : fs.lookup m = none)
    (h : Q (.ref g, [.ref a]) s) : wpAny (model X.prog X.w) A (getMethod (.ref a) m pl) Q E s := by
  obtain ⟨mA, O, r, _, _, _⟩ := zg1 I.hok e
  have hn : mA m = none := zf6.none_of (by rw [← l]; exact r m)
  exact zmP I.kIn O (c.get m) k.at_ k.fn hn h
theorem zj6 {y : V} {u : Value} {Q : Unit → Shared → Prop} (I : Inv X pins σ H s) (e : H a = some (.ins C dx fs)) (c : Cls X.K C) (n : zew X.K C f) (hl : fs.length < 1000) (ry : zaV y u)
    (h : ∀ s', Inv X pins σ (upd H a (.ins C dx (zd7 f y fs))) s' → Q () s') : wpAny (model X.prog X.w) A (setAttr (.ref a) f u) Q E s := by
  obtain ⟨mA, O, r, wi, _, ho⟩ := zg1 I.hok e
  have hz : (fs.map (·.1)).length ≤ sizeLine := by rw [List.length_map, sizeLine_eq]; omega
  refine set_map I.kIn O c.sa c.po n.taker c.hd wi hz fun h' O' sb => h _ ?_
  have hd : ∃ o, h'.get? dx = some o := let ⟨o, _, _, e', _⟩ := O'.ns; ⟨o, e'⟩
  refine I.write (x := a) (e := dx) (by rw [e]; exact True.intro) (.inr ho) (fun b q hb z => (sb.2 b hb).trans z) hd ?_
  refine ⟨by rw [zaN O.ne]; exact ho, ?_, O.ne, O'.obj, _, O'.ns, fun g => ?_, fun g hg => ?_⟩
  · have := zgA f y fs; omega
  · show zf6 ((zd7 f y fs).lookup g) (if g = f then some u else mA g)
    rw [zgz]
    by_cases q : g = f
    · rw [if_pos q, if_pos q]; exact ry
    · rw [if_neg q, if_neg q]; exact r g
  · by_cases q : g = f
    · rw [q]; exact (zgm f y fs).1
    · refine (zgm f y fs).2 g (wi g fun z => hg ?_)
      show (if g = f then some u else mA g) = none
      rw [if_neg q]; exact z
theorem Inv.made (I : Inv X pins σ H s) : Inv X pins σ (upd (upd H s.heap.objs.size (.own (s.heap.objs.size + 1))) (s.heap.objs.size + 1) (.ins C s.heap.objs.size []))
    { s with heap := (s.heap.push PySem.W.emptyDict).push (PySem.W.instObj C s.heap.objs.size) } := by
  have e1 : (s.heap.push PySem.W.emptyDict).get? s.heap.objs.size = some PySem.W.emptyDict := Heap.get?_push_size s.heap rfl
  have e2 : ((s.heap.push PySem.W.emptyDict).push (PySem.W.instObj C s.heap.objs.size)).get? (s.heap.objs.size + 1) = some (PySem.W.instObj C s.heap.objs.size) := by
    have := Heap.get?_push_size (s.heap.push PySem.W.emptyDict) (o := PySem.W.instObj C s.heap.objs.size) rfl
    rwa [Heap.size_push] at this
  have e3 : (s.heap.push PySem.W.emptyDict).Ns s.heap.objs.size (fun _ => none) := ⟨PySem.W.emptyDict, #[], _, e1, rfl, (fun e he => absurd he (by simp)), fun _ => rfl⟩
  have I1 := I.laid (a := s.heap.objs.size) (o := .own (s.heap.objs.size + 1)) (h' := s.heap.push PySem.W.emptyDict) (t' := s.toks) (fun b u q => Heap.get?_push_of_some _ q) (Nat.le_refl _) ⟨_, e1⟩
  refine I1.laid (a := s.heap.objs.size + 1) (o := .ins C s.heap.objs.size []) (t' := s.toks) (fun b u q => Heap.get?_push_of_some _ q) (Nat.le_of_eq (Heap.size_push _ _)) ?_
  have ne : s.heap.objs.size ≠ s.heap.objs.size + 1 := Nat.ne_of_lt (Nat.lt_succ_self _)
  refine ⟨by rw [zaN ne, zba], Nat.zero_le _, ne, e2, fun _ => none, (Heap.Ns1.of_empty e3).at fun o q => Heap.get?_push_of_some _ q, fun _ => True.intro, fun y hy => absurd rfl hy⟩
theorem attr_of {prog : Program} {w : World} {env : Env} {e : Expr} {f : Str} {pos : Pos} {s : Shared} {Q : Value → Shared → Prop} (hb : attributeBase e f env (eval e env) = eval e env)
    (h : wpAny (model prog w) A (eval e env) (fun o s₁ => wpAny (model prog w) A (getAttr o f true) Q E s₁) E s) : wpAny (model prog w) A (eval (.Attribute e f pos) env) Q E s :=
  Attribute_any_ h (by rw [arm_eval_Attribute, hb])
end
def tFld (K : PySem.W.Frag) (ta : TE) (f : Str) : TE := fun σ H Q => ta σ H fun x H1 => ∃ a C dx fs v, x = .ref a ∧ H1 a = some (.ins C dx fs) ∧ Cls K C ∧ zew K C f ∧ fs.lookup f = some v ∧ Q v H1
def zhb (K : PySem.W.Frag) (ta tv : TE) (f : Str) : TS := fun D σ H => tv σ H fun y H1 => ta σ H1 fun x H2 => ∃ a C dx fs, x = .ref a ∧ H2 a = some (.ins C dx fs) ∧ Cls K C ∧ zew K C f ∧ fs.length < 1000 ∧
  D.nx σ (upd H2 a (.ins C dx (zd7 f y fs)))
section
variable {X : Cx} {o e value : Expr} {f : Str} {pos pos' tpos : Pos} {ta tv : TE}
theorem pe_fld (he : PE X e ta) (hb : attributeBase e f X.env (eval e X.env) = eval e X.env) : PE X (.Attribute e f pos) (tFld X.K ta f) := by
  intro pins s σ H Q I h
  refine attr_of hb (thn (he pins s σ H _ I h) fun u s1 ⟨x, H1, I1, rx, a, C, dx, fs, v, ex, ea, c, n, l, q⟩ => ?_)
  subst ex
  obtain rfl : u = Value.ref a := rx
  exact zki I1 ea c n l fun u' s2 I2 ru => ⟨v, H1, I2, ru, q⟩
theorem ps_fld (ha : PE X o ta) (hv : PE X value tv) (hs : swapsWith value (some (.Attribute o f pos')) pos.line X.env = pure false) : PS X (.Assign [.Attribute o f pos'] value pos) (zhb X.K ta tv f) := by
  intro pins s σ H D I h
  refine plainObj_wpAny_Assign_Attribute (thn (hv pins s σ H _ I h) fun u s1 ⟨y, H1, I1, ry, q⟩ => thn (ha pins s1 σ H1 _ I1 q) fun ov s2 ⟨x, H2, I2, rx, a, C, dx, fs, ex, ea, c, n, l, q2⟩ => ?_) hs
  subst ex
  obtain rfl : ov = Value.ref a := rx
  exact zj6 I2 ea c n l ry fun s3 I3 => ⟨σ, _, I3, q2⟩
end
section
variable {X : Cx} {pins : List (Addr × Obj)} {σ : St} {H : Hp} {s : Shared} {A : Around} {E : Value → Shared → Prop} {Q : Value → Shared → Prop} {c : Value} {b : Bool}
inductive zgV (K : PySem.W.Frag) (H : Hp) : V → Value → Prop where
  | non : zgV K H .non (.type "NoneType")
  | bl (x : Bool) : zgV K H (.bl x) (.type "bool")
  | int (i : Int) : zgV K H (.int i) (.type "int")
  | str (x : Str) : zgV K H (.str x) (.type "str")
  | flt (x : UInt64) : zgV K H (.flt x) (.type "float")
  | lst {a : Addr} {xs : List V} (e : H a = some (.lst xs)) : zgV K H (.ref a) (.type "list")
  | frz {a : Addr} {o : Obj} {xs : List V} (e : H a = some (.frz o (.lst xs))) : zgV K H (.ref a) (.type "list")
  | tup {a : Addr} {xs : List V} (e : H a = some (.tup xs)) : zgV K H (.ref a) (.type "tuple")
  | dK {a : Addr} {kvs : List (Key × V)} (e : H a = some (.dK kvs)) : zgV K H (.ref a) (.type "dict")
  | dT {a : Addr} {kvs : List (List Key × V)} (e : H a = some (.dT kvs)) : zgV K H (.ref a) (.type "dict")
  | ins {a C dx : Addr} {fs : List (Str × V)} (e : H a = some (.ins C dx fs)) (cl : Cls K C) (ha : PySem.W.findIn K (.ref C) "__class__" = some (some (.builtin "object.__class__")))
      (hn : PySem.W.specialIn K (.builtin "object.__class__") "__get__" = some (some (.builtin "getset_descriptor.__get__"))) (htk : PySem.W.takesIn K (.builtin "object.__class__") = some true)
      (hm : PySem.W.mroIn K C (.type "object") = some true) : zgV K H (.ref a) (.ref C)
end
end L2
namespace L2
open PySem PySem.Spec PyProof.Rows
structure zbr (k : Nat) (A : Around) : Prop where
  hd : A.handled = none
  dp : A.depth + 3 * k + 5 < recursionLimit
  un : A.units + 16 * k + 200 < cLine
theorem zbr.mono {j k : Nat} {A : Around} (r : zbr k A) (h : j ≤ k) : zbr j A := ⟨r.hd, by have := r.dp; omega, by have := r.un; omega⟩
theorem zbr.deeper {k : Nat} {A : Around} (r : zbr (k + 1) A) (env : Env) : zbr k (A.deeper env) :=
  ⟨r.hd, by have := r.dp; show A.depth + 1 + 3 * k + 5 < _; omega, by have := r.un; show A.units + 3 + 16 * k + 200 < _; omega⟩
theorem zkc {A : Around} {C : Addr} {us : List Value} {kw : List (Str × Value)} : (A.under (.builtin "type.__call__" ⟨.ref C :: us, kw⟩)).depth = A.depth + 1 := by
  first | rfl | simp [Around.under, Code.weight, Code.isCreation, Code.isGuard, Code.isCaller, Code.frames, Code.isFrame, guardIds]
theorem zkb {A : Around} {C : Addr} {us : List Value} {kw : List (Str × Value)} : (A.under (.builtin "type.__call__" ⟨.ref C :: us, kw⟩)).units = A.units + 1 := by
  first | rfl | simp [Around.under, Code.cUnits, Code.frames, Code.isFrame]
theorem zbr.make {k : Nat} {A : Around} (r : zbr (k + 1) A) (C : Addr) (us : List Value) (kw : List (Str × Value)) : zbr k (A.under (.builtin "type.__call__" ⟨.ref C :: us, kw⟩)) :=
  ⟨r.hd, by have := r.dp; rw [zkc]; omega, by have := r.un; rw [zkb]; omega⟩
theorem zbr.depth {k : Nat} {A : Around} (r : zbr k A) : A.depth < recursionLimit := by have := r.dp; omega
theorem zbr.units {k : Nat} {A : Around} (r : zbr k A) : A.units + 64 < cLine := by have := r.un; omega
def tNil : TA := fun _ H Q => Q [] H
def tCons (ta : TE) (tr : TA) : TA := fun σ H Q => ta σ H fun x H1 => tr σ H1 fun xs H2 => Q (x :: xs) H2
section
variable {X : Cx} {e : Expr} {es : List Expr} {te : TE} {t : TA} {pos : Pos}
theorem zmr : PA X [] tNil := fun _ _ _ _ H Q I h => Calls.spliced_nil ⟨[], H, I, .nil, h⟩
theorem zk2 (ha : PE X e te) (hr : PA X es t) (hs : starEach (e :: es) X.env = (false, eval e X.env) :: starEach es X.env := by rfl) : PA X (e :: es) (tCons te t) := by
  intro pos pins s σ H Q I h
  rw [hs]
  show wpAny _ _ (spliced ((false, eval e X.env) :: backTo pos (starEach es X.env))) _ _ s
  refine Calls.spliced_cons (thn (ha pins s σ H _ I h) fun u s1 ⟨x, H1, I1, r1, q1⟩ => ?_)
  exact thn (hr pos pins s1 σ H1 _ I1 q1) fun us s2 ⟨xs, H2, I2, r2, q2⟩ => ⟨x :: xs, H2, I2, .cons r1 r2, q2⟩
def tTup (t : TA) : TE := fun σ H Q => t σ H fun xs H1 => xs.length ≤ sizeLine ∧ ∀ p, H1 p = none → Q (.ref p) (upd H1 p (.tup xs))
def tLst (t : TA) : TE := fun σ H Q => t σ H fun xs H1 => xs.length ≤ sizeLine ∧ ∀ p, H1 p = none → Q (.ref p) (upd H1 p (.lst xs))
theorem pe_tup {x1} (h : PA X es t) : PE X (.Tuple es x1 pos) (tTup t) := by
  intro pins s σ H Q I hq
  refine wpAny_Tuple_spliced (thn (h pos pins s σ H _ I hq) fun us s1 ⟨xs, H1, I1, r, z, q⟩ => ⟨by rw [← r.length]; exact z, ?_⟩)
  have hf : H1 s1.heap.objs.size = none := I1.hok.fresh (Nat.le_refl _)
  refine ⟨.ref s1.heap.objs.size, upd H1 s1.heap.objs.size (.tup xs), I1.laid (t' := s1.toks) (fun b u e => Heap.get?_push_of_some _ e) (Nat.le_refl _) ?_, rfl, q _ hf⟩
  exact ⟨z, us, r, ⟨_, Heap.get?_push_size _ rfl, rfl, _, rfl⟩⟩
theorem pe_lst (h : PA X es t) : PE X (.List es pos) (tLst t) := by
  intro pins s σ H Q I hq
  refine wpAny_List_spliced (thn (h pos pins s σ H _ I hq) fun us s1 ⟨xs, H1, I1, r, z, q⟩ => ⟨by rw [← r.length]; exact z, ?_⟩)
  have hf : H1 s1.heap.objs.size = none := I1.hok.fresh (Nat.le_refl _)
  refine ⟨.ref s1.heap.objs.size, upd H1 s1.heap.objs.size (.lst xs), I1.laid (t' := s1.toks) (fun b u e => Heap.get?_push_of_some _ e) (Nat.le_refl _) ?_, rfl, q _ hf⟩
  exact ⟨z, us, 0, r, Heap.get?_push_size _ rfl⟩
end
abbrev Sp := List V → Hp → VK → XK → Prop
abbrev CXT := List Env → Hp → Shared → XK → Value → Shared → Prop
structure Env0 (P : Program) (w : World) (K : PySem.W.Frag) (mg : Str → Option Value) (base : Heap) (A : Around) (outer : List Env) (s : Shared) (H : Hp) : Prop where
  frames : A.frames = some outer
  mod : Mod K mg base
  bs : ∀ b o, base.get? b = some o → s.heap.get? b = some o ∧ H b = none
  bsz : base.objs.size ≤ s.heap.objs.size
  funs : s.heap.FunFrames base outer
  frf : ∀ b ∈ frs outer, H b = none
  hok : HOk P w H s.heap
  bare : AllBare s.gens
def CE (outer : List Env) (P : Program) (w : World) (H : Hp) (s : Shared) (Q : VK) (u : Value) (s' : Shared) : Prop :=
  ∃ v H', s'.os = s.os ∧ AllBare s'.gens ∧ Un (frs outer) [] H H' s.heap s'.heap ∧ HOk P w H' s'.heap ∧ zaV v u ∧ Q v H'
def CR (CX : CXT) (outer : List Env) (P : Program) (w : World) (H : Hp) (s : Shared) (Q : VK) (E : XK) (r : Result) (s' : Shared) : Prop :=
  match r with
  | .ok (.ret u) => CE outer P w H s Q u s'
  | .ok _ => False
  | .error e => CX outer H s E e s'
structure zf7 (P : Program) (w : World) (K : PySem.W.Frag) (mg : Str → Option Value) (base : Heap) (CX : CXT) (k : Nat) (f : Addr) (fd : FuncData) (ps : List Str) (sp : Sp) : Prop where
  len : ∀ vs H Q E, sp vs H Q E → vs.length = ps.length
  run : ∀ (A : Around) (outer : List Env) (s : Shared) (H : Hp) (args : Args) (us : List Value) (vs : List V) (Q : VK) (E : XK), zbr k A → Env0 P w K mg base A outer s H → BindsTo s fd args (ps.zip us) → zaD vs us → sp vs H Q E →
    codeAny (model P w) A (.call (.ref f) args) (CR CX outer P w H s Q E) s
theorem Env0.make {P : Program} {w : World} {K : PySem.W.Frag} {mg : Str → Option Value} {base : Heap} {A : Around} {outer : List Env} {s : Shared} {H : Hp} (e : Env0 P w K mg base A outer s H) (C : Addr) (us : List Value) (kw : List (Str × Value)) :
    Env0 P w K mg base (A.under (.builtin "type.__call__" ⟨.ref C :: us, kw⟩)) outer s H := ⟨by first | exact e.frames | (simpa [Around.under, Code.envs, Code.isFrame, pushEnvs] using e.frames), e.mod, e.bs, e.bsz, e.funs, e.frf, e.hok, e.bare⟩
section
variable {X : Cx} {pins : List (Addr × Obj)} {σ : St} {H : Hp} {s s' : Shared}
theorem Inv.env0 (I : Inv X pins σ H s) : Env0 X.prog X.w X.K X.mg X.base X.A X.stack s H :=
  ⟨I.ok.frames, I.ok.mod, I.bs, Nat.le_trans I.ok.bsz I.sz, I.stack, I.stkFree, I.hok, I.bare⟩
theorem Inv.after {Q : VK} {u : Value} (I : Inv X pins σ H s) (h : CE X.stack X.prog X.w H s Q u s') : EP X pins σ Q u s' := by
  obtain ⟨v, H', os, bare, un, hok, r, q⟩ := h
  obtain ⟨hh, g, d, t, os'⟩ := s'
  obtain rfl : os' = s.os := os
  exact ⟨v, H', I.call (h' := hh) (g' := g) (d' := d) (t' := t) (ch := []) un hok bare (fun b z => absurd z (by simp)), r, q⟩
end
def tCall (sp : Sp) (dvs : List V) (E : XK) (t : TA) : TE := fun σ H Q => t σ H fun vs H1 => sp (vs ++ dvs) H1 Q E
def tMake (C : Addr) (sp : Sp) (dvs : List V) (E : XK) (t : TA) : TE := fun σ H Q => t σ H fun vs H1 => ∀ x dx, H1 x = none → H1 dx = none → dx ≠ x →
  sp (.ref x :: (vs ++ dvs)) (upd (upd H1 dx (.own x)) x (.ins C dx [])) (fun v H2 => v = .non ∧ Q (.ref x) H2) E
def zdw (K : PySem.W.Frag) (fd : FuncData) (ps : List Str) (ds : List Value) : Prop :=
  ∀ (s : Shared) (us : List Value), K.In s.heap → (us ++ ds).length = ps.length → BindsTo s fd ⟨us, []⟩ (ps.zip (us ++ ds))
theorem zdw.all {K : PySem.W.Frag} {fd : FuncData} {ps : List Str} (h : ∀ us : List Value, us.length = ps.length → bindArgs fd ⟨us, []⟩ = pure (ps.zip us)) : zdw K fd ps [] := fun s us _ hl => by
  rw [List.append_nil] at hl ⊢
  exact .of_eq (h us hl)
def zgs (CX : CXT) (X : Cx) (E : XK) : Prop := ∀ (pins : List (Addr × Obj)) (σ : St) (H : Hp) (s : Shared) (e : Value) (s' : Shared), Inv X pins σ H s → CX X.stack H s E e s' → X.xe e s'
section
variable {X : Cx} {CX : CXT} {k : Nat} {f C : Addr} {fd : FuncData} {ps : List Str} {sp : Sp} {dvs : List V} {ds : List Value} {E : XK} {x m : Str} {p pos apos : Pos} {e o : Expr} {es : List Expr} {ta : TE} {t : TA}
theorem zj7 {pins : List (Addr × Obj)} {σ : St} {H : Hp} {s : Shared} {Q : VK} {us : List Value} {vs : List V} (F : zf7 X.prog X.w X.K X.mg X.base CX k f fd ps sp) (hr : zbr k X.A) (hb : zdw X.K fd ps ds) (hd : zaD dvs ds) (hx : zgs CX X E)
    (I : Inv X pins σ H s) (r : zaD vs us) (h : sp (vs ++ dvs) H Q E) : wpAny (model X.prog X.w) X.A (call (.ref f) us) (EP X pins σ Q) X.xe s := by
  have r2 : zaD (vs ++ dvs) (us ++ ds) := r.append hd
  have hl : (us ++ ds).length = ps.length := by rw [← r2.length]; exact F.len _ _ _ _ h
  refine wpAny_call (codeAny_mono (F.run X.A X.stack s H ⟨us, []⟩ (us ++ ds) (vs ++ dvs) Q E hr I.env0 (hb s us I.kIn hl) r2 h) fun r s' hq => ?_)
  cases r with
  | error e => exact hx pins σ H s e s' I hq
  | ok fl =>
    cases fl with
    | ret u => exact I.after hq
    | next => exact False.elim hq
    | brk => exact False.elim hq
    | cont => exact False.elim hq
theorem pe_call (F : zf7 X.prog X.w X.K X.mg X.base CX k f fd ps sp) (hr : zbr k X.A) (hg : Gl X x) (hm : X.mg x = some (.ref f)) (hk : PySem.W.keepIn X.K (.ref f) = true) (hb : zdw X.K fd ps ds) (hd : zaD dvs ds) (hx : zgs CX X E)
    (ha : PA X (e :: es) t) (hdb : (x == ("__debug__" : Str)) = false := by decide) (he : starEach (e :: es) X.env = (false, eval e X.env) :: starEach es X.env := by rfl) (hpl : (backTo pos (starEach es X.env)).any (·.1) = false := by rfl) :
    PE X (.Call (.Name x p) (e :: es) [] pos) (tCall sp dvs E t) := by
  intro pins s σ H Q I h
  refine wpAny_Call_Name_kw (zfZ I hg hm ?_ hdb)
  refine PySem.W.callWith_K (h₀ := X.base) I.ok.mod.kin hk (thn (ha pos pins s σ H _ I h) fun us s1 ⟨vs, H1, I1, r, q⟩ => ⟨I1.kIn, ?_⟩) he hpl
  exact zj7 F hr hb hd hx I1 r q
structure Mk (K : PySem.W.Frag) (C f : Addr) : Prop where
  makes : PySem.W.makesIn K C = true
  init : PySem.W.findIn K (.ref C) "__init__" = some (some (.ref f))
  fn : PySem.W.isFn K (.ref f) = true
  kp : PySem.W.keepIn K (.ref C) = true
theorem zmc {pins : List (Addr × Obj)} {σ : St} {H : Hp} {s : Shared} {Q : VK} {us : List Value} {vs : List V} (M : Mk X.K C f) (F : zf7 X.prog X.w X.K X.mg X.base CX k f fd ps sp) (hr : zbr (k + 1) X.A) (hb : zdw X.K fd ps ds) (hd : zaD dvs ds)
    (hx : zgs CX X E) (I : Inv X pins σ H s) (r : zaD vs us)
    (h : ∀ x dx, H x = none → H dx = none → dx ≠ x → sp (.ref x :: (vs ++ dvs)) (upd (upd H dx (.own x)) x (.ins C dx [])) (fun v H2 => v = .non ∧ Q (.ref x) H2) E) :
    wpAny (model X.prog X.w) X.A (call (.ref C) us) (EP X pins σ Q) X.xe s := by
  have hq := h (s.heap.objs.size + 1) s.heap.objs.size (I.hok.fresh (Nat.le_succ _)) (I.hok.fresh (Nat.le_refl _)) (Nat.ne_of_lt (Nat.lt_succ_self _))
  have I2 := Inv.made (C := C) I
  have r2 : zaD (V.ref (s.heap.objs.size + 1) :: (vs ++ dvs)) (Value.ref (s.heap.objs.size + 1) :: (us ++ ds)) := .cons rfl (r.append hd)
  have hl : (Value.ref (s.heap.objs.size + 1) :: us ++ ds).length = ps.length := by
    have e := r2.length
    rw [F.len _ _ _ _ hq] at e
    exact e.symm
  refine wpAny_call (zmy (f := f) I.kIn M.makes M.init (beq_iff_eq.mp M.fn) (codeAny_mono (F.run _ X.stack _ _ ⟨Value.ref (s.heap.objs.size + 1) :: us, []⟩ (Value.ref (s.heap.objs.size + 1) :: (us ++ ds)) _ _ E (hr.make C us [])
    (I2.env0.make C us []) (hb _ (Value.ref (s.heap.objs.size + 1) :: us) I2.kIn hl) r2 hq) fun r s' hq' => ?_))
  cases r with
  | error e => exact hx pins σ _ _ e s' I2 hq'
  | ok fl =>
    cases fl with
    | ret u =>
      obtain ⟨v, H', I3, rv, ev, q3⟩ := I2.after hq'
      subst ev
      exact ⟨rv, ⟨V.ref (s.heap.objs.size + 1), H', I3, rfl, q3⟩⟩
    | next => exact False.elim hq'
    | brk => exact False.elim hq'
    | cont => exact False.elim hq'
theorem zkZ (M : Mk X.K C f) (F : zf7 X.prog X.w X.K X.mg X.base CX k f fd ps sp) (hr : zbr (k + 1) X.A) (hg : Gl X x) (hm : X.mg x = some (.ref C)) (hb : zdw X.K fd ps ds) (hd : zaD dvs ds) (hx : zgs CX X E)
    (ha : PA X (e :: es) t) (hdb : (x == ("__debug__" : Str)) = false := by decide) (he : starEach (e :: es) X.env = (false, eval e X.env) :: starEach es X.env := by rfl) (hpl : (backTo pos (starEach es X.env)).any (·.1) = false := by rfl) :
    PE X (.Call (.Name x p) (e :: es) [] pos) (tMake C sp dvs E t) := by
  intro pins s σ H Q I h
  refine wpAny_Call_Name_kw (zfZ I hg hm ?_ hdb)
  refine PySem.W.callWith_K (h₀ := X.base) I.ok.mod.kin M.kp (thn (ha pos pins s σ H _ I h) fun us s1 ⟨vs, H1, I1, r, q⟩ => ⟨I1.kIn, ?_⟩) he hpl
  exact zmc M F hr hb hd hx I1 r q
end
section
variable {X : Cx} {CX : CXT} {k : Nat} {f C : Addr} {fd : FuncData} {ps ks : List Str} {sp : Sp} {E : XK} {x m : Str} {p pos apos kpos : Pos} {e o : Expr} {es : List Expr} {kws : List Keyword} {te ta : TE} {t tk : TA} {nm : Option Str}
structure KBinds (K : PySem.W.Frag) (fd : FuncData) (ps ks : List Str) (g : List Value → List Value → List Value) (gV : List V → List V → List V) : Prop where
  to : ∀ (s : Shared) (us ws : List Value), K.In s.heap → (g us ws).length = ps.length → BindsTo s fd ⟨us, ks.zip ws⟩ (ps.zip (g us ws))
  rel : ∀ {vs : List V} {us : List Value} {zs : List V} {ws : List Value}, zaD vs us → zaD zs ws → zaD (gV vs zs) (g us ws)
variable {g : List Value → List Value → List Value} {gV : List V → List V → List V}
end
structure zaH (N P : List Str) (sc : Scope) : Prop where
  kind : sc.kind = .function
  co : sc.isCoroutine = false
  gen : sc.isGenerator = false
  nd : N.Nodup
  pre : N.take P.length = P
  par : ∀ x ∈ P, sc.names.lookup x = some .local ∨ sc.names.lookup x = some .cell
  nofree : ∀ y ∈ sc.names, y.2 ≠ .free
theorem zid {kindOf : Str → Option NameKind} {x : Str} : ∀ {binds : List (Str × Value)} {m : Str → Option Value}, (∀ v, (x, v) ∉ binds) → bindL kindOf binds m x = m x
  | [], _, _ => rfl
  | (n, v) :: r, m, h => by
    unfold bindL
    rw [zid fun w hw => h w (List.mem_cons_of_mem _ hw)]
    split
    · have : x ≠ n := by rintro rfl; exact h v List.mem_cons_self
      simp [this]
    · rfl
theorem zif {kindOf : Str → Option NameKind} {x : Str} : ∀ {binds : List (Str × Value)} {m : Str → Option Value}, (∀ v, (x, v) ∉ binds) → bindC kindOf binds m x = m x
  | [], _, _ => rfl
  | (n, v) :: r, m, h => by
    unfold bindC
    rw [zif fun w hw => h w (List.mem_cons_of_mem _ hw)]
    split
    · rfl
    · have : x ≠ n := by rintro rfl; exact h v List.mem_cons_self
      simp [this]
theorem zie {kindOf : Str → Option NameKind} {x : Str} {v : Value} : ∀ {P : List Str} {vs : List Value} {i : Nat} {m : Str → Option Value}, P.Nodup → P[i]? = some x → vs[i]? = some v → kindOf x = some .local →
    bindL kindOf (P.zip vs) m x = some v
  | [], _, _, _, _, h, _, _ => by simp at h
  | _ :: _, [], _, _, _, _, h, _ => by simp at h
  | p :: P, w :: vs, 0, m, nd, h1, h2, hk => by
    simp at h1 h2; subst h1; subst h2
    show bindL kindOf ((p, w) :: P.zip vs) m p = _
    unfold bindL
    rw [zid fun v hv => (List.nodup_cons.mp nd).1 (List.of_mem_zip hv).1, if_pos hk]
    simp
  | p :: P, w :: vs, i + 1, m, nd, h1, h2, hk => by
    show bindL kindOf ((p, w) :: P.zip vs) m x = _
    unfold bindL
    exact zie (i := i) (List.nodup_cons.mp nd).2 (by simpa using h1) (by simpa using h2) hk
theorem zig {kindOf : Str → Option NameKind} {x : Str} {v : Value} : ∀ {P : List Str} {vs : List Value} {i : Nat} {m : Str → Option Value}, P.Nodup → P[i]? = some x → vs[i]? = some v → kindOf x ≠ some .local →
    bindC kindOf (P.zip vs) m x = some v
  | [], _, _, _, _, h, _, _ => by simp at h
  | _ :: _, [], _, _, _, _, h, _ => by simp at h
  | p :: P, w :: vs, 0, m, nd, h1, h2, hk => by
    simp at h1 h2; subst h1; subst h2
    show bindC kindOf ((p, w) :: P.zip vs) m p = _
    unfold bindC
    rw [zif fun v hv => (List.nodup_cons.mp nd).1 (List.of_mem_zip hv).1, if_neg hk]
    simp
  | p :: P, w :: vs, i + 1, m, nd, h1, h2, hk => by
    show bindC kindOf ((p, w) :: P.zip vs) m x = _
    unfold bindC
    exact zig (i := i) (List.nodup_cons.mp nd).2 (by simpa using h1) (by simpa using h2) hk
def start (N : List Str) (vs : List V) : St := vs.map some ++ List.replicate (N.length - vs.length) none
def zgr (CX : CXT) (P : Program) (w : World) (K : PySem.W.Frag) (mg : Str → Option Value) (base : Heap) (N : List Str) (qual : Str) (scope : Scope) (f : Addr) (cd : Value) (A : Around) (outer : List Env) (s : Shared) (H : Hp) (E : XK) : Cx where
  prog := P
  w := w
  K := K
  mg := mg
  base := base
  A := A.deeper (envOfC qual scope s.heap.objs.size f cd)
  N := N
  s₀ := s
  H₀ := H
  env := envOfC qual scope s.heap.objs.size f cd
  outer := outer
  stack := envOfC qual scope s.heap.objs.size f cd :: outer
  ex := []
  calm := true
  fn := fun _ => true
  pn := []
  xe := fun e s' => wpAny (model P w) (A.deeper (envOfC qual scope s.heap.objs.size f cd)) (leaving (envOfC qual scope s.heap.objs.size f cd) e) (fun _ s'' => CX outer H s E e s'') (fun e' s'' => CX outer H s E e' s'') s'
theorem zjU {sc : Scope} {n : Nat} {x : Str} (h : sc.names.lookup x = some .cell) : ∃ c, (cellsFrom n sc.names []).lookup x = some c := by
  have q := PySem.W.cellsFrom_some sc.names n [] (.inl h)
  exact Option.isSome_iff_exists.mp q
theorem zlT {CX : CXT} {P : Program} {w : World} {K : PySem.W.Frag} {mg : Str → Option Value} {base : Heap} {N ps : List Str} {qual : Str} {scope : Scope} {f : Addr} {cd : Value} {A : Around} {outer : List Env} {s s1 : Shared} {H : Hp} {E : XK} {us : List Value} {vs : List V}
    (S : zaH N ps scope) (hd : A.handled = none) (e0 : Env0 P w K mg base A outer s H) (hl : vs.length = ps.length) (r : zaD vs us)
    (x : InCallC s s.heap.objs.size (bindL (envOfC qual scope s.heap.objs.size f cd).kindOf (ps.zip us) fun _ => none) (cellsFrom (s.heap.objs.size + 1) scope.names []) (bindC (envOfC qual scope s.heap.objs.size f cd).kindOf (ps.zip us) fun _ => none) s1) :
    Inv (zgr CX P w K mg base N qual scope f cd A outer s H E) [] (start N vs) H s1 := by
  have hpl : ps.length ≤ N.length := by have := congrArg List.length S.pre; rw [List.length_take] at this; omega
  obtain ⟨h1, tk, rfl, hk⟩ := x.done
  have noA : ∀ b : Addr, b ∉ (zgr CX P w K mg base N qual scope f cd A outer s H E).ex := fun b z => absurd (show b ∈ ([] : List Addr) from z) (by simp)
  refine ⟨⟨e0.mod, S.kind, rfl, rfl, Nat.le_refl _, fun y z c h1 h2 => ?_, fun y hy => ?_, fun y c _ h => ?_, fun _ => hd, Around.frames_deeper e0.frames, .inr ⟨rfl, rfl⟩, fun b z => absurd z (noA b), e0.bs, e0.bsz, fun b _ _ => noA b, fun b z => absurd z (noA b), e0.funs, e0.frf⟩,
    rfl, e0.bare, Un.kept hk, ⟨_, x.toInCall.ns, fun i y v h1 h2 h3 => ?_⟩, fun y c h => ⟨_, x.cell y c h⟩, e0.hok.fresh (Nat.le_refl _), fun y c h => ?_, fun p hp => absurd (show p ∈ ([] : List (Addr × Obj)) from hp) (by simp), e0.hok.kept hk, ?_⟩
  · exact name_of_addr x.apart (PySem.mem_of_lookup h1) (PySem.mem_of_lookup h2)
  · have hy : scope.names.lookup y = some .cell ∨ scope.names.lookup y = some .free := hy
    rcases hy with hy | hy
    · exact zjU hy
    · exact absurd rfl (S.nofree _ (PySem.mem_of_lookup hy))
  · exact Nat.le_of_lt (x.above y c (PySem.mem_of_lookup h))
  · have hi : i < vs.length := by
      unfold start at h2
      by_cases hi : i < vs.length
      · exact hi
      · rw [List.getElem?_append_right (by simpa using hi)] at h2
        rw [List.getElem?_replicate] at h2
        split at h2 <;> cases h2
    have ha : vs[i]? = some v := by
      unfold start at h2
      rw [List.getElem?_append_left (by simpa using hi), List.getElem?_map] at h2
      cases e : vs[i]? with
      | none => rw [e] at h2; cases h2
      | some a => rw [e] at h2; cases h2; rfl
    obtain ⟨u, hu, rv⟩ := r.get ha
    have hp : ps[i]? = some y := by
      rw [← S.pre, List.getElem?_take_of_lt (by omega)]; exact h1
    have ndP : ps.Nodup := by rw [← S.pre]; exact S.nd.sublist (List.take_sublist _ _)
    refine ⟨u, rv, ?_⟩
    rcases S.par y (List.mem_of_getElem? hp) with k | k
    · exact .inl ⟨k, zie ndP hp hu k⟩
    · obtain ⟨c, e⟩ := zjU (n := s.heap.objs.size + 1) k
      refine .inr ⟨.inl k, c, e, ?_⟩
      have q := x.cell y c e
      rw [zig ndP hp hu (by show scope.names.lookup y ≠ _; rw [k]; decide)] at q
      exact q
  · exact e0.hok.fresh (Nat.le_of_lt (x.above y c (PySem.mem_of_lookup h)))
  · unfold start
    show _ = N.length
    rw [List.length_append, List.length_map, List.length_replicate]
    omega
theorem fn_of {CX : CXT} {P : Program} {w : World} {K : PySem.W.Frag} {mg : Str → Option Value} {base : Heap} {k : Nat} {f : Addr} {name qual : Str} {params : Arguments} {body : List Stmt} {scope : Scope} {dV kV doc pm cdv ct oc : Value} {an od : Option Addr}
    {osl : Array (Option Value)} {N ps : List Str} {sp : Sp} (lk : K.lookup f = some ⟨oc, od, .func (PySem.W.fnOf name qual params body scope dV kV doc pm an cdv ct), osl⟩) (hcd : PySem.W.codeIn K cdv qual = true) (S : zaH N ps scope)
    (len : ∀ vs H Q E, sp vs H Q E → vs.length = ps.length)
    (hbody : ∀ (A : Around) (outer : List Env) (s : Shared) (H : Hp) (vs : List V) (Q : VK) (E : XK), zbr k (A.deeper (envOfC qual scope s.heap.objs.size f cdv)) → sp vs H Q E →
      ∃ t, PSs (zgr CX P w K mg base N qual scope f cdv A outer s H E) body t ∧ t { nx := fun _ H' => Q .non H', rt := Q } (start N vs) H) :
    zf7 P w K mg base CX (k + 1) f (PySem.W.fnOf name qual params body scope dV kV doc pm an cdv ct) ps sp := by
  refine ⟨len, fun A outer s H args us vs Q E hr e0 hb r hsp => ?_⟩
  have hl := len _ _ _ _ hsp
  have KX : K.In s.heap := e0.mod.kin.keeps fun b o e => (e0.bs b o e).1
  have lim : s.heap.NoLimit := e0.mod.nolimit.keeps fun b o e => (e0.bs b o e).1
  have hkind : ∀ y ∈ ps.zip us, scope.names.lookup y.1 = some .local ∨ (scope.names.lookup y.1 = some .cell ∧ ((cellsFrom (s.heap.objs.size + 1) scope.names []).lookup y.1).isSome = true) := fun ⟨n, v⟩ hy => by
    rcases S.par n (List.of_mem_zip hy).1 with q | q
    · exact .inl q
    · exact .inr ⟨q, PySem.W.cellsFrom_some _ _ _ (.inl q)⟩
  refine codeAny_call_function hr.depth (KX _ _ lk) rfl S.co S.gen rfl (PySem.W.codeRec_of KX hcd) (hb _ _ _ _ ?_)
  refine wpAny_newFunctionEnv_cells S.kind hkind fun env he s1 x => ?_
  subst he
  refine ⟨lim.keeps x.toInCall.keep, codeAny_func ?_⟩
  obtain ⟨t, ht, hq⟩ := hbody A outer s H vs Q E (hr.deeper _) hsp
  have I : Inv (zgr CX P w K mg base N qual scope f cdv A outer s H E) [] (start N vs) H s1 := zlT S hr.hd e0 hl r x
  refine wpAny_mono (ht [] s1 (start N vs) H _ I hq) (fun fl s' hs => ?_) fun e s' hs => hs
  have fin : ∀ {σ' : St} {H' : Hp} {v : V} {u : Value}, Inv (zgr CX P w K mg base N qual scope f cdv A outer s H E) [] σ' H' s' → zaV v u → Q v H' → CE outer P w H s Q u s' :=
    fun {σ' H' v u} J rv q => ⟨v, H', J.os, J.bare, J.base, J.hok, rv, q⟩
  cases fl with
  | ret u =>
    obtain ⟨v, σ', H', J, rv, q⟩ := hs
    exact fin J rv q
  | next =>
    obtain ⟨σ', H', J, q⟩ := hs
    exact fin (v := V.non) (u := Value.none) J rfl q
  | brk =>
    obtain ⟨_, _, _, q⟩ := hs
    exact False.elim q
  | cont =>
    obtain ⟨_, _, _, q⟩ := hs
    exact False.elim q
end L2
namespace L2
open PySem PySem.Spec PyProof.Rows
section
variable {X : Cx} {x : Str} {p pos : Pos} {e : Expr} {es : List Expr} {t : TA} {id T : String} {r : List V → Hp → VK → Prop}
def tCB (r : List V → Hp → VK → Prop) (t : TA) : TE := fun σ H Q => t σ H fun vs H1 => r vs H1 Q
theorem zjA (hc : zdN X (.builtin id) r) (hg : Gl X x) (hm : X.mg x = none) (hv : bootBuiltins x = some (.builtin id)) (ha : PA X (e :: es) t) (hn : x ≠ "__name__" := by decide) (hdb : (x == ("__debug__" : Str)) = false := by decide)
    (he : starEach (e :: es) X.env = (false, eval e X.env) :: starEach es X.env := by rfl) (hpl : (backTo pos (starEach es X.env)).any (·.1) = false := by rfl) : PE X (.Call (.Name x p) (e :: es) [] pos) (tCB r t) := by
  intro pins s σ H Q I h
  refine wpAny_Call_Name_kw (ziP I hg hm hv ?_ hn hdb)
  exact PyProof.Rows.callWith_builtin1 (thn (ha pos pins s σ H _ I h) fun us s1 ⟨vs, H1, I1, r1, q1⟩ => hc pins s1 σ H1 vs us Q I1 r1 q1) he hpl
theorem zlI (hc : zdN X (.type T) r) (hg : Gl X x) (hm : X.mg x = none) (hv : bootBuiltins x = some (.type T)) (ha : PA X (e :: es) t) (hn : x ≠ "__name__" := by decide) (hdb : (x == ("__debug__" : Str)) = false := by decide)
    (he : starEach (e :: es) X.env = (false, eval e X.env) :: starEach es X.env := by rfl) (hpl : (backTo pos (starEach es X.env)).any (·.1) = false := by rfl) : PE X (.Call (.Name x p) (e :: es) [] pos) (tCB r t) := by
  intro pins s σ H Q I h
  refine wpAny_Call_Name_kw (ziP I hg hm hv ?_ hn hdb)
  exact PyProof.Rows.callWith_type1 (thn (ha pos pins s σ H _ I h) fun us s1 ⟨vs, H1, I1, r1, q1⟩ => hc pins s1 σ H1 vs us Q I1 r1 q1) he hpl
end
end L2
namespace HT
open PySem PyProof.Rows
section
open PySem.SeqAt
open PySem.AutoSeq1 (wpAny_loadPart')
open PySem.MeetsSeq PySem.MeetsSeq2 PySem.MeetsSeq3
end
section
variable {prog : Program} {w : World} {A : Around} {E : Value → Shared → Prop} {s : Shared}
theorem cat_tup {t b : Addr} {vs ws : List Value} {Q : Value → Shared → Prop} (ht : IsTup s.heap t vs.toArray) (hb : IsTup s.heap b ws.toArray) (hv : vs ≠ [])
    (h1 : ws = [] → Q (.ref t) s) (h2 : ws ≠ [] → Q (.ref s.heap.objs.size) { s with heap := s.heap.push { cls := .type "tuple", data := .seq (vs ++ ws).toArray } })
    (hsz : vs.length + ws.length ≤ sizeLine) : wpAny (model prog w) A (binaryOp .Add (.ref t) (.ref b)) Q E s := by
  obtain ⟨⟨cls, dd, data, sl⟩, ho, hc, n, hd⟩ := id ht
  obtain ⟨⟨cls2, dd2, data2, sl2⟩, ho2, hc2, n2, hd2⟩ := id hb
  simp only at hc hd hc2 hd2
  subst hc hd hc2 hd2
  have e : vs.toArray ++ ws.toArray = (vs ++ ws).toArray := by simp
  by_cases hw : ws = []
  · exact concat_meets ⟨_, ho, rfl⟩ ⟨_, ho2, rfl⟩ noFill_tuple_add seq_tuple_add PySem.F.slot_tuple_add PySem.F.entry_tuple_add (PySem.F.args_tuple_add_2 _ _)
      (tuple_addW1 t b vs.toArray ws.toArray n n2 dd dd2 sl sl2 (by simpa using hv) (by simp [hw])) ⟨ho, ho2, h1 hw⟩
  · refine concat_meets ⟨_, ho, rfl⟩ ⟨_, ho2, rfl⟩ noFill_tuple_add seq_tuple_add PySem.F.slot_tuple_add PySem.F.entry_tuple_add (PySem.F.args_tuple_add_2 _ _)
      (tuple_addW2 t b vs.toArray ws.toArray n n2 dd dd2 sl sl2 (by simpa using hv) (by simpa using hw) (by rw [List.size_toArray, List.size_toArray]; exact hsz)) ⟨ho, ho2, ?_⟩
    rw [e]
    exact h2 hw
def sIx (n d : Nat) : Option Int → Nat
  | none => d
  | some v => if v < 0 then (v + (n : Int)).toNat else min v.toNat n
end
end HT
namespace L2
open PySem PySem.Spec PyProof.Rows
abbrev TO := St → Hp → (Option Int → Hp → Prop) → Prop
def PO (X : Cx) (e : Option Expr) (t : TO) : Prop :=
  ∀ (pins : List (Addr × Obj)) (s : Shared) (σ : St) (H : Hp) (Q : Option Int → Hp → Prop), Inv X pins σ H s → t σ H Q →
    wpAny (model X.prog X.w) X.A (evalPart e X.env) (fun u s' => ∃ o H', Inv X pins σ H' s' ∧ IsPart u o ∧ Q o H') X.xe s
section
variable {X : Cx} {e : Expr} {te : TE} {lo hi : Option Expr} {tl th : TO} {pos p2 : Pos}
def rCatT (K : PySem.W.Frag) : R2 := fun x y H Q => ∃ a b xs ys, x = .ref a ∧ y = .ref b ∧ SqT K H a xs ∧ SqT K H b ys ∧ xs ≠ [] ∧ xs.length + ys.length ≤ sizeLine ∧
  (ys = [] → Q (.ref a) H) ∧ (ys ≠ [] → ∀ p, H p = none → Q (.ref p) (upd H p (.tup (xs ++ ys))))
theorem zaD.nil_iff {xs : List V} {us : List Value} (r : zaD xs us) : us = [] ↔ xs = [] := by
  cases r with
  | nil => simp
  | cons _ _ => simp
theorem op_catT : OpR X (binaryOp .Add) (rCatT X.K) := by
  intro pins s σ H x y v u Q I rx ry h
  obtain ⟨a, b, xs, ys, rfl, rfl, ha, hb, hx, hz, q1, q2⟩ := h
  cases rx
  cases ry
  obtain ⟨its, r1, p1, _⟩ := I.tuple ha
  obtain ⟨its2, r2, p2, _⟩ := I.tuple hb
  refine HT.cat_tup p1 p2 (fun z => hx (r1.nil_iff.mp z)) (fun z => ⟨.ref a, H, I, rfl, q1 (r2.nil_iff.mp z)⟩) (fun z => ?_) (by rw [← r1.length, ← r2.length]; exact hz)
  refine ⟨.ref s.heap.objs.size, _, I.laid (t' := s.toks) (o := .tup (xs ++ ys)) (fun b ob q => Heap.get?_push_of_some _ q) (Nat.le_refl _) ?_, rfl, q2 (fun w => z (r2.nil_iff.mpr w)) _ (I.hok.fresh (Nat.le_refl _))⟩
  exact ⟨by rw [List.length_append]; exact hz, _, r1.append r2, IsTup.new _ _⟩
end
end L2
namespace L2
open PySem PySem.Spec PyProof.Rows
def ixN (n : Nat) (i : Int) : Option Nat := if 0 ≤ i then (if i < n then some i.toNat else none) else if -(n : Int) ≤ i then some (i + n).toNat else none
def atI {α : Type} (xs : List α) (i : Int) : Option α := (ixN xs.length i).bind fun j => xs[j]?
theorem zla {n : Nat} {i : Int} {j : Nat} (h : ixN n i = some j) : seqIndex? i n = some j ∧ j < n ∧ -(n : Int) ≤ i ∧ i < n := by
  unfold ixN at h
  by_cases h0 : 0 ≤ i
  · rw [if_pos h0] at h
    by_cases h1 : i < n
    · rw [if_pos h1] at h
      have e : i.toNat = j := Option.some.inj h
      exact ⟨by rw [seqIndex_of h0 h1, e], by omega, by omega, h1⟩
    · rw [if_neg h1] at h; cases h
  · rw [if_neg h0] at h
    by_cases h1 : -(n : Int) ≤ i
    · rw [if_pos h1] at h
      have e : (i + n).toNat = j := Option.some.inj h
      exact ⟨by rw [seqIndex_neg (by omega) h1, e], by omega, h1, by omega⟩
    · rw [if_neg h1] at h; cases h
theorem zi2 {α : Type} {xs : List α} {i : Int} {v : α} (h : atI xs i = some v) : ∃ j, seqIndex? i xs.length = some j ∧ xs[j]? = some v ∧ j < xs.length ∧ -(xs.length : Int) ≤ i ∧ i < xs.length := by
  unfold atI at h
  cases e : ixN xs.length i with
  | none => rw [e] at h; cases h
  | some j =>
    rw [e] at h
    obtain ⟨h1, h2, h3, h4⟩ := zla e
    exact ⟨j, h1, h, h2, h3, h4⟩
def zi6 (b : Expr) : Prop := ∀ o i, subscripted b false o i = operate [o, i] (getItem o i)
def IxR (X : Cx) (r : R2) : Prop :=
  ∀ (value slice : Expr) (pins : List (Addr × Obj)) (s : Shared) (σ : St) (H : Hp) (x y : V) (v u : Value) (Q : VK), Inv X pins σ H s → zaV x v → zaV y u → r x y H Q →
    subscripted slice false v u = operate [v, u] (getItem v u) → wpAny (model X.prog X.w) X.A (subscriptTail value slice v u) (EP X pins σ Q) X.xe s
def MtR (X : Cx) (id : String) (r : V → List V → Hp → VK → Prop) : Prop :=
  ∀ (pins : List (Addr × Obj)) (s : Shared) (σ : St) (H : Hp) (x : V) (xs : List V) (v : Value) (us : List Value) (Q : VK), Inv X pins σ H s → zaV x v → zaD xs us → r x xs H Q →
    wpAny (model X.prog X.w) X.A (call (.builtin id) (v :: us)) (EP X pins σ Q) X.xe s
section
variable {X : Cx} {a b : Expr} {ta tb : TE} {pos : Pos}
theorem IxR.or {r r' : R2} (h : IxR X r) (h' : IxR X r') : IxR X (fun x y H Q => r x y H Q ∨ r' x y H Q) := by
  intro value slice pins s σ H x y v u Q I rx ry q hs
  rcases q with q | q
  · exact h value slice pins s σ H x y v u Q I rx ry q hs
  · exact h' value slice pins s σ H x y v u Q I rx ry q hs
theorem pe_ix {r : R2} (hr : IxR X r) (ha : PE X a ta) (hb : PE X b tb) (hs : zi6 b) : PE X (.Subscript a b pos) (tOp r ta tb) := by
  intro pins s σ H Q I h
  exact Subscript_ (binT ha hb I h fun v u s2 x y H2 I2 rx ry q => hr a b pins s2 σ H2 x y v u Q I2 rx ry q (hs _ _))
def rIxL (K : PySem.W.Frag) : R2 := fun x y H Q => ∃ p xs i v, x = .ref p ∧ y = .int i ∧ SqL K H p xs ∧ atI xs i = some v ∧ Q v H
def rIxT (K : PySem.W.Frag) : R2 := fun x y H Q => ∃ p xs i v, x = .ref p ∧ y = .int i ∧ SqT K H p xs ∧ atI xs i = some v ∧ Q v H
def rIxS : R2 := fun x y H Q => ∃ z i c, x = .str z ∧ y = .int i ∧ z.length ≤ sizeLine ∧ atI z.cps.toList i = some c ∧ Q (.str ⟨#[c]⟩) H
theorem ix_list : IxR X (rIxL X.K) := by
  intro value slice pins s σ H x y v u Q I rx ry h hs
  obtain ⟨p, xs, i, z, rfl, rfl, hq, he, q⟩ := h
  cases rx
  obtain ⟨t, rfl⟩ := ry
  obtain ⟨its, r, pl, hz⟩ := I.list hq
  obtain ⟨j, h1, h2, h3, h4, h5⟩ := zi2 he
  obtain ⟨w, ew, rw'⟩ := r.get h2
  have hl := r.length
  have hn := zgl
  have fin : EP X pins σ Q w s := ⟨z, H, I, rw', q⟩
  by_cases h0 : 0 ≤ i
  · have hj : i.toNat = j := by
      rw [seqIndex_of h0 h5] at h1
      exact Option.some.inj h1
    exact item_listR pl.isList h0 (by omega) (by rw [hj]; simpa using ew) fin hs
  · have hj : (i + (its.toArray.size : Int)).toNat = j := by
      rw [seqIndex_neg (by omega) h4] at h1
      rw [List.size_toArray, ← hl]
      exact Option.some.inj h1
    exact subscriptTail_builtinR (x := w) pl.isList.typeIs slot_list_getitem.lookup
      (wpAny_getItem_list_neg (Q := fun r s' => r = w ∧ EP X pins σ Q r s') pl.isList (by omega) (by rw [List.size_toArray] <;> omega) (by omega) (by rw [hj]; simpa using ew) ⟨rfl, fin⟩) hs
theorem ix_tup : IxR X (rIxT X.K) := by
  intro value slice pins s σ H x y v u Q I rx ry h hs
  obtain ⟨p, xs, i, z, rfl, rfl, hq, he, q⟩ := h
  cases rx
  obtain ⟨t, rfl⟩ := ry
  obtain ⟨its, r, pl, hz⟩ := I.tuple hq
  obtain ⟨j, h1, h2, h3, h4, h5⟩ := zi2 he
  obtain ⟨w, ew, rw'⟩ := r.get h2
  have hl := r.length
  have hn := zgl
  have fin : EP X pins σ Q w s := ⟨z, H, I, rw', q⟩
  exact subscriptTail_builtinR (x := w) pl.typeIs slot_tuple_getitem.lookup
    (getItem_tuple (j := j) (Q := fun r s' => r = w ∧ EP X pins σ Q r s') pl (by omega) (by omega) (by rw [List.size_toArray, ← hl]; exact h1) (by simpa using ew) ⟨rfl, fin⟩) hs
theorem ix_str : IxR X rIxS := by
  intro value slice pins s σ H x y v u Q I rx ry h hs
  obtain ⟨z, i, c, rfl, rfl, hz, he, q⟩ := h
  obtain ⟨t, rfl⟩ := rx
  obtain ⟨t', rfl⟩ := ry
  obtain ⟨j, h1, h2, h3, h4, h5⟩ := zi2 he
  have hl : z.cps.toList.length = z.length := by simp [Str.length]
  rw [hl] at h1 h4 h5
  have hn := zgl
  exact tail_any (typeIs_str s z t) slot_str_getitem.lookup (getItem_str (c := c) (by
    have e1 : decide (i < -(2 ^ 63 : Int)) = false := decide_eq_false (by omega)
    have e2 : decide (i ≥ 2 ^ 63) = false := decide_eq_false (by omega)
    rw [e1, e2, Bool.or_false]) (by rw [h1]; simpa using h2) ⟨.str ⟨#[c]⟩, H, I.tok _, ⟨_, rfl⟩, q⟩) hs
def rIx (K : PySem.W.Frag) : R2 := fun x y H Q => rIxL K x y H Q ∨ rIxT K x y H Q ∨ rIxS x y H Q
theorem ix_seq : IxR X (rIx X.K) := ix_list.or (ix_tup.or ix_str)
theorem zka (its : List Value) (n j : Nat) (u : Value) : Obj.mapSeq (·.setIfInBounds j u) { cls := .type "list", data := .seq its.toArray n } = { cls := .type "list", data := .seq (its.set j u).toArray n } := by
  simp [Obj.mapSeq]
theorem Inv.lst {pins : List (Addr × Obj)} {σ : St} {H : Hp} {s : Shared} {p : Addr} {xs : List V} (I : Inv X pins σ H s) (h : H p = some (.lst xs)) :
    ∃ (its : List Value) (n : Nat), zaD xs its ∧ s.heap.get? p = some { cls := .type "list", data := .seq its.toArray n } ∧ xs.length ≤ sizeLine := by
  obtain ⟨z, its, n, r, e⟩ := I.hok p _ h
  exact ⟨its, n, r, e, z⟩
theorem Inv.lstUpd {pins : List (Addr × Obj)} {σ : St} {H : Hp} {s : Shared} {p : Addr} {xs ys : List V} {its its' : List Value} {n n' : Nat} {f : Obj → Obj} (I : Inv X pins σ H s) (h : H p = some (.lst xs))
    (ho : s.heap.get? p = some { cls := .type "list", data := .seq its.toArray n }) (hf : f { cls := .type "list", data := .seq its.toArray n } = { cls := .type "list", data := .seq its'.toArray n' }) (r : zaD ys its') (hz : ys.length ≤ sizeLine) (t : Nat) :
    Inv X pins σ (upd H p (.lst ys)) { s with heap := s.heap.update p f, toks := t } := by
  have e : (s.heap.update p f).get? p = some { cls := .type "list", data := .seq its'.toArray n' } := by
    rw [Heap.get?_update_self f ho (by rw [hf] <;> rfl), hf]
  refine I.write (x := p) (e := p) (by rw [h]; trivial) (.inl rfl) (fun b u hb q => (Heap.get?_update_other _ _ (Ne.symm hb)).trans q) ⟨_, e⟩ ?_
  exact ⟨hz, its', n', r, e⟩
def rSetL : V → V → V → Hp → (Hp → Prop) → Prop := fun o i v H Q => ∃ p xs k j, o = .ref p ∧ i = .int k ∧ H p = some (.lst xs) ∧ ixN xs.length k = some j ∧ Q (upd H p (.lst (xs.set j v)))
theorem zma : PSet X rSetL := by
  intro pins s σ H o i v ov iv u Q I ro ri rv h
  obtain ⟨p, xs, k, j, rfl, rfl, hp, hj, q⟩ := h
  cases ro
  obtain ⟨t, rfl⟩ := ri
  obtain ⟨its, n, r, ho, hz⟩ := I.lst hp
  obtain ⟨h1, h2, h3, h4⟩ := zla hj
  have hl := r.length
  have hn := zgl
  have I' : Inv X pins σ (upd H p (.lst (xs.set j v))) { s with heap := s.heap.update p (Obj.mapSeq (·.setIfInBounds j u)) } :=
    I.lstUpd hp ho (zka its n j u) (r.set rv j) (by rw [List.length_set]; exact hz) s.toks
  by_cases h0 : 0 ≤ k
  · have hk : k.toNat = j := by
      rw [seqIndex_of h0 h4] at h1
      exact Option.some.inj h1
    exact PySem.W.ki_setAt ho h0 (by omega) (by rw [List.size_toArray, ← hl]; exact h4) (by rw [hk]; exact ⟨_, I', q⟩)
  · have hk : (k + (its.toArray.size : Int)).toNat = j := by
      rw [seqIndex_neg (by omega) h3] at h1
      rw [List.size_toArray, ← hl]
      exact Option.some.inj h1
    exact PySem.W.ki_setBack ho (by omega) (by rw [List.size_toArray, ← hl]; exact h3) (by omega) (by rw [hk]; exact ⟨_, I', q⟩)
theorem zi1 : zdN X (.type "list") (fun xs H Q => ∃ p ys, xs = [.ref p] ∧ (SqL X.K H p ys ∨ SqT X.K H p ys) ∧ ∀ l, H l = none → Q (.ref l) (upd H l (.lst ys))) := by
  intro pins s σ H xs us Q I r h
  obtain ⟨p, ys, rfl, hq, q⟩ := h
  obtain ⟨u, rfl, rx⟩ := zjb r
  cases rx
  have fin : ∀ (its : List Value), zaD ys its → ys.length ≤ sizeLine → ∀ (h' : Heap) (c' : Nat), (∀ b o', s.heap.get? b = some o' → h'.get? b = some o') →
      h'.get? s.heap.objs.size = some { cls := .type "list", dict := none, data := .seq its.toArray c', slots := #[] } → EP X pins σ Q (.ref s.heap.objs.size) { s with heap := h' } := fun its r' hz h' c' kp e =>
    ⟨.ref s.heap.objs.size, _, I.laid (t' := s.toks) kp (Nat.le_refl _) (show zb1 X.prog X.w _ h' _ (.lst ys) from ⟨hz, its, c', r', e⟩), rfl, q _ (I.hok.fresh (Nat.le_refl _))⟩
  rcases hq with hq | hq
  · obtain ⟨its, r', pl, hz⟩ := I.list hq
    have hlen := r'.length
    obtain ⟨o, ho, hc, n, hd⟩ := pl.isList
    exact call_list_seq p (.inl rfl) ho hc hd (fun h' c' kp e => fin its r' hz h' c' kp e) (by simp only [List.size_toArray] <;> omega)
  · obtain ⟨its, r', pl, hz⟩ := I.tuple hq
    have hlen := r'.length
    obtain ⟨o, ho, hc, n, hd⟩ := pl
    exact call_list_seq p (.inr rfl) ho hc hd (fun h' c' kp e => fin its r' hz h' c' kp e) (by simp only [List.size_toArray] <;> omega)
theorem zhT : zdN X (.type "tuple") (fun xs H Q => ∃ p ys, xs = [.ref p] ∧ ((SqL X.K H p ys ∧ ∀ l, H l = none → Q (.ref l) (upd H l (.tup ys))) ∨ (SqT X.K H p ys ∧ Q (.ref p) H))) := by
  intro pins s σ H xs us Q I r h
  obtain ⟨p, ys, rfl, h⟩ := h
  obtain ⟨u, rfl, rx⟩ := zjb r
  cases rx
  rcases h with ⟨hq, q⟩ | ⟨hq, q⟩
  · obtain ⟨its, r', pl, hz⟩ := I.list hq
    have hlen := r'.length
    refine call_tuple_list pl.isList (fun h' kp => ?_) (by simp only [List.size_toArray] <;> omega)
    have I1 : Inv X pins σ H { s with heap := h' } := I.kept (t' := s.toks) kp
    have I2 : Inv X pins σ (upd H h'.objs.size (.tup ys)) { s with heap := h'.push { cls := .type "tuple", data := .seq its.toArray } } :=
      I1.laid (t' := s.toks) (fun b o e => Heap.get?_push_of_some _ e) (Nat.le_refl _) (show zb1 X.prog X.w _ _ _ (.tup ys) from ⟨hz, its, r', IsTup.new _ _⟩)
    exact ⟨.ref h'.objs.size, _, I2, rfl, q _ (I1.hok.fresh (Nat.le_refl _))⟩
  · obtain ⟨its, r', pl, hz⟩ := I.tuple hq
    exact call_tuple_same pl ⟨.ref p, H, I, rfl, q⟩
variable {o e : Expr} {es : List Expr} {to : TE} {t : TA} {name : Str} {apos cpos : Pos} {T id : String} {r : V → List V → Hp → VK → Prop}
/- xs.append(e), list.index on a module's tuple .. are MtR facts of 06m -/
end
end L2
namespace L2
open PySem PySem.Spec PyProof.Rows
def MtM (X : Cx) (id : String) (r : V → List V → Hp → VK → Prop) : Prop :=
  ∀ (pins : List (Addr × Obj)) (s : Shared) (σ : St) (H : Hp) (x : V) (xs : List V) (v : Value) (us : List Value) (Q : VK), Inv X pins σ H s → zaV x v → zaD xs us → r x xs H Q →
    wpAny (model X.prog X.w) X.A (call (.builtin id) (v :: us)) (EP X pins σ Q) X.xe s
theorem zaD.one : ∀ {x : V} {us : List Value}, zaD [x] us → ∃ u, us = [u] ∧ zaV x u
  | _, _, .cons r .nil => ⟨_, rfl, r⟩
theorem zaD.zero : ∀ {us : List Value}, zaD [] us → us = []
  | _, .nil => rfl
theorem zaD.rep {xs : List V} {us : List Value} (h : zaD xs us) : ∀ k : Nat, zaD (List.replicate k xs).flatten (List.replicate k us).flatten
  | 0 => .nil
  | k + 1 => by
    rw [List.replicate_succ, List.replicate_succ, List.flatten_cons, List.flatten_cons]
    exact zaD.append h (zaD.rep h k)
theorem zh5 (its : List Value) : ∀ (k : Nat) (acc : List Value),
    List.foldl (fun x1 x2 => x1 ++ x2) acc.toArray (List.replicate k its.toArray) = (acc ++ (List.replicate k its).flatten).toArray
  | 0, acc => by simp
  | k + 1, acc => by
    have e : acc.toArray ++ its.toArray = (acc ++ its).toArray := by simp
    have e2 : (acc ++ its) ++ (List.replicate k its).flatten = acc ++ (List.replicate (k + 1) its).flatten := by
      rw [List.replicate_succ, List.flatten_cons, List.append_assoc]
    rw [← e2, ← zh5 its k (acc ++ its), ← e, List.replicate_succ, List.foldl_cons]
section
variable {X : Cx} {pins : List (Addr × Obj)} {σ : St} {H : Hp} {s : Shared} {l b : Addr} {xs ys zs : List V}
theorem Inv.lset {its its' : List Value} {n : Nat} {f : Array Value → Array Value} {t' : Nat} (I : Inv X pins σ H s) (hH : H l = some (.lst xs))
    (e : s.heap.get? l = some { cls := .type "list", data := .seq its.toArray n }) (hf : f its.toArray = its'.toArray) (hv : zaD ys its') (hz : ys.length ≤ sizeLine) :
    Inv X pins σ (upd H l (.lst ys)) { s with heap := s.heap.update l (Obj.mapSeq f), toks := t' } := by
  have q := PySem.IsL.update e f
  rw [hf] at q
  refine I.write (x := l) (e := l) (by rw [hH]; exact trivial) (.inl rfl) (fun b' u hb hu => (Heap.get?_update_other s.heap (Obj.mapSeq f) (Ne.symm hb)).trans hu) ⟨_, q⟩ ?_
  exact ⟨hz, its', _, hv, q⟩
theorem Inv.lnew {its : List Value} {t' : Nat} (I : Inv X pins σ H s) (hv : zaD ys its) (hz : ys.length ≤ sizeLine) :
    Inv X pins σ (upd H s.heap.objs.size (.lst ys)) { s with heap := s.heap.push { cls := .type "list", data := .seq its.toArray }, toks := t' } :=
  I.laid (fun _ _ q => Heap.get?_push_of_some _ q) (Nat.le_refl _) ⟨hz, its, 0, hv, Heap.get?_push_size _ rfl⟩
theorem Inv.fresh (I : Inv X pins σ H s) : H s.heap.objs.size = none := I.hok.fresh (Nat.le_refl _)
theorem Inv.lstM (I : Inv X pins σ H s) (hH : H l = some (.lst xs)) : xs.length ≤ sizeLine ∧ ∃ (its : List Value) (n : Nat), zaD xs its ∧ xs.length = its.length ∧ s.heap.get? l = some { cls := .type "list", data := .seq its.toArray n } := by
  obtain ⟨z, its, n, r, e⟩ := I.hok l _ hH
  exact ⟨z, its, n, r, r.length, e⟩
theorem zmx {n : Nat} (h : n ≤ sizeLine) : Builtin.List.listTooLong n = false := by
  unfold Builtin.List.listTooLong
  exact decide_eq_false (by omega)
end
section
variable {X : Cx}
def rAppend : V → List V → Hp → VK → Prop := fun x vs H Q => ∃ l xs y, x = .ref l ∧ vs = [y] ∧ H l = some (.lst xs) ∧ xs.length < sizeLine ∧ Q .non (upd H l (.lst (xs ++ [y])))
theorem zlN : MtM X "list.append" rAppend := by
  intro pins s σ H x vs v us Q I rx rv h
  obtain ⟨l, xs, y, rfl, rfl, hH, hz, q⟩ := h
  cases rx
  obtain ⟨u, rfl, ru⟩ := rv.one
  obtain ⟨z, its, n, r, hl, e⟩ := I.lstM hH
  refine call_meets F.slot_list_append ⟨_, e, rfl⟩ F.entry_list_append (F.args_list_append_2 _ _) (PySem.list_append l its.toArray n u (by rw [List.size_toArray]; omega)) ⟨e, ?_⟩
  refine ⟨.non, _, I.lset (its' := its ++ [u]) hH e (by simp) (r.append (.cons ru .nil)) ?_, rfl, q⟩
  rw [List.length_append, List.length_singleton]
  omega
def rCat : R2 := fun x y H Q => ∃ l b xs zs, x = .ref l ∧ y = .ref b ∧ H l = some (.lst xs) ∧ H b = some (.lst zs) ∧ xs.length + zs.length ≤ sizeLine ∧ ∀ p, H p = none → Q (.ref p) (upd H p (.lst (xs ++ zs)))
theorem op_cat : OpR X (binaryOp .Add) rCat := by
  intro pins s σ H x y v u Q I rx ry h
  obtain ⟨l, b, xs, zs, rfl, rfl, hH, hB, hz, q⟩ := h
  cases rx
  cases ry
  obtain ⟨z, its, n, r, hl, e⟩ := I.lstM hH
  obtain ⟨z2, its2, n2, r2, hl2, e2⟩ := I.lstM hB
  refine PySem.P.add_list e e2 ?_ (by rw [List.size_toArray, List.size_toArray]; omega)
  have ea : its.toArray ++ its2.toArray = (its ++ its2).toArray := by simp
  rw [ea]
  exact ⟨.ref _, _, I.lnew (t' := s.toks) (r.append r2) (by rw [List.length_append]; omega), rfl, q _ I.fresh⟩
def rRep : R2 := fun x y H Q => ∃ l k xs, x = .ref l ∧ y = .int k ∧ H l = some (.lst xs) ∧ -(2 ^ 63) ≤ k ∧ k < 2 ^ 63 ∧ xs.length * k.toNat ≤ sizeLine ∧
  ∀ p, H p = none → Q (.ref p) (upd H p (.lst (List.replicate k.toNat xs).flatten))
theorem len_rep {α : Type} (xs : List α) (k : Nat) : (List.replicate k xs).flatten.length = k * xs.length := by
  induction k with
  | zero => simp
  | succ k ih => rw [List.replicate_succ, List.flatten_cons, List.length_append, ih, Nat.succ_mul, Nat.add_comm]
theorem op_rep : OpR X (binaryOp .Mult) rRep := by
  intro pins s σ H x y v u Q I rx ry h
  obtain ⟨l, k, xs, rfl, rfl, hH, h1, h2, hz, q⟩ := h
  cases rx
  obtain ⟨t, rfl⟩ := ry
  obtain ⟨z, its, n, r, hl, e⟩ := I.lstM hH
  have hlen : its.toArray.size * k.toNat ≤ sizeLine := by rw [List.size_toArray, ← hl]; exact hz
  have hcap : ¬ its.toArray.size * k.toNat > (2 ^ 63 - 1) / 8 := by
    have : (sizeLine : Nat) ≤ (2 ^ 63 - 1) / 8 := by decide
    omega
  have hfit : ¬ (!Builtin.List.listFitsIndex k) = true := by
    rw [fitsIndex_both h1 h2]
    exact Bool.false_ne_true
  have hlong : ¬ Builtin.List.listTooLong (its.toArray.size * k.toNat) = true := by
    rw [zmx hlen]
    exact Bool.false_ne_true
  have hnew : List.foldl (fun x1 x2 => x1 ++ x2) #[] (List.replicate (if its.toArray.isEmpty = true then 0 else k.toNat) its.toArray) = (List.replicate k.toNat its).flatten.toArray := by
    have f0 : ∀ m : Nat, List.foldl (fun x1 x2 => x1 ++ x2) #[] (List.replicate m its.toArray) = (List.replicate m its).flatten.toArray := fun m => by
      have := zh5 its m []
      rw [List.nil_append] at this
      exact this
    rw [f0]
    cases its with
    | nil => simp
    | cons a r' => rw [if_neg (by simp)]
  refine wpAny_binaryOp_repeat_ref (T := "list") (U := "int") (by decide) ⟨_, e, rfl⟩ (fun s' => typeIs_int s' k t) noFill_list_mul F.fills_int_mul F.slot_int_rmul repeat_list F.slot_int_index.lookup
    (call_meets F.slot_int_rmul (typeIs_int s k t) F.entry_int_rmul (F.args_int_rmul_2 _ _) (int___rmul___int_list k t l its.toArray n)
      ⟨e, rfl, ⟨_, e, rfl⟩, call_meets F.slot_list_mul ⟨_, e, rfl⟩ F.entry_list_mul (F.args_list_mul_2 _ _) (AutoListH.list___mul___list_int_3 l its.toArray n k t hfit hcap hlong) ⟨e, ?_⟩⟩)
  rw [hnew]
  exact ⟨.ref _, _, I.lnew (t' := s.toks) (r.rep k.toNat) (by rw [len_rep, Nat.mul_comm]; exact hz), rfl, q _ I.fresh⟩
end
section
variable {prog : Program} {w : World} {A : Around} {E : Value → Shared → Prop} {s : Shared}
set_option maxRecDepth 100000 in
end
section
variable {X : Cx}
end
end L2
namespace Att
open PySem PySem.W PySem.Calls PyProof.Rows
theorem zgQ {P : Params} {h : Heap} : ∀ (ns : List Int) (vs : List Value), WellAll P h vs (ns.map WData.int) → IntsAre vs ns := by
  intro ns
  induction ns with
  | nil =>
    intro vs w
    rw [List.map_nil] at w
    cases w
    exact .nil
  | cons n ns ih =>
    intro vs w
    rw [List.map_cons] at w
    cases w with
    | cons a b =>
      cases a
      exact .cons _ _ (ih _ b)
theorem zlE {l : OpenLaw} {n : Nat} (hn : l.most = some n) {P : Params} {h : Heap} {args : List WData} {vals : List Value}
    (hpre : l.row.toRowW.claim.pre args = true) (hwl : WellAll P h vals args) :
    ∃ a vs ns, vals = [Value.ref a] ∧ args = [WData.list (ns.map WData.int)] ∧ h.get? a = some { cls := .type "list", data := .seq vs.toArray } ∧ IntsAre vs ns ∧ ns.length ≤ n := by
  have hsh : WShape.hasAll [] args [.list .int] = true := (pre_splitW hpre).1
  have hc : l.pre.holds [] { args := args } = true := (pre_splitW hpre).2
  obtain ⟨d, r, rfl, h1, h2⟩ := hasAllW_cons hsh
  obtain rfl := hasAllW_nil h2
  obtain ⟨xs, rfl, h3⟩ := hasW_list h1
  obtain ⟨ns, rfl⟩ := items_int h3
  have hlen : ns.length ≤ n := by
    unfold OpenLaw.pre at hc
    have h4 : (WTm.not (.lt (.lit (.int (n : Int))) (.len (.arg 0)))).holds [] { args := [.list (ns.map .int)] } = true := by
      have h4 := (holds_andW hc).1
      rw [hn] at h4
      exact h4
    have h5 := condW_of h4 (w_not (w_lt w_lit (w_len_list (w_arg rfl))))
    rw [List.length_map] at h5
    refine Nat.le_of_not_lt fun q => ?_
    have q' : (n : Int) < ((ns.length : Nat) : Int) := by omega
    first
      | (rw [decide_eq_true q'] at h5; exact absurd h5 (by decide))
      | (simp at h5; omega)
  cases hwl with
  | cons w1 w2 =>
    cases w2
    cases w1 with
    | list ho hall => exact ⟨_, _, ns, rfl, rfl, ho, zgQ ns _ hall, hlen⟩
theorem zlG (l : OpenLaw) (args : List WData) : l.row.toRowW.claim.post args (.bool true) args = true :=
  postW_of (r := l.row.toRowW) (X := (true == true))
    (show WShape.has [] (.bool true) .bool = true by first | rfl | decide | simp [WShape.has, WShape.arms, WShape.armsAll])
    (show (WTm.eq .res (.lit (.bool true))).value [] { args := args, res := some (.bool true), after := args } = some (.bool (true == true)) from w_eq_bool (w_res rfl) w_lit) rfl
theorem attach_call {l : OpenLaw} {n : Nat} {q : Program} {loose : List Str} {XP : (Str → Option Value) → Heap → Prop} {YP : World → Heap → Prop} {d : DefRec}
    (hn : l.most = some n) (hdf : d.params.defaults = [])
    (call : ∀ (w : World) (s₀ s₁ : Shared) (mg mb : Str → Option Value) (fa : Addr) (o : Obj) (pm cd doc : Value) (a : Addr) (vs : List Value) (ns : List Int),
      Ground q loose [] XP w s₀ mg mb s₁.heap → YP w s₁.heap →
      s₁.heap.get? fa = some o → o.data = .func (docDef d.name d.params d.body d.scope pm cd doc) → s₁.heap.CodeRec cd d.name → mg d.name = some (.ref fa) →
      s₁.heap.get? a = some { cls := .type "list", data := .seq vs.toArray } → IntsAre vs ns → ns.length ≤ n → s₁.gens = #[] →
      codeAny (model l.prog w) callerA (.call (.ref fa) ⟨[.ref a], []⟩) (fun r s' => r = .ok (.ret (.bool true)) ∧ OldK s₁.heap s'.heap ∧ s'.os = s₁.os ∧ AllBare s'.gens) s₁) :
    WalkO q loose XP YP l.row.toRowW d [] (fun f vs => PySem.call f vs) := by
  intro w s₀ s₁ mg mb G Y fa o pm cd doc dV kV ho hd hcd hD hmg hg args vals as hpre hlay hrd hwl hlo
  obtain rfl : dV = .none := Dflts.none hD hdf
  obtain rfl : kV = .none := Dflts.noKw hD
  obtain ⟨a, vs, ns, rfl, rfl, hobj, hints, hlen⟩ := zlE hn hpre hwl
  refine enter_call (codeAny_mono (call w s₀ s₁ mg mb fa o pm cd doc a vs ns G Y ho (fd_plain hd) hcd hmg hobj hints hlen hg) fun r s' hq => ?_)
  obtain ⟨rfl, h2, h3, h4⟩ := hq
  exact ⟨.inl ⟨.bool true, .bool true, [], rfl, fun _ => rfl, .bool true, zlG l _, fun _ => ⟨List.Pairwise.nil, fun _ hm => (nomatch hm)⟩⟩, h2, h3, h4⟩
section
variable {prog : Program} {w : World} {A : Around} {E : Value → Shared → Prop} {s : Shared} {K : Frag}
def ledger (h : Heap) (L d : Addr) : List (Addr × Obj) := (List.range h.objs.size).filterMap fun a => if a = L ∨ a = d then none else (h.get? a).map fun o => (a, o)
end
end Att
namespace L2
open PySem PySem.Spec PyProof.Rows
theorem zhW : ∀ {vs : List Value} {ns : List Int}, IntsAre vs ns → zaD (ns.map V.int) vs
  | _, _, .nil => .nil
  | _, _, .cons n t h => .cons ⟨t, rfl⟩ (zhW h)
def Only (H : Hp) : Prop := ∀ b, H b = none ∨ ∃ o xs, H b = some (.frz o (.lst xs))
theorem zmK {P : Program} {w : World} {K : PySem.W.Frag} {mg mb : Str → Option Value} {CX : CXT} {k : Nat} {fa a : Addr} {fd : FuncData} {x : Str} {sp : Sp} {s₁ : Shared} {vs : List Value} {ns : List Int}
    (KX : K.In s₁.heap) (hns : s₁.heap.Ns mainGlobals mg) (hb : s₁.heap.Ns builtinsNs mb) (hbb : ∀ x : Str, x ≠ "__name__" → mb x = bootBuiltins x) (hlim : s₁.heap.NoLimit) (hg : s₁.gens = #[])
    (ha : s₁.heap.get? a = some { cls := .type "list", data := .seq vs.toArray }) (hi : IntsAre vs ns) (hl : ns.length ≤ sizeLine) (hr : zbr k callerA)
    (F : ∀ base : Heap, K.In base → base.Ns mainGlobals mg → zf7 P w K mg base CX k fa fd [x] sp) (hbind : ∀ (s : Shared) (u : Value), BindsTo s fd ⟨[u], []⟩ [(x, u)])
    (hsp : ∀ H : Hp, Only H → SqL K H a (ns.map V.int) → sp [.ref a] H (fun v _ => v = .bl true) fun _ _ _ => False)
    (hCX : ∀ H e s', CX [] H s₁ (fun _ _ _ => False) e s' → False) :
    codeAny (model P w) callerA (.call (.ref fa) ⟨[.ref a], []⟩) (fun r s' => r = .ok (.ret (.bool true)) ∧ OldK s₁.heap s'.heap ∧ s'.os = s₁.os ∧ AllBare s'.gens) s₁ := by
  have rv := zhW hi
  have lenV := hi.length
  -- from an abstract heap in which nothing but the script may be tracked
  have core : ∀ H : Hp, Only H → SqL K H a (ns.map V.int) → HOk P w H s₁.heap → (∀ b, H b ≠ none → b = a) → (H a ≠ none → K.lookup a = none) →
      codeAny (model P w) callerA (.call (.ref fa) ⟨[.ref a], []⟩) (fun r s' => r = .ok (.ret (.bool true)) ∧ OldK s₁.heap s'.heap ∧ s'.os = s₁.os ∧ AllBare s'.gens) s₁ := by
    intro H hO hS hok hA hK
    have base_of : ∀ {b : Addr} {o : Obj}, s₁.heap.get? b = some o → H b = none → (ziS s₁.heap H).get? b = some o := fun e n => zmN e n
    have noA : ∀ {b : Addr} {o : Obj} {es : Array DictEntry} {ep : Nat}, s₁.heap.get? b = some o → o.data = .dict es ep → H b = none := fun {b o es ep} e d => by
      cases q : H b with
      | none => rfl
      | some u =>
        have e' : b = a := hA b (by rw [q]; simp)
        subst e'
        rw [ha] at e; cases e
        have d' : Data.seq vs.toArray _ = Data.dict es ep := d
        cases d'
    have nsK : ∀ {b : Addr} {m : Str → Option Value}, s₁.heap.Ns b m → (ziS s₁.heap H).Ns b m := fun {b m} ⟨o, es, ep, e, d, r⟩ => ⟨o, es, ep, base_of e (noA e d), d, r⟩
    have hKb : K.In (ziS s₁.heap H) := fun b o e => base_of (KX b o e) (by
      cases q : H b with
      | none => rfl
      | some u =>
        have e' : b = a := hA b (by rw [q]; simp)
        subst e'
        rw [hK (by rw [q]; simp)] at e; cases e)
    have hM : Mod K mg (ziS s₁.heap H) := ⟨hKb, nsK hns, ⟨mb, nsK hb, hbb⟩, let ⟨mc, h1, h2⟩ := hlim; ⟨mc, nsK h1, h2⟩⟩
    have e0 : Env0 P w K mg (ziS s₁.heap H) callerA [] s₁ H := ⟨rfl, hM, fun b o e => of_hidT e, Nat.le_of_eq (zlU _ _), trivial, fun b hb => absurd (show b ∈ ([] : List Addr) from hb) (by simp), hok, .of_eq hg⟩
    refine codeAny_mono ((F _ hKb (nsK hns)).run callerA [] s₁ H ⟨[.ref a], []⟩ [.ref a] [.ref a] _ _ hr e0 (hbind s₁ (.ref a)) (.cons rfl .nil) (hsp H hO hS)) fun r s' h => ?_
    cases r with
    | error e => exact (hCX H e s' h).elim
    | ok fl =>
      cases fl with
      | next => exact False.elim h
      | brk => exact False.elim h
      | cont => exact False.elim h
      | ret u =>
        obtain ⟨v, H', os, bare, un, hok', r', q⟩ := h
        have q' : v = .bl true := q
        subst q'
        obtain rfl : u = Value.bool true := r'
        refine ⟨rfl, OldK.of_keep fun b o e => ?_, os, bare⟩
        cases q : H b with
        | none => exact un.keep b o e q (by intro z; exact absurd (show b ∈ ([] : List Addr) from z) (by simp)) (by simp)
        | some u =>
          rcases hO b with z | ⟨ob, xs, z⟩
          · rw [q] at z; cases z
          · have z2 := un.frzs b ob _ z
            obtain ⟨e1, _⟩ := hok b _ z
            obtain ⟨e2, _⟩ := hok' b _ z2
            rw [e] at e1; cases e1
            exact e2
  cases hk : K.lookup a with
  | some o =>
    -- the script is one of the module's own objects
    have e := KX a o hk
    rw [ha] at e
    cases e
    refine core (fun _ => none) (fun _ => .inl rfl) (.inr ⟨_, vs.toArray, _, hk, rfl, rfl, rfl, by rw [List.size_toArray, lenV]; exact hl, by simpa using rv⟩) (fun b u z => by have z' : (none : Option HO) = some u := z; cases z') (fun b z => absurd rfl z) fun z => absurd rfl z
  | none =>
    refine core (fun b => if b = a then some (.frz { cls := .type "list", data := .seq vs.toArray } (.lst (ns.map V.int))) else none) (fun b => ?_) (.inl (.inr ⟨{ cls := .type "list", data := .seq vs.toArray }, if_pos rfl⟩)) (fun b u z => ?_) (fun b z => ?_) fun _ => hk
    · by_cases hb : b = a
      · exact .inr ⟨_, _, if_pos hb⟩
      · exact .inl (if_neg hb)
    · by_cases hb : b = a
      · have z' := (if_pos hb).symm.trans z
        cases z'
        subst hb
        exact ⟨ha, by rw [List.length_map]; exact hl, vs, _, rv, ha⟩
      · have z' := (if_neg hb).symm.trans z
        cases z'
    · by_cases hb : b = a
      · exact hb
      · exact absurd (if_neg hb) z
end L2
namespace L2
open PySem PySem.Spec PyProof.Rows
abbrev KOf {K : PySem.W.Frag} {h : Heap} (_ : K.In h) : PySem.W.Frag := K
theorem zkt {l : PySem.W.OpenLaw} {n k : Nat} {q : Program} {loose : List Str} {XP : (Str → Option Value) → Heap → Prop} {YP : World → Heap → Prop} {d : DefRec} {K : Params → PySem.W.Frag} {CX : World → CXT} {sp : World → Sp} {x : Str}
    (hn : l.most = some n) (hn2 : n ≤ sizeLine) (hdf : d.params.defaults = []) (hr : zbr k callerA)
    (hY : ∀ (w : World) (h : Heap), YP w h → (K w.params).In h)
    (F : ∀ (w : World) (mg : Str → Option Value) (fa : Addr) (h : Heap), (K w.params).In h → h.Ns mainGlobals mg → mg d.name = some (.ref fa) →
      ∃ fd : FuncData, (∀ (s : Shared) (u : Value), BindsTo s fd ⟨[u], []⟩ [(x, u)]) ∧
        ∀ base : Heap, (K w.params).In base → base.Ns mainGlobals mg → zf7 l.prog w (K w.params) mg base (CX w) k fa fd [x] (sp w))
    (hsp : ∀ (w : World) (H : Hp) (a : Addr) (ns : List Int), ns.length ≤ n → Only H → SqL (K w.params) H a (ns.map V.int) → sp w [.ref a] H (fun v _ => v = .bl true) fun _ _ _ => False)
    (hCX : ∀ (w : World) (H : Hp) (s : Shared) (e : Value) (s' : Shared), CX w [] H s (fun _ _ _ => False) e s' → False) :
    PySem.W.WalkO q loose XP YP l.row.toRowW d [] (fun f vs => PySem.call f vs) := by
  refine Att.attach_call hn hdf fun w s₀ s₁ mg mb fa o pm cd doc a vs ns G Y ho hd hcd hmg hobj hints hlen hg => ?_
  have KX := hY w _ Y
  obtain ⟨fd, hb, hF⟩ := F w mg fa _ KX G.T.g hmg
  exact zmK KX G.T.g G.T.b G.T.builtins G.T.nolimit hg hobj hints (Nat.le_trans hlen hn2) hr hF hb (fun H hO hS => hsp w H a ns hlen hO hS) fun H e s' => hCX w H s₁ e s'
end L2
/- THE LAST THEOREM (shape; LID, My.* are yours):
   My.Adr: a structure of the addresses that your layer names (classes, functions); My.Txt K t: a structure (Prop) of the equations over K;
   My.txt_mk : {K} {implicit addresses ..} (e1 : nsIn K mainGlobals "law" = some (some (.ref f))) (e2 : K.lookup f = some ⟨oc, od, .func (fnOf "law" "law" params body scope dV kV doc pm an cdv ct), sl⟩) (e3 : codeIn K cdv "law" = true) .. : ∃ t, My.Txt K t
set_option maxRecDepth 100000 in
set_option maxHeartbeats 0 in
theorem PySem.Challenge.cw_LID_holds : PySem.Challenge.rw_LID.Holds := by
  w_on; o_law; k_head; (case hw => w_witness2)
  k_fill
  refine L2.zkt (l := PySem.Challenge.rw_LID) (n := 63) (k := 40) (x := "script") (CX := fun w => ..) (sp := fun _ => My.sp_law) rfl (by decide) rfl ⟨rfl, by decide, by decide⟩ (fun w h Y => PySem.W.kIn_of Y) ?F ?S ?C
  case F =>
    intro w mg fa h KX G hmg
    have T : ∃ t, My.Txt (L2.KOf KX) t := by
      dsimp only [L2.KOf]                          -- K must stand as «<heap const> w.params» for k_is
      refine' My.txt_mk ?e1 ?e2 ?e3 ..
      (case e1 => PySem.W.k_is)                    -- in the order: a name -> its address -> its object -> its parts
      (case e2 => PySem.W.k_is)
      ..
    obtain ⟨t, T⟩ := T
    have e0 := hmg.symm.trans (PySem.W.mg_of KX G T.law)
    cases e0                                       -- fa is the law's own address
    exact ⟨_, fun s u => .of_eq rfl, fun base kb nb => My.law_fn T kb nb⟩     -- if «.of_eq rfl» comes too early: refine' ⟨_, ?b, fun base kb nb => My.law_fn T kb nb⟩; exact fun s u => .of_eq rfl
  case S => exact fun w H a ns hl hO hS => ..
  case C => exact ..
(the tactic k_is has no namespace: write k_is) -/
namespace L2
open PySem PySem.Spec PyProof.Rows
def zf0 (s : Stmt) (j : Nat) : Stmt := match s with
  | .ClassDef _ _ _ body _ _ _ _ _ _ _ => body.getD j (.Pass ⟨0, 0, 0, 0⟩)
  | _ => .Pass ⟨0, 0, 0, 0⟩
def zbJ (s : Stmt) : Arguments := match s with
  | .FunctionDef _ a _ _ _ _ _ _ _ _ => a
  | _ => { posonlyargs := [], args := [], vararg := none, kwonlyargs := [], kw_defaults := [], kwarg := none, defaults := [] }
def zaY (s : Stmt) : List Stmt := match s with
  | .FunctionDef _ _ b _ _ _ _ _ _ _ => b
  | _ => []
def zai (s : Stmt) : Scope := match s with
  | .FunctionDef _ _ _ _ _ _ sc _ _ _ => sc
  | _ => { kind := .function, names := [], isGenerator := false, isCoroutine := false }
abbrev CX0 : CXT := fun _ _ _ _ _ _ => False
abbrev E0 : XK := fun _ _ _ => False
theorem zk1 {X : Cx} : zgs CX0 X E0 := fun _ _ _ _ _ _ _ h => h.elim
structure Fun (K : PySem.W.Frag) (x qual : Str) (st : Stmt) (f : Addr) (fd : FuncData) : Prop where
  ex : ∃ (oc : Value) (od : Option Addr) (kV doc pm : Value) (an : Option Addr) (cdv ct : Value) (osl : Array (Option Value)),
    fd = PySem.W.fnOf x qual (zbJ st) (zaY st) (zai st) .none kV doc pm an cdv ct ∧ K.lookup f = some ⟨oc, od, .func fd, osl⟩ ∧ PySem.W.codeIn K cdv qual = true
  kp : PySem.W.keepIn K (.ref f) = true
section
variable {P : Program} {w : World} {K : PySem.W.Frag} {mg : Str → Option Value} {base : Heap}
theorem Fun.ok {x qual : Str} {st : Stmt} {f : Addr} {fd : FuncData} {N ps : List Str} {k : Nat} {sp : Sp} (F : Fun K x qual st f fd) (S : zaH N ps (zai st)) (len : ∀ vs H Q E, sp vs H Q E → vs.length = ps.length)
    (hbody : ∀ (cdv : Value) (A : Around) (outer : List Env) (s : Shared) (H : Hp) (vs : List V) (Q : VK) (E : XK), zbr k (A.deeper (envOfC qual (zai st) s.heap.objs.size f cdv)) → sp vs H Q E →
      ∃ t, PSs (zgr CX0 P w K mg base N qual (zai st) f cdv A outer s H E).nox (zaY st) t ∧ t { nx := fun _ H' => Q .non H', rt := Q } (start N vs) H) : zf7 P w K mg base CX0 (k + 1) f fd ps sp := by
  obtain ⟨oc, od, kV, doc, pm, an, cdv, ct, osl, rfl, lk, hcd⟩ := F.ex
  refine fn_of lk hcd S len fun A outer s H vs Q E hr hsp => ?_
  obtain ⟨t, h, q⟩ := hbody cdv A outer s H vs Q E hr hsp
  exact ⟨t, h.nox, q⟩
theorem Fun.binds {x qual : Str} {st : Stmt} {f : Addr} {fd : FuncData} {ps : List Str} (F : Fun K x qual st f fd)
    (h : ∀ (kV doc pm : Value) (an : Option Addr) (cdv ct : Value) (us : List Value), us.length = ps.length → bindArgs (PySem.W.fnOf x qual (zbJ st) (zaY st) (zai st) .none kV doc pm an cdv ct) ⟨us, []⟩ = pure (ps.zip us)) : zdw K fd ps [] := by
  obtain ⟨oc, od, kV, doc, pm, an, cdv, ct, osl, rfl, lk, hcd⟩ := F.ex
  exact .all (h kV doc pm an cdv ct)
theorem fun_mk {x qual : Str} {st : Stmt} {f : Addr} {oc : Value} {od an : Option Addr} {osl : Array (Option Value)} {kV doc pm cdv ct : Value} (l : K.lookup f = some ⟨oc, od, .func (PySem.W.fnOf x qual (zbJ st) (zaY st) (zai st) .none kV doc pm an cdv ct), osl⟩)
    (c : PySem.W.codeIn K cdv qual = true) (k : PySem.W.keepIn K (.ref f) = true) : Fun K x qual st f (PySem.W.fnOf x qual (zbJ st) (zaY st) (zai st) .none kV doc pm an cdv ct) := ⟨⟨oc, od, kV, doc, pm, an, cdv, ct, osl, rfl, l, c⟩, k⟩
end
section
variable {X : Cx}
end
def Same (H H' : Hp) : Prop := ∀ b o, H b = some o → H' b = some o
theorem Same.free {H H' : Hp} (e : Same H H') {l : Addr} (h : H' l = Option.none) : H l = Option.none := by
  cases q : H l with
  | none => rfl
  | some o =>
    rw [e l o q] at h
    cases h
end L2
namespace L2
open PySem PySem.Spec PyProof.Rows
section
variable {X : Cx}
def zia : V → Value
  | .ref a => .ref a
  | .ty n => .type n
  | _ => .none
def isC : V → Bool
  | .ref _ => true
  | .ty _ => true
  | _ => false
theorem zaV.cls {c : V} {u : Value} (r : zaV c u) (h : isC c = true) : u = zia c := by
  cases c with
  | ref a => exact r
  | ty n => exact r
  | _ => cases h
end
structure zaG (K : PySem.W.Frag) (mg : Str → Option Value) (x : Str) (st : Stmt) : Prop where
  ex : ∃ f fd, Fun K x x st f fd ∧ mg x = some (.ref f)
structure Def (P : Program) (w : World) (K : PySem.W.Frag) (mg : Str → Option Value) (base : Heap) (k : Nat) (x : Str) (ps : List Str) (sp : Sp) : Prop where
  ex : ∃ f fd, zf7 P w K mg base CX0 k f fd ps sp ∧ mg x = some (.ref f) ∧ PySem.W.keepIn K (.ref f) = true ∧ zdw K fd ps []
section
variable {P : Program} {w : World} {K : PySem.W.Frag} {mg : Str → Option Value} {base : Heap}
theorem zbj {h : Heap} {x : Str} {st : Stmt} {f : Addr} {oc : Value} {od an : Option Addr} {osl : Array (Option Value)} {kV doc pm cdv ct : Value} (X : K.In h) (G : h.Ns mainGlobals mg)
    (a : PySem.W.nsIn K mainGlobals x = some (some (.ref f))) (l : K.lookup f = some ⟨oc, od, .func (PySem.W.fnOf x x (zbJ st) (zaY st) (zai st) .none kV doc pm an cdv ct), osl⟩)
    (c : PySem.W.codeIn K cdv x = true) (k : PySem.W.keepIn K (.ref f) = true) : zaG K mg x st := ⟨f, _, fun_mk l c k, PySem.W.mg_of X G a⟩
theorem zaG.mk_def {x : Str} {st : Stmt} {N ps : List Str} {k : Nat} {sp : Sp} (F : zaG K mg x st) (S : zaH N ps (zai st))
    (hb : ∀ (kV doc pm : Value) (an : Option Addr) (cdv ct : Value) (us : List Value), us.length = ps.length → bindArgs (PySem.W.fnOf x x (zbJ st) (zaY st) (zai st) .none kV doc pm an cdv ct) ⟨us, []⟩ = pure (ps.zip us))
    (len : ∀ vs H Q E, sp vs H Q E → vs.length = ps.length)
    (hbody : ∀ (f : Addr) (cdv : Value) (A : Around) (outer : List Env) (s : Shared) (H : Hp) (vs : List V) (Q : VK) (E : XK), zbr k (A.deeper (envOfC x (zai st) s.heap.objs.size f cdv)) → sp vs H Q E →
      ∃ t, PSs (zgr CX0 P w K mg base N x (zai st) f cdv A outer s H E).nox (zaY st) t ∧ t { nx := fun _ H' => Q .non H', rt := Q } (start N vs) H) : Def P w K mg base (k + 1) x ps sp := by
  obtain ⟨f, fd, F, m⟩ := F.ex
  exact ⟨f, fd, F.ok S len (hbody f), m, F.kp, F.binds hb⟩
end
theorem pe_def {X : Cx} {k : Nat} {x : Str} {ps : List Str} {sp : Sp} {p pos : Pos} {e : Expr} {es : List Expr} {t : TA} (D : Def X.prog X.w X.K X.mg X.base k x ps sp) (hr : zbr k X.A) (hg : Gl X x) (ha : PA X (e :: es) t) (hdb : (x == ("__debug__" : Str)) = false := by decide)
    (he : starEach (e :: es) X.env = (false, eval e X.env) :: starEach es X.env := by rfl) (hpl : (backTo pos (starEach es X.env)).any (·.1) = false := by rfl) : PE X (.Call (.Name x p) (e :: es) [] pos) (tCall sp [] E0 t) := by
  obtain ⟨f, fd, F, m, kp, b⟩ := D.ex
  exact pe_call F hr hg m kp b .nil zk1 ha hdb he hpl
end L2
namespace L2
open PySem PySem.Spec PyProof.Rows
theorem upd_ne' {H : Hp} {p q : Addr} {o : HO} (h1 : (H q).isSome = true) (h2 : H p = none) : upd H p o q = H q := zaN (by intro z; rw [z, h2] at h1; cases h1)
abbrev Ext (H H' : Hp) : Prop := ∀ b, (H b).isSome = true → H' b = H b
theorem Ext.upd {H : Hp} {p : Addr} (o : HO) (h : H p = none) : Ext H (upd H p o) := fun _ hb => upd_ne' hb h
theorem Ext.trans {H H1 H2 : Hp} (a : Ext H H1) (b : Ext H1 H2) : Ext H H2 := fun c hc => by
  have e := a c hc
  rw [b c (by rw [e]; exact hc), e]
section
variable {X : Cx} {a b : Expr} {ta tb : TE} {pos : Pos}
end
structure zlv (K : PySem.W.Frag) (C : Addr) : Prop where
  cl : Cls K C
  ha : PySem.W.findIn K (.ref C) "__class__" = some (some (.builtin "object.__class__"))
  hn : PySem.W.specialIn K (.builtin "object.__class__") "__get__" = some (some (.builtin "getset_descriptor.__get__"))
  htk : PySem.W.takesIn K (.builtin "object.__class__") = some true
  hm : PySem.W.mroIn K C (.type "object") = some true
def rMax2 : List V → Hp → VK → Prop := fun xs H Q => match xs with
  | [.int i, .int j] => Q (.int (if j > i then j else i)) H
  | _ => False
def rMin2 : List V → Hp → VK → Prop := fun xs H Q => match xs with
  | [.int i, .int j] => Q (.int (if j < i then j else i)) H
  | _ => False
theorem zkn {X : Cx} (hc : X.calm = true) : zdN X (.builtin "max") rMax2 := by
  intro pins s σ H xs us Q I r h
  match xs, h with
  | [.int i, .int j], h => exact zl1 hc pins s σ H _ us Q I r ⟨i, j, rfl, h⟩
theorem zkm {X : Cx} (hc : X.calm = true) : zdN X (.builtin "min") rMin2 := by
  intro pins s σ H xs us Q I r h
  match xs, h with
  | [.int i, .int j], h => exact zl0 hc pins s σ H _ us Q I r ⟨i, j, rfl, h⟩
def rInt1 : List V → Hp → VK → Prop := fun xs H Q => match xs with
  | [.int i] => Q (.int i) H
  | [.bl k] => Q (.int (if k then 1 else 0)) H
  | _ => False
theorem zko {X : Cx} : zdN X (.type "int") rInt1 := by
  intro pins s σ H xs us Q I r h
  match xs, h with
  | [.int i], h => exact zib pins s σ H _ us Q I r (.inl ⟨i, rfl, h⟩)
  | [.bl k], h => exact zib pins s σ H _ us Q I r (.inr ⟨k, rfl, h⟩)
def Scr (K : PySem.W.Frag) (H : Hp) (x : V) (ns : List Int) : Prop := ∃ a, x = .ref a ∧ SqL K H a (ns.map V.int)
section
variable {X : Cx}
end
def sp_law (K : PySem.W.Frag) : Sp := fun vs H Q _ => match vs with
  | [x] => ∃ ns, Scr K H x ns ∧ ns.length ≤ 63 ∧ ∀ H', Q (.bl true) H'
  | _ => False
structure Is {α : Type} (a b : α) : Prop where
  eq : a = b
theorem zbF {A : Around} {k : Nat} (h : zbr k A) : A.units + 64 < cLine := h.units
end L2
set_option maxHeartbeats 4000000
namespace L2
open PySem PySem.Spec PyProof.Rows PySem.W
def zjP : List Value := [.type "ValueError", .type "Exception", .type "BaseException", .type "object"]
def zgo (K : Frag) (C : Addr) : Bool := match K.lookup C with
  | some ⟨.type "type", _, .cls cd, sl⟩ => (match cd.mro, sl.toList with
    | .ref C' :: bm, [_, _, _, _, some (.builtin n), _] => C' == C && n == "ValueError.__new__" && !cd.hasDel && cd.hasDict && tailIn K zjP bm && nsOkIn K cd.ns
    | _, _ => false)
  | _ => false
theorem zg3 {K : Frag} {h : Heap} {C : Addr} (X : K.In h) (q : zgo K C = true) : ∃ bm N nm qn bs sn sub ab col dd k0 k1 k2 k3 k5,
    h.get? C = some (excClassObj nm qn C N bs bm true sn sub ab col dd k0 k1 k2 k3 k5 "ValueError.__new__") ∧ OwnTail h zjP bm ∧ clsIn K C = some { name := nm, bases := bs, mro := .ref C :: bm, ns := N, qualname := qn, hasDict := true, slotNames := sn, subclasses := sub, abstract := ab, collection := col, hasDel := false } := by
  unfold zgo at q
  split at q
  · rename_i dd cd sl ho
    split at q
    · rename_i C' bm k0 k1 k2 k3 n k5 hm hs
      simp only [Bool.and_eq_true, beq_iff_eq, Bool.not_eq_true'] at q
      obtain ⟨⟨⟨⟨⟨rfl, rfl⟩, hdel⟩, hhd⟩, ht⟩, hok⟩ := q
      obtain ⟨nm, bs, mro, ns, qn, hd, sn, sub, ab, col, del⟩ := cd
      dsimp only at hm hdel hok hhd
      subst hm hdel hhd
      have hsl : sl = #[k0, k1, k2, k3, some (.builtin "ValueError.__new__"), k5] := by
        obtain ⟨l⟩ := sl
        simp only at hs
        rw [hs]
      subst hsl
      exact ⟨bm, ns, nm, qn, bs, sn, sub, ab, col, dd, k0, k1, k2, k3, k5, X _ _ ho, tail_of_in X ht, by unfold clsIn; rw [ho]⟩
    · cases q
  · cases q
abbrev tupObj (vs : List Value) : Obj := { cls := .type "tuple", data := .seq vs.toArray }
abbrev excObj (C t : Addr) : Obj := { cls := .ref C, data := .fields #[.ref t, .none, .none, .none, .bool false, .none] }
section
variable {prog : Program} {w : World} {A : Around} {R : Result → Shared → Prop} {h : Heap} {g : Array GenState} {d : Drawn} {t : Nat} {os : OsState} {K : Frag} {C : Addr}
end
structure ExcAt (K : Frag) (C : Addr) : Prop where
  cl : zgo K C = true
  sa : findIn K (.ref C) "__setattr__" = some (some (.builtin "object.__setattr__"))
  ga : findIn K (.ref C) "__getattribute__" = some (some (.builtin "BaseException.__getattribute__"))
  gt : findIn K (.ref C) "__getattr__" = some none
section
variable {prog : Program} {w : World} {A : Around} {R : Result → Shared → Prop} {K : Frag} {C x : Addr} {s : Shared}
theorem exc_mro {h : Heap} {M : Model} (X : K.In h) (q : zgo K C = true) {b : Value} {T : String} (e : b = .type T) (hb : zjP.contains (.type T) = true) : Looks M h (isSubtype (.ref C) b) true := by
  obtain ⟨bm, N, nm, qn, bs, sn, sub, ab, col, dd, k0, k1, k2, k3, k5, hC, T', hcl⟩ := zg3 X q
  subst e
  refine looks_mroIn X ?_
  unfold mroIn
  rw [hcl, Option.bind_some]
  show (if (Value.ref C :: bm).isEmpty = true then none else some ((Value.ref C :: bm).contains (.type T))) = some true
  rw [if_neg (by simp), List.contains_cons, T'.hasType hb, Bool.or_true]
end
section
variable {X : Cx} {pins : List (Addr × Obj)} {σ : St} {H : Hp} {s : Shared} {a C : Addr} {dx : Option Addr} {fs : List (Str × V)} {f : Str} {v : V} {A : Around} {E : Value → Shared → Prop}
theorem exc_get (I : Inv X pins σ H s) (e : H a = some (.exc C dx fs)) : ∃ o vs, s.heap.get? a = some o ∧ o.cls = .ref C ∧ o.dict = dx ∧ o.data = .fields vs ∧ fs.length ≤ 1000 ∧ (∀ d, dx = some d → H d = some (.own a) ∧ d ≠ a) ∧
    ∃ mA, NsO s.heap dx mA ∧ (∀ f, zf6 (fs.lookup f) (mA f)) ∧ PySem.Within mA (fs.map (·.1)) :=
  (show zb1 X.prog X.w H s.heap a (.exc C dx fs) from I.hok a _ e)
theorem zjO (I : Inv X pins σ H s) (e : H a = some (.exc C dx fs)) : ∃ ox od, InstAt s.heap a ox C od ∧ ox.dict = dx ∧ (∃ vs, ox.data = .fields vs) ∧ (∀ name, zf6 (fs.lookup name) ((match od with | some o => lookIn name o | none => some none).getD none)) ∧ (∀ name, (match od with | some o => lookIn name o | none => some none).isSome = true) ∧ s.heap.get? a = some ox := by
  obtain ⟨o, vs, ho, hc, hd, hv, hl, hw, mA, hm, r, wi⟩ := exc_get I e
  cases dx with
  | none =>
    refine ⟨o, none, ⟨ho, hc, by unfold notCls; rw [hv], by rw [hd]; exact True.intro⟩, hd, ⟨vs, hv⟩, fun name => ?_, fun _ => rfl, ho⟩
    have := r name
    rw [hm name] at this
    exact this
  | some d =>
    obtain ⟨od, hod, hlk⟩ := zh2 hm
    refine ⟨o, some od, ⟨ho, hc, by unfold notCls; rw [hv], by rw [hd]; exact hod⟩, hd, ⟨vs, hv⟩, fun name => ?_, fun name => ?_, ho⟩
    · show zf6 (fs.lookup name) ((lookIn name od).getD none)
      rw [hlk name]; exact r name
    · show (lookIn name od).isSome = true
      rw [hlk name]; rfl
end
structure zih (K : Frag) (C : Addr) : Prop extends ExcAt K C where
  ha : findIn K (.ref C) "__class__" = some (some (.builtin "object.__class__"))
  hn : specialIn K (.builtin "object.__class__") "__get__" = some (some (.builtin "getset_descriptor.__get__"))
  htk : takesIn K (.builtin "object.__class__") = some true
theorem zlW {K : Frag} {C a : Addr} {ox : Obj} {od : Option Obj} {prog : Program} {w : World} {A : Around} {E : Value → Shared → Prop} {Q : Option Value → Shared → Prop} {s : Shared} (c : zih K C) (KX : K.In s.heap) (J : InstAt s.heap a ox C od) (h : Q (some (.ref C)) { s with toks := s.toks + 1 }) :
    wpAny (model prog w) A (getAttr? (.ref a) "__class__") Q E s := by
  have Lt : Looks (model prog w) s.heap (typeOf (.ref a)) (.ref C) := J.type
  have Lf := looks_findIn (M := model prog w) KX c.ha
  have Lga := looks_findIn (M := model prog w) KX c.ga
  have Lgt := looks_findIn (M := model prog w) KX c.gt
  have Lg := looks_specialIn (M := model prog w) KX c.hn
  have Ltk := looks_takesIn (M := model prog w) KX c.htk
  have hm : mroIn K C (.type "object") = some true := by
    obtain ⟨bm, N, nm, qn, bs, sn, sub, ab, col, dd, k0, k1, k2, k3, k5, hC, T', hcl⟩ := zg3 KX c.cl
    unfold mroIn
    rw [hcl, Option.bind_some]
    show (if (Value.ref C :: bm).isEmpty = true then none else some ((Value.ref C :: bm).contains (.type "object"))) = some true
    rw [if_neg (by simp), List.contains_cons, T'.hasType (show zjP.contains (.type "object") = true by decide), Bool.or_true]
  obtain ⟨hp, g, d, tk, os⟩ := s
  dsimp only at *
  have FB := PySem.F.attrBase_ValueError
  have f3 := FB.ga.bind (.ref a)
  have hx2 : (Value.builtin "BaseException.__getattribute__" == Value.builtin "object.__getattribute__") = false := by decide +kernel
  have hx1 : (onTheHeap (Value.ref C) && Value.builtin "BaseException.__getattribute__" == Value.builtin "object.__getattribute__") = false := by rw [hx2]; rfl
  unfold getAttr? getAttrBy?
  repeat (any_goals (first | assumption | with_reducible refine Lt.at ?_ | with_reducible refine Lga.at ?_ | with_reducible refine Lgt.at ?_ | wp_step))
  have sub : Looks (model prog w) hp (isInstance (.ref a) (.type "BaseException")) true := Lt.andThen (exc_mro KX c.cl rfl (by decide))
  refine codeAny_call_builtin FB.ga.plain PySem.F.entry_bexc_ga (@check_slot (model prog w) _ _ ⟨hp, g, d, tk + 1, os⟩ "BaseException.__getattribute__" "BaseException" "__getattribute__" (.ref a) [.str "__class__" tk] [] _ (by decide +kernel) (by decide +kernel) sub (PySem.F.args_bexc_ga _ _) ?_)
  show wpAny _ _ (Builtin.«object.__getattribute__» ⟨[.ref a, .str "__class__" tk], []⟩) _ _ _
  unfold Builtin.«object.__getattribute__» Builtin.ObjectAttr.find
  repeat (any_goals (first | assumption | with_reducible refine Lt.at ?_ | with_reducible refine Lf.at ?_ | with_reducible refine Lg.at ?_ | with_reducible refine Ltk.at ?_ | wp_step))
  refine class_get (s := ⟨hp, g, d, tk + 1, os⟩) KX J hm ?_
  repeat (any_goals (first | assumption | wp_step))
section
variable {X : Cx} {pins : List (Addr × Obj)} {σ : St} {H : Hp} {s : Shared} {a C : Addr} {dx : Option Addr} {fs : List (Str × V)} {f : Str} {v : V} {A : Around} {E : Value → Shared → Prop}
theorem HOk.laidN {P : Program} {w : World} {H : Hp} {h h' : Heap} {a : Addr} {o : HO} (x : HOk P w H h) (k : ∀ b u, h.get? b = some u → h'.get? b = some u) (hn : H a = none) (new : zb1 P w (upd H a o) h' a o) : HOk P w (upd H a o) h' := fun b u e => by
  by_cases hb : b = a
  · subst hb; rw [zba] at e; cases e; exact new
  · rw [zaN hb] at e
    exact (x b u e).stay (fun c v _ q => k c v q) (fun c q => by rw [zaN (zbf q hn)]; exact q) fun c xs q => by rw [zaN (zbf q hn)]; exact q
theorem Un.laidN {fs ex : List Addr} {H : Hp} {h h' : Heap} {a : Addr} {o : HO} (k : ∀ b u, h.get? b = some u → h'.get? b = some u) (ha : h.get? a = none) (hn : H a = none) : Un fs ex H (upd H a o) h h' where
  keep := fun b u q _ _ _ => k b u q
  slot := fun b u q _ _ _ => ⟨u.slots, k b u q⟩
  free := fun b u q n _ => by rw [zaN (fun z => by rw [z, ha] at q; cases q)]; exact n
  there := fun b u q _ => ⟨u, k b u q⟩
  tups := fun b xs q => by rw [zaN (zbf q hn)]; exact q
  frzs := fun b u xs q => by rw [zaN (zbf q hn)]; exact q
  tbls := fun b ps q => ⟨#[], by rw [zaN (zbf q hn), q]; simp⟩
theorem HOk.gone {P : Program} {w : World} {H : Hp} {h : Heap} {a : Addr} (x : HOk P w H h) (ha : h.get? a = none) : H a = none := by
  cases e : H a with
  | none => rfl
  | some o =>
    have k := x a o e
    have : ∃ ob, h.get? a = some ob := by
      cases o with
      | lst xs => obtain ⟨_, _, _, _, z⟩ := k; exact ⟨_, z⟩
      | tup xs => obtain ⟨_, _, _, ob, z, _⟩ := k; exact ⟨_, z⟩
      | dK kvs => obtain ⟨_, _, _, _, ob, _, _, z, _⟩ := k; exact ⟨_, z⟩
      | dT kvs => obtain ⟨_, _, _, _, ob, _, _, z, _⟩ := k; exact ⟨_, z⟩
      | set S n => obtain ⟨ob, _, _, _, z, _⟩ := k; exact ⟨_, z⟩
      | ins C dx fs => obtain ⟨_, _, _, z, _⟩ := k; exact ⟨_, z⟩
      | own y => exact k
      | xd fs => obtain ⟨_, ⟨ob, _, _, z, _⟩, _⟩ := k; exact ⟨_, z⟩
      | rng lo hi => obtain ⟨_, _, _, z⟩ := k; exact ⟨_, z⟩
      | frz ob u => exact ⟨_, k.1⟩
      | tbl ps => exact ⟨_, k⟩
      | met f y => exact ⟨_, k⟩
      | exc C dx fs => obtain ⟨ob, _, z, _⟩ := k; exact ⟨_, z⟩
      | ext φ => exact k.2.1
    obtain ⟨ob, z⟩ := this
    rw [z] at ha
    cases ha
theorem Inv.excMade {h' : Heap} {e : Addr} {us : List Value} (I : Inv X pins σ H s) (m : Heap.MadeExcOf s.heap h' e (.ref C) us) : H e = none ∧ Inv X pins σ (upd H e (.exc C none [])) { s with heap := h' } := by
  have hn := I.hok.gone m.new
  refine ⟨hn, I.un (t' := s.toks) (Un.laidN m.keeps m.new hn) (I.hok.laidN m.keeps hn ?_)⟩
  obtain ⟨t, he, _, _⟩ := m.there
  exact ⟨_, _, he, rfl, rfl, rfl, Nat.zero_le _, ⟨(fun d q => by cases q), fun _ => none, fun _ => rfl, fun _ => True.intro, fun y hy => absurd rfl hy⟩⟩
theorem zjQ {K : Frag} {h₀ : Heap} {C : Addr} {bmB : List Value} {newId : String} (X : K.In h₀) (q : excIn K C bmB newId = true) : ∃ bm N nm q bs hdct sn sub ab col dd k0 k1 k2 k3 k5 mN, h₀.get? C = some (excClassObj nm q C N bs bm hdct sn sub ab col dd k0 k1 k2 k3 k5 newId) ∧ h₀.Ns N mN ∧ mN "__init__" = none ∧ OwnTail h₀ bmB bm := by
  unfold excIn at q
  split at q
  · rename_i dd cd sl ho
    split at q
    · rename_i C' bm k0 k1 k2 k3 n k5 hm hs
      simp only [Bool.and_eq_true, beq_iff_eq, Bool.not_eq_true'] at q
      obtain ⟨⟨⟨⟨⟨rfl, rfl⟩, hdel⟩, ht⟩, hok⟩, hni⟩ := q
      obtain ⟨nm, bs, mro, ns, qn, hd, sn, sub, ab, col, del⟩ := cd
      dsimp only at hm hdel hok hni
      subst hm hdel
      have hsl : sl = #[k0, k1, k2, k3, some (.builtin n), k5] := by
        obtain ⟨l⟩ := sl
        simp only at hs
        rw [hs]
      subst hsl
      exact ⟨bm, ns, nm, qn, bs, hd, sn, sub, ab, col, dd, k0, k1, k2, k3, k5, _, X _ _ ho, .of_isNs (isNs_of_in X hok), nsMap_none_of_in X hok hni, tail_of_in X ht⟩
    · cases q
  · cases q
structure Exc0 (K : Frag) (mg : Str → Option Value) (x : Str) (C : Addr) : Prop where
  at_ : mg x = some (.ref C)
  ex : excIn K C zjP "ValueError.__new__" = true
  kp : keepIn K (.ref C) = true
structure Exc1 (K : Frag) (mg : Str → Option Value) (x : Str) (C f : Addr) : Prop where
  at_ : mg x = some (.ref C)
  ex : zgo K C = true
  kp : keepIn K (.ref C) = true
  init : findIn K (.ref C) "__init__" = some (some (.ref f))
  fn : isFn K (.ref f) = true
end
end L2
namespace L2
open PySem PySem.Spec PyProof.Rows
abbrev zjW (X : Cx) (cs : List Str) : List (Str × Addr) := cs.map fun y => (y, (X.env.cells.lookup y).getD 0)
structure Cap (X : Cx) (scope : Scope) (cs : List Str) : Prop where
  clos : closureFor scope X.env = pure (zjW X cs)
  some_ : ∀ y ∈ cs, (X.env.cells.lookup y).isSome = true
  kc : ∀ y ∈ cs, X.env.scope.names.lookup y = some .cell ∧ (relabel scope X.env).names.lookup y = some .cell
  kind : scope.kind = .function
  nocell : ∀ y ∈ scope.names, y.2 ≠ .cell
  names : ∀ y ∈ scope.names, y.2 = .local → scope.names.lookup y.1 = some .local
  has : ∀ y ∈ (relabel scope X.env).names, y.2 = .cell ∨ y.2 = .free → y.1 ∈ cs
theorem ziZ {X : Cx} {scope : Scope} (cs : List Str) (h1 : closureFor scope X.env = pure (zjW X cs)) (h2 : cs.all (fun y => (X.env.cells.lookup y).isSome) = true)
    (h3 : cs.all (fun y => X.env.scope.names.lookup y == some .cell && (relabel scope X.env).names.lookup y == some .cell) = true) (h4 : scope.kind = .function) (h5 : ∀ y ∈ scope.names, y.2 ≠ .cell)
    (h6 : ∀ y ∈ scope.names, y.2 = .local → scope.names.lookup y.1 = some .local) (h7 : (relabel scope X.env).names.all (fun y => (y.2 != .cell && y.2 != .free) || cs.contains y.1) = true) : Cap X scope cs where
  clos := h1
  some_ := fun y hy => List.all_eq_true.mp h2 y hy
  kc := fun y hy => by
    have := List.all_eq_true.mp h3 y hy
    simp only [Bool.and_eq_true, beq_iff_eq] at this
    exact this
  kind := h4
  nocell := h5
  names := h6
  has := fun y hy hk => by
    have := List.all_eq_true.mp h7 y hy
    simp only [Bool.or_eq_true, Bool.and_eq_true, bne_iff_ne, List.contains_iff_mem] at this
    rcases this with ⟨n1, n2⟩ | h
    · rcases hk with k | k
      · exact absurd k n1
      · exact absurd k n2
    · exact h
theorem zet {β : Type} : ∀ {l : List (Str × β)} {y : Str} {k : β}, l.lookup y = some k → (y, k) ∈ l
  | [], _, _, h => by cases h
  | (z, b) :: r, y, k, h => by
    rw [List.lookup_cons] at h
    split at h
    · rename_i e
      cases h
      rw [beq_iff_eq.mp e]
      exact List.mem_cons_self
    · exact List.mem_cons_of_mem _ (zet h)
theorem zhG {X : Cx} : ∀ {cs : List Str} {y : Str}, y ∈ cs → (zjW X cs).lookup y = some ((X.env.cells.lookup y).getD 0)
  | z :: r, y, h => by
    show List.lookup y ((z, (X.env.cells.lookup z).getD 0) :: zjW X r) = _
    rw [List.lookup_cons]
    split
    · rename_i e
      rw [beq_iff_eq.mp e]
    · rename_i e
      rcases List.mem_cons.mp h with q | q
      · subst q
        simp at e
      · exact zhG q
section
variable {X : Cx} {scope : Scope} {cs : List Str} {pins : List (Addr × Obj)} {σ : St} {H : Hp} {s : Shared} {fp : List Addr}
theorem Cap.sub (c : Cap X scope cs) {y : Str} {a : Addr} (h : (zjW X cs).lookup y = some a) : X.env.cells.lookup y = some a ∧ y ∈ cs := by
  have m := zet h
  obtain ⟨z, hz, e⟩ := List.mem_map.mp m
  injection e with e1 e2
  subst e1
  refine ⟨?_, hz⟩
  have := c.some_ z hz
  cases q : X.env.cells.lookup z with
  | none => rw [q] at this; cases this
  | some b => rw [q] at e2; rw [← e2]; rfl
def za2 (X : Cx) (scope : Scope) (cs N' : List Str) (s₀ : Shared) (H₀ : Hp) (ex : List Addr) : Cx where
  prog := X.prog
  w := X.w
  K := X.K
  mg := X.mg
  base := X.base
  A := X.A
  N := N'
  s₀ := s₀
  H₀ := H₀
  env := compEnvC scope (zjW X cs) s₀.heap.objs.size X.env
  outer := X.stack
  stack := X.stack
  ex := ex
  fn := fun _ => false
  calm := X.calm
  pn := []
  xe := fun _ _ => False
theorem zlp (c : Cap X scope cs) (I : Inv X pins σ H s) (hf : ∀ b ∈ fp, zgW X pins H b) (ho : ∀ b ∈ fp, ∃ o, s.heap.get? b = some o) (N' : List Str) : (za2 X scope cs N' s H fp).Ok where
  mod := I.ok.mod
  kind := c.kind
  glob := I.ok.glob
  blt := I.ok.blt
  above := Nat.le_refl _
  inj := fun x y a h1 h2 => I.ok.inj x y a (c.sub h1).1 (c.sub h2).1
  has := fun x h => by
    have m : x ∈ cs := by
      rcases h with h | h
      · exact c.has _ (zet h) (.inl rfl)
      · exact c.has _ (zet h) (.inr rfl)
    exact ⟨_, zhG m⟩
  cab := fun _ _ h => nomatch h
  hd := I.ok.hd
  frames := I.ok.frames
  stk := .inl rfl
  exf := fun b hb => by
    obtain ⟨o, e⟩ := ho b hb
    exact ⟨Nat.ne_of_lt (Heap.lt_size e), fun x a h => (hf b hb).2.2.2.2.1 x a (c.sub h).1⟩
  bs := fun b o e => I.bs b o e
  bsz := Nat.le_trans I.ok.bsz I.sz
  noex := fun b o e hb => by
    rcases (hf b hb).2.2.2.1 with z | z
    · exact I.ok.noex b o e z
    · exact absurd (Nat.lt_of_lt_of_le (Nat.lt_of_lt_of_le (Heap.lt_size e) I.ok.bsz) z) (Nat.lt_irrefl _)
  exfs := fun b hb hs => by
    rcases List.mem_cons.mp (I.stkSub b hs) with z | z
    · exact (hf b hb).2.1 z
    · exact (hf b hb).2.2.1 z
  funs := I.stack
  frf := I.stkFree
theorem zmW {N' : List Str} {σ' : St} {H' : Hp} {s' : Shared} {h' : Heap} {pl : List (Addr × Obj)} (c : Cap X scope cs) (I : Inv X pins σ H s) (hf : ∀ b ∈ fp, zgW X pins H b) (J : Inv (za2 X scope cs N' s H fp) pl σ' H' s') (hs : Heap.SameBut s.heap.objs.size s'.heap h') :
    Inv X pins σ H' { s' with heap := h' } := by
  have hL : H' s.heap.objs.size = none := J.free
  have u := J.base
  have ne : ∀ b o, s.heap.get? b = some o → b ≠ s.heap.objs.size := fun b o e => Nat.ne_of_lt (Heap.lt_size e)
  have neT : ∀ b o, H' b = some o → b ≠ s.heap.objs.size := fun b o e z => by rw [z, hL] at e; cases e
  refine Inv.call' (s' := { s' with heap := h' }) (ch := fp) I J.os ?_ ?_ J.bare fun b hb => ⟨(hf b hb).2.2.2.1, (hf b hb).2.1, (hf b hb).2.2.2.2.1, (hf b hb).2.2.2.2.2⟩
  · exact ⟨fun b o q n hb hx => (hs.2 b (ne b o q)).trans (u.keep b o q n hb hx), fun b o q n hb hx => by
      obtain ⟨sl, e⟩ := u.slot b o q n hb hx
      exact ⟨sl, (hs.2 b (ne b o q)).trans e⟩, u.free, fun b o q hx => by
      obtain ⟨o', e⟩ := u.there b o q hx
      exact ⟨o', (hs.2 b (ne b o q)).trans e⟩, u.tups, u.frzs, u.tbls⟩
  · intro a o e
    exact (J.hok a o e).stay (fun b v hb q => (hs.2 b (by
      rcases hb with rfl | hb
      · exact neT _ _ e
      · exact neT _ _ hb)).trans q) (fun _ q => q) fun _ _ q => q
end
section
variable {X : Cx} {pins : List (Addr × Obj)} {σ : St} {H : Hp} {s : Shared}
end
end L2
namespace L2
open PySem PySem.Spec PyProof.Rows PySem.W
theorem boot_VE : bootBuiltins (Str.ofString "ValueError") = some (.type "ValueError") := by kernel_rfl
def Kn (H : Hp) (L : List (Addr × HO)) : Prop := ∀ p ∈ L, H p.1 = some p.2
theorem Kn.nil (H : Hp) : Kn H [] := fun _ h => by cases h
section
variable {H H1 : Hp} {L : List (Addr × HO)} {σ : St} {i : Nat} {v : V} {C : Addr} {Q : VK}
end
structure MethFn (K : Frag) (C : Addr) (m qual : Str) (st : Stmt) : Prop where
  ex : ∃ f fd, Fun K m qual st f fd ∧ findIn K (.ref C) m = some (some (.ref f)) ∧ isFn K (.ref f) = true
structure zdt (P : Program) (w : World) (K : Frag) (mg : Str → Option Value) (base : Heap) (k : Nat) (C : Addr) (m : Str) (ps : List Str) (sp : Sp) : Prop where
  ex : ∃ f fd, zf7 P w K mg base CX0 k f fd ps sp ∧ findIn K (.ref C) m = some (some (.ref f)) ∧ isFn K (.ref f) = true ∧ keepIn K (.ref f) = true ∧ zdw K fd ps []
structure ExcC (K : Frag) (mg : Str → Option Value) (x : Str) (C : Addr) : Prop where
  at_ : mg x = some (.ref C)
  ex : zgo K C = true
  kp : keepIn K (.ref C) = true
end L2
namespace HL
open PySem (Str)
inductive W where
  | non | bl (b : Bool) | int (i : Int) | str (s : Str) | ref (i : Nat) | ty (n : String) | gl (x : Str)
  deriving DecidableEq, Repr, Inhabited
inductive SO where
  | lst (xs : List W) | rol (xs : List W) | tup (xs : List W) | ins (c : Str) (fs : List (Str × W)) | exc (c : Str) (fs : List (Str × W))
  deriving DecidableEq, Repr, Inhabited
abbrev Sh := List SO
inductive R (α : Type) where
  | ok (a : α) (h : Sh) | ex (e : Nat) (h : Sh) | er
  deriving Repr
def R.bind {α β : Type} (r : R α) (f : α → Sh → R β) : R β := match r with
  | .ok a h => f a h
  | .ex e h => .ex e h
  | .er => .er
inductive OR where
  | er | val (v : W) | new (o : SO)
def OR.fin (o : OR) (h : Sh) : R W := match o with
  | .er => .er
  | .val v => .ok v h
  | .new o => .ok (.ref h.length) (h ++ [o])
abbrev Sg := List (Option W)
inductive C where
  | nx (s : Sg) (h : Sh) | rt (v : W) (h : Sh) | bk (s : Sg) (h : Sh) | ct (s : Sg) (h : Sh) | ex (e : Nat) (h : Sh) | er
  deriving Repr
abbrev DE := Sg → Sh → R W
abbrev DT := Sg → Sh → R Bool
abbrev DA := Sg → Sh → R (List W)
abbrev DS := Sg → Sh → C
abbrev Fn := List W → Sh → R W
def LIM : Nat := 100000
def lstW (h : Sh) (x : W) : Option (List W) := match x with
  | .ref i => (match h[i]? with
    | some (.lst xs) => some xs
    | some (.rol xs) => some xs
    | _ => none)
  | _ => none
def zcR (h : Sh) (x : W) : Option (List W) := match x with
  | .ref i => (match h[i]? with
    | some (.tup xs) => some xs
    | _ => none)
  | _ => none
def zd0 (h : Sh) (x : W) : Option (List W) := (lstW h x).or (zcR h x)
inductive D where
  | non | bl (b : Bool) | int (i : Int) | str (s : Str) | lst (xs : List D) | tup (xs : List D)
mutual
def D.eq : D → D → Bool
  | .non, y => (match y with | .non => true | _ => false)
  | .bl a, y => (match y with | .bl b => a == b | .int j => (if a then 1 else 0) == j | _ => false)
  | .int i, y => (match y with | .bl b => i == (if b then 1 else 0) | .int j => i == j | _ => false)
  | .str a, y => (match y with | .str b => a == b | _ => false)
  | .lst xs, y => (match y with | .lst ys => D.eqs xs ys | _ => false)
  | .tup xs, y => (match y with | .tup ys => D.eqs xs ys | _ => false)
def D.eqs : List D → List D → Bool
  | [], ys => ys.isEmpty
  | x :: xs, ys => (match ys with | [] => false | y :: ys => D.eq x y && D.eqs xs ys)
end
def zdy (f : W → Option D) : List W → Option (List D)
  | [] => some []
  | x :: r => (f x).bind fun d => (zdy f r).map (d :: ·)
def sOk (s : Str) : Bool := decide (s.length ≤ LIM) && s.cps.toList.all fun c => decide (c < 1114112)
def dat : Nat → Sh → W → Option D
  | _, _, .non => some .non
  | _, _, .bl b => some (.bl b)
  | _, _, .int i => some (.int i)
  | _, _, .str x => if sOk x then some (.str x) else none
  | n + 1, h, .ref i => (match h[i]? with
    | some (.lst xs) => (zdy (dat n h) xs).map .lst
    | some (.rol xs) => (zdy (dat n h) xs).map .lst
    | some (.tup xs) => (zdy (dat n h) xs).map .tup
    | _ => none)
  | _, _, _ => none
def zdv : Nat := 8
abbrev O1 := W → Sh → OR
abbrev O2 := W → W → Sh → OR
def zbm (i j : Int) : Bool := decide (i.natAbs < 2 ^ 64) || decide (j.natAbs < 2 ^ 64)
def zbc : O2 := fun x y h => match x, y with
  | .int i, .int j => .val (.int (i + j))
  | .str s, .str t => if s.length + t.length ≤ LIM then .val (.str (s ++ t)) else .er
  | .ref i, .ref j => (match h[i]?, h[j]? with
    | some (.lst xs), some (.lst ys) => if xs.length + ys.length ≤ LIM then .new (.lst (xs ++ ys)) else .er
    | some (.tup xs), some (.tup ys) => if xs.length + ys.length ≤ LIM ∧ xs ≠ [] then (if ys = [] then .val x else .new (.tup (xs ++ ys))) else .er
    | _, _ => .er)
  | _, _ => .er
def zgk (c : Int → Int → Bool) (f : Int → Int → Int) : O2 := fun x y _ => match x, y with
  | .int i, .int j => if c i j then .val (.int (f i j)) else .er
  | _, _ => .er
def oSub : O2 := zgk (fun _ _ => true) fun i j => i - j
def zcE : O2 := fun x y h => match x, y with
  | .int i, .int j => if zbm i j then .val (.int (i * j)) else .er
  | .ref i, .int k => (match h[i]? with
    | some (.lst xs) => if k < 2 ^ 20 ∧ -(2 ^ 20) < k ∧ xs.length * k.toNat ≤ LIM then .new (.lst (List.replicate k.toNat xs).flatten) else .er
    | _ => .er)
  | _, _ => .er
def zcU : O2 := zgk (fun _ j => decide (0 < j) && decide (j < 1073741824)) fun i j => i / j
def zbb : O2 := zgk (fun _ j => decide (0 < j)) fun i j => i % j
def oPow : O2 := zgk (fun i j => decide (0 ≤ j) && decide (j ≤ 1000000) && decide (i.natAbs < 2 ^ 64)) fun i j => i ^ j.toNat
def zhP (p : Int → Int → Bool) : O2 := fun x y _ => match x, y with
  | .int i, .int j => .val (.bl (p i j))
  | _, _ => .er
def oLt : O2 := zhP fun i j => decide (i < j)
def oLe : O2 := zhP fun i j => decide (i ≤ j)
def oGe : O2 := zhP fun i j => decide (j ≤ i)
def eqH (x y : W) (h : Sh) : Option Bool := match x, y with
  | .str a, .str b => some (decide (a = b))
  | .int a, .int b => some (decide (a = b))
  | x, y => (match dat zdv h x, dat zdv h y with
    | some a, some b => some (D.eq a b)
    | _, _ => none)
def oEq : O2 := fun x y h => match eqH x y h with
  | some b => .val (.bl b)
  | none => .er
def oNe : O2 := fun x y h => match eqH x y h with
  | some b => .val (.bl (!b))
  | none => .er
def oIs : O2 := fun x y _ => match y with
  | .non => .val (.bl (decide (x = .non)))
  | _ => .er
def zcH : O2 := fun x y _ => match y with
  | .non => .val (.bl (!decide (x = .non)))
  | _ => .er
def ixW (n : Nat) (i : Int) : Option Nat := if 0 ≤ i then (if i < n then some i.toNat else none) else if -(n : Int) ≤ i then some (i + n).toNat else none
def atW (xs : List W) (i : Int) : Option W := (ixW xs.length i).bind fun j => xs[j]?
def oIx : O2 := fun x y h => match zd0 h x, y with
  | some xs, .int i => (match atW xs i with
    | some v => .val v
    | none => .er)
  | _, _ => .er
def ziJ : O1 := fun x _ => match x with
  | .int i => .val (.int (-i))
  | _ => .er
def zco (x : W) (h : Sh) : Option Bool := match x with
  | .non => some false
  | .bl b => some b
  | .int i => some (i != 0)
  | .str s => if s.length ≤ LIM then some ((s.length : Int) != 0) else none
  | .ref i => (match h[i]? with
    | some (.lst xs) => some (!xs.isEmpty)
    | some (.rol xs) => some (!xs.isEmpty)
    | some (.tup xs) => some (!xs.isEmpty)
    | _ => none)
  | _ => none
def zac (i : Nat) : DE := fun s h => match s[i]? with
  | some (some v) => .ok v h
  | _ => .er
def dC (v : W) : DE := fun _ h => .ok v h
def dOp (f : O2) (a b : DE) : DE := fun s h => (a s h).bind fun x h => (b s h).bind fun y h => (f x y h).fin h
def dUn (f : O1) (a : DE) : DE := fun s h => (a s h).bind fun x h => (f x h).fin h
def zad : DA := fun _ h => .ok [] h
def zaa (a : DE) (r : DA) : DA := fun s h => (a s h).bind fun x h => (r s h).bind fun xs h => .ok (x :: xs) h
def dB (f : List W → Sh → OR) (as : DA) : DE := fun s h => (as s h).bind fun xs h => (f xs h).fin h
def zbs : List W → Sh → OR := fun xs _ => if xs.length ≤ LIM then .new (.lst xs) else .er
def zeJ : List W → Sh → OR := fun xs _ => if xs.length ≤ LIM then .new (.tup xs) else .er
def dT (a : DE) : DT := fun s h => (a s h).bind fun x h => match zco x h with
  | some b => .ok b h
  | none => .er
def zem (a : DT) : DT := fun s h => (a s h).bind fun b h => .ok (!b) h
def zfP (a b : DT) : DT := fun s h => (a s h).bind fun c h => if c = true then b s h else .ok false h
def tOr (a b : DT) : DT := fun s h => (a s h).bind fun c h => if c = true then .ok true h else b s h
def ziW (a b : DE) : DE := fun s h => (a s h).bind fun x h => match x with
  | .bl c => if c = true then b s h else .ok (.bl false) h
  | _ => .er
def dOr (a b : DE) : DE := fun s h => (a s h).bind fun x h => match x with
  | .bl c => if c = true then .ok (.bl true) h else b s h
  | _ => .er
def dNot (a : DE) : DE := fun s h => (a s h).bind fun x h => match x with
  | .bl c => .ok (.bl (!c)) h
  | _ => .er
def dIf (c : DT) (a b : DE) : DE := fun s h => (c s h).bind fun k h => if k = true then a s h else b s h
def ze9 (f g : O2) (a b c : DE) : DE := fun s h => (a s h).bind fun x h => (b s h).bind fun y h => ((f x y h).fin h).bind fun z h => match z with
  | .bl k => if k = true then (c s h).bind fun w h => (g y w h).fin h else .ok (.bl false) h
  | _ => .er
def zav (f : Fn) (as : DA) : DE := fun s h => (as s h).bind fun xs h => f xs h
def start (n : Nat) (vs : List W) : Sg := vs.map some ++ List.replicate (n - vs.length) none
def fnOf (p n : Nat) (b : DS) : Fn := fun vs h => if vs.length = p then (match b (start n vs) h with
  | .nx _ h => .ok .non h
  | .rt v h => .ok v h
  | .ex e h => .ex e h
  | _ => .er) else .er
abbrev DO := Sg → Sh → R (Option Int)
def sIx (n d : Nat) : Option Int → Nat
  | none => d
  | some i => if i < 0 then (i + (n : Int)).toNat else min i.toNat n
def sNx : DS := fun s h => .nx s h
def zaq (a b : DS) : DS := fun s h => match a s h with
  | .nx s h => b s h
  | c => c
def zaE (i : Nat) (e : DE) : DS := fun s h => match e s h with
  | .ok v h => .nx (s.set i (some v)) h
  | .ex e h => .ex e h
  | .er => .er
def za5 (e : DE) : DS := fun s h => match e s h with
  | .ok v h => .rt v h
  | .ex e h => .ex e h
  | .er => .er
def sRetN : DS := fun _ h => .rt .non h
def zd4 (e : DE) : DS := fun s h => match e s h with
  | .ok _ h => .nx s h
  | .ex e h => .ex e h
  | .er => .er
def sIf (c : DT) (a b : DS) : DS := fun s h => match c s h with
  | .ok k h => if k = true then a s h else b s h
  | .ex e h => .ex e h
  | .er => .er
def zdh (o i e : DE) : DS := fun s h => match ((e s h).bind fun v h => (o s h).bind fun x h => (i s h).bind fun y h => (match x, y with
    | .ref p, .int k => (match h[p]? with
      | some (.lst xs) => (match ixW xs.length k with
        | some j => R.ok W.non (h.set p (.lst (xs.set j v)))
        | none => .er)
      | _ => .er)
    | _, _ => .er)) with
  | .ok _ h => .nx s h
  | .ex e h => .ex e h
  | .er => .er
inductive It where
  | fix (xs : List W) | lst (i : Nat) (xs : List W) | tup (i : Nat) (xs : List W)
def It.items : It → List W
  | .fix xs => xs
  | .lst _ xs => xs
  | .tup _ xs => xs
def It.stays : It → Sh → Prop
  | .fix _, _ => True
  | .lst i xs, h => lstW h (.ref i) = some xs
  | .tup i xs, h => zcR h (.ref i) = some xs
instance (t : It) (h : Sh) : Decidable (t.stays h) := by cases t <;> unfold It.stays <;> infer_instance
abbrev DI := Sg → Sh → R It
def zgR (a : DE) : DI := fun s h => (a s h).bind fun x h => match x with
  | .ref i => (match lstW h (.ref i) with
    | some xs => .ok (.lst i xs) h
    | none => (match zcR h (.ref i) with
      | some xs => .ok (.tup i xs) h
      | none => .er))
  | _ => .er
def zcv (lo : Int) (n : Nat) : List W := (List.range n).map fun (k : Nat) => .int (lo + (k : Int))
def zdi (a : DE) : DI := fun s h => (a s h).bind fun x h => match x with
  | .int j => if -(2 ^ 62) ≤ j ∧ j < 2 ^ 62 then .ok (.fix (zcv 0 j.toNat)) h else .er
  | _ => .er
abbrev DG := W → Sg → Sh → Option Sg
def zck (i : Nat) : DG := fun v s _ => some (s.set i (some v))
def zhQ (t : It) (g : DG) (b : DS) : List W → DS
  | [], s, h => .nx s h
  | x :: xs, s, h => match g x s h with
    | none => .er
    | some s1 => match b s1 h with
      | .nx s2 h2 => if t.stays h2 then zhQ t g b xs s2 h2 else .er
      | .ct s2 h2 => if t.stays h2 then zhQ t g b xs s2 h2 else .er
      | .bk s2 h2 => .nx s2 h2
      | c => c
def zgJ (i : DI) (g : DG) (b : DS) : DS := fun s h => match i s h with
  | .ok t h => zhQ t g b t.items s h
  | .ex e h => .ex e h
  | .er => .er
def zhF (t : It) (g : DG) (c : DT) (e : DE) (acc : Nat) : List W → Sg → Sh → R W
  | [], _, h => .ok (.ref acc) h
  | x :: xs, s, h => match g x s h with
    | none => .er
    | some s1 => (c s1 h).bind fun k h1 => if k = true then (e s1 h1).bind fun v h2 => (match h2[acc]? with
        | some (.lst ys) => if ys.length < LIM ∧ t.stays h2 ∧ acc < h2.length then zhF t g c e acc xs s1 (h2.set acc (.lst (ys ++ [v]))) else .er
        | _ => .er)
      else if t.stays h1 then zhF t g c e acc xs s1 h1 else .er
def zi0 (n : Nat) (js : List Nat) (s : Sg) : Sg := List.replicate n none ++ js.map fun j => (s[j]?).getD none
def ze8 (i : DI) (n : Nat) (js : List Nat) (g : DG) (c : DT) (e : DE) : DE := fun s h => (i s h).bind fun t h => zhF t g c e h.length t.items (zi0 n js s) (h ++ [.lst []])
def zfO : DT := fun _ h => .ok true h
def zc7 : List W → Sh → OR := fun xs h => match xs with
  | [.str s] => if s.length ≤ LIM then .val (.int s.length) else .er
  | [x] => (match zd0 h x with
    | some ys => .val (.int ys.length)
    | none => .er)
  | _ => .er
def zgE : List W → Sh → OR := fun xs _ => match xs with
  | [.int i, .int j] => .val (.int (if j > i then j else i))
  | _ => .er
def zgD : List W → Sh → OR := fun xs _ => match xs with
  | [.int i, .int j] => .val (.int (if j < i then j else i))
  | _ => .er
def zev : List W → Sh → OR := fun xs _ => match xs with
  | [.int i] => .val (.int i)
  | [.bl k] => .val (.int (if k then 1 else 0))
  | _ => .er
def zcA : List W → Sh → OR := fun xs h => match xs with
  | [x] => (match zd0 h x with
    | some ys => .new (.lst ys)
    | none => .er)
  | _ => .er
def zds : List W → Sh → OR := fun xs h => match xs with
  | [x] => (match lstW h x with
    | some ys => .new (.tup ys)
    | none => (match zcR h x with
      | some _ => .val x
      | none => .er))
  | _ => .er
inductive Ty where
  | bi (n : String) | own (x : Bool) (c : Str)
  deriving DecidableEq
def tyW (h : Sh) (x : W) : Option Ty := match x with
  | .non => some (.bi "NoneType")
  | .bl _ => some (.bi "bool")
  | .int _ => some (.bi "int")
  | .str _ => some (.bi "str")
  | .ref i => (match h[i]? with
    | some (.lst _) => some (.bi "list")
    | some (.rol _) => some (.bi "list")
    | some (.tup _) => some (.bi "tuple")
    | some (.ins c _) => some (.own false c)
    | some (.exc c _) => some (.own true c)
    | none => none)
  | _ => none
def biN : List String := ["int", "bool", "str", "list", "tuple", "dict", "ValueError"]
def subB (a b : String) : Bool := a == b || (a == "bool" && b == "int")
abbrev CT := List (Str × List W)
def isi1 (T : CT) (t : Ty) (c : W) : Option Bool := match t, c with
  | .bi a, .ty b => if biN.contains b then some (subB a b) else none
  | .bi _, .gl x => if (T.lookup x).isSome then some false else none
  | .own k a, c => (match T.lookup a with
    | some l => if l.contains (.ty "ValueError") = k then (match c with
        | .ty b => if biN.contains b then some (l.contains (.ty b)) else none
        | .gl x => if (T.lookup x).isSome then some (l.contains (.gl x)) else none
        | _ => none) else none
    | none => none)
  | _, _ => none
def isCl : W → Bool
  | .ty _ => true
  | .gl _ => true
  | _ => false
def isiN (T : CT) (t : Ty) : List W → Option Bool
  | [] => some false
  | c :: cs => match isi1 T t c with
    | some true => some true
    | some false => isiN T t cs
    | none => none
def isi (T : CT) (h : Sh) (x c : W) : Option Bool := match tyW h x with
  | none => none
  | some t => (match c with
    | .ref i => (match h[i]? with
      | some (.tup cs) => if cs.all isCl && !cs.isEmpty then isiN T t cs else none
      | _ => none)
    | c => isi1 T t c)
def zdT (T : CT) : List W → Sh → OR := fun xs h => match xs with
  | [x, c] => (match isi T h x c with
    | some b => .val (.bl b)
    | none => .er)
  | _ => .er
end HL
namespace HL
open PySem (Str)
def ziT (cs : List Str) (f : Str) (x : W) (h : Sh) : Option W := match x with
  | .ref i => (match h[i]? with
    | some (.ins c fs) => if cs.contains c = true then fs.lookup f else none
    | _ => none)
  | _ => none
def zf4 (cs : List Str) (f : Str) (a : DE) : DE := fun s h => (a s h).bind fun x h => match ziT cs f x h with
  | some v => .ok v h
  | none => .er
def zix (f : Str) (v : W) : List (Str × W) → List (Str × W)
  | [] => [(f, v)]
  | (g, x) :: r => if g = f then (g, v) :: r else (g, x) :: zix f v r
def setF (cs : List Str) (f : Str) (x v : W) (h : Sh) : R W := match x with
  | .ref i => (match h[i]? with
    | some (.ins c fs) => if cs.contains c = true ∧ fs.length < 1000 then .ok .non (h.set i (.ins c (zix f v fs))) else .er
    | _ => .er)
  | _ => .er
def zhb (cs : List Str) (f : Str) (o e : DE) : DS := fun s h => match ((e s h).bind fun v h => (o s h).bind fun x h => setF cs f x v h) with
  | .ok _ h => .nx s h
  | .ex e h => .ex e h
  | .er => .er
def zeV (tb : List (Str × Fn)) (m : Str) (x : W) (h : Sh) : Option Fn := match x with
  | .ref i => (match h[i]? with
    | some (.ins c fs) => if fs.lookup m = none then tb.lookup c else none
    | _ => none)
  | _ => none
def zaK (tb : List (Str × Fn)) (m : Str) (o : DE) (as : DA) : DE := fun s h => (o s h).bind fun x h => match zeV tb m x h with
  | some f => (as s h).bind fun xs h => f (x :: xs) h
  | none => .er
def zeI (c : Str) (f : Fn) (ds : List W) (as : DA) : DE := fun s h => (as s h).bind fun xs h1 => (f (.ref h1.length :: (xs ++ ds)) (h1 ++ [.ins c []])).bind fun v h2 => if v = .non then .ok (.ref h1.length) h2 else .er
end HL
namespace L2
open PySem PySem.Spec PyProof.Rows
open HL (W SO Sh Sg OR)
def RoL (K : PySem.W.Frag) (H : Hp) (a : Addr) (xs : List V) : Prop := (∃ o, H a = some (.frz o (.lst xs))) ∨
    ∃ (o : Obj) (its : Array Value) (n : Nat), K.lookup a = some o ∧ o.cls = .type "list" ∧ o.dict = none ∧ o.data = .seq its n ∧ its.size ≤ sizeLine ∧ zaD xs its.toList
theorem RoL.sq {K : PySem.W.Frag} {H : Hp} {a : Addr} {xs : List V} (h : RoL K H a xs) : SqL K H a xs := by
  rcases h with h | h
  · exact .inl (.inr h)
  · exact .inr h
section
variable (γ : Str → Addr) (ρ : Nat → Addr)
def zau : W → V
  | .non => .non
  | .bl b => .bl b
  | .int i => .int i
  | .str s => .str s
  | .ref i => .ref (ρ i)
  | .ty n => .ty n
  | .gl x => .ref (γ x)
def zeG (s : Sg) : St := s.map (Option.map (zau γ ρ))
def zfE (fs : List (Str × W)) : List (Str × V) := fs.map fun p => (p.1, zau γ ρ p.2)
def ObS (K : PySem.W.Frag) (H : Hp) (a : Addr) : SO → Prop
  | .lst xs => H a = some (.lst (xs.map (zau γ ρ)))
  | .rol xs => RoL K H a (xs.map (zau γ ρ))
  | .tup xs => SqT K H a (xs.map (zau γ ρ))
  | .ins c fs => ∃ dx, H a = some (.ins (γ c) dx (zfE γ ρ fs))
  | .exc c fs => ∃ dx, H a = some (.exc (γ c) dx (zfE γ ρ fs))
end
def wf (n : Nat) : W → Prop
  | .ref i => i < n
  | _ => True
def wfs (n : Nat) (xs : List W) : Prop := ∀ x ∈ xs, wf n x
def wfS (n : Nat) (s : Sg) : Prop := ∀ x, some x ∈ s → wf n x
def wfO (n : Nat) : SO → Prop
  | .lst xs => wfs n xs
  | .rol xs => wfs n xs
  | .tup xs => wfs n xs
  | .ins _ fs => ∀ p ∈ fs, wf n p.2
  | .exc _ fs => ∀ p ∈ fs, wf n p.2
def zgP : SO → Bool
  | .lst _ => true
  | .ins _ _ => true
  | .exc _ _ => true
  | _ => false
def Ag (n : Nat) (ρ ρ' : Nat → Addr) : Prop := ∀ i < n, ρ i = ρ' i
theorem wf.mono {n m : Nat} {x : W} (h : wf n x) (l : n ≤ m) : wf m x := by
  cases x with
  | ref i => exact Nat.lt_of_lt_of_le h l
  | _ => trivial
theorem wfs.mono {n m : Nat} {xs : List W} (h : wfs n xs) (l : n ≤ m) : wfs m xs := fun x hx => (h x hx).mono l
theorem wfS.mono {n m : Nat} {s : Sg} (h : wfS n s) (l : n ≤ m) : wfS m s := fun x hx => (h x hx).mono l
theorem wfO.mono {n m : Nat} {o : SO} (h : wfO n o) (l : n ≤ m) : wfO m o := by
  cases o with
  | lst xs => exact wfs.mono h l
  | rol xs => exact wfs.mono h l
  | tup xs => exact wfs.mono h l
  | ins c fs => exact fun p hp => (h p hp).mono l
  | exc c fs => exact fun p hp => (h p hp).mono l
theorem zdQ {γ : Str → Addr} {ρ ρ' : Nat → Addr} {n : Nat} {x : W} (h : wf n x) (a : Ag n ρ ρ') : zau γ ρ x = zau γ ρ' x := by
  cases x with
  | ref i => exact congrArg V.ref (a i h)
  | _ => rfl
theorem zfm {γ : Str → Addr} {ρ ρ' : Nat → Addr} {n : Nat} {xs : List W} (h : wfs n xs) (a : Ag n ρ ρ') : xs.map (zau γ ρ) = xs.map (zau γ ρ') :=
  List.map_congr_left fun x hx => zdQ (h x hx) a
theorem zkJ {γ : Str → Addr} {ρ ρ' : Nat → Addr} {n : Nat} {fs : List (Str × W)} (h : ∀ p ∈ fs, wf n p.2) (a : Ag n ρ ρ') : zfE γ ρ fs = zfE γ ρ' fs :=
  List.map_congr_left fun p hp => by rw [zdQ (h p hp) a]
theorem zkI {γ : Str → Addr} {ρ ρ' : Nat → Addr} {n : Nat} {s : Sg} (h : wfS n s) (a : Ag n ρ ρ') : zeG γ ρ s = zeG γ ρ' s := by
  refine List.map_congr_left fun x hx => ?_
  cases x with
  | none => rfl
  | some v => exact congrArg some (zdQ (h v hx) a)
theorem Ag.refl (n : Nat) (ρ : Nat → Addr) : Ag n ρ ρ := fun _ _ => rfl
theorem Ag.trans {n m : Nat} {ρ ρ1 ρ2 : Nat → Addr} (a : Ag n ρ ρ1) (b : Ag m ρ1 ρ2) (l : n ≤ m) : Ag n ρ ρ2 := fun i hi => (a i hi).trans (b i (Nat.lt_of_lt_of_le hi l))
structure Nxt (h : Sh) (ρ : Nat → Addr) (h' : Sh) (ρ' : Nat → Addr) : Prop where
  le : h.length ≤ h'.length
  ag : Ag h.length ρ ρ'
theorem Nxt.refl (h : Sh) (ρ : Nat → Addr) : Nxt h ρ h ρ := ⟨Nat.le_refl _, Ag.refl _ _⟩
theorem Nxt.trans {h h1 h2 : Sh} {ρ ρ1 ρ2 : Nat → Addr} (a : Nxt h ρ h1 ρ1) (b : Nxt h1 ρ1 h2 ρ2) : Nxt h ρ h2 ρ2 := ⟨Nat.le_trans a.le b.le, a.ag.trans b.ag a.le⟩
structure zbM (K : PySem.W.Frag) (γ : Str → Addr) (ρ : Nat → Addr) (h : Sh) (H : Hp) : Prop where
  ob : ∀ (i : Nat) (o : SO), h[i]? = some o → ObS γ ρ K H (ρ i) o
  inj : ∀ (i j : Nat) (o u : SO), h[i]? = some o → h[j]? = some u → zgP o = true → zgP u = true → ρ i = ρ j → i = j
  wf : ∀ (i : Nat) (o : SO), h[i]? = some o → wfO h.length o
structure Sim (K : PySem.W.Frag) (γ : Str → Addr) (ρ : Nat → Addr) (s : Sg) (h : Sh) (σ : St) (H : Hp) : Prop where
  hp : zbM K γ ρ h H
  ws : wfS h.length s
  eq : σ = zeG γ ρ s
section
variable {K : PySem.W.Frag} {γ : Str → Addr} {ρ ρ' : Nat → Addr} {s : Sg} {h h' : Sh} {σ : St} {H H' : Hp}
theorem Sim.next (S : Sim K γ ρ s h σ H) (n : Nxt h ρ h' ρ') (S' : zbM K γ ρ' h' H') : Sim K γ ρ' s h' σ H' := ⟨S', S.ws.mono n.le, S.eq.trans (zkI S.ws n.ag)⟩
theorem ObS.ren {a : Addr} {o : SO} (x : ObS γ ρ K H a o) {n : Nat} (w : wfO n o) (g : Ag n ρ ρ') : ObS γ ρ' K H a o := by
  cases o with
  | lst xs => show _ = _; rw [← zfm w g]; exact x
  | rol xs => show RoL _ _ _ _; rw [← zfm w g]; exact x
  | tup xs => show SqT _ _ _ _; rw [← zfm w g]; exact x
  | ins c fs => obtain ⟨dx, e⟩ := x; exact ⟨dx, by rw [← zkJ w g]; exact e⟩
  | exc c fs => obtain ⟨dx, e⟩ := x; exact ⟨dx, by rw [← zkJ w g]; exact e⟩
theorem SqL.at {a : Addr} {xs : List V} (h : SqL K H a xs) (e : H a ≠ none → H' a = H a) : SqL K H' a xs := by
  rcases h with (h | ⟨o, h⟩) | h
  · exact .inl (.inl (by rw [e (by rw [h]; exact nofun), h]))
  · exact .inl (.inr ⟨o, by rw [e (by rw [h]; exact nofun), h]⟩)
  · exact .inr h
theorem SqT.at {a : Addr} {xs : List V} (h : SqT K H a xs) (e : H a ≠ none → H' a = H a) : SqT K H' a xs := by
  rcases h with (h | ⟨o, h⟩) | h
  · exact .inl (.inl (by rw [e (by rw [h]; exact nofun), h]))
  · exact .inl (.inr ⟨o, by rw [e (by rw [h]; exact nofun), h]⟩)
  · exact .inr h
theorem RoL.at {a : Addr} {xs : List V} (h : RoL K H a xs) (e : H a ≠ none → H' a = H a) : RoL K H' a xs := by
  rcases h with ⟨o, h⟩ | h
  · exact .inl ⟨o, by rw [e (by rw [h]; exact nofun), h]⟩
  · exact .inr h
theorem ObS.at {a : Addr} {o : SO} (x : ObS γ ρ K H a o) (e : H a ≠ none → H' a = H a) : ObS γ ρ K H' a o := by
  cases o with
  | lst xs => have x' : H a = _ := x; show H' a = _; rw [e (by rw [x']; exact nofun)]; exact x'
  | rol xs => exact RoL.at x e
  | tup xs => exact SqT.at x e
  | ins c fs => obtain ⟨dx, q⟩ := x; exact ⟨dx, by rw [e (by rw [q]; exact nofun)]; exact q⟩
  | exc c fs => obtain ⟨dx, q⟩ := x; exact ⟨dx, by rw [e (by rw [q]; exact nofun)]; exact q⟩
def put (ρ : Nat → Addr) (n : Nat) (p : Addr) : Nat → Addr := fun i => if i = n then p else ρ i
theorem zc3 (ρ : Nat → Addr) (n : Nat) (p : Addr) : Ag n ρ (put ρ n p) := fun i hi => by unfold put; rw [if_neg (Nat.ne_of_lt hi)]
theorem zc2 (ρ : Nat → Addr) (n : Nat) (p : Addr) : put ρ n p n = p := by unfold put; rw [if_pos rfl]
theorem getElem?_snoc {α : Type} (l : List α) (x : α) (i : Nat) : (l ++ [x])[i]? = if i < l.length then l[i]? else if i = l.length then some x else none := by
  by_cases h1 : i < l.length
  · rw [if_pos h1, List.getElem?_append_left h1]
  · rw [if_neg h1, List.getElem?_append_right (by omega)]
    by_cases h2 : i = l.length
    · rw [if_pos h2, h2, Nat.sub_self]; rfl
    · rw [if_neg h2]
      exact List.getElem?_eq_none_iff.mpr (by simp; omega)
theorem ObS.mut {a : Addr} {o : SO} (x : ObS γ ρ K H a o) (m : zgP o = true) : ∃ u, H a = some u ∧ (∀ xs, u ≠ .tup xs) ∧ ∀ ob t, u ≠ .frz ob t := by
  cases o with
  | lst xs => exact ⟨_, x, (fun _ z => nomatch z), fun _ _ z => nomatch z⟩
  | rol xs => cases m
  | tup xs => cases m
  | ins c fs => obtain ⟨dx, e⟩ := x; exact ⟨_, e, (fun _ z => nomatch z), fun _ _ z => nomatch z⟩
  | exc c fs => obtain ⟨dx, e⟩ := x; exact ⟨_, e, (fun _ z => nomatch z), fun _ _ z => nomatch z⟩
theorem ObS.still {a b : Addr} {o : SO} {u v : HO} (x : ObS γ ρ K H a o) (m : zgP o = false) (e : H b = some u) (n1 : ∀ xs, u ≠ .tup xs) (n2 : ∀ ob t, u ≠ .frz ob t) : ObS γ ρ K (upd H b v) a o := by
  cases o with
  | lst xs => cases m
  | ins c fs => cases m
  | exc c fs => cases m
  | rol xs =>
    rcases x with ⟨o, h⟩ | h
    · exact .inl ⟨o, by rw [zaN (ne_of h e (fun z => n2 _ _ z.symm))]; exact h⟩
    · exact .inr h
  | tup xs =>
    rcases x with (h | ⟨o, h⟩) | h
    · exact .inl (.inl (by rw [zaN (ne_of h e (fun z => n1 _ z.symm))]; exact h))
    · exact .inl (.inr ⟨o, by rw [zaN (ne_of h e (fun z => n2 _ _ z.symm))]; exact h⟩)
    · exact .inr h
theorem zbM.push {p : Addr} {o : SO} (S : zbM K γ ρ h H) (w : wfO h.length o) (E : Ext H H') (hp : H p = none) (n : ObS γ ρ K H' p o) : zbM K γ (put ρ h.length p) (h ++ [o]) H' where
  ob := fun i u e => by
    rw [getElem?_snoc] at e
    by_cases h1 : i < h.length
    · rw [if_pos h1] at e
      have x := (S.ob i u e).at (H' := H') fun z => E _ (by cases q : H (ρ i) with | none => exact absurd q z | some _ => rfl)
      rw [← zc3 ρ h.length p i h1]
      exact x.ren (S.wf i u e) (zc3 _ _ _)
    · rw [if_neg h1] at e
      by_cases h2 : i = h.length
      · rw [if_pos h2] at e
        cases e
        rw [h2, zc2]
        exact n.ren w (zc3 _ _ _)
      · rw [if_neg h2] at e; cases e
  inj := fun i j u v e1 e2 m1 m2 q => by
    rw [getElem?_snoc] at e1 e2
    have tr : ∀ k w, k < h.length → h[k]? = some w → zgP w = true → ρ k ≠ p := fun k w _ e m z => by
      obtain ⟨y, hy, _⟩ := (S.ob k w e).mut m
      rw [z, hp] at hy; cases hy
    by_cases h1 : i < h.length
    · rw [if_pos h1] at e1
      by_cases h2 : j < h.length
      · rw [if_pos h2] at e2
        rw [← zc3 ρ h.length p i h1, ← zc3 ρ h.length p j h2] at q
        exact S.inj i j u v e1 e2 m1 m2 q
      · rw [if_neg h2] at e2
        by_cases h3 : j = h.length
        · rw [h3, zc2, ← zc3 ρ h.length p i h1] at q
          exact absurd q (tr i u h1 e1 m1)
        · rw [if_neg h3] at e2; cases e2
    · rw [if_neg h1] at e1
      by_cases h3 : i = h.length
      · by_cases h2 : j < h.length
        · rw [if_pos h2] at e2
          rw [h3, zc2, ← zc3 ρ h.length p j h2] at q
          exact absurd q.symm (tr j v h2 e2 m2)
        · rw [if_neg h2] at e2
          by_cases h4 : j = h.length
          · rw [h3, h4]
          · rw [if_neg h4] at e2; cases e2
      · rw [if_neg h3] at e1; cases e1
  wf := fun i u e => by
    rw [getElem?_snoc] at e
    have le : h.length ≤ (h ++ [o]).length := by simp
    by_cases h1 : i < h.length
    · rw [if_pos h1] at e
      exact (S.wf i u e).mono le
    · rw [if_neg h1] at e
      by_cases h2 : i = h.length
      · rw [if_pos h2] at e; cases e; exact w.mono le
      · rw [if_neg h2] at e; cases e
theorem Nxt.push (h : Sh) (ρ : Nat → Addr) (o : SO) (p : Addr) : Nxt h ρ (h ++ [o]) (put ρ h.length p) := ⟨by simp, zc3 _ _ _⟩
theorem zbM.chg {i : Nat} {o u : SO} {v : HO} (S : zbM K γ ρ h H) (e : h[i]? = some o) (m : zgP o = true) (m' : zgP u = true) (w : wfO h.length u) (n : ObS γ ρ K (upd H (ρ i) v) (ρ i) u) : zbM K γ ρ (h.set i u) (upd H (ρ i) v) where
  ob := fun j t q => by
    rw [List.getElem?_set] at q
    have hi : i < h.length := by
      rcases Nat.lt_or_ge i h.length with z | z
      · exact z
      · rw [List.getElem?_eq_none_iff.mpr z] at e; cases e
    by_cases hj : i = j
    · rw [if_pos hj, if_pos hi] at q
      cases q
      rw [← hj]; exact n
    · rw [if_neg hj] at q
      obtain ⟨y, hy, n1, n2⟩ := (S.ob i o e).mut m
      cases c : zgP t with
      | true =>
        have ne : ρ j ≠ ρ i := fun z => hj (S.inj i j o t e q m c z.symm)
        exact (S.ob j t q).at fun _ => zaN ne
      | false => exact (S.ob j t q).still c hy n1 n2
  inj := fun j k t r e1 e2 m1 m2 q => by
    rw [List.getElem?_set] at e1 e2
    have g : ∀ j t, (if i = j then if i < h.length then some u else none else h[j]?) = some t → zgP t = true → ∃ t', h[j]? = some t' ∧ zgP t' = true := fun j t e1 m1 => by
      by_cases hj : i = j
      · rw [← hj]; exact ⟨o, e, m⟩
      · rw [if_neg hj] at e1; exact ⟨t, e1, m1⟩
    obtain ⟨t1, f1, g1⟩ := g j t e1 m1
    obtain ⟨t2, f2, g2⟩ := g k r e2 m2
    exact S.inj j k t1 t2 f1 f2 g1 g2 q
  wf := fun j t q => by
    rw [List.getElem?_set] at q
    rw [List.length_set]
    by_cases hj : i = j
    · rw [if_pos hj] at q
      by_cases hi : i < h.length
      · rw [if_pos hi] at q; cases q; exact w
      · rw [if_neg hi] at q; cases q
    · rw [if_neg hj] at q; exact S.wf j t q
theorem Nxt.chg (h : Sh) (ρ : Nat → Addr) (i : Nat) (u : SO) : Nxt h ρ (h.set i u) ρ := ⟨by simp, Ag.refl _ _⟩
end
end L2
namespace L2
open PySem PySem.Spec PyProof.Rows
open HL (W SO Sh Sg OR DE DT DA DS Fn)
section
variable (K : PySem.W.Frag) (γ : Str → Addr)
def zaP {α β : Type} (g : (Nat → Addr) → α → β) (w : Nat → α → Prop) (ρ : Nat → Addr) (h : Sh) (r : HL.R α) (Q : β → Hp → Prop) : Prop := match r with
  | .ok a h' => ∀ ρ' H', Nxt h ρ h' ρ' → zbM K γ ρ' h' H' → w h'.length a → Q (g ρ' a) H'
  | _ => False
abbrev zhJ := zaP K γ (zau γ) wf
abbrev GoodL := zaP K γ (fun ρ (vs : List W) => vs.map (zau γ ρ)) wfs
abbrev GoodB := zaP K γ (fun _ (b : Bool) => b) (fun _ _ => True)
abbrev GoodO := zaP K γ (fun _ (b : Option Int) => b) (fun _ _ => True)
def eE (d : DE) : TE := fun σ H Q => ∃ ρ s h, Sim K γ ρ s h σ H ∧ zhJ K γ ρ h (d s h) Q
def eA (d : DA) : TA := fun σ H Q => ∃ ρ s h, Sim K γ ρ s h σ H ∧ GoodL K γ ρ h (d s h) Q
def eT (d : DT) : TT := fun σ H Q => ∃ ρ s h, Sim K γ ρ s h σ H ∧ GoodB K γ ρ h (d s h) Q
def eO (d : HL.DO) : TO := fun σ H Q => ∃ ρ s h, Sim K γ ρ s h σ H ∧ GoodO K γ ρ h (d s h) Q
def zff (ρ : Nat → Addr) (h : Sh) (c : HL.C) (D : zhL) : Prop := match c with
  | .nx s' h' => ∀ ρ' H', Nxt h ρ h' ρ' → zbM K γ ρ' h' H' → wfS h'.length s' → D.nx (zeG γ ρ' s') H'
  | .rt v h' => ∀ ρ' H', Nxt h ρ h' ρ' → zbM K γ ρ' h' H' → wf h'.length v → D.rt (zau γ ρ' v) H'
  | .bk s' h' => ∀ ρ' H', Nxt h ρ h' ρ' → zbM K γ ρ' h' H' → wfS h'.length s' → D.bk (zeG γ ρ' s') H'
  | .ct s' h' => ∀ ρ' H', Nxt h ρ h' ρ' → zbM K γ ρ' h' H' → wfS h'.length s' → D.ct (zeG γ ρ' s') H'
  | _ => False
def eS (d : DS) : TS := fun D σ H => ∃ ρ s h, Sim K γ ρ s h σ H ∧ zff K γ ρ h (d s h) D
end
section
variable {K : PySem.W.Frag} {γ : Str → Addr} {ρ ρ' : Nat → Addr} {s : Sg} {h h' : Sh} {σ : St} {H H' : Hp}
theorem zaP.later {α β : Type} {g : (Nat → Addr) → α → β} {w : Nat → α → Prop} {r : HL.R α} {Q : β → Hp → Prop} (x : zaP K γ g w ρ h r Q) (n : Nxt h ρ h' ρ') : zaP K γ g w ρ' h' r Q := by
  cases r with
  | ok a h2 => exact fun ρ2 H2 n2 => x ρ2 H2 (n.trans n2)
  | ex e h2 => exact x.elim
  | er => exact x.elim
theorem zff.later {c : HL.C} {D : zhL} (x : zff K γ ρ h c D) (n : Nxt h ρ h' ρ') : zff K γ ρ' h' c D := by
  cases c with
  | nx s2 h2 => exact fun ρ2 H2 n2 => x ρ2 H2 (n.trans n2)
  | rt v h2 => exact fun ρ2 H2 n2 => x ρ2 H2 (n.trans n2)
  | bk s2 h2 => exact fun ρ2 H2 n2 => x ρ2 H2 (n.trans n2)
  | ct s2 h2 => exact fun ρ2 H2 n2 => x ρ2 H2 (n.trans n2)
  | ex e h2 => exact x.elim
  | er => exact x.elim
theorem zaP.bind {α α' β β' : Type} {g : (Nat → Addr) → α → β} {w : Nat → α → Prop} {g' : (Nat → Addr) → α' → β'} {w' : Nat → α' → Prop} {r : HL.R α} {f : α → Sh → HL.R α'} {Q : β' → Hp → Prop} (x : zaP K γ g' w' ρ h (r.bind f) Q) {R : β → Hp → Prop}
    (k : ∀ a h1 ρ1 H1, r = .ok a h1 → Nxt h ρ h1 ρ1 → zbM K γ ρ1 h1 H1 → w h1.length a → zaP K γ g' w' ρ1 h1 (f a h1) Q → R (g ρ1 a) H1) : zaP K γ g w ρ h r R := by
  cases r with
  | ok a h1 => exact fun ρ1 H1 n1 S1 wa => k a h1 ρ1 H1 rfl n1 S1 wa (x.later n1)
  | ex e h2 => exact x.elim
  | er => exact x.elim
def OrQ (K : PySem.W.Frag) (γ : Str → Addr) (ρ : Nat → Addr) (h : Sh) (H : Hp) (o : OR) (Q : VK) : Prop := match o with
  | .er => False
  | .val v => wf h.length v → Q (zau γ ρ v) H
  | .new (.lst xs) => wfs h.length xs → ∀ p, H p = none → Q (.ref p) (upd H p (.lst (xs.map (zau γ ρ))))
  | .new (.tup xs) => wfs h.length xs → ∀ p, H p = none → Q (.ref p) (upd H p (.tup (xs.map (zau γ ρ))))
  | .new _ => False
def zdG : OR → Bool
  | .new (.lst _) => true
  | .new (.tup _) => true
  | .new _ => false
  | _ => true
theorem zh6 {o : OR} {Q : VK} (S : zbM K γ ρ h H) (b : zdG o = true) (x : zhJ K γ ρ h (o.fin h) Q) : OrQ K γ ρ h H o Q := by
  cases o with
  | er => exact x.elim
  | val v => exact fun w => x ρ H (Nxt.refl _ _) S w
  | new o =>
    cases o with
    | lst xs =>
      intro w p hp
      have q := x (put ρ h.length p) (upd H p (.lst (xs.map (zau γ ρ)))) (Nxt.push _ _ _ _) (S.push (o := .lst xs) w (Ext.upd _ hp) hp zba) (by show h.length < (h ++ [_]).length; simp)
      rw [show zau γ (put ρ h.length p) (.ref h.length) = V.ref p from congrArg V.ref (zc2 _ _ _)] at q
      exact q
    | tup xs =>
      intro w p hp
      have q := x (put ρ h.length p) (upd H p (.tup (xs.map (zau γ ρ)))) (Nxt.push _ _ _ _) (S.push (o := .tup xs) w (Ext.upd _ hp) hp (SqT.of zba)) (by show h.length < (h ++ [_]).length; simp)
      rw [show zau γ (put ρ h.length p) (.ref h.length) = V.ref p from congrArg V.ref (zc2 _ _ _)] at q
      exact q
    | _ => cases b
theorem zg0 {x : W} {xs : List W} (S : zbM K γ ρ h H) (e : HL.lstW h x = some xs) : ∃ i, x = .ref i ∧ SqL K H (ρ i) (xs.map (zau γ ρ)) ∧ wfs h.length xs := by
  cases x with
  | ref i =>
    unfold HL.lstW at e
    simp only at e
    cases q : h[i]? with
    | none => rw [q] at e; cases e
    | some o =>
      rw [q] at e
      cases o with
      | lst ys => cases e; exact ⟨i, rfl, SqL.of (S.ob i _ q), S.wf i _ q⟩
      | rol ys => cases e; exact ⟨i, rfl, (show RoL K H (ρ i) _ from S.ob i _ q).sq, S.wf i _ q⟩
      | _ => cases e
  | _ => cases e
theorem zgX {x : W} {xs : List W} (S : zbM K γ ρ h H) (e : HL.zcR h x = some xs) : ∃ i, x = .ref i ∧ SqT K H (ρ i) (xs.map (zau γ ρ)) ∧ wfs h.length xs := by
  cases x with
  | ref i =>
    unfold HL.zcR at e
    simp only at e
    cases q : h[i]? with
    | none => rw [q] at e; cases e
    | some o =>
      rw [q] at e
      cases o with
      | tup ys => cases e; exact ⟨i, rfl, S.ob i _ q, S.wf i _ q⟩
      | _ => cases e
  | _ => cases e
theorem zik {x : W} {xs : List W} (S : zbM K γ ρ h H) (e : HL.zd0 h x = some xs) : ∃ i, x = .ref i ∧ (SqL K H (ρ i) (xs.map (zau γ ρ)) ∨ SqT K H (ρ i) (xs.map (zau γ ρ))) ∧ wfs h.length xs := by
  unfold HL.zd0 at e
  cases q : HL.lstW h x with
  | some ys =>
    rw [q] at e
    cases e
    obtain ⟨i, a, b, c⟩ := zg0 S q
    exact ⟨i, a, .inl b, c⟩
  | none =>
    rw [q] at e
    obtain ⟨i, a, b, c⟩ := zgX S (show HL.zcR h x = some xs by simpa using e)
    exact ⟨i, a, .inr b, c⟩
theorem wf_get {n i : Nat} {xs : List W} {v : W} (w : wfs n xs) (e : xs[i]? = some v) : wf n v := w v (List.mem_of_getElem? e)
end
theorem PE.imp {X : Cx} {e : Expr} {t t' : TE} (h : PE X e t) (i : ∀ σ H Q, t' σ H Q → t σ H Q) : PE X e t' := fun pins s σ H Q I hw => h pins s σ H Q I (i _ _ _ hw)
theorem PT.imp {X : Cx} {e : Expr} {t t' : TT} (h : PT X e t) (i : ∀ σ H Q, t' σ H Q → t σ H Q) : PT X e t' := fun pins s σ H Q I hw => h pins s σ H Q I (i _ _ _ hw)
theorem PW.imp {X : Cx} {e : Expr} {t t' : TT} (h : PW X e t) (i : ∀ σ H Q, t' σ H Q → t σ H Q) : PW X e t' := fun w pins s σ H Q I hw => h w pins s σ H Q I (i _ _ _ hw)
theorem PA.imp {X : Cx} {e : List Expr} {t t' : TA} (h : PA X e t) (i : ∀ σ H Q, t' σ H Q → t σ H Q) : PA X e t' := fun pos pins s σ H Q I hw => h pos pins s σ H Q I (i _ _ _ hw)
theorem PS.imp {X : Cx} {e : Stmt} {t t' : TS} (h : PS X e t) (i : ∀ D σ H, t' D σ H → t D σ H) : PS X e t' := fun pins s σ H D I hw => h pins s σ H D I (i _ _ _ hw)
theorem PSs.imp {X : Cx} {e : List Stmt} {t t' : TS} (h : PSs X e t) (i : ∀ D σ H, t' D σ H → t D σ H) : PSs X e t' := fun pins s σ H D I hw => h pins s σ H D I (i _ _ _ hw)
abbrev QE (γ : Str → Addr) (X : Cx) (e : Expr) (d : DE) : Prop := PE X e (eE X.K γ d)
abbrev QT (γ : Str → Addr) (X : Cx) (e : Expr) (d : DT) : Prop := PT X e (eT X.K γ d)
abbrev QW (γ : Str → Addr) (X : Cx) (e : Expr) (d : DT) : Prop := PW X e (eT X.K γ d)
abbrev QA (γ : Str → Addr) (X : Cx) (e : List Expr) (d : DA) : Prop := PA X e (eA X.K γ d)
abbrev QO (γ : Str → Addr) (X : Cx) (e : Option Expr) (d : HL.DO) : Prop := PO X e (eO X.K γ d)
abbrev QS (γ : Str → Addr) (X : Cx) (e : Stmt) (d : DS) : Prop := PS X e (eS X.K γ d)
abbrev QSs (γ : Str → Addr) (X : Cx) (e : List Stmt) (d : DS) : Prop := PSs X e (eS X.K γ d)
section
variable {X : Cx} {γ : Str → Addr} {a b c e : Expr} {da db dc de : DE} {pos : Pos}
theorem q_var {i : Nat} {x : Str} (hN : X.N[i]? = some x) (hv : Vis X.env.scope x) (hd : (x == ("__debug__" : Str)) = false := by decide) (hcd : (x == ("__classdict__" : Str)) = false := by decide) : QE γ X (.Name x pos) (HL.zac i) :=
  (pe_var hN hv hd hcd).imp fun σ H Q ⟨ρ, s, h, S, x⟩ => by
    unfold HL.zac at x
    split at x
    · rename_i v e
      refine ⟨zau γ ρ v, ?_, x ρ H (Nxt.refl _ _) S.hp (S.ws v (List.mem_of_getElem? e))⟩
      rw [S.eq]
      unfold zeG
      rw [List.getElem?_map, e]
      rfl
    · exact x.elim
theorem q_c {v : W} {e : Expr} (w : ∀ n, wf n v) (r : ∀ ρ, PE X e (tC (zau γ ρ v))) : QE γ X e (HL.dC v) := fun pins s σ H Q I ⟨ρ, t, h, S, x⟩ => r ρ pins s σ H Q I (x ρ H (Nxt.refl _ _) S.hp (w _))
theorem zag {i j pos} : QE γ X (.Constant (.int i) j pos) (HL.dC (.int i)) := q_c (fun _ => trivial) fun _ => pe_int
theorem zhh {i j pos} : QE γ X (.Constant (.bool i) j pos) (HL.dC (.bl i)) := q_c (fun _ => trivial) fun _ => pe_bl
theorem zd5 {j pos} : QE γ X (.Constant .none j pos) (HL.dC .non) := q_c (fun _ => trivial) fun _ => pe_non
theorem zhZ {x j pos} : QE γ X (.Constant (.str x) j pos) (HL.dC (.str x)) := q_c (fun _ => trivial) fun _ => pe_str
theorem zb4 {x : Str} (hg : Gl X x) (hm : X.mg x = some (.ref (γ x))) (hd : (x == ("__debug__" : Str)) = false := by decide) : QE γ X (.Name x pos) (HL.dC (.gl x)) := q_c (fun _ => trivial) fun _ => zk0 hg hm rfl hd
theorem zjp {x : Str} {n : String} (hg : Gl X x) (hm : X.mg x = none) (hv : bootBuiltins x = some (.type n)) (hn : x ≠ "__name__" := by decide) (hd : (x == ("__debug__" : Str)) = false := by decide) : QE γ X (.Name x pos) (HL.dC (.ty n)) := q_c (fun _ => trivial) fun _ => pe_bltn hg hm hv rfl hn hd
def OpS (K : PySem.W.Frag) (γ : Str → Addr) (r : R2) (f : HL.O2) : Prop := ∀ ρ h H x y Q, zbM K γ ρ h H → wf h.length x → wf h.length y → OrQ K γ ρ h H (f x y h) Q → r (zau γ ρ x) (zau γ ρ y) H Q
def zcB (f : HL.O2) : Prop := ∀ x y h, zdG (f x y h) = true
theorem ziB {r : R2} {f : HL.O2} (hs : OpS X.K γ r f) (nw : zcB f) (σ : St) (H : Hp) (Q : VK) (x : eE X.K γ (HL.dOp f da db) σ H Q) : tOp r (eE X.K γ da) (eE X.K γ db) σ H Q := by
  obtain ⟨ρ, s, h, S, x⟩ := x
  refine ⟨ρ, s, h, S, zaP.bind x fun v h1 ρ1 H1 _ n1 S1 w1 x1 => ?_⟩
  refine ⟨ρ1, s, h1, S.next n1 S1, zaP.bind x1 fun u h2 ρ2 H2 _ n2 S2 w2 x2 => ?_⟩
  rw [zdQ w1 n2.ag]
  exact hs ρ2 h2 H2 v u Q S2 (w1.mono n2.le) w2 (zh6 S2 (nw _ _ _) x2)
theorem q_op {op : Operator} {r : R2} {f : HL.O2} (ho : OpR X (binaryOp op) r) (hs : OpS X.K γ r f) (nw : zcB f) (ha : QE γ X a da) (hb : QE γ X b db) : QE γ X (.BinOp a op b pos) (HL.dOp f da db) :=
  (pe_op ho ha hb).imp (ziB hs nw)
theorem q_cmp {op : CmpOp} {r : R2} {f : HL.O2} (ho : OpR X (compareOp op) r) (hs : OpS X.K γ r f) (nw : zcB f) (ha : QE γ X a da) (hb : QE γ X b db) (hm : behindInMarks op b = false) : QE γ X (.Compare a [op] [b] pos) (HL.dOp f da db) :=
  (pe_cmpR ho ha hb hm).imp (ziB hs nw)
theorem q_ix {r : R2} {f : HL.O2} (ho : IxR X r) (hs : OpS X.K γ r f) (nw : zcB f) (ha : QE γ X a da) (hb : QE γ X b db) (hp : zi6 b) : QE γ X (.Subscript a b pos) (HL.dOp f da db) :=
  (pe_ix ho ha hb hp).imp (ziB hs nw)
def UnS (K : PySem.W.Frag) (γ : Str → Addr) (r : V → Hp → VK → Prop) (f : HL.O1) : Prop := ∀ ρ h H x Q, zbM K γ ρ h H → wf h.length x → OrQ K γ ρ h H (f x h) Q → r (zau γ ρ x) H Q
theorem q_un {op : UnaryOp} {r : V → Hp → VK → Prop} {f : HL.O1} (ho : UnR X (unaryOp op) r) (hs : UnS X.K γ r f) (nw : ∀ x h, zdG (f x h) = true) (ha : QE γ X a da) : QE γ X (.UnaryOp op a pos) (HL.dUn f da) :=
  (pe_un ho ha).imp fun σ H Q x => by
    obtain ⟨ρ, s, h, S, x⟩ := x
    refine ⟨ρ, s, h, S, zaP.bind x fun v h1 ρ1 H1 _ n1 S1 w1 x1 => ?_⟩
    exact hs ρ1 h1 H1 v Q S1 w1 (zh6 S1 (nw _ _) x1)
theorem zaf : QA γ X [] HL.zad := zmr.imp fun σ H Q ⟨ρ, s, h, S, x⟩ => x ρ H (Nxt.refl _ _) S.hp fun _ z => by cases z
theorem zab {es : List Expr} {d : DA} (ha : QE γ X e de) (hr : QA γ X es d) (hs : starEach (e :: es) X.env = (false, eval e X.env) :: starEach es X.env := by rfl) : QA γ X (e :: es) (HL.zaa de d) :=
  (zk2 ha hr hs).imp fun σ H Q x => by
    obtain ⟨ρ, s, h, S, x⟩ := x
    refine ⟨ρ, s, h, S, zaP.bind x fun v h1 ρ1 H1 _ n1 S1 w1 x1 => ?_⟩
    refine ⟨ρ1, s, h1, S.next n1 S1, zaP.bind x1 fun us h2 ρ2 H2 _ n2 S2 w2 x2 => ?_⟩
    rw [zdQ w1 n2.ag]
    exact x2 ρ2 H2 (Nxt.refl _ _) S2 fun y hy => by
      rcases List.mem_cons.mp hy with rfl | hy
      · exact w1.mono n2.le
      · exact w2 y hy
def CbS (K : PySem.W.Frag) (γ : Str → Addr) (r : List V → Hp → VK → Prop) (f : List W → Sh → OR) : Prop := ∀ ρ h H xs Q, zbM K γ ρ h H → wfs h.length xs → OrQ K γ ρ h H (f xs h) Q → r (xs.map (zau γ ρ)) H Q
theorem cb_of {r : List V → Hp → VK → Prop} {f : List W → Sh → OR} {d : DA} (hs : CbS X.K γ r f) (nw : ∀ x h, zdG (f x h) = true) (σ : St) (H : Hp) (Q : VK) (x : eE X.K γ (HL.dB f d) σ H Q) : tCB r (eA X.K γ d) σ H Q := by
  obtain ⟨ρ, s, h, S, x⟩ := x
  refine ⟨ρ, s, h, S, zaP.bind x fun v h1 ρ1 H1 _ n1 S1 w1 x1 => ?_⟩
  exact hs ρ1 h1 H1 v Q S1 w1 (zh6 S1 (nw _ _) x1)
theorem zgZ {x : Str} {id : String} {p : Pos} {es : List Expr} {d : DA} {r : List V → Hp → VK → Prop} {f : List W → Sh → OR} (hc : zdN X (.builtin id) r) (hs : CbS X.K γ r f) (nw : ∀ x h, zdG (f x h) = true) (hg : Gl X x) (hm : X.mg x = none) (hv : bootBuiltins x = some (.builtin id)) (ha : QA γ X (e :: es) d)
    (hn : x ≠ "__name__" := by decide) (hdb : (x == ("__debug__" : Str)) = false := by decide) (he : starEach (e :: es) X.env = (false, eval e X.env) :: starEach es X.env := by rfl) (hpl : (backTo pos (starEach es X.env)).any (·.1) = false := by rfl) :
    QE γ X (.Call (.Name x p) (e :: es) [] pos) (HL.dB f d) := (zjA hc hg hm hv ha hn hdb he hpl).imp (cb_of hs nw)
theorem zhg {x : Str} {T : String} {p : Pos} {es : List Expr} {d : DA} {r : List V → Hp → VK → Prop} {f : List W → Sh → OR} (hc : zdN X (.type T) r) (hs : CbS X.K γ r f) (nw : ∀ x h, zdG (f x h) = true) (hg : Gl X x) (hm : X.mg x = none) (hv : bootBuiltins x = some (.type T)) (ha : QA γ X (e :: es) d)
    (hn : x ≠ "__name__" := by decide) (hdb : (x == ("__debug__" : Str)) = false := by decide) (he : starEach (e :: es) X.env = (false, eval e X.env) :: starEach es X.env := by rfl) (hpl : (backTo pos (starEach es X.env)).any (·.1) = false := by rfl) :
    QE γ X (.Call (.Name x p) (e :: es) [] pos) (HL.dB f d) := (zlI hc hg hm hv ha hn hdb he hpl).imp (cb_of hs nw)
theorem zb5 {n : Nat} (h : n ≤ HL.LIM) : n ≤ sizeLine := by
  have : HL.LIM = 100000 := rfl
  rw [sizeLine_eq]; omega
theorem zcS {es : List Expr} {d : DA} (ha : QA γ X es d) : QE γ X (.List es pos) (HL.dB HL.zbs d) :=
  (pe_lst ha).imp fun σ H Q x => by
    obtain ⟨ρ, s, h, S, x⟩ := x
    refine ⟨ρ, s, h, S, zaP.bind x fun v h1 ρ1 H1 _ n1 S1 w1 x1 => ?_⟩
    unfold HL.zbs at x1
    split at x1
    · rename_i hl
      exact ⟨by rw [List.length_map]; exact zb5 hl, zh6 S1 rfl x1 w1⟩
    · exact x1.elim
theorem zeB {x1} {es : List Expr} {d : DA} (ha : QA γ X es d) : QE γ X (.Tuple es x1 pos) (HL.dB HL.zeJ d) :=
  (pe_tup ha).imp fun σ H Q x => by
    obtain ⟨ρ, s, h, S, x⟩ := x
    refine ⟨ρ, s, h, S, zaP.bind x fun v h1 ρ1 H1 _ n1 S1 w1 x1 => ?_⟩
    unfold HL.zeJ at x1
    split at x1
    · rename_i hl
      exact ⟨by rw [List.length_map]; exact zb5 hl, zh6 S1 rfl x1 w1⟩
    · exact x1.elim
def tTrv (K : PySem.W.Frag) (ta : TE) : TT := fun σ H Q => ta σ H fun x H' => ∃ k, TruV K x H' k ∧ Q k H'
theorem tru_of (σ : St) (H : Hp) (Q : Bool → Hp → Prop) (x : eT X.K γ (HL.dT da) σ H Q) : tTrv X.K (eE X.K γ da) σ H Q := by
  obtain ⟨ρ, s, h, S, x⟩ := x
  refine ⟨ρ, s, h, S, zaP.bind x fun v h1 ρ1 H1 _ n1 S1 w1 x1 => ?_⟩
  have fin : ∀ b, HL.zco v h1 = some b → Q b H1 := fun b e => by
    simp only [e] at x1
    exact x1 ρ1 H1 (Nxt.refl _ _) S1 trivial
  cases v with
  | non => exact ⟨_, rfl, fin _ rfl⟩
  | bl b => exact ⟨_, rfl, fin _ rfl⟩
  | int i => exact ⟨_, rfl, fin _ rfl⟩
  | str y =>
    by_cases hl : y.length ≤ HL.LIM
    · exact ⟨_, ⟨zb5 hl, rfl⟩, fin _ (if_pos hl)⟩
    · simp only [HL.zco, if_neg hl] at x1
      exact x1.elim
  | ref i =>
    cases q : h1[i]? with
    | none => simp only [HL.zco, q] at x1; exact x1.elim
    | some o =>
      have ob := S1.ob i o q
      cases o with
      | lst xs => exact ⟨_, .inl ⟨_, SqL.of ob, rfl⟩, by have := fin (!xs.isEmpty) (by simp only [HL.zco, q]); simpa using this⟩
      | rol xs => exact ⟨_, .inl ⟨_, (show RoL _ _ _ _ from ob).sq, rfl⟩, by have := fin (!xs.isEmpty) (by simp only [HL.zco, q]); simpa using this⟩
      | tup xs => exact ⟨_, .inr (.inl ⟨_, ob, rfl⟩), by have := fin (!xs.isEmpty) (by simp only [HL.zco, q]); simpa using this⟩
      | ins c fs => simp only [HL.zco, q] at x1; exact x1.elim
      | exc c fs => simp only [HL.zco, q] at x1; exact x1.elim
  | ty n => exact x1.elim
  | gl n => exact x1.elim
theorem zgK (ha : QE γ X a da) (he : ∀ whole, isTrue a X.env whole = (do let v ← whole; standAt a.pos; holding [v] (truthy v)) := by intro _; rfl) : QT γ X a (HL.dT da) := (zmg ha he).imp tru_of
theorem test_of {t : TE} (ht : ∀ σ H Q, eE X.K γ da σ H Q → t σ H Q) (σ : St) (H : Hp) (Q : Bool → Hp → Prop) (x : eT X.K γ (HL.dT da) σ H Q) (bo : ∀ s h v h', da s h = .ok v h' → ∃ k, v = .bl k) : tTest t σ H Q := by
  obtain ⟨ρ, s, h, S, x⟩ := x
  refine ht σ H _ ⟨ρ, s, h, S, zaP.bind x fun v h1 ρ1 H1 e n1 S1 w1 x1 => ?_⟩
  obtain ⟨k, rfl⟩ := bo _ _ _ _ e
  exact ⟨k, rfl, x1 ρ1 H1 (Nxt.refl _ _) S1 trivial⟩
def Bo (f : HL.O2) : Prop := ∀ x y h, f x y h = .er ∨ ∃ k, f x y h = .val (.bl k)
theorem Bo.op {f : HL.O2} (b : Bo f) : ∀ s h v h', HL.dOp f da db s h = .ok v h' → ∃ k, v = .bl k := fun s h v h' e => by
  unfold HL.dOp HL.R.bind at e
  cases ea : da s h with
  | ok x h1 =>
    rw [ea] at e
    simp only at e
    cases eb : db s h1 with
    | ok y h2 =>
      rw [eb] at e
      simp only at e
      rcases b x y h2 with z | ⟨k, z⟩
      · rw [z] at e; cases e
      · rw [z] at e; cases e; exact ⟨k, rfl⟩
    | ex => rw [eb] at e; cases e
    | er => rw [eb] at e; cases e
  | ex => rw [ea] at e; cases e
  | er => rw [ea] at e; cases e
theorem zgb {op : CmpOp} {r : R2} {f : HL.O2} (ho : OpR X (compareOp op) r) (hs : OpS X.K γ r f) (nw : zcB f) (bo : Bo f) (ha : QE γ X a da) (hb : QE γ X b db) (hm : behindInMarks op b = false) : QT γ X (.Compare a [op] [b] pos) (HL.dT (HL.dOp f da db)) :=
  (pt_cmpR ho ha hb hm).imp fun σ H Q x => test_of (ziB hs nw) σ H Q x bo.op
section
variable {dA dB : DT} {zc1 : List Expr}
theorem not_of (σ : St) (H : Hp) (Q : Bool → Hp → Prop) (x : eT X.K γ (HL.zem dA) σ H Q) : zem (eT X.K γ dA) σ H Q := by
  obtain ⟨ρ, s, h, S, x⟩ := x
  exact ⟨ρ, s, h, S, zaP.bind x fun k h1 ρ1 H1 _ n1 S1 w1 x1 => x1 ρ1 H1 (Nxt.refl _ _) S1 trivial⟩
theorem zfH (ha : QT γ X a dA) : QT γ X (.UnaryOp .Not a pos) (HL.zem dA) := (pt_not ha).imp not_of
theorem and_of (σ : St) (H : Hp) (Q : Bool → Hp → Prop) (x : eT X.K γ (HL.zfP dA dB) σ H Q) : zfP (eT X.K γ dA) (eT X.K γ dB) σ H Q := by
  obtain ⟨ρ, s, h, S, x⟩ := x
  refine ⟨ρ, s, h, S, zaP.bind x fun k h1 ρ1 H1 _ n1 S1 w1 x1 => ?_⟩
  cases k with
  | true => exact ⟨ρ1, s, h1, S.next n1 S1, x1⟩
  | false => exact x1 ρ1 H1 (Nxt.refl _ _) S1 trivial
theorem or_of (σ : St) (H : Hp) (Q : Bool → Hp → Prop) (x : eT X.K γ (HL.tOr dA dB) σ H Q) : tOr (eT X.K γ dA) (eT X.K γ dB) σ H Q := by
  obtain ⟨ρ, s, h, S, x⟩ := x
  refine ⟨ρ, s, h, S, zaP.bind x fun k h1 ρ1 H1 _ n1 S1 w1 x1 => ?_⟩
  cases k with
  | false => exact ⟨ρ1, s, h1, S.next n1 S1, x1⟩
  | true => exact x1 ρ1 H1 (Nxt.refl _ _) S1 trivial
theorem zin (ha : QT γ X a dA) : QW γ X (.BoolOp .And [a] pos) dA := pw_and1 ha
theorem zga (ha : QT γ X a dA) : QW γ X (.BoolOp .Or [a] pos) dA := pw_or1 ha
theorem zio (ha : QT γ X a dA) (hb : QW γ X (.BoolOp .And (b :: zc1) pos) dB) : QW γ X (.BoolOp .And (a :: b :: zc1) pos) (HL.zfP dA dB) := (pw_and ha hb).imp and_of
theorem zgw (ha : QT γ X a dA) (hb : QW γ X (.BoolOp .Or (b :: zc1) pos) dB) : QW γ X (.BoolOp .Or (a :: b :: zc1) pos) (HL.tOr dA dB) := (pw_or ha hb).imp or_of
theorem zir (h : QW γ X a dA) : QT γ X a dA := h _
theorem zkK {op} (h : QE γ X a da) : QE γ X (.BoolOp op [a] pos) da := pe_one h
theorem zkM (ha : QE γ X a da) (hb : QE γ X (.BoolOp .And (b :: zc1) pos) db) : QE γ X (.BoolOp .And (a :: b :: zc1) pos) (HL.ziW da db) := (pe_and ha hb).imp fun σ H Q x => by
  obtain ⟨ρ, s, h, S, x⟩ := x
  refine ⟨ρ, s, h, S, zaP.bind x fun v h1 ρ1 H1 _ n1 S1 w1 x1 => ?_⟩
  cases v with
  | bl k =>
    refine ⟨k, rfl, ?_⟩
    cases k with
    | true => exact ⟨ρ1, s, h1, S.next n1 S1, x1⟩
    | false => exact x1 ρ1 H1 (Nxt.refl _ _) S1 trivial
  | _ => exact x1.elim
theorem q_not (ha : QE γ X a da) : QE γ X (.UnaryOp .Not a pos) (HL.dNot da) := (pe_not ha).imp fun σ H Q x => by
  obtain ⟨ρ, s, h, S, x⟩ := x
  refine ⟨ρ, s, h, S, zaP.bind x fun v h1 ρ1 H1 _ n1 S1 w1 x1 => ?_⟩
  cases v with
  | bl k => exact ⟨k, rfl, x1 ρ1 H1 (Nxt.refl _ _) S1 trivial⟩
  | _ => exact x1.elim
theorem q_if (hc : QT γ X c dA) (ha : QE γ X a da) (hb : QE γ X b db) : QE γ X (.IfExp c a b pos) (HL.dIf dA da db) := (zmo hc ha hb).imp fun σ H Q x => by
  obtain ⟨ρ, s, h, S, x⟩ := x
  refine ⟨ρ, s, h, S, zaP.bind x fun k h1 ρ1 H1 _ n1 S1 w1 x1 => ?_⟩
  cases k with
  | true => exact ⟨ρ1, s, h1, S.next n1 S1, x1⟩
  | false => exact ⟨ρ1, s, h1, S.next n1 S1, x1⟩
end
theorem zmX {r r' : R2} {f g : HL.O2} (hs : OpS X.K γ r f) (nw : zcB f) (bo : Bo f) (hs' : OpS X.K γ r' g) (nw' : zcB g) (σ : St) (H : Hp) (Q : VK) (x : eE X.K γ (HL.ze9 f g da db dc) σ H Q) : zl7 r r' (eE X.K γ da) (eE X.K γ db) (eE X.K γ dc) σ H Q := by
  obtain ⟨ρ, s, h, S, x⟩ := x
  refine ⟨ρ, s, h, S, zaP.bind x fun v h1 ρ1 H1 _ n1 S1 w1 x1 => ?_⟩
  refine ⟨ρ1, s, h1, S.next n1 S1, zaP.bind x1 fun u h2 ρ2 H2 _ n2 S2 w2 x2 => ?_⟩
  have T2 := (S.next n1 S1).next n2 S2
  rw [zdQ w1 n2.ag]
  refine hs ρ2 h2 H2 v u _ S2 (w1.mono n2.le) w2 ?_
  rcases bo v u h2 with z | ⟨k, z⟩
  · rw [z] at x2; exact x2.elim
  · rw [z] at x2 ⊢
    intro _
    refine ⟨k, rfl, ?_⟩
    cases k with
    | false => exact x2 ρ2 H2 (Nxt.refl _ _) S2 trivial
    | true =>
      have x2' : zhJ X.K γ ρ2 h2 ((dc s h2).bind fun w h => (g u w h).fin h) Q := x2
      refine ⟨ρ2, s, h2, T2, zaP.bind x2' fun t h3 ρ3 H3 _ n3 S3 w3 x3 => ?_⟩
      rw [zdQ w2 n3.ag]
      exact hs' ρ3 h3 H3 u t Q S3 (w2.mono n3.le) w3 (zh6 S3 (nw' _ _ _) x3)
theorem q_chain {op op' : CmpOp} {r r' : R2} {f g : HL.O2} (ho : OpR X (compareOp op) r) (hs : OpS X.K γ r f) (nw : zcB f) (bo : Bo f) (ho' : OpR X (compareOp op') r') (hs' : OpS X.K γ r' g) (nw' : zcB g) (ha : QE γ X a da) (hb : QE γ X b db) (hc : QE γ X c dc)
    (hm : lastMarks [op, op'] [b, c] = false := by with_unfolding_all rfl) : QE γ X (.Compare a [op, op'] [b, c] pos) (HL.ze9 f g da db dc) := (zmq ho ho' ha hb hc hm).imp (zmX hs nw bo hs' nw')
end
end L2
namespace L2
open PySem PySem.Spec PyProof.Rows
open HL (W SO Sh Sg OR DE DT DA DS Fn)
def spF (K : PySem.W.Frag) (γ : Str → Addr) (p : Nat) (f : Fn) : Sp := fun vs H Q _ => vs.length = p ∧ ∃ ρ h us, zbM K γ ρ h H ∧ wfs h.length us ∧ vs = us.map (zau γ ρ) ∧ zhJ K γ ρ h (f us h) Q
section
variable {X : Cx} {γ : Str → Addr} {a b c e : Expr} {da db dc de : DE} {pos : Pos}
theorem call_of {f : Fn} {p : Nat} {d : DA} (hp : ∀ us h v h', f us h = .ok v h' → us.length = p) (σ : St) (H : Hp) (Q : VK) (x : eE X.K γ (HL.zav f d) σ H Q) : tCall (spF X.K γ p f) [] E0 (eA X.K γ d) σ H Q := by
  obtain ⟨ρ, s, h, S, x⟩ := x
  refine ⟨ρ, s, h, S, zaP.bind x fun us h1 ρ1 H1 _ n1 S1 w1 x1 => ?_⟩
  rw [List.append_nil]
  refine ⟨?_, ρ1, h1, us, S1, w1, rfl, x1⟩
  rw [List.length_map]
  cases q : f us h1 with
  | ok v h' => exact hp _ _ _ _ q
  | ex => rw [q] at x1; exact x1.elim
  | er => rw [q] at x1; exact x1.elim
theorem zjN {p n : Nat} {b : DS} {us : List W} {h : Sh} {v : W} {h' : Sh} (e : HL.fnOf p n b us h = .ok v h') : us.length = p := by
  unfold HL.fnOf at e
  split at e
  · assumption
  · cases e
theorem zbw {x : Str} {k p n : Nat} {bd : DS} {ps : List Str} {pp : Pos} {es : List Expr} {d : DA} (D : Def X.prog X.w X.K X.mg X.base k x ps (spF X.K γ p (HL.fnOf p n bd))) (hr : zbr k X.A) (hg : Gl X x) (ha : QA γ X (e :: es) d) (hdb : (x == ("__debug__" : Str)) = false := by decide)
    (he : starEach (e :: es) X.env = (false, eval e X.env) :: starEach es X.env := by rfl) (hpl : (backTo pos (starEach es X.env)).any (·.1) = false := by rfl) : QE γ X (.Call (.Name x pp) (e :: es) [] pos) (HL.zav (HL.fnOf p n bd) d) :=
  (pe_def D hr hg ha hdb he hpl).imp (call_of fun _ _ _ _ => zjN)
theorem zbl : QSs γ X [] HL.sNx := zkX.imp fun D σ H ⟨ρ, s, h, S, x⟩ => by rw [S.eq]; exact x ρ H (Nxt.refl _ _) S.hp S.ws
theorem seq_of' {d1 d2 : DS} (D : zhL) (σ : St) (H : Hp) (x : eS X.K γ (HL.zaq d1 d2) D σ H) : tSeq (eS X.K γ d1) (eS X.K γ d2) D σ H := by
  obtain ⟨ρ, s, h, S, x⟩ := x
  refine ⟨ρ, s, h, S, ?_⟩
  unfold HL.zaq at x
  cases q : d1 s h with
  | nx s1 h1 =>
    rw [q] at x
    exact fun ρ1 H1 n1 S1 w1 => ⟨ρ1, s1, h1, ⟨S1, w1, rfl⟩, zff.later x n1⟩
  | rt v h1 => rw [q] at x; exact x
  | bk s1 h1 => rw [q] at x; exact x
  | ct s1 h1 => rw [q] at x; exact x
  | ex => rw [q] at x; exact x.elim
  | er => rw [q] at x; exact x.elim
theorem zak {st : Stmt} {zc1 : List Stmt} {d1 d2 : DS} (h1 : QS γ X st d1) (h2 : QSs γ X zc1 d2) : QSs γ X (st :: zc1) (HL.zaq d1 d2) := (zjx h1 h2).imp seq_of'
theorem zas {st : Stmt} {d1 : DS} (h1 : QS γ X st d1) : QSs γ X [st] d1 := ziy h1
theorem zaO (he : QE γ X e de) : QS γ X (.Return (some e) pos) (HL.za5 de) := (zmh he).imp fun D σ H ⟨ρ, s, h, S, x⟩ => by
  refine ⟨ρ, s, h, S, ?_⟩
  unfold HL.za5 at x
  cases q : de s h with
  | ok v h1 => rw [q] at x; exact x
  | ex => rw [q] at x; exact x.elim
  | er => rw [q] at x; exact x.elim
theorem zis (he : QE γ X e de) (hs : swapsWith e none pos.line X.env = pure false := by rfl) : QS γ X (.Expr e pos) (HL.zd4 de) := (ps_expr he hs).imp fun D σ H ⟨ρ, s, h, S, x⟩ => by
  refine ⟨ρ, s, h, S, ?_⟩
  unfold HL.zd4 at x
  cases q : de s h with
  | ok v h1 =>
    rw [q] at x
    intro ρ1 H1 n1 S1 w1
    have z := x ρ1 H1 n1 S1 (S.ws.mono n1.le)
    rw [(S.next n1 S1).eq]; exact z
  | ex => rw [q] at x; exact x.elim
  | er => rw [q] at x; exact x.elim
theorem zj0 {n i : Nat} {s : Sg} {v : W} (w : wfS n s) (wv : wf n v) : wfS n (s.set i (some v)) := fun y hy => by
  rcases List.mem_or_eq_of_mem_set hy with z | z
  · exact w y z
  · cases z; exact wv
theorem zhd {ρ : Nat → Addr} {i : Nat} {s : Sg} {v : W} : zeG γ ρ (s.set i (some v)) = (zeG γ ρ s).set i (some (zau γ ρ v)) := by
  unfold zeG
  rw [List.map_set]
  rfl
theorem qs_set {i : Nat} {x : Str} {pos' : Pos} (hN : X.N.Nodup) (hi : X.N[i]? = some x) (hx : Loc X.env.scope x) (he : QE γ X e de) (hs : swapsWith e (some (.Name x pos')) pos.line X.env = pure false := by rfl) (hf : X.fn x = true ∨ X.env.scope.names.lookup x = some .local := by first | exact .inl rfl | exact .inr rfl | assumption) :
    QS γ X (.Assign [.Name x pos'] e pos) (HL.zaE i de) := (ps_set hN hi hx he hs hf).imp fun D σ H ⟨ρ, s, h, S, x⟩ => by
  refine ⟨ρ, s, h, S, ?_⟩
  unfold HL.zaE at x
  cases q : de s h with
  | ok v h1 =>
    rw [q] at x
    intro ρ1 H1 n1 S1 w1
    have z := x ρ1 H1 n1 S1 (zj0 (S.ws.mono n1.le) w1)
    rw [zhd, ← (S.next n1 S1).eq] at z
    exact z
  | ex => rw [q] at x; exact x.elim
  | er => rw [q] at x; exact x.elim
theorem zbP {dc : DT} {d1 d2 : DS} {s1 s2 : List Stmt} (hc : QT γ X c dc) (ha : QSs γ X s1 d1) (hb : QSs γ X s2 d2) : QS γ X (.If c s1 s2 pos) (HL.sIf dc d1 d2) := (ps_if hc ha hb).imp fun D σ H ⟨ρ, s, h, S, x⟩ => by
  refine ⟨ρ, s, h, S, ?_⟩
  unfold HL.sIf at x
  cases q : dc s h with
  | ok k h1 =>
    rw [q] at x
    intro ρ1 H1 n1 S1 w1
    cases k with
    | true => exact ⟨ρ1, s, h1, S.next n1 S1, zff.later x n1⟩
    | false => exact ⟨ρ1, s, h1, S.next n1 S1, zff.later x n1⟩
  | ex => rw [q] at x; exact x.elim
  | er => rw [q] at x; exact x.elim
theorem ix_eq (n : Nat) (i : Int) : HL.ixW n i = ixN n i := rfl
theorem zeP {o i : Expr} {d1 d2 : DE} {p2 : Pos} (he : QE γ X e de) (ho : QE γ X o d1) (hi : QE γ X i d2)
    (ha : ∀ v, assign (.Subscript o i p2) X.env v = (do
      let ov ← holding [v] (eval o X.env)
      let iv ← holding [v, ov] (eval i X.env)
      standAt p2
      holding [v, ov, iv] (setItem ov iv v)
      release [v, ov, iv] []) := by intro _; rfl)
    (hs : swapsWithSole [.Subscript o i p2] e pos.line X.env = pure false := by rfl) (hw : swappedStores [.Subscript o i p2] e X.env = pure none := by rfl)
    (h1 : (assignEach [.Subscript o i p2] X.env).map (·.2) = [assign (.Subscript o i p2) X.env] := by rfl) : QS γ X (.Assign [.Subscript o i p2] e pos) (HL.zdh d1 d2 de) :=
  (ps_asg he (pg_sub ho hi zma ha) hs hw h1).imp fun D σ H ⟨ρ, s, h, S, x⟩ => by
  unfold HL.zdh at x
  refine ⟨ρ, s, h, S, ?_⟩
  cases q : de s h with
  | ok v h1 =>
    rw [q] at x
    intro ρ1 H1 n1 S1 w1
    have T1 := S.next n1 S1
    refine ⟨ρ1, s, h1, T1, ?_⟩
    simp only [HL.R.bind] at x
    cases q2 : d1 s h1 with
    | ok xo h2 =>
      rw [q2] at x
      intro ρ2 H2 n2 S2 w2
      have T2 := T1.next n2 S2
      refine ⟨ρ2, s, h2, T2, ?_⟩
      simp only at x
      cases q3 : d2 s h2 with
      | ok y h3 =>
        rw [q3] at x
        intro ρ3 H3 n3 S3 w3
        have T3 := T2.next n3 S3
        simp only at x
        cases xo with
        | ref pp =>
          cases y with
          | int k =>
            simp only at x
            cases q4 : h3[pp]? with
            | none => rw [q4] at x; exact x.elim
            | some ob =>
              rw [q4] at x
              cases ob with
              | lst xs =>
                simp only at x
                cases q5 : HL.ixW xs.length k with
                | none => rw [q5] at x; exact x.elim
                | some j =>
                  rw [q5] at x
                  have ob := S3.ob pp _ q4
                  have wv := (w1.mono n2.le).mono n3.le
                  refine ⟨ρ2 pp, xs.map (zau γ ρ3), k, j, rfl, rfl, ?_, by rw [List.length_map]; exact q5, ?_⟩
                  · rw [n3.ag pp w2]; exact ob
                  · have S4 : zbM X.K γ ρ3 (h3.set pp (.lst (xs.set j v))) (upd H3 (ρ3 pp) (.lst ((xs.set j v).map (zau γ ρ3)))) := S3.chg q4 rfl rfl (by
                      intro y hy
                      rcases List.mem_or_eq_of_mem_set hy with z | z
                      · exact S3.wf pp _ q4 y z
                      · cases z; exact wv) zba
                    have z := x ρ3 _ (((n1.trans n2).trans n3).trans (Nxt.chg _ _ _ _)) S4 (by rw [List.length_set]; exact T3.ws)
                    rw [← T3.eq] at z
                    rw [n3.ag pp w2, zdQ w1 (n2.trans n3).ag, ← List.map_set]
                    exact z
              | _ => exact x.elim
          | _ => exact x.elim
        | _ => exact x.elim
      | ex => rw [q3] at x; exact x.elim
      | er => rw [q3] at x; exact x.elim
    | ex => rw [q2] at x; exact x.elim
    | er => rw [q2] at x; exact x.elim
  | ex => rw [q] at x; exact x.elim
  | er => rw [q] at x; exact x.elim
def eG (K : PySem.W.Frag) (γ : Str → Addr) (d : HL.DG) : TG := fun v σ H Q => ∃ ρ s h w, Sim K γ ρ s h σ H ∧ v = zau γ ρ w ∧ wf h.length w ∧ ∃ s', d w s h = some s' ∧ (wfS h.length s' → Q (zeG γ ρ s') H)
abbrev QG (γ : Str → Addr) (X : Cx) (e : Expr) (d : HL.DG) : Prop := PG X e (eG X.K γ d)
theorem PG.imp {X : Cx} {e : Expr} {t t' : TG} (h : PG X e t) (i : ∀ v σ H Q, t' v σ H Q → t v σ H Q) : PG X e t' := fun pins s σ H v u Q I r hw => h pins s σ H v u Q I r (i _ _ _ _ hw)
theorem qg_name {i : Nat} {x : Str} (hN : X.N.Nodup) (hi : X.N[i]? = some x) (hx : Loc X.env.scope x) (hf : X.fn x = true ∨ X.env.scope.names.lookup x = some .local := by first | exact .inl rfl | exact .inr rfl | assumption) : QG γ X (.Name x pos) (HL.zck i) :=
  (zkY hN hi hx hf).imp fun v σ H Q ⟨ρ, s, h, w, S, e, ww, s', e', q⟩ => by
    cases e'
    have z := q (zj0 S.ws ww)
    rw [zhd, ← S.eq, ← e] at z
    exact z
def iSq (K : PySem.W.Frag) (tl : TE) : TI := fun σ H R => tl σ H fun x H1 => ∃ a, x = .ref a ∧ ((∃ xs, SqL K H1 a xs) ∧ R (Itl K a) H1 ∨ (∃ xs, SqT K H1 a xs) ∧ R (Itt K a) H1)
theorem pi_sq {tg l : Expr} {tl : TE} (hl : PE X l tl) : PI X tg l (iSq X.K tl) := by
  intro pins s σ H R I h
  refine thn (hl pins s σ H _ I h) fun v s1 ⟨x, H1, I1, r1, q1⟩ => ?_
  obtain ⟨a, e, q⟩ := q1
  subst e
  cases r1
  rcases q with ⟨⟨xs, hq⟩, q⟩ | ⟨⟨xs, hq⟩, q⟩
  · obtain ⟨its, rv, p, hz⟩ := I1.list hq
    refine wpAny_pyIter_list p.isList ?_
    refine ⟨s1.heap.objs.size, [s1.heap.objs.size], _, _, H1, rfl, I1.kept (t' := s1.toks) fun b o e => Heap.get?_push_of_some _ e, zlz a _, ⟨_, Heap.get?_push_size _ rfl, rfl, rfl⟩, fun b hb => ?_, q⟩
    have e : b = s1.heap.objs.size := by simpa using hb
    subst e
    exact I1.fpOk (Nat.le_refl _) (I1.hok.fresh (Nat.le_refl _))
  · obtain ⟨its, rv, p, hz⟩ := I1.tuple hq
    refine wpAny_pyIter_tuple (show s1.heap.IsTuple a its.toArray from p) ?_
    refine ⟨s1.heap.objs.size, [s1.heap.objs.size], _, _, H1, rfl, I1.kept (t' := s1.toks) fun b o e => Heap.get?_push_of_some _ e, zj1 a _, ⟨_, Heap.get?_push_size _ rfl, rfl, rfl⟩, fun b hb => ?_, q⟩
    have e : b = s1.heap.objs.size := by simpa using hb
    subst e
    exact I1.fpOk (Nat.le_refl _) (I1.hok.fresh (Nat.le_refl _))
def Wlk (K : PySem.W.Frag) (γ : Str → Addr) (J : It) (t : HL.It) (h₀ : Sh) (ρ₀ : Nat → Addr) : Prop := wfs h₀.length t.items ∧ ∀ ρ h H, Nxt h₀ ρ₀ h ρ → zbM K γ ρ h H → t.stays h → ∀ i : Nat,
  (t.items.length ≤ i → J.stop i H) ∧ ∀ x, t.items[i]? = some x → J.go i H ∧ ∀ v H', J.yld i H v H' → H' = H ∧ v = zau γ ρ x
def eI (K : PySem.W.Frag) (γ : Str → Addr) (d : HL.DI) : TI := fun σ H R => ∃ ρ s h, Sim K γ ρ s h σ H ∧ (match d s h with
  | .ok t h1 => ∀ ρ1 H1 J, Nxt h ρ h1 ρ1 → zbM K γ ρ1 h1 H1 → t.stays h1 → Wlk K γ J t h1 ρ1 → R J H1
  | _ => False)
abbrev QI (γ : Str → Addr) (X : Cx) (tg e : Expr) (d : HL.DI) : Prop := PI X tg e (eI X.K γ d)
theorem PI.imp {X : Cx} {tg e : Expr} {t t' : TI} (h : PI X tg e t) (i : ∀ σ H Q, t' σ H Q → t σ H Q) : PI X tg e t' := fun pins s σ H R I hw => h pins s σ H R I (i _ _ _ hw)
theorem zit {tg : Expr} (ha : QE γ X a da) : QI γ X tg a (HL.zgR da) := (pi_sq ha).imp fun σ H R ⟨ρ, s, h, S, x⟩ => by
  refine ⟨ρ, s, h, S, ?_⟩
  unfold HL.zgR at x
  cases q : da s h with
  | ok v h1 =>
    rw [q] at x
    simp only [HL.R.bind] at x
    intro ρ1 H1 n1 S1 w1
    cases v with
    | ref i =>
      simp only at x
      refine ⟨ρ1 i, rfl, ?_⟩
      cases q3 : HL.lstW h1 (.ref i) with
      | some xs =>
        rw [q3] at x
        obtain ⟨j, e, sq, w⟩ := zg0 S1 q3
        cases e
        refine .inl ⟨⟨_, sq⟩, x ρ1 H1 _ n1 S1 q3 ⟨w, fun ρ2 h2 H2 n2 S2 st k => ?_⟩⟩
        obtain ⟨j, e, sq2, w2⟩ := zg0 S2 (show HL.lstW h2 (.ref i) = some xs from st)
        cases e
        rw [← n2.ag i w1] at sq2
        refine ⟨fun le => ⟨_, sq2, by rw [List.length_map]; exact le⟩, fun y hy => ?_⟩
        have e2 : (xs.map (zau γ ρ2))[k]? = some (zau γ ρ2 y) := by rw [List.getElem?_map, show xs[k]? = some y from hy]; rfl
        exact ⟨⟨_, _, sq2, e2⟩, fun v H' ⟨e, u⟩ => ⟨e, (Option.some.inj ((u _ sq2).symm.trans e2))⟩⟩
      | none =>
        rw [q3] at x
        simp only at x
        cases q4 : HL.zcR h1 (.ref i) with
        | none => rw [q4] at x; exact x.elim
        | some xs =>
          rw [q4] at x
          obtain ⟨j, e, sq, w⟩ := zgX S1 q4
          cases e
          refine .inr ⟨⟨_, sq⟩, x ρ1 H1 _ n1 S1 q4 ⟨w, fun ρ2 h2 H2 n2 S2 st k => ?_⟩⟩
          obtain ⟨j, e, sq2, w2⟩ := zgX S2 (show HL.zcR h2 (.ref i) = some xs from st)
          cases e
          rw [← n2.ag i w1] at sq2
          refine ⟨fun le => ⟨_, sq2, by rw [List.length_map]; exact le⟩, fun y hy => ?_⟩
          have e2 : (xs.map (zau γ ρ2))[k]? = some (zau γ ρ2 y) := by rw [List.getElem?_map, show xs[k]? = some y from hy]; rfl
          exact ⟨⟨_, _, sq2, e2⟩, fun v H' ⟨e, u⟩ => ⟨e, (Option.some.inj ((u _ sq2).symm.trans e2))⟩⟩
    | _ => exact x.elim
  | ex => rw [q] at x; exact x.elim
  | er => rw [q] at x; exact x.elim
theorem zlw {K : PySem.W.Frag} (lo : Int) (n : Nat) (h : Sh) (ρ : Nat → Addr) : Wlk K γ (Itr lo n) (.fix (HL.zcv lo n)) h ρ := by
  have len : (HL.zcv lo n).length = n := by unfold HL.zcv; rw [List.length_map, List.length_range]
  refine ⟨fun y hy => ?_, fun ρ2 h2 H2 n2 S2 st k => ⟨fun le => ?_, fun y hy => ?_⟩⟩
  · obtain ⟨k, _, rfl⟩ := List.mem_map.mp hy
    exact trivial
  · have le' : (HL.zcv lo n).length ≤ k := le
    rw [len] at le'
    exact le'
  · have hy' : (HL.zcv lo n)[k]? = some y := hy
    have hk : k < n := by
      have := (List.getElem?_eq_some_iff.mp hy').1
      rw [len] at this; exact this
    unfold HL.zcv at hy'
    rw [List.getElem?_map, List.getElem?_range hk] at hy'
    cases hy'
    exact ⟨hk, fun v H' ⟨e, u⟩ => ⟨e, u⟩⟩
theorem zgc {tg : Expr} {p : Pos} (hg : Gl X "range") (hm : X.mg "range" = none) (ha : QE γ X a da) (hs : starEach [a] X.env = [(false, eval a X.env)] := by rfl) : QI γ X tg (.Call (.Name "range" p) [a] [] pos) (HL.zdi da) :=
  (zlH hg hm (zab ha zaf hs) hs).imp fun σ H R ⟨ρ, s, h, S, x⟩ => by
  refine ⟨ρ, s, h, S, ?_⟩
  unfold HL.zdi at x
  unfold HL.zaa HL.zad
  cases q : da s h with
  | ok v h1 =>
    rw [q] at x
    simp only [HL.R.bind] at x
    intro ρ1 H1 n1 S1 w1
    cases v with
    | int j =>
      by_cases hj : -(2 ^ 62) ≤ j ∧ j < 2 ^ 62
      · simp only [if_pos hj] at x
        exact ⟨j, rfl, hj.1, hj.2, x ρ1 H1 _ n1 S1 trivial (zlw _ _ _ _)⟩
      · simp only [if_neg hj] at x
    | _ => exact x.elim
  | ex => rw [q] at x; exact x.elim
  | er => rw [q] at x; exact x.elim
theorem for_of {di : HL.DI} {g : HL.DG} {bd : DS} (D : zhL) (σ : St) (H : Hp) (x : eS X.K γ (HL.zgJ di g bd) D σ H) : tFor (eI X.K γ di) (eG X.K γ g) (eS X.K γ bd) D σ H := by
  obtain ⟨ρ, s, h, S, x⟩ := x
  unfold HL.zgJ at x
  refine ⟨ρ, s, h, S, ?_⟩
  cases q : di s h with
  | ex => rw [q] at x; exact x.elim
  | er => rw [q] at x; exact x.elim
  | ok t h1 =>
    rw [q] at x
    simp only at x
    intro ρ1 H1 J n1 S1 st ⟨wi, wl⟩
    have T1 := S.next n1 S1
    let St' : Nat → St → Hp → Prop := fun i σ' H' => i ≤ t.items.length ∧ ∃ ρ2 s2 h2, Sim X.K γ ρ2 s2 h2 σ' H' ∧ Nxt h1 ρ1 h2 ρ2 ∧ t.stays h2 ∧ zff X.K γ ρ2 h2 (HL.zhQ t g bd (t.items.drop i) s2 h2) D
    refine ⟨fun i m σ' H' => m = t.items.length - i ∧ St' i σ' H', ⟨_, rfl, Nat.zero_le _, ρ1, s, h1, T1, Nxt.refl _ _, st, zff.later x n1⟩, ?_⟩
    rintro i m σ' H' ⟨rfl, hi, ρ2, s2, h2, T2, n2, st2, g2⟩
    obtain ⟨w1, w2⟩ := wl ρ2 h2 H' n2 T2.hp st2 i
    cases e : t.items[i]? with
    | none =>
      have hl : t.items.length ≤ i := List.getElem?_eq_none_iff.mp e
      rw [List.drop_eq_nil_of_le hl] at g2
      refine .inl ⟨w1 hl, ?_⟩
      have z := g2 ρ2 H' (Nxt.refl _ _) T2.hp T2.ws
      rw [T2.eq]; exact z
    | some y =>
      obtain ⟨hlt, ey⟩ := List.getElem?_eq_some_iff.mp e
      obtain ⟨go, yl⟩ := w2 y e
      refine .inr ⟨go, St' (i + 1), fun σ3 H3 z => ⟨_, by omega, rfl, z⟩, fun v H3 hv => ?_⟩
      obtain ⟨rfl, rfl⟩ := yl v H3 hv
      rw [List.drop_eq_getElem_cons hlt, ey] at g2
      unfold HL.zhQ at g2
      have wy : wf h2.length y := (wi y (List.mem_of_getElem? e)).mono n2.le
      cases q3 : g y s2 h2 with
      | none => rw [q3] at g2; exact g2.elim
      | some s3 =>
        rw [q3] at g2
        simp only at g2
        refine ⟨ρ2, s2, h2, y, T2, rfl, wy, s3, q3, fun w3 => ⟨ρ2, s3, h2, ⟨T2.hp, w3, rfl⟩, ?_⟩⟩
        cases q4 : bd s3 h2 with
        | nx s4 h4 =>
          rw [q4] at g2
          simp only at g2
          split at g2
          · rename_i st4
            exact fun ρ4 H4 n4 S4 w4 => ⟨hlt, ρ4, s4, h4, ⟨S4, w4, rfl⟩, n2.trans n4, st4, zff.later g2 n4⟩
          · exact g2.elim
        | ct s4 h4 =>
          rw [q4] at g2
          simp only at g2
          split at g2
          · rename_i st4
            exact fun ρ4 H4 n4 S4 w4 => ⟨hlt, ρ4, s4, h4, ⟨S4, w4, rfl⟩, n2.trans n4, st4, zff.later g2 n4⟩
          · exact g2.elim
        | bk s4 h4 => rw [q4] at g2; exact g2
        | rt v4 h4 => rw [q4] at g2; exact g2
        | ex => rw [q4] at g2; exact g2.elim
        | er => rw [q4] at g2; exact g2.elim
theorem zj8 {tg iter : Expr} {body : List Stmt} {di : HL.DI} {g : HL.DG} {bd : DS} (hp : PassesOwn (model X.prog X.w) X.A X.env X.xe) (hc : X.calm = true) (hi : QI γ X tg iter di) (hg : QG γ X tg g) (hb : QSs γ X body bd)
    (hs : ∀ x, foldedSetIterable iter X.env x = pure x := by intro _; rfl) : QS γ X (.For tg iter body [] pos) (HL.zgJ di g bd) := (ps_for hp hc hi hg hb hs).imp for_of
end
theorem zhc {γ : Str → Addr} {ρ : Nat → Addr} (N : List Str) (us : List W) : start N (us.map (zau γ ρ)) = zeG γ ρ (HL.start N.length us) := by
  unfold start zeG HL.start
  rw [List.map_append, List.map_map, List.map_map, List.map_replicate, List.length_map]
  rfl
theorem zi9 {n m : Nat} {us : List W} (w : wfs n us) : wfS n (HL.start m us) := fun x hx => by
  unfold HL.start at hx
  rcases List.mem_append.mp hx with z | z
  · obtain ⟨y, hy, e⟩ := List.mem_map.mp z
    cases e; exact w _ hy
  · cases (List.mem_replicate.mp z).2
theorem ziV {K : PySem.W.Frag} {γ : Str → Addr} {ρ : Nat → Addr} {h : Sh} {H : Hp} {N : List Str} {us : List W} {bd : DS} {Q : VK} {p : Nat} (S : zbM K γ ρ h H) (w : wfs h.length us) (x : zhJ K γ ρ h (HL.fnOf p N.length bd us h) Q) :
    eS K γ bd { nx := fun _ H' => Q .non H', rt := Q } (start N (us.map (zau γ ρ))) H := by
  refine ⟨ρ, HL.start N.length us, h, ⟨S, zi9 w, zhc N us⟩, ?_⟩
  unfold HL.fnOf at x
  split at x
  · cases q : bd (HL.start N.length us) h with
    | nx s' h' => rw [q] at x; exact fun ρ1 H1 n1 S1 _ => x ρ1 H1 n1 S1 trivial
    | rt v h' => rw [q] at x; exact fun ρ1 H1 n1 S1 w1 => x ρ1 H1 n1 S1 w1
    | bk => rw [q] at x; exact x.elim
    | ct => rw [q] at x; exact x.elim
    | ex => rw [q] at x; exact x.elim
    | er => rw [q] at x; exact x.elim
  · exact x.elim
section
variable {P : Program} {w : World} {K : PySem.W.Frag} {mg : Str → Option Value} {base : Heap} {γ : Str → Addr}
theorem zaG.qdef {x : Str} {st : Stmt} {N ps : List Str} {k p n : Nat} {bd : DS} (F : zaG K mg x st) (S : zaH N ps (zai st)) (hp : ps.length = p) (hn : N.length = n)
    (hb : ∀ (kV doc pm : Value) (an : Option Addr) (cdv ct : Value) (us : List Value), us.length = ps.length → bindArgs (PySem.W.fnOf x x (zbJ st) (zaY st) (zai st) .none kV doc pm an cdv ct) ⟨us, []⟩ = pure (ps.zip us))
    (hbody : ∀ (f : Addr) (cdv : Value) (A : Around) (outer : List Env) (s : Shared) (H : Hp) (E : XK), zbr k (A.deeper (envOfC x (zai st) s.heap.objs.size f cdv)) →
      QSs γ (zgr CX0 P w K mg base N x (zai st) f cdv A outer s H E).nox (zaY st) bd) : Def P w K mg base (k + 1) x ps (spF K γ p (HL.fnOf p n bd)) :=
  F.mk_def S hb (fun vs H Q E h => h.1.trans hp.symm) fun f cdv A outer s H vs Q E hr h => ⟨_, hbody f cdv A outer s H E hr, by
    obtain ⟨_, ρ, hh, us, S, wu, e, x⟩ := h
    rw [e]
    subst hn
    exact ziV S wu x⟩
end
end L2
namespace L2
open PySem PySem.Spec PyProof.Rows
open HL (W SO Sh Sg OR DE DT DA DS Fn)
section
variable {X : Cx} {K : PySem.W.Frag} {γ : Str → Addr}
theorem ziz {c : Int → Int → Bool} {C : Int → Int → Prop} {f : Int → Int → Int} (hc : ∀ i j, c i j = true → C i j) : OpS K γ (rI C fun i j => .int (f i j)) (HL.zgk c f) := by
  intro ρ h H x y Q S wx wy q
  cases x with
  | int i =>
    cases y with
    | int j =>
      unfold HL.zgk at q
      simp only at q
      split at q
      · rename_i z; exact ⟨i, j, rfl, rfl, hc i j z, q trivial⟩
      · exact q.elim
    | _ => exact q.elim
  | _ => cases y <;> exact q.elim
theorem ziK {c : Int → Int → Bool} {f : Int → Int → Int} : zcB (HL.zgk c f) := by
  intro x y h
  unfold HL.zgk
  cases x <;> cases y <;> first | rfl | (simp only; split <;> rfl)
theorem ziA {p : Int → Int → Bool} : OpS K γ (rI0 fun i j => .bl (p i j)) (HL.zhP p) := by
  intro ρ h H x y Q S wx wy q
  cases x with
  | int i =>
    cases y with
    | int j => exact ⟨i, j, rfl, rfl, q trivial⟩
    | _ => exact q.elim
  | _ => cases y <;> exact q.elim
theorem zfK {p : Int → Int → Bool} : Bo (HL.zhP p) := by
  intro x y h
  unfold HL.zhP
  cases x <;> cases y <;> first | exact .inl rfl | exact .inr ⟨_, rfl⟩
theorem Bo.nw {f : HL.O2} (b : Bo f) : zcB f := fun x y h => by
  rcases b x y h with z | ⟨k, z⟩ <;> rw [z] <;> rfl
def rAddA (K : PySem.W.Frag) : R2 := fun x y H Q => (rI0 (fun i j => .int (i + j)) x y H Q) ∨ (∃ i j, x = .str i ∧ y = .str j ∧ i.length + j.length ≤ sizeLine ∧ Q (.str (i ++ j)) H) ∨ rCat x y H Q ∨ rCatT K x y H Q
theorem op_addA : OpR X (binaryOp .Add) (rAddA X.K) := op_add.or (zj9.or (op_cat.or op_catT))
theorem os_add : OpS K γ (rAddA K) HL.zbc := by
  intro ρ h H x y Q S wx wy q
  cases x with
  | int i =>
    cases y with
    | int j => exact .inl ⟨i, j, rfl, rfl, q trivial⟩
    | _ => exact q.elim
  | str i =>
    cases y with
    | str j =>
      unfold HL.zbc at q
      simp only at q
      split at q
      · rename_i z; exact .inr (.inl ⟨i, j, rfl, rfl, zb5 z, q trivial⟩)
      · exact q.elim
    | _ => exact q.elim
  | ref i =>
    cases y with
    | ref j =>
      unfold HL.zbc at q
      simp only at q
      split at q
      · rename_i xs ys e1 e2
        split at q
        · rename_i z
          refine .inr (.inr (.inl ⟨ρ i, ρ j, xs.map (zau γ ρ), ys.map (zau γ ρ), rfl, rfl, S.ob i _ e1, S.ob j _ e2, by rw [List.length_map, List.length_map]; exact zb5 z, fun p hp => ?_⟩))
          rw [← List.map_append]
          refine q ?_ p hp
          intro y hy
          rcases List.mem_append.mp hy with z | z
          · exact S.wf i _ e1 y z
          · exact S.wf j _ e2 y z
        · exact q.elim
      · rename_i xs ys e1 e2
        split at q
        · rename_i z
          refine .inr (.inr (.inr ⟨ρ i, ρ j, xs.map (zau γ ρ), ys.map (zau γ ρ), rfl, rfl, S.ob i _ e1, S.ob j _ e2, ?_, by rw [List.length_map, List.length_map]; exact zb5 z.1, fun ey => ?_, fun ey p hp => ?_⟩))
          · intro e; exact z.2 (List.map_eq_nil_iff.mp e)
          · rw [if_pos (List.map_eq_nil_iff.mp ey)] at q
            exact q wx
          · rw [if_neg (fun e => ey (by rw [e]; rfl))] at q
            rw [← List.map_append]
            refine q ?_ p hp
            intro y hy
            rcases List.mem_append.mp hy with z | z
            · exact S.wf i _ e1 y z
            · exact S.wf j _ e2 y z
        · exact q.elim
      · exact q.elim
    | _ => exact q.elim
  | _ => cases y <;> exact q.elim
theorem nw_add : zcB HL.zbc := by
  intro x y h
  unfold HL.zbc
  cases x <;> cases y <;> first | rfl | (simp only; repeat' (first | rfl | split))
def rMulA : R2 := fun x y H Q => rI CMul (fun i j => .int (i * j)) x y H Q ∨ rRep x y H Q
theorem op_mulA : OpR X (binaryOp .Mult) rMulA := op_mul.or op_rep
theorem mulOk_c {i j : Int} (h : HL.zbm i j = true) : CMul i j := by
  unfold HL.zbm at h
  rcases (Bool.or_eq_true _ _).mp h with z | z
  · have := of_decide_eq_true z
    exact .inl ⟨by omega, by omega⟩
  · have := of_decide_eq_true z
    exact .inr ⟨by omega, by omega⟩
theorem os_mul : OpS K γ rMulA HL.zcE := by
  intro ρ h H x y Q S wx wy q
  cases x with
  | int i =>
    cases y with
    | int j =>
      unfold HL.zcE at q
      simp only at q
      split at q
      · rename_i z; exact .inl ⟨i, j, rfl, rfl, mulOk_c z, q trivial⟩
      · exact q.elim
    | _ => exact q.elim
  | ref i =>
    cases y with
    | int k =>
      unfold HL.zcE at q
      simp only at q
      split at q
      · rename_i xs e
        split at q
        · rename_i z
          refine .inr ⟨ρ i, k, xs.map (zau γ ρ), rfl, rfl, S.ob i _ e, by omega, by omega, by rw [List.length_map]; exact zb5 z.2.2, fun p hp => ?_⟩
          have e2 : (List.replicate k.toNat (xs.map (zau γ ρ))).flatten = ((List.replicate k.toNat xs).flatten).map (zau γ ρ) := by rw [List.map_flatten, List.map_replicate]
          first
            | rw [e2]; exact q (fun y hy => by
                obtain ⟨l, hl, hy⟩ := List.mem_flatten.mp hy
                rw [(List.mem_replicate.mp hl).2] at hy
                exact S.wf i _ e y hy) p hp
            | skip
        · exact q.elim
      · exact q.elim
    | _ => exact q.elim
  | _ => cases y <;> exact q.elim
theorem nw_mul : zcB HL.zcE := by
  intro x y h
  unfold HL.zcE
  cases x <;> cases y <;> first | rfl | (simp only; repeat' (first | rfl | split))
theorem os_isN : OpS K γ (fun x y H Q => y = .non ∧ Q (.bl (decide (x = .non))) H) HL.oIs := by
  intro ρ h H x y Q S wx wy q
  unfold HL.oIs at q
  cases y with
  | non => exact ⟨rfl, by have := q trivial; cases x <;> exact this⟩
  | _ => exact q.elim
theorem zk6 : OpS K γ (fun x y H Q => y = .non ∧ Q (.bl (!decide (x = .non))) H) HL.zcH := by
  intro ρ h H x y Q S wx wy q
  unfold HL.zcH at q
  cases y with
  | non => exact ⟨rfl, by have := q trivial; cases x <;> exact this⟩
  | _ => exact q.elim
theorem bo_is : Bo HL.oIs := by
  intro x y h; unfold HL.oIs; cases y <;> first | exact .inl rfl | exact .inr ⟨_, rfl⟩
theorem zhH : Bo HL.zcH := by
  intro x y h; unfold HL.zcH; cases y <;> first | exact .inl rfl | exact .inr ⟨_, rfl⟩
theorem os_ix : OpS K γ (rIx K) HL.oIx := by
  intro ρ h H x y Q S wx wy q
  unfold HL.oIx at q
  split at q
  · rename_i xs i e
    split at q
    · rename_i v ev
      obtain ⟨p, rfl, sq, w⟩ := zik S e
      unfold HL.atW at ev
      cases e2 : HL.ixW xs.length i with
      | none => rw [e2] at ev; cases ev
      | some j =>
        rw [e2] at ev
        have ev' : xs[j]? = some v := ev
        have at_ : atI (xs.map (zau γ ρ)) i = some (zau γ ρ v) := by
          unfold atI
          rw [List.length_map, ← ix_eq, e2]
          show (xs.map (zau γ ρ))[j]? = _
          rw [List.getElem?_map, ev']; rfl
        have qq := q (wf_get w ev')
        rcases sq with sq | sq
        · exact .inl ⟨_, _, i, _, rfl, rfl, sq, at_, qq⟩
        · exact .inr (.inl ⟨_, _, i, _, rfl, rfl, sq, at_, qq⟩)
    · exact q.elim
  · exact q.elim
theorem nw_ix : zcB HL.oIx := by
  intro x y h; unfold HL.oIx; split
  · split <;> rfl
  · rfl
theorem us_neg : UnS K γ (rU fun i => .int (-i)) HL.ziJ := by
  intro ρ h H x Q S wx q
  cases x with
  | int i => exact ⟨i, rfl, q trivial⟩
  | _ => exact q.elim
theorem nw_neg (x : W) (h : Sh) : zdG (HL.ziJ x h) = true := by cases x <;> rfl
theorem cs_len : CbS K γ (fun xs H Q => ∃ x n, xs = [x] ∧ LenV K x H n ∧ Q (.int n) H) HL.zc7 := by
  intro ρ h H xs Q S w q
  unfold HL.zc7 at q
  split at q
  · rename_i y
    split at q
    · rename_i z; exact ⟨_, _, rfl, ⟨zb5 z, rfl⟩, q trivial⟩
    · exact q.elim
  · rename_i x ne
    split at q
    · rename_i ys e
      obtain ⟨p, rfl, sq, w⟩ := zik S e
      have qq := q trivial
      refine ⟨_, ys.length, rfl, ?_, qq⟩
      rcases sq with sq | sq
      · exact .inl ⟨_, sq, by rw [List.length_map]⟩
      · exact .inr ⟨_, sq, by rw [List.length_map]⟩
    · exact q.elim
  · exact q.elim
theorem nw_len (x : List W) (h : Sh) : zdG (HL.zc7 x h) = true := by
  unfold HL.zc7; split
  · split <;> rfl
  · split <;> rfl
  · rfl
theorem cs_max2 : CbS K γ rMax2 HL.zgE := by
  intro ρ h H xs Q S w q
  unfold HL.zgE at q
  split at q
  · exact q trivial
  · exact q.elim
theorem nw_max2 (x : List W) (h : Sh) : zdG (HL.zgE x h) = true := by unfold HL.zgE; split <;> rfl
theorem cs_min2 : CbS K γ rMin2 HL.zgD := by
  intro ρ h H xs Q S w q
  unfold HL.zgD at q
  split at q
  · exact q trivial
  · exact q.elim
theorem nw_min2 (x : List W) (h : Sh) : zdG (HL.zgD x h) = true := by unfold HL.zgD; split <;> rfl
theorem cs_int : CbS K γ rInt1 HL.zev := by
  intro ρ h H xs Q S w q
  unfold HL.zev at q
  split at q
  · exact q trivial
  · exact q trivial
  · exact q.elim
theorem nw_bint (x : List W) (h : Sh) : zdG (HL.zev x h) = true := by unfold HL.zev; split <;> rfl
theorem cs_list : CbS K γ (fun xs H Q => ∃ p ys, xs = [.ref p] ∧ (SqL K H p ys ∨ SqT K H p ys) ∧ ∀ l, H l = none → Q (.ref l) (upd H l (.lst ys))) HL.zcA := by
  intro ρ h H xs Q S w q
  unfold HL.zcA at q
  split at q
  · split at q
    · rename_i ys e
      obtain ⟨p, rfl, sq, w⟩ := zik S e
      exact ⟨_, _, rfl, sq, q w⟩
    · exact q.elim
  · exact q.elim
theorem zmw (x : List W) (h : Sh) : zdG (HL.zcA x h) = true := by
  unfold HL.zcA; split
  · split <;> rfl
  · rfl
theorem zmU : CbS K γ (fun xs H Q => ∃ p ys, xs = [.ref p] ∧ ((SqL K H p ys ∧ ∀ l, H l = none → Q (.ref l) (upd H l (.tup ys))) ∨ (SqT K H p ys ∧ Q (.ref p) H))) HL.zds := by
  intro ρ h H xs Q S w q
  unfold HL.zds at q
  split at q
  · rename_i x
    split at q
    · rename_i ys e
      obtain ⟨p, rfl, sq, w⟩ := zg0 S e
      exact ⟨_, _, rfl, .inl ⟨sq, q w⟩⟩
    · split at q
      · rename_i ys e
        obtain ⟨p, rfl, sq, _⟩ := zgX S e
        exact ⟨_, _, rfl, .inr ⟨sq, q (w _ (List.mem_singleton.mpr rfl))⟩⟩
      · exact q.elim
  · exact q.elim
theorem zlL (x : List W) (h : Sh) : zdG (HL.zds x h) = true := by
  unfold HL.zds; split
  · split
    · rfl
    · split <;> rfl
  · rfl
end
end L2
namespace L2
open PySem PySem.Spec PyProof.Rows
open HL (W SO Sh Sg OR DE DT DA DS Fn)
def zlf : V → PyData → Prop
  | .non, d => d = .none
  | .bl b, d => d = .bool b
  | .int i, d => d = .int i
  | .str x, d => d = .str x
  | _, _ => False
def zgt (K : PySem.W.Frag) (H : Hp) : Nat → V → PyData → Prop
  | 0, x, d => zlf x d
  | n + 1, x, d => zlf x d ∨ ∃ a xs ds, x = .ref a ∧ Paired (zgt K H n) xs ds ∧ (SqL K H a xs ∧ d = .list ds ∨ SqT K H a xs ∧ d = .tuple ds)
section
variable {X : Cx} {pins : List (Addr × Obj)} {σ : St} {H : Hp} {s : Shared}
theorem zhe {x : V} {v : Value} {d : PyData} (h : zlf x d) (r : zaV x v) : ∃ as, Reads s.heap v d as := by
  cases x with
  | non => cases h; cases r; exact ⟨_, .none⟩
  | bl b => cases h; cases r; exact ⟨_, .bool b⟩
  | int i => cases h; obtain ⟨t, rfl⟩ := r; exact ⟨_, .int i t⟩
  | str y => cases h; obtain ⟨t, rfl⟩ := r; exact ⟨_, .str y t⟩
  | _ => cases h
theorem zfF {f : V → PyData → Prop} (hf : ∀ x v d, f x d → zaV x v → ∃ as, Reads s.heap v d as) : ∀ {xs : List V} {us : List Value} {ds : List PyData}, zaD xs us → Paired f xs ds → ∃ as, ReadsAll s.heap us ds as
  | _, _, _, .nil, .nil => ⟨_, .nil⟩
  | _, _, _, .cons r rs, .cons p ps => by
    obtain ⟨as, h1⟩ := hf _ _ _ p r
    obtain ⟨bs, h2⟩ := zfF hf rs ps
    exact ⟨_, .cons h1 h2⟩
theorem zf9 (I : Inv X pins σ H s) : ∀ (n : Nat) (x : V) (v : Value) (d : PyData), zgt X.K H n x d → zaV x v → ∃ as, Reads s.heap v d as
  | 0, x, v, d, h, r => zhe h r
  | n + 1, x, v, d, h, r => by
    rcases h with h | ⟨a, xs, ds, rfl, p, ⟨sq, rfl⟩ | ⟨sq, rfl⟩⟩
    · exact zhe h r
    · cases r
      obtain ⟨its, rv, pl, _⟩ := I.list sq
      obtain ⟨o, m, ho, hc, _, hs⟩ := pl
      obtain ⟨as, ra⟩ := zfF (zf9 I n) rv p
      exact ⟨_, .list ho hc hs ra⟩
    · cases r
      obtain ⟨its, rv, pl, _⟩ := I.tuple sq
      obtain ⟨o, ho, hc, m, hs⟩ := pl
      obtain ⟨as, ra⟩ := zfF (zf9 I n) rv p
      exact ⟨_, .tuple ho hc hs ra⟩
def rEqP (K : PySem.W.Frag) (neg : Bool) : R2 := fun x y H Q => (scal x y = true ∧ Q (.bl (if neg then !decide (x = y) else decide (x = y))) H) ∨
  ∃ da db, zgt K H 8 x da ∧ zgt K H 8 y db ∧ SeqAt.shaped da = true ∧ SeqAt.shaped db = true ∧ Q (.bl (if neg then !PyData.eqv da db else PyData.eqv da db)) H
theorem zmv (hu : X.A.units + 64 < cLine) : OpR X (compareOp .Eq) (rEqP X.K false) := by
  intro pins s σ H x y v u Q I rx ry h
  rcases h with ⟨sc, q⟩ | ⟨da, db, h1, h2, s1, s2, q⟩
  · exact op_eq pins s σ H x y v u Q I rx ry ⟨sc, q⟩
  · obtain ⟨as, r1⟩ := zf9 I 8 x v da h1 rx
    obtain ⟨bs, r2⟩ := zf9 I 8 y u db h2 ry
    exact PyProof.Rows.eq_dataH r1 r2 s1 s2 hu ⟨.bl _, H, I, rfl, q⟩
theorem op_neP (hu : X.A.units + 64 < cLine) : OpR X (compareOp .NotEq) (rEqP X.K true) := by
  intro pins s σ H x y v u Q I rx ry h
  rcases h with ⟨sc, q⟩ | ⟨da, db, h1, h2, s1, s2, q⟩
  · exact op_ne pins s σ H x y v u Q I rx ry ⟨sc, q⟩
  · obtain ⟨as, r1⟩ := zf9 I 8 x v da h1 rx
    obtain ⟨bs, r2⟩ := zf9 I 8 y u db h2 ry
    exact PyProof.Rows.ne_dataH r1 r2 s1 s2 hu ⟨.bl _, H, I, rfl, q⟩
end
mutual
def zbi : HL.D → PyData
  | .non => .none
  | .bl b => .bool b
  | .int i => .int i
  | .str s => .str s
  | .lst xs => .list (toPys xs)
  | .tup xs => .tuple (toPys xs)
def toPys : List HL.D → List PyData
  | [] => []
  | x :: xs => zbi x :: toPys xs
end
mutual
theorem zkx : ∀ a b : HL.D, PyData.eqv (zbi a) (zbi b) = HL.D.eq a b
  | .non, b => by cases b <;> simp only [zbi, PyData.eqv, HL.D.eq]
  | .bl _, b => by cases b <;> simp only [zbi, PyData.eqv, HL.D.eq]
  | .int _, b => by cases b <;> simp only [zbi, PyData.eqv, HL.D.eq]
  | .str _, b => by cases b <;> simp only [zbi, PyData.eqv, HL.D.eq]
  | .lst xs, b => by
    cases b with
    | lst ys => simp only [zbi, PyData.eqv, HL.D.eq]; exact toPys_eq xs ys
    | _ => simp only [zbi, PyData.eqv, HL.D.eq]
  | .tup xs, b => by
    cases b with
    | tup ys => simp only [zbi, PyData.eqv, HL.D.eq]; exact toPys_eq xs ys
    | _ => simp only [zbi, PyData.eqv, HL.D.eq]
theorem toPys_eq : ∀ xs ys : List HL.D, PyData.eqvAll (toPys xs) (toPys ys) = HL.D.eqs xs ys
  | [], ys => by cases ys <;> simp only [toPys, PyData.eqvAll, HL.D.eqs] <;> rfl
  | x :: xs, ys => by
    cases ys with
    | nil => simp only [toPys, PyData.eqvAll, HL.D.eqs]
    | cons y ys => simp only [toPys, PyData.eqvAll, HL.D.eqs]; rw [zkx x y, toPys_eq xs ys]
end
section
variable {K : PySem.W.Frag} {γ : Str → Addr} {ρ : Nat → Addr} {h : Sh} {H : Hp}
theorem zln {n : Nat} {f : W → Option HL.D} (hf : ∀ x d, f x = some d → zgt K H n (zau γ ρ x) (zbi d) ∧ (zbi d).canLay0 = true ∧ (zbi d).depth ≤ n) :
    ∀ (xs : List W) (ds : List HL.D), HL.zdy f xs = some ds → Paired (zgt K H n) (xs.map (zau γ ρ)) (toPys ds) ∧ PyData.canLayAll0 (toPys ds) = true ∧ PyData.depthAll (toPys ds) ≤ n
  | [], ds, e => by
    cases e
    exact ⟨.nil, by simp [toPys, PyData.canLayAll0], by simp [toPys, PyData.depthAll]⟩
  | x :: xs, ds, e => by
    unfold HL.zdy at e
    cases q : f x with
    | none => rw [q] at e; cases e
    | some d =>
      rw [q] at e
      cases q2 : HL.zdy f xs with
      | none => rw [q2] at e; cases e
      | some ds' =>
        rw [q2] at e
        cases e
        obtain ⟨a, b, c⟩ := hf x d q
        obtain ⟨a', b', c'⟩ := zln hf xs ds' q2
        refine ⟨?_, ?_, ?_⟩
        · simp only [toPys, List.map_cons]; exact .cons a a'
        · simp only [toPys, PyData.canLayAll0, b, b']; rfl
        · simp only [toPys, PyData.depthAll]; omega
theorem zmb {x : Str} (e : HL.sOk x = true) : PyData.strOk x = true := by
  unfold HL.sOk at e
  unfold PyData.strOk
  obtain ⟨_, e⟩ := (Bool.and_eq_true _ _).mp e
  rw [← Array.all_toList]
  exact e
theorem zmT (S : zbM K γ ρ h H) : ∀ (n : Nat) (x : W) (d : HL.D), HL.dat n h x = some d → zgt K H n (zau γ ρ x) (zbi d) ∧ (zbi d).canLay0 = true ∧ (zbi d).depth ≤ n := by
  have fl : ∀ (n : Nat) (x : V) (d : PyData), zlf x d → zgt K H n x d := fun n x d f => by cases n <;> first | exact f | exact .inl f
  intro n
  induction n with
  | zero =>
    intro x d e
    cases x with
    | non => cases e; exact ⟨rfl, by simp [zbi, PyData.canLay0], by simp [zbi, PyData.depth]⟩
    | bl b => cases e; exact ⟨rfl, by simp [zbi, PyData.canLay0], by simp [zbi, PyData.depth]⟩
    | int i => cases e; exact ⟨rfl, by simp [zbi, PyData.canLay0], by simp [zbi, PyData.depth]⟩
    | str y =>
      unfold HL.dat at e
      split at e
      · rename_i ok; cases e; exact ⟨rfl, by simp [zbi, PyData.canLay0, zmb ok], by simp [zbi, PyData.depth]⟩
      · cases e
    | _ => cases e
  | succ n ih =>
    intro x d e
    cases x with
    | non => cases e; exact ⟨.inl rfl, by simp [zbi, PyData.canLay0], by simp [zbi, PyData.depth]⟩
    | bl b => cases e; exact ⟨.inl rfl, by simp [zbi, PyData.canLay0], by simp [zbi, PyData.depth]⟩
    | int i => cases e; exact ⟨.inl rfl, by simp [zbi, PyData.canLay0], by simp [zbi, PyData.depth]⟩
    | str y =>
      unfold HL.dat at e
      split at e
      · rename_i ok; cases e; exact ⟨.inl rfl, by simp [zbi, PyData.canLay0, zmb ok], by simp [zbi, PyData.depth]⟩
      · cases e
    | ref i =>
      unfold HL.dat at e
      cases q : h[i]? with
      | none => rw [q] at e; cases e
      | some o =>
        rw [q] at e
        have ob := S.ob i o q
        have go : ∀ xs ds, HL.zdy (HL.dat n h) xs = some ds → (SqL K H (ρ i) (xs.map (zau γ ρ)) ∧ d = .lst ds ∨ SqT K H (ρ i) (xs.map (zau γ ρ)) ∧ d = .tup ds) → zgt K H (n + 1) (.ref (ρ i)) (zbi d) ∧ (zbi d).canLay0 = true ∧ (zbi d).depth ≤ n + 1 := fun xs ds e2 sq => by
          obtain ⟨a, b, c⟩ := zln ih xs ds e2
          rcases sq with ⟨sq, rfl⟩ | ⟨sq, rfl⟩
          · exact ⟨.inr ⟨_, _, _, rfl, a, .inl ⟨sq, by simp only [zbi]⟩⟩, by simp only [zbi, PyData.canLay0, b], by simp only [zbi, PyData.depth]; omega⟩
          · exact ⟨.inr ⟨_, _, _, rfl, a, .inr ⟨sq, by simp only [zbi]⟩⟩, by simp only [zbi, PyData.canLay0, b], by simp only [zbi, PyData.depth]; omega⟩
        cases o with
        | lst xs =>
          simp only at e
          cases q2 : HL.zdy (HL.dat n h) xs with
          | none => rw [q2] at e; cases e
          | some ds => rw [q2] at e; cases e; exact go xs ds q2 (.inl ⟨SqL.of ob, rfl⟩)
        | rol xs =>
          simp only at e
          cases q2 : HL.zdy (HL.dat n h) xs with
          | none => rw [q2] at e; cases e
          | some ds => rw [q2] at e; cases e; exact go xs ds q2 (.inl ⟨(show RoL _ _ _ _ from ob).sq, rfl⟩)
        | tup xs =>
          simp only at e
          cases q2 : HL.zdy (HL.dat n h) xs with
          | none => rw [q2] at e; cases e
          | some ds => rw [q2] at e; cases e; exact go xs ds q2 (.inr ⟨ob, rfl⟩)
        | _ => cases e
    | _ => cases e
theorem zmQ {x y : W} {b : Bool} (S : zbM K γ ρ h H) (e : HL.eqH x y h = some b) : (scal (zau γ ρ x) (zau γ ρ y) = true ∧ b = decide (zau γ ρ x = zau γ ρ y)) ∨
    ∃ da db, zgt K H 8 (zau γ ρ x) da ∧ zgt K H 8 (zau γ ρ y) db ∧ SeqAt.shaped da = true ∧ SeqAt.shaped db = true ∧ b = PyData.eqv da db := by
  have deep : (match HL.dat HL.zdv h x, HL.dat HL.zdv h y with | some a, some b => some (HL.D.eq a b) | _, _ => none) = some b → ∃ da db, zgt K H 8 (zau γ ρ x) da ∧ zgt K H 8 (zau γ ρ y) db ∧ SeqAt.shaped da = true ∧ SeqAt.shaped db = true ∧ b = PyData.eqv da db := fun e => by
    split at e
    · rename_i a c e1 e2
      cases e
      obtain ⟨d1, l1, p1⟩ := zmT S 8 x a e1
      obtain ⟨d2, l2, p2⟩ := zmT S 8 y c e2
      refine ⟨_, _, d1, d2, ?_, ?_, (zkx a c).symm⟩
      · unfold SeqAt.shaped; rw [l1, Bool.true_and]; exact decide_eq_true (by omega)
      · unfold SeqAt.shaped; rw [l2, Bool.true_and]; exact decide_eq_true (by omega)
    · cases e
  unfold HL.eqH at e
  split at e
  · cases e; exact .inl ⟨rfl, by simp [zau]⟩
  · cases e; exact .inl ⟨rfl, by simp [zau]⟩
  · exact .inr (deep e)
theorem os_eq : OpS K γ (rEqP K false) HL.oEq := by
  intro ρ h H x y Q S wx wy q
  unfold HL.oEq at q
  split at q
  · rename_i b e
    rcases zmQ S e with ⟨sc, e2⟩ | ⟨da, db, h1, h2, s1, s2, e2⟩
    · exact .inl ⟨sc, by have := q trivial; rw [e2] at this; exact this⟩
    · exact .inr ⟨da, db, h1, h2, s1, s2, by have := q trivial; rw [e2] at this; exact this⟩
  · exact q.elim
theorem os_ne : OpS K γ (rEqP K true) HL.oNe := by
  intro ρ h H x y Q S wx wy q
  unfold HL.oNe at q
  split at q
  · rename_i b e
    rcases zmQ S e with ⟨sc, e2⟩ | ⟨da, db, h1, h2, s1, s2, e2⟩
    · exact .inl ⟨sc, by have := q trivial; rw [e2] at this; exact this⟩
    · exact .inr ⟨da, db, h1, h2, s1, s2, by have := q trivial; rw [e2] at this; exact this⟩
  · exact q.elim
theorem bo_eq : Bo HL.oEq := by
  intro x y h; unfold HL.oEq; split
  · exact .inr ⟨_, rfl⟩
  · exact .inl rfl
theorem bo_ne : Bo HL.oNe := by
  intro x y h; unfold HL.oNe; split
  · exact .inr ⟨_, rfl⟩
  · exact .inl rfl
end
end L2
namespace L2
open PySem PySem.Spec PyProof.Rows
section
variable {X : Cx} {scope : Scope} {cs : List Str} {pins : List (Addr × Obj)} {σ : St} {H : Hp} {s : Shared} {fp : List Addr}
def capG (n : Nat) (js : List Nat) (σ : St) : St := List.replicate n none ++ js.map fun j => (σ[j]?).getD none
theorem zjT {ts : List Str} {js : List Nat} {h₁ : Heap} {tk : Nat} {ob : Obj} (c : Cap X scope cs) (I : Inv X pins σ H s) (hf : ∀ b ∈ fp, zgW X pins H b) (ho : ∀ b ∈ fp, ∃ o, s.heap.get? b = some o) (hj : js.map (fun j => X.N[j]?) = cs.map some)
    (hns : h₁.Ns s.heap.objs.size fun _ => none) (hsb : Heap.SameBut s.heap.objs.size (s.heap.push ob) h₁) : Inv (za2 X scope cs (ts ++ cs) s H fp) [] (capG ts.length js σ) H { s with heap := h₁, toks := tk } := by
  have k : ∀ b o, s.heap.get? b = some o → h₁.get? b = some o := fun b o e => (hsb.2 b (Nat.ne_of_lt (Heap.lt_size e))).trans (Heap.get?_push_of_some _ e)
  refine ⟨zlp c I hf ho _, rfl, I.bare, Un.kept k, ⟨_, hns, fun i y v e1 e2 vis => ?_⟩, fun y a h => ?_, I.hok.fresh (Nat.le_refl _), fun y a h => I.freeC y a (c.sub h).1, (fun p hp => by cases hp), I.hok.kept k, ?_⟩
  · by_cases hit : i < ts.length
    · have e2' : (List.replicate ts.length (none : Option V) ++ js.map fun j => (σ[j]?).getD none)[i]? = some (some v) := e2
      rw [List.getElem?_append_left (by rw [List.length_replicate]; exact hit), List.getElem?_replicate, if_pos hit] at e2'
      cases e2'
    · have e1' : (ts ++ cs)[i]? = some y := e1
      have e2' : (List.replicate ts.length (none : Option V) ++ js.map fun j => (σ[j]?).getD none)[i]? = some (some v) := e2
      rw [List.getElem?_append_right (by omega)] at e1'
      rw [List.getElem?_append_right (by rw [List.length_replicate]; omega), List.length_replicate] at e2'
      generalize i - ts.length = i at e1' e2'
      rw [List.getElem?_map] at e2'
      have hji := congrArg (fun l => l[i]?) hj
      simp only [List.getElem?_map] at hji
      rw [e1'] at hji
      cases q : js[i]? with
      | none => rw [q] at e2'; cases e2'
      | some j =>
        rw [q] at e2' hji
        have hN : X.N[j]? = some y := Option.some.inj hji
        have hv : (σ[j]?).getD none = some v := Option.some.inj e2'
        have hσ : σ[j]? = some (some v) := by
          cases q2 : σ[j]? with
          | none => rw [q2] at hv; cases hv
          | some z => rw [q2] at hv; rw [← hv]; rfl
        have hm : y ∈ cs := List.mem_of_getElem? e1'
        obtain ⟨m, hn, hl⟩ := I.loc
        obtain ⟨u, r, l⟩ := hl j y v hN hσ (.inr (.inl (c.kc y hm).1))
        refine ⟨u, r, .inr ⟨.inl (c.kc y hm).2, ?_⟩⟩
        rcases l with ⟨lk, _⟩ | ⟨_, a, ha, o, ho', hd⟩
        · have := (c.kc y hm).1
          have lk' : X.env.scope.names.lookup y = some .local := lk
          rw [this] at lk'
          cases lk'
        · refine ⟨a, ?_, o, k _ _ ho', hd⟩
          show (zjW X cs).lookup y = some a
          rw [zhG hm, ha]
          rfl
  · obtain ⟨v, o, ho', hd⟩ := I.cell y a (c.sub h).1
    exact ⟨v, o, k _ _ ho', hd⟩
  · have := congrArg List.length hj
    rw [List.length_map, List.length_map] at this
    show (capG ts.length js σ).length = (ts ++ cs).length
    unfold capG
    rw [List.length_append, List.length_append, List.length_replicate, List.length_map, this]
def compGoG (J : It) (g : TG) (tc : TT) (te : TE) (acc : Addr) (σ : St) (H : Hp) (Q : VK) : Prop := ∃ W : Nat → Nat → St → Hp → Prop, (∃ m, W 0 m σ (upd H acc (.lst []))) ∧ ∀ i m σ H, W i m σ H →
  (J.stop i H ∧ Q (.ref acc) H) ∨ (J.go i H ∧ ∃ Nx : St → Hp → Prop, (∀ σ' H', Nx σ' H' → ∃ m', m' < m ∧ W (i + 1) m' σ' H') ∧ ∀ x H', J.yld i H x H' → g x σ H' fun σ2 H2 => tc σ2 H2 fun k H3 => if k = true then te σ2 H3 fun v H4 => ∃ ys, H4 acc = some (.lst ys) ∧ ys.length < sizeLine ∧ Nx σ2 (upd H4 acc (.lst (ys ++ [v]))) else Nx σ2 H3)
def zj5 (wi : TI) (n : Nat) (js : List Nat) (g : TG) (tc : TT) (te : TE) : TE := fun σ H Q => wi σ H fun J H1 => ∀ acc, H1 acc = none → compGoG J g tc te acc (capG n js σ) H1 Q
def PTs (X : Cx) (ifs : List Expr) (tc : TT) : Prop := ∀ (pins : List (Addr × Obj)) (s : Shared) (σ : St) (H : Hp) (Q : Bool → Hp → Prop), Inv X pins σ H s → tc σ H Q →
  wpAny (model X.prog X.w) X.A (forIn ifs true fun c r => if r = true then do let ok ← isTrue c X.env (eval c X.env); pure (ForInStep.yield ok) else pure (ForInStep.yield r)) (TP X pins σ Q) X.xe s
theorem pts_nil : PTs X [] (fun _ H Q => Q true H) := fun pins s σ H Q I h => wpAny_tests_nil ⟨H, I, h⟩
theorem pts_one {c : Expr} {tc : TT} (h : PT X c tc) : PTs X [c] tc := fun pins s σ H Q I hw => wpAny_tests_one (h pins s σ H Q I hw)
theorem zlY {elt iter tg : Expr} {ifs : List Expr} {ts : List Str} {pos : Pos} {wi : TI} {js : List Nat} {g : TG} {tc : TT} {te : TE} (c : Cap X scope cs) (hc : X.calm = true) (hj : js.map (fun j => X.N[j]?) = cs.map some) (hi : PI X tg iter wi)
    (hg : ∀ s₀ H₀ ex, PG (za2 X scope cs (ts ++ cs) s₀ H₀ ex) tg g) (he : ∀ s₀ H₀ ex, PE (za2 X scope cs (ts ++ cs) s₀ H₀ ex) elt te)
    (ht : ∀ s₀ H₀ ex, PTs (za2 X scope cs (ts ++ cs) s₀ H₀ ex) ifs tc)
    (hs : ∀ x, foldedSetIterable iter X.env x = pure x := by intro _; rfl) {use : Option (Value → Sem Unit)} {Qf : Value → Shared → Prop} {pos' : Pos} {Q : VK} (I : Inv X pins σ H s)
    (fin : ∀ (fp' : List Addr) (s3 : Shared) (H3 : Hp) (acc : Addr) (σ' : St) (H' : Hp) (s4 : Shared), Inv X pins σ H3 s3 → (∀ b ∈ fp', zgW X pins H3 b) → Inv (za2 X scope cs (ts ++ cs) s3 H3 fp') [] σ' H' s4 → Q (.ref acc) H' →
      compPost (model X.prog X.w) X.A X.xe use Qf (.ref acc) s3.heap.objs.size (.ok .next) s4) (h : zj5 wi ts.length js g tc te σ H Q) :
    wpAny (model X.prog X.w) X.A (comprehension (.ListComp elt [⟨tg, iter, ifs, 0⟩] scope pos) scope X.env pos' (newList []) false (eval iter X.env) use) Qf X.xe s := by
  refine wpAny_comprehension_free (use := use) rfl hs c.clos c.kind c.names (thn (hi pins s σ H _ I h) fun xv s1 h1 => thn h1 fun itv s2 h2 => ?_)
  obtain ⟨it, fp, tn, J, H2, e, I2, T, st2, f2, q⟩ := h2
  subst e
  have hn2 : H2 s2.heap.objs.size = none := I2.hok.fresh (Nat.le_refl _)
  obtain ⟨W, ⟨m0, w0⟩, turn⟩ := q _ hn2
  refine wpAny_newObj_type ?_ (by show 0 ≤ sizeLine; exact Nat.zero_le _)
  have I3 : Inv X pins σ (upd H2 s2.heap.objs.size (.lst [])) { s2 with heap := s2.heap.push { cls := .type "list", data := .seq ([] : List Value).toArray } } := Inv.lnew (t' := s2.toks) I2 .nil (Nat.zero_le _)
  have f3 : ∀ b ∈ fp, zgW X pins (upd H2 s2.heap.objs.size (.lst [])) b := fun b hb => by
    obtain ⟨o, ho, _⟩ := T.obj _ _ st2 b hb
    exact ⟨by rw [zaN (Nat.ne_of_lt (Heap.lt_size ho))]; exact (f2 b hb).1, (f2 b hb).2⟩
  have o3 : ∀ b ∈ fp, ∃ o, (s2.heap.push { cls := .type "list", data := .seq ([] : List Value).toArray }).get? b = some o := fun b hb => by
    obtain ⟨o, ho, _⟩ := T.obj _ _ st2 b hb
    exact ⟨o, Heap.get?_push_of_some _ ho⟩
  have st3 : tn 0 (s2.heap.push { cls := .type "list", data := .seq ([] : List Value).toArray }) := T.keep _ _ _ st2 fun b _ o ho => Heap.get?_push_of_some _ ho
  generalize hs3 : ({ s2 with heap := s2.heap.push { cls := .type "list", data := .seq ([] : List Value).toArray } } : Shared) = s3 at I3
  have hs3h : s3.heap = s2.heap.push { cls := .type "list", data := .seq ([] : List Value).toArray } := by rw [← hs3]
  rw [← hs3h] at o3 st3
  show wpAny _ _ (newFunctionEnv scope X.env.globals (zjW X cs) [] X.env.qual none .none (some X.env)) _ _ _
  refine wpAny_newFunctionEnv c.nocell (by intro y hy; cases hy) (fun h₁ hns hsb => ?_) c.kind
  have hns' : h₁.Ns s3.heap.objs.size fun _ => none := hns
  have ok := zlp c I3 f3 o3 (ts ++ cs)
  have I4 := zjT (ts := ts) (tk := s3.toks) c I3 f3 o3 hj hns' hsb
  have st4 : tn 0 h₁ := T.keep _ _ _ st3 fun b hb o ho => (hsb.2 b (Nat.ne_of_lt (Heap.lt_size ho))).trans (Heap.get?_push_of_some _ ho)
  have stat : ∀ {H' : Hp}, (∀ b ∈ fp, H' b = none) → ∀ b ∈ fp, zgW (za2 X scope cs (ts ++ cs) s3 (upd H2 s2.heap.objs.size (.lst [])) fp) [] H' b := fun hn b hb => ⟨hn b hb, (ok.exf b hb).1, ok.exfs b hb, .inl hb, (ok.exf b hb).2, fun p hp => by cases hp⟩
  show codeAny _ _ (.compStart (.ListComp elt [⟨tg, iter, ifs, 0⟩] scope pos) 0 (.ref it) (.ref s2.heap.objs.size) (za2 X scope cs (ts ++ cs) s3 (upd H2 s2.heap.objs.size (.lst [])) fp).env) (compPost (model X.prog X.w) X.A X.xe use Qf (.ref s2.heap.objs.size) s3.heap.objs.size) { s3 with heap := h₁, toks := s3.toks }
  have loop : codeAny (model X.prog X.w) X.A (.compLoop (.ListComp elt [⟨tg, iter, ifs, 0⟩] scope pos) 0 (.ref it) (.ref s2.heap.objs.size) (za2 X scope cs (ts ++ cs) s3 (upd H2 s2.heap.objs.size (.lst [])) fp).env) (compPost (model X.prog X.w) X.A X.xe use Qf (.ref s2.heap.objs.size) s3.heap.objs.size) { s3 with heap := h₁, toks := s3.toks } := by
    refine codeAny_loop rfl (fun n s' => ∃ i σ' H', Inv (za2 X scope cs (ts ++ cs) s3 (upd H2 s2.heap.objs.size (.lst [])) fp) [] σ' H' s' ∧ tn i s'.heap ∧ (∀ b ∈ fp, H' b = none) ∧ W i n σ' H') (fun n s' hI => ?_) m0 ⟨0, _, _, I4, st4, fun b hb => (f3 b hb).1, w0⟩
    obtain ⟨i, σ', H', J', st', fr', w'⟩ := hI
    show wpAny _ _ ((compTurn (.ListComp elt [⟨tg, iter, ifs, 0⟩] scope pos) 0 (.ref it) (.ref s2.heap.objs.size) (za2 X scope cs (ts ++ cs) s3 (upd H2 s2.heap.objs.size (.lst [])) fp).env).onRaise (fun xx => do noteFrame xx (za2 X scope cs (ts ++ cs) s3 (upd H2 s2.heap.objs.size (.lst [])) fp).env; theTreesLotGoes xx)) _ _ s'
    refine wpAny_noted ?_
    rw [compTurn_list]
    refine wpAny_bind (wpAny_standAt (wpAny_bind ?_))
    rcases turn i n σ' H' w' with ⟨stop, qn⟩ | ⟨go, Nx, hN, step⟩
    · refine thn (T.done (za2 X scope cs (ts ++ cs) s3 (upd H2 s2.heap.objs.size (.lst [])) fp) rfl rfl rfl hc i [] s' σ' H' _ J' (stat fr') st' stop) fun r s4 ⟨hr, J4⟩ => ?_
      subst hr
      exact wpAny_pure (fin _ _ _ _ _ _ _ I3 f3 J4 qn)
    · refine thn (T.item (za2 X scope cs (ts ++ cs) s3 (upd H2 s2.heap.objs.size (.lst [])) fp) rfl rfl rfl hc i [] s' σ' H' _ J' (stat fr') st' go) fun r s4 ⟨u, hr, h4⟩ => ?_
      subst hr
      refine wpAny_bind (thn h4 fun _ s5 ⟨xv, H5, J5, r5, y5, st5, fr5⟩ => ?_)
      have J5' := J5.pinned (stat fr5) (T.obj _ _ st5)
      refine wpAny_bind (wpAny_mono (hg _ _ _ _ s5 σ' H5 xv u _ J5' r5 (step xv H5 y5)) (fun _ s6 ⟨σ6, H6, J6, q6⟩ => ?_) fun _ _ z => z.elim)
      have fin2 : ∀ {σ8 : St} {H8 : Hp} {s8 : Shared}, Inv (za2 X scope cs (ts ++ cs) s3 (upd H2 s2.heap.objs.size (.lst [])) fp) ([] ++ zhn fp s5.heap) σ8 H8 s8 → Nx σ8 H8 → ∃ m', m' < n ∧ ∃ i σ' H', Inv (za2 X scope cs (ts ++ cs) s3 (upd H2 s2.heap.objs.size (.lst [])) fp) [] σ' H' s8 ∧ tn i s8.heap ∧ (∀ b ∈ fp, H' b = none) ∧ W i m' σ' H' := fun {σ8 H8 s8} J8 n8 => by
        obtain ⟨m', hm, w8⟩ := hN σ8 H8 n8
        refine ⟨m', hm, i + 1, σ8, H8, J8.unpinned, T.keep _ _ _ st5 fun b hb o e => (J8.pin (b, o) (List.mem_append_right _ (List.mem_append_right _ (zes hb e)))).1, fun b hb => ?_, w8⟩
        obtain ⟨o, e, d⟩ := T.obj _ _ st5 b hb
        exact (J8.pin (b, o) (List.mem_append_right _ (List.mem_append_right _ (zes hb e)))).2.1
      refine wpAny_bind (wpAny_mono (ht _ _ _ _ s6 σ6 H6 _ J6 q6) (fun kb s6' ⟨H6', J6', q6'⟩ => ?_) fun _ _ z => z.elim)
      cases kb with
      | false =>
        have n6 : Nx σ6 H6' := q6'
        exact wpAny_pure ⟨rfl, fin2 J6' n6⟩
      | true =>
        have q7 : te σ6 H6' _ := q6'
        refine wpAny_bind (wpAny_bind (wpAny_mono (he _ _ _ _ s6' σ6 H6' _ J6' q7) (fun v s7 ⟨vv, H7, J7, r7, ys, e7, l7, n7⟩ => ?_) fun _ _ z => z.elim))
        refine wpAny_bind (wpAny_mono (zlN (X := (za2 X scope cs (ts ++ cs) s3 (upd H2 s2.heap.objs.size (.lst [])) fp)) _ s7 σ6 H7 (.ref s2.heap.objs.size) [vv] (.ref s2.heap.objs.size) [v] (fun _ H8 => Nx σ6 H8) J7 rfl (.cons r7 .nil) ⟨_, ys, vv, rfl, rfl, e7, l7, n7⟩) (fun _ s8 ⟨_, H8, J8, _, n8⟩ => ?_) fun _ _ z => z.elim)
        exact wpAny_pure (wpAny_pure ⟨rfl, fin2 J8 n8⟩)
  exact codeAny_compStart_list loop (T.self _ 0 _ _ _ st4 loop)
theorem zmp {elt iter tg : Expr} {ifs : List Expr} {ts : List Str} {pos : Pos} {wi : TI} {js : List Nat} {g : TG} {tc : TT} {te : TE} (c : Cap X scope cs) (hc : X.calm = true) (hj : js.map (fun j => X.N[j]?) = cs.map some) (hi : PI X tg iter wi)
    (hg : ∀ s₀ H₀ ex, PG (za2 X scope cs (ts ++ cs) s₀ H₀ ex) tg g) (he : ∀ s₀ H₀ ex, PE (za2 X scope cs (ts ++ cs) s₀ H₀ ex) elt te)
    (ht : ∀ s₀ H₀ ex, PTs (za2 X scope cs (ts ++ cs) s₀ H₀ ex) ifs tc)
    (hs : ∀ x, foldedSetIterable iter X.env x = pure x := by intro _; rfl) : PE X (.ListComp elt [⟨tg, iter, ifs, 0⟩] scope pos) (zj5 wi ts.length js g tc te) := by
  intro pins s σ H Q I h
  rw [eval_ListComp]
  refine zlY c hc hj hi hg he ht hs I (fun fp' s3 H3 acc σ' H' s4 I3 f3 J4 qn => ?_) h
  obtain ⟨m, hn, _⟩ := J4.loc
  exact ⟨m, hn, fun h' hs' => ⟨.ref acc, H', zmW c I3 f3 J4 hs', rfl, qn⟩⟩
end
end L2
namespace L2
open PySem PySem.Spec PyProof.Rows
open HL (W SO Sh Sg OR DE DT DA DS Fn)
section
variable {X : Cx} {γ : Str → Addr} {a b c e : Expr} {da db dc de : DE} {pos : Pos}
theorem lim_lt {n : Nat} (h : n < HL.LIM) : n < sizeLine := by
  have : HL.LIM = 100000 := rfl
  rw [sizeLine_eq]; omega
theorem zlD {t : HL.It} {h : Sh} {o : SO} (st : t.stays h) : t.stays (h ++ [o]) := by
  have key : ∀ (i : Nat) (u : SO), h[i]? = some u → (h ++ [o])[i]? = some u := fun i u e => by
    rw [List.getElem?_append_left (List.getElem?_eq_some_iff.mp e).1]; exact e
  cases t with
  | fix xs => trivial
  | lst i xs =>
    have st' : HL.lstW h (.ref i) = some xs := st
    show HL.lstW _ (.ref i) = some xs
    unfold HL.lstW at st' ⊢
    simp only at st' ⊢
    cases q : h[i]? with
    | none => rw [q] at st'; cases st'
    | some u => rw [key i u q]; rw [q] at st'; exact st'
  | tup i xs =>
    have st' : HL.zcR h (.ref i) = some xs := st
    show HL.zcR _ (.ref i) = some xs
    unfold HL.zcR at st' ⊢
    simp only at st' ⊢
    cases q : h[i]? with
    | none => rw [q] at st'; cases st'
    | some u => rw [key i u q]; rw [q] at st'; exact st'
theorem zlC {t : HL.It} {h : Sh} {k : Nat} {ys zs : List W} (st : t.stays h) (e : h[k]? = some (.lst ys)) (ne : ∀ i xs, t = .lst i xs → i ≠ k) : t.stays (h.set k (.lst zs)) := by
  cases t with
  | fix xs => trivial
  | lst i xs =>
    have st' : HL.lstW h (.ref i) = some xs := st
    show HL.lstW _ (.ref i) = some xs
    unfold HL.lstW at st' ⊢
    simp only at st' ⊢
    rw [List.getElem?_set_ne (fun z => ne i xs rfl z.symm)]
    exact st'
  | tup i xs =>
    have st' : HL.zcR h (.ref i) = some xs := st
    show HL.zcR _ (.ref i) = some xs
    unfold HL.zcR at st' ⊢
    have hne : k ≠ i := fun z => by
      subst z
      simp only [e] at st'
      cases st'
    simp only at st' ⊢
    rw [List.getElem?_set_ne hne]
    exact st'
theorem capG_eq {ρ : Nat → Addr} (n : Nat) (js : List Nat) (s : Sg) : capG n js (zeG γ ρ s) = zeG γ ρ (HL.zi0 n js s) := by
  unfold capG zeG HL.zi0
  rw [List.map_append, List.map_replicate, List.map_map]
  congr 1
  refine List.map_congr_left fun j _ => ?_
  simp only [Function.comp, List.getElem?_map]
  cases s[j]? with
  | none => rfl
  | some z => rfl
theorem zl3 {m n : Nat} {js : List Nat} {s : Sg} (w : wfS m s) : wfS m (HL.zi0 n js s) := fun x hx => by
  unfold HL.zi0 at hx
  rcases List.mem_append.mp hx with z | z
  · cases (List.mem_replicate.mp z).2
  · obtain ⟨j, _, e⟩ := List.mem_map.mp z
    cases q : s[j]? with
    | none => rw [q] at e; cases e
    | some y =>
      rw [q] at e
      have e' : y = some x := e
      subst e'
      exact w x (List.mem_of_getElem? q)
theorem comp_of {di : HL.DI} {g : HL.DG} {dt : DT} {n : Nat} {js : List Nat} (σ : St) (H : Hp) (Q : VK) (x : eE X.K γ (HL.ze8 di n js g dt de) σ H Q) : zj5 (eI X.K γ di) n js (eG X.K γ g) (eT X.K γ dt) (eE X.K γ de) σ H Q := by
  obtain ⟨ρ, s, h, S, x⟩ := x
  unfold HL.ze8 at x
  refine ⟨ρ, s, h, S, ?_⟩
  cases q : di s h with
  | ex => rw [q] at x; exact x.elim
  | er => rw [q] at x; exact x.elim
  | ok t h1 =>
    rw [q] at x
    simp only [HL.R.bind] at x
    intro ρ1 H1 J n1 S1 st ⟨wi, wl⟩ acc hacc
    have T1 := S.next n1 S1
    have S2 : zbM X.K γ (put ρ1 h1.length acc) (h1 ++ [.lst []]) (upd H1 acc (.lst [])) := S1.push (o := .lst []) (fun y hy => by cases hy) (Ext.upd _ hacc) hacc zba
    have n2 := Nxt.push h1 ρ1 (.lst []) acc
    generalize hρ : put ρ1 h1.length acc = ρ2 at S2 n2
    have at2 : ρ2 h1.length = acc := by rw [← hρ]; exact zc2 _ _ _
    generalize hh : h1 ++ [.lst []] = h2 at S2 n2 x
    have lt2 : h1.length < h2.length := by rw [← hh]; simp
    have st2 : t.stays h2 := by rw [← hh]; exact zlD st
    have x2 := zaP.later x (n1.trans n2)
    have T2 : Sim X.K γ ρ2 (HL.zi0 n js s) h2 (capG n js σ) (upd H1 acc (.lst [])) := ⟨S2, zl3 ((S.ws.mono n1.le).mono n2.le), by rw [S.eq, capG_eq]; exact zkI (zl3 S.ws) (n1.trans n2).ag⟩
    let St' : Nat → St → Hp → Prop := fun i σ' H' => i ≤ t.items.length ∧ ∃ ρ3 s3 h3, Sim X.K γ ρ3 s3 h3 σ' H' ∧ Nxt h2 ρ2 h3 ρ3 ∧ t.stays h3 ∧ zhJ X.K γ ρ3 h3 (HL.zhF t g dt de h1.length (t.items.drop i) s3 h3) Q
    refine ⟨fun i m σ' H' => m = t.items.length - i ∧ St' i σ' H', ⟨_, rfl, Nat.zero_le _, ρ2, _, h2, T2, Nxt.refl _ _, st2, x2⟩, ?_⟩
    rintro i m σ' H' ⟨rfl, hi, ρ3, s3, h3, T3, n3, st3, g3⟩
    obtain ⟨w1, w2⟩ := wl ρ3 h3 H' (n2.trans n3) T3.hp st3 i
    cases e : t.items[i]? with
    | none =>
      have hl : t.items.length ≤ i := List.getElem?_eq_none_iff.mp e
      rw [List.drop_eq_nil_of_le hl] at g3
      refine .inl ⟨w1 hl, ?_⟩
      have z := g3 ρ3 H' (Nxt.refl _ _) T3.hp (Nat.lt_of_lt_of_le lt2 n3.le)
      rw [show zau γ ρ3 (.ref h1.length) = V.ref acc from congrArg V.ref ((n3.ag _ lt2).symm.trans at2)] at z
      exact z
    | some y =>
      obtain ⟨hlt, ey⟩ := List.getElem?_eq_some_iff.mp e
      obtain ⟨go, yl⟩ := w2 y e
      refine .inr ⟨go, St' (i + 1), fun σ3 H3 z => ⟨_, by omega, rfl, z⟩, fun v H3 hv => ?_⟩
      obtain ⟨rfl, rfl⟩ := yl v H3 hv
      rw [List.drop_eq_getElem_cons hlt, ey] at g3
      unfold HL.zhF at g3
      have wy : wf h3.length y := ((wi y (List.mem_of_getElem? e)).mono n2.le).mono n3.le
      cases q3 : g y s3 h3 with
      | none => rw [q3] at g3; exact g3.elim
      | some s4 =>
        rw [q3] at g3
        simp only at g3
        refine ⟨ρ3, s3, h3, y, T3, rfl, wy, s4, q3, fun w4 => ?_⟩
        have T4 : Sim X.K γ ρ3 s4 h3 (zeG γ ρ3 s4) H3 := ⟨T3.hp, w4, rfl⟩
        refine ⟨ρ3, s4, h3, T4, zaP.bind g3 fun kb h5 ρ5 H5 _ n5 S5 _ g5 => ?_⟩
        have T5 := T4.next n5 S5
        cases kb with
        | false =>
          simp only [Bool.false_eq_true, if_false] at g5 ⊢
          split at g5
          · rename_i st5
            exact ⟨hlt, ρ5, s4, h5, T5, n3.trans n5, st5, g5⟩
          · exact g5.elim
        | true =>
          simp only [if_true] at g5 ⊢
          refine ⟨ρ5, s4, h5, T5, zaP.bind g5 fun v h6 ρ6 H6 _ n6 S6 w6 g6 => ?_⟩
          have T6 := T5.next n6 S6
          have at6 : ρ6 h1.length = acc := ((((n3.trans n5).trans n6).ag _ lt2).symm).trans at2
          cases q6 : h6[h1.length]? with
          | none => rw [q6] at g6; exact g6.elim
          | some ob =>
            rw [q6] at g6
            cases ob with
            | lst ys =>
              simp only at g6
              split at g6
              · rename_i cond
                have ob6 : H6 (ρ6 h1.length) = some (.lst (ys.map (zau γ ρ6))) := S6.ob _ _ q6
                rw [at6] at ob6
                refine ⟨_, ob6, by rw [List.length_map]; exact lim_lt cond.1, ?_⟩
                have S7 := S6.chg (u := .lst (ys ++ [v])) (v := .lst ((ys ++ [v]).map (zau γ ρ6))) q6 rfl rfl (by
                  intro z hz
                  rcases List.mem_append.mp hz with z1 | z1
                  · exact S6.wf _ _ q6 z z1
                  · rw [List.mem_singleton.mp z1]; exact w6) zba
                rw [at6, List.map_append] at S7
                refine ⟨hlt, ρ6, s4, _, ⟨S7, by rw [List.length_set]; exact T6.ws, T6.eq⟩, ((n3.trans n5).trans n6).trans (Nxt.chg _ _ _ _), ?_, zaP.later g6 (Nxt.chg _ _ _ _)⟩
                refine zlC cond.2.1 q6 fun j xs ej z => ?_
                subst ej
                have st0 : HL.lstW h1 (.ref j) = some xs := st
                rw [z] at st0
                unfold HL.lstW at st0
                simp only [List.getElem?_eq_none_iff.mpr (Nat.le_refl h1.length)] at st0
                cases st0
              · exact g6.elim
            | _ => exact g6.elim
theorem ziq {X : Cx} {γ : Str → Addr} : PTs X [] (eT X.K γ HL.zfO) := fun pins s σ H Q I ⟨ρ, t, h, S, x⟩ => pts_nil pins s σ H Q I (x ρ H (Nxt.refl _ _) S.hp trivial)
theorem qts_one {X : Cx} {γ : Str → Addr} {c : Expr} {dt : DT} (h : QT γ X c dt) : PTs X [c] (eT X.K γ dt) := pts_one h
theorem ziu {elt iter tg : Expr} {ifs : List Expr} {scope : Scope} {cs ts : List Str} {js : List Nat} {di : HL.DI} {g : HL.DG} {dt : DT} (c : Cap X scope cs) (hc : X.calm = true) (hj : js.map (fun j => X.N[j]?) = cs.map some) (hi : QI γ X tg iter di)
    (hg : ∀ s₀ H₀ ex, QG γ (za2 X scope cs (ts ++ cs) s₀ H₀ ex) tg g) (ht : ∀ s₀ H₀ ex, PTs (za2 X scope cs (ts ++ cs) s₀ H₀ ex) ifs (eT X.K γ dt)) (he : ∀ s₀ H₀ ex, QE γ (za2 X scope cs (ts ++ cs) s₀ H₀ ex) elt de)
    (hs : ∀ x, foldedSetIterable iter X.env x = pure x := by intro _; rfl) : QE γ X (.ListComp elt [⟨tg, iter, ifs, 0⟩] scope pos) (HL.ze8 di ts.length js g dt de) :=
  (zmp (ts := ts) c hc hj hi hg he ht hs).imp comp_of
end
end L2
namespace L2
open PySem PySem.Spec PyProof.Rows
open HL (W SO Sh Sg OR DE DT DA DS Fn)
section
variable {X : Cx} {K : PySem.W.Frag} {γ : Str → Addr}
variable {e o : Expr} {es : List Expr} {d : DA} {de : DE} {name : Str} {apos cpos : Pos} {T id : String} {r : V → List V → Hp → VK → Prop} {f : W → List W → Sh → HL.R W} {t : W → Sh → Bool}
end
section
variable {X : Cx} {pins : List (Addr × Obj)} {σ : St} {H : Hp} {s : Shared}
theorem exc_kit {K : PySem.W.Frag} {a C : Addr} {ox : Obj} {od : Option Obj} (k : zih K C) : PySem.W.KitX K (.ref a) (.ref C) (fun h => PySem.W.InstAt h a ox C od) := {
    ty := fun _ _ _ I => I.type
    it := fun _ h KX _ => by
      obtain ⟨bm, N, nm, qn, bs, sn, sub, ab, col, dd, k0, k1, k2, k3, k5, hC, T', hcl⟩ := zg3 KX k.cl
      intro A' Q' E' s' kk q
      unfold isType loadHead
      exact wpAny_bind (wpAny_loadPart (kk _ _ hC) (wpAny_pure q))
    ne := fun h tp dd its n sl KX htp => by
      obtain ⟨bm, N, nm, qn, bs, sn, sub, ab, col, dd, k0, k1, k2, k3, k5, hC, T', hcl⟩ := zg3 KX k.cl
      refine Bool.eq_false_iff.mpr fun q => ?_
      have e : C = tp := Value.ref.inj (beq_iff_eq.mp q)
      subst e
      have z := Option.some.inj (hC.symm.trans htp)
      have z2 := congrArg Obj.cls z
      injection z2 with z3
      exact absurd z3 (by decide)
    ca := fun KX I' kk => zlW k KX I' kk }
inductive TyH (K : PySem.W.Frag) (H : Hp) : V → Value → Prop where
  | of {x t} : zgV K H x t → TyH K H x t
  | lst {a xs} : SqL K H a xs → TyH K H (.ref a) (.type "list")
  | tup {a xs} : SqT K H a xs → TyH K H (.ref a) (.type "tuple")
  | exc {a C dx fs} : H a = some (.exc C dx fs) → zih K C → TyH K H (.ref a) (.ref C)
theorem kit_of {x : V} {u t : Value} (I : Inv X pins σ H s) (r : zaV x u) (ty : TyH X.K H x t) : ∃ P, PySem.W.KitX X.K u t P ∧ P s.heap ∧ u ≠ .builtin "__main__.__loader__#opaque" := by
  cases ty with
  | of ty =>
    cases ty with
    | non => cases r; exact ⟨_, PySem.W.kitx_none, True.intro, fun z => nomatch z⟩
    | bl y => cases r; exact ⟨_, PySem.W.kitx_bool, True.intro, fun z => nomatch z⟩
    | int i => obtain ⟨t, rfl⟩ := r; exact ⟨_, PySem.W.kitx_int, True.intro, fun z => nomatch z⟩
    | str y => obtain ⟨t, rfl⟩ := r; exact ⟨_, PySem.W.kitx_str, True.intro, fun z => nomatch z⟩
    | flt y => obtain ⟨t, rfl⟩ := r; exact ⟨_, PySem.W.kitx_float, True.intro, fun z => nomatch z⟩
    | @lst a xs ea =>
      cases r
      obtain ⟨_, _, n, _, h1⟩ := (show zb1 X.prog X.w H s.heap a (.lst xs) from I.hok a _ ea)
      exact ⟨_, PySem.W.kitx_list, ⟨_, h1, rfl⟩, fun z => nomatch z⟩
    | @frz a ob xs ea =>
      cases r
      obtain ⟨_, _, _, n, _, h1⟩ := (show zb1 X.prog X.w H s.heap a (.frz ob (.lst xs)) from I.hok a _ ea)
      exact ⟨_, PySem.W.kitx_list, ⟨_, h1, rfl⟩, fun z => nomatch z⟩
    | @tup a xs ea =>
      cases r
      obtain ⟨_, _, _, p⟩ := (show zb1 X.prog X.w H s.heap a (.tup xs) from I.hok a _ ea)
      obtain ⟨o, h1, h2, _⟩ := p
      exact ⟨_, PySem.W.kitx_tuple, ⟨o, h1, h2⟩, fun z => nomatch z⟩
    | @dK a kvs ea =>
      cases r
      obtain ⟨_, _, vs, _, p⟩ := (show zb1 X.prog X.w H s.heap a (.dK kvs) from I.hok a _ ea)
      obtain ⟨o, es, ep, h1, h2, _⟩ := p
      exact ⟨_, PySem.W.kitx_dict, ⟨o, h1, h2.1⟩, fun z => nomatch z⟩
    | @dT a kvs ea =>
      cases r
      obtain ⟨_, _, xs, _, o, es, ep, h1, h2, _⟩ := (show zb1 X.prog X.w H s.heap a (.dT kvs) from I.hok a _ ea)
      exact ⟨_, PySem.W.kitx_dict, ⟨o, h1, h2.1⟩, fun z => nomatch z⟩
    | @ins a C dx fs ea cl ha hn htk hm =>
      cases r
      obtain ⟨mA, O, _⟩ := zg1 I.hok ea
      obtain ⟨od, J, _⟩ := O.look
      exact ⟨_, PySem.W.kitx_own (cl.get _) cl.hd ha hn htk hm, J, fun z => nomatch z⟩
  | lst hq =>
    cases r
    obtain ⟨its, _, p, _⟩ := I.list hq
    obtain ⟨o, n, e, c, _⟩ := p
    exact ⟨_, PySem.W.kitx_list, ⟨o, e, c⟩, fun z => nomatch z⟩
  | tup hq =>
    cases r
    obtain ⟨its, _, p, _⟩ := I.tuple hq
    obtain ⟨o, h1, h2, _⟩ := p
    exact ⟨_, PySem.W.kitx_tuple, ⟨o, h1, h2⟩, fun z => nomatch z⟩
  | exc e k =>
    cases r
    obtain ⟨ox, od, J, _⟩ := zjO I e
    exact ⟨_, exc_kit k, J, fun z => nomatch z⟩
theorem zja : ∀ {cs : List V} {us : List Value}, zaD cs us → cs.all isC = true → us = cs.map zia
  | _, _, .nil, _ => rfl
  | c :: cs, u :: us, .cons r t, h => by
    rw [List.all_cons, Bool.and_eq_true] at h
    rw [List.map_cons, ← zja t h.2, r.cls h.1]
def rIsiT (K : PySem.W.Frag) : List V → Hp → VK → Prop := fun xs H Q => ∃ x c t b, xs = [x, c] ∧ TyH K H x t ∧ Q (.bl b) H ∧
  ((isC c = true ∧ PySem.W.kitOne K t (zia c) = some b) ∨ ∃ a cs, c = .ref a ∧ SqT K H a cs ∧ cs.all isC = true ∧ PySem.W.kitAny K t (cs.map zia) = some b)
theorem zl2 : zdN X (.builtin "isinstance") (rIsiT X.K) := by
  intro pins s σ H xs us Q I r h
  obtain ⟨x, c, t, b, rfl, ty, q, h⟩ := h
  obtain ⟨u, w', rfl, rx, rc'⟩ := vals2 r
  obtain ⟨P, Z, p, ne⟩ := kit_of I rx ty
  rcases h with ⟨hc, e⟩ | ⟨a, cs, rfl, ha, hcs, e⟩
  · rw [rc'.cls hc]
    exact PySem.W.kia_one Z I.kIn p e ne fun tk => ⟨.bl b, H, I.tok _, rfl, q⟩
  · cases rc'
    obtain ⟨its, rv, ⟨o, ho, hc, n, hd⟩, _⟩ := I.tuple ha
    obtain ⟨oc, od, odt, osl⟩ := o
    cases hc
    cases hd
    rw [← zja rv hcs] at e
    exact PySem.W.kia_tup Z I.kIn p ho e ne fun tk => ⟨.bl b, H, I.tok _, rfl, q⟩
end
structure zgF (K : PySem.W.Frag) (γ : Str → Addr) (T : HL.CT) : Prop where
  cls : ∀ c l, T.lookup c = some l → (l.contains (.ty "ValueError") = false → zlv K (γ c)) ∧ (l.contains (.ty "ValueError") = true → zih K (γ c))
  ins : ∀ c l, T.lookup c = some l → ∀ x m, T.lookup x = some m → PySem.W.kitOne K (.ref (γ c)) (.ref (γ x)) = some (l.contains (.gl x))
  bi : ∀ c l, T.lookup c = some l → ∀ b ∈ HL.biN, PySem.W.kitOne K (.ref (γ c)) (.type b) = some (l.contains (.ty b))
  no : ∀ x m, T.lookup x = some m → ∀ a ∈ "NoneType" :: HL.biN, PySem.W.kitOne K (.type a) (.ref (γ x)) = some false
theorem kit_bi (K : PySem.W.Frag) : ∀ a ∈ "NoneType" :: HL.biN, ∀ b ∈ HL.biN, PySem.W.kitOne K (.type a) (.type b) = some (HL.subB a b) := by
  intro a ha b hb
  simp only [HL.biN, List.mem_cons, List.not_mem_nil, or_false] at ha hb
  rcases ha with rfl | rfl | rfl | rfl | rfl | rfl | rfl | rfl <;> rcases hb with rfl | rfl | rfl | rfl | rfl | rfl | rfl <;> rfl
section
variable {K : PySem.W.Frag} {γ : Str → Addr} {ρ : Nat → Addr} {h : Sh} {H : Hp} {T : HL.CT}
def tyK (γ : Str → Addr) : HL.Ty → Value
  | .bi n => .type n
  | .own _ c => .ref (γ c)
def tyIn (T : HL.CT) : HL.Ty → Prop
  | .bi n => n ∈ "NoneType" :: HL.biN
  | .own k c => ∃ l, T.lookup c = some l ∧ l.contains (.ty "ValueError") = k
theorem tyW_bi {x : W} {n : String} (e : HL.tyW h x = some (.bi n)) : n ∈ "NoneType" :: HL.biN := by
  unfold HL.tyW at e
  cases x with
  | ref j =>
    simp only at e
    cases q : h[j]? with
    | none => rw [q] at e; cases e
    | some o => rw [q] at e; cases o <;> cases e <;> decide
  | ty _ => cases e
  | gl _ => cases e
  | _ => cases e; decide
theorem zl4 {x : W} {t : HL.Ty} (O : zgF K γ T) (S : zbM K γ ρ h H) (e : HL.tyW h x = some t) (i : tyIn T t) : TyH K H (zau γ ρ x) (tyK γ t) := by
  cases x with
  | non => cases e; exact .of .non
  | bl b => cases e; exact .of (.bl b)
  | int j => cases e; exact .of (.int j)
  | str y => cases e; exact .of (.str y)
  | ref j =>
    unfold HL.tyW at e
    simp only at e
    cases q : h[j]? with
    | none => rw [q] at e; cases e
    | some o =>
      rw [q] at e
      have ob := S.ob j o q
      cases o with
      | lst xs => cases e; exact .lst (SqL.of ob)
      | rol xs => cases e; exact .lst (show RoL _ _ _ _ from ob).sq
      | tup xs => cases e; exact .tup ob
      | ins c fs =>
        cases e
        obtain ⟨dx, hd⟩ := ob
        obtain ⟨l, hl, hk⟩ := i
        have k := (O.cls c l hl).1 hk
        exact .of (.ins hd k.cl k.ha k.hn k.htk k.hm)
      | exc c fs =>
        cases e
        obtain ⟨dx, hd⟩ := ob
        obtain ⟨l, hl, hk⟩ := i
        exact .exc hd ((O.cls c l hl).2 hk)
  | _ => cases e
theorem zlc {t : HL.Ty} {c : W} {b : Bool} (O : zgF K γ T) (e : HL.isi1 T t c = some b) (bi : ∀ n, t = .bi n → n ∈ "NoneType" :: HL.biN) : tyIn T t ∧ isC (zau γ ρ c) = true ∧ PySem.W.kitOne K (tyK γ t) (zia (zau γ ρ c)) = some b := by
  unfold HL.isi1 at e
  split at e
  · rename_i a b' 
    split at e
    · rename_i hb
      cases e
      have ha := bi a rfl
      exact ⟨ha, rfl, kit_bi K a ha b' (List.contains_iff_mem.mp hb)⟩
    · cases e
  · rename_i a x
    split at e
    · rename_i hx
      cases e
      have ha := bi a rfl
      cases q : T.lookup x with
      | none => rw [q] at hx; cases hx
      | some m => exact ⟨ha, rfl, O.no x m q a ha⟩
    · cases e
  · rename_i k a
    split at e
    · rename_i l hl
      split at e
      · rename_i hk
        split at e
        · rename_i b'
          split at e
          · rename_i hb; cases e; exact ⟨⟨l, hl, hk⟩, rfl, O.bi a l hl b' (List.contains_iff_mem.mp hb)⟩
          · cases e
        · rename_i x
          split at e
          · rename_i hx
            cases e
            cases q : T.lookup x with
            | none => rw [q] at hx; cases hx
            | some m => exact ⟨⟨l, hl, hk⟩, rfl, O.ins a l hl x m q⟩
          · cases e
        · cases e
      · cases e
    · cases e
  · cases e
theorem zlb {t : HL.Ty} (O : zgF K γ T) (bi : ∀ n, t = .bi n → n ∈ "NoneType" :: HL.biN) : ∀ (cs : List W) (b : Bool), HL.isiN T t cs = some b → cs ≠ [] → tyIn T t ∧ (∀ c ∈ (cs.map (zau γ ρ)).take 1, isC c = true) ∧ PySem.W.kitAny K (tyK γ t) ((cs.map (zau γ ρ)).map zia) = some b
  | [], _, _, ne => absurd rfl ne
  | c :: cs, b, e, _ => by
    unfold HL.isiN at e
    cases q : HL.isi1 T t c with
    | none => rw [q] at e; cases e
    | some k =>
      rw [q] at e
      obtain ⟨ti, ic, kk⟩ := zlc (ρ := ρ) O q bi
      refine ⟨ti, ?_, ?_⟩
      · intro c' hc'
        rw [List.map_cons, List.take_succ_cons, List.take_zero] at hc'
        rw [List.mem_singleton.mp hc']; exact ic
      · rw [List.map_cons, List.map_cons]
        unfold PySem.W.kitAny
        rw [kk]
        cases k with
        | true => cases e; rfl
        | false =>
          simp only at e ⊢
          cases cs with
          | nil => cases e; rfl
          | cons c2 r => exact (zlb O bi (c2 :: r) b e (fun z => nomatch z)).2.2
theorem cs_isi (O : zgF K γ T) : CbS K γ (rIsiT K) (HL.zdT T) := by
  intro ρ h H xs Q S w q
  unfold HL.zdT at q
  split at q
  · rename_i x c
    split at q
    · rename_i b e
      have qq := q trivial
      unfold HL.isi at e
      cases q1 : HL.tyW h x with
      | none => rw [q1] at e; cases e
      | some t =>
        rw [q1] at e
        have bi : ∀ n, t = .bi n → n ∈ "NoneType" :: HL.biN := fun n z => by subst z; exact tyW_bi q1
        simp only at e
        split at e
        · rename_i i
          split at e
          · rename_i cs q2
            split at e
            · rename_i hcs
              obtain ⟨h1, h2⟩ := (Bool.and_eq_true _ _).mp hcs
              have ne : cs ≠ [] := fun z => by rw [z] at h2; cases h2
              obtain ⟨ti, _, kk⟩ := zlb (ρ := ρ) O bi cs b e ne
              refine ⟨_, _, _, b, rfl, zl4 O S q1 ti, qq, .inr ⟨_, _, rfl, S.ob i _ q2, ?_, kk⟩⟩
              rw [List.all_map]
              refine List.all_eq_true.mpr fun c hc => ?_
              have := List.all_eq_true.mp h1 c hc
              cases c <;> first | rfl | cases this
            · cases e
          · cases e
        · obtain ⟨ti, ic, kk⟩ := zlc (ρ := ρ) O e bi
          exact ⟨_, _, _, b, rfl, zl4 O S q1 ti, qq, .inl ⟨ic, kk⟩⟩
    · exact q.elim
  · exact q.elim
theorem nw_isi (x : List W) (h : Sh) : zdG (HL.zdT T x h) = true := by
  unfold HL.zdT; split
  · split <;> rfl
  · rfl
end
end L2
namespace L2
open PySem PySem.Spec PyProof.Rows
open HL (W SO Sh Sg OR DE DT DA DS Fn)
def zkz (K : PySem.W.Frag) : Sp := fun vs H Q _ => match vs with
  | [x] => ∃ (a : Addr) (ns : List Int), x = .ref a ∧ RoL K H a (ns.map V.int) ∧ ns.length ≤ 63 ∧ ∀ H', Q (.bl true) H'
  | _ => False
def LawR (P : Program) (w : World) (K : PySem.W.Frag) (mg : Str → Option Value) (k : Nat) : Prop := ∃ f fd, mg "law" = some (.ref f) ∧ (∀ (s : Shared) (u : Value), BindsTo s fd ⟨[u], []⟩ [("_law_script", u)]) ∧ ∀ base : Heap, zf7 P w K mg base CX0 k f fd ["_law_script"] (zkz K)
theorem zly {l : PySem.W.OpenLaw} {k : Nat} {q : Program} {loose : List Str} {XP : (Str → Option Value) → Heap → Prop} {YP : World → Heap → Prop} {d : DefRec} {K : Params → PySem.W.Frag} (hn : l.most = some 63) (hdf : d.params.defaults = []) (hr : zbr k callerA)
    (hY : ∀ (w : World) (h : Heap), YP w h → (K w.params).In h) (hd : d.name = "law")
    (hF : ∀ (w : World) (mg : Str → Option Value) (h : Heap), (K w.params).In h → h.Ns mainGlobals mg → LawR l.prog w (K w.params) mg k) :
    PySem.W.WalkO q loose XP YP l.row.toRowW d [] (fun f vs => PySem.call f vs) :=
  L2.zkt (n := 63) (k := k) (x := "_law_script") (CX := fun _ => CX0) (sp := fun w => zkz (K w.params)) hn (by decide) hdf hr hY (fun w mg fa h KX G hm => by
    rw [hd] at hm
    obtain ⟨f, fd, m, b, ok⟩ := hF w mg h KX G
    rw [m] at hm
    cases hm
    exact ⟨fd, b, fun base _ _ => ok base⟩) (fun w H a ns hl hO hS => ⟨a, ns, rfl, by
      rcases hS with (h | h) | h
      · rcases hO a with z | ⟨o, xs, z⟩
        · rw [h] at z; cases z
        · rw [h] at z; cases z
      · exact .inl h
      · exact .inr h, hl, fun _ => rfl⟩) fun _ _ _ _ _ z => z
structure zfM (K : PySem.W.Frag) (γ : Str → Addr) (ρ : Nat → Addr) (cs : List SO) : Prop where
  ob : ∀ (i : Nat) (o : SO), cs[i]? = some o → ∀ H, ObS γ ρ K H (ρ i) o
  mu : ∀ o ∈ cs, zgP o = false
  wf : ∀ o ∈ cs, wfO cs.length o
theorem zfM.nil {K : PySem.W.Frag} {γ : Str → Addr} {ρ : Nat → Addr} : zfM K γ ρ [] := ⟨(fun i o e => by simp at e), (fun o h => by cases h), (fun o h => by cases h)⟩
theorem zlR {K : PySem.W.Frag} {γ : Str → Addr} {ρ : Nat → Addr} {cs : List SO} {H : Hp} {a : Addr} {ns : List Int} (c : zfM K γ ρ cs) (r : RoL K H a (ns.map V.int)) : zbM K γ (put ρ cs.length a) (cs ++ [.rol (ns.map W.int)]) H where
  ob := fun i o e => by
    rw [getElem?_snoc] at e
    by_cases h1 : i < cs.length
    · rw [if_pos h1] at e
      rw [← zc3 ρ cs.length a i h1]
      exact (c.ob i o e H).ren (c.wf o (List.mem_of_getElem? e)) (zc3 _ _ _)
    · rw [if_neg h1] at e
      by_cases h2 : i = cs.length
      · rw [if_pos h2] at e
        cases e
        rw [h2, zc2]
        show RoL K H a _
        rw [List.map_map]
        exact r
      · rw [if_neg h2] at e; cases e
  inj := fun i j o u e1 e2 m1 m2 q => by
    have mu : ∀ i o, (cs ++ [SO.rol (ns.map W.int)])[i]? = some o → zgP o = false := fun i o e => by
      rcases List.mem_append.mp (List.mem_of_getElem? e) with z | z
      · exact c.mu o z
      · rw [List.mem_singleton.mp z]; rfl
    rw [mu i o e1] at m1; cases m1
  wf := fun i o e => by
    rcases List.mem_append.mp (List.mem_of_getElem? e) with z | z
    · exact (c.wf o z).mono (by simp)
    · rw [List.mem_singleton.mp z]
      intro x hx
      obtain ⟨n, _, rfl⟩ := List.mem_map.mp hx
      trivial
theorem zaG.qlaw {P : Program} {w : World} {K : PySem.W.Frag} {mg : Str → Option Value} {γ : Str → Addr} {ρ : Nat → Addr} {cs : List SO} {st : Stmt} {N : List Str} {k n : Nat} {bd : DS} (F : zaG K mg "law" st) (S : zaH N ["_law_script"] (zai st)) (hn : N.length = n) (c : zfM K γ ρ cs)
    (hb : ∀ (kV doc pm : Value) (an : Option Addr) (cdv ct : Value) (us : List Value), us.length = 1 → bindArgs (PySem.W.fnOf "law" "law" (zbJ st) (zaY st) (zai st) .none kV doc pm an cdv ct) ⟨us, []⟩ = pure ((["_law_script"] : List Str).zip us))
    (hbody : ∀ (base : Heap) (f : Addr) (cdv : Value) (A : Around) (outer : List Env) (s : Shared) (H : Hp) (E : XK), zbr k (A.deeper (envOfC "law" (zai st) s.heap.objs.size f cdv)) →
      QSs γ (zgr CX0 P w K mg base N "law" (zai st) f cdv A outer s H E).nox (zaY st) bd)
    (good : ∀ ns : List Int, ns.length ≤ 63 → ∃ h', HL.fnOf 1 n bd [.ref cs.length] (cs ++ [.rol (ns.map W.int)]) = .ok (.bl true) h') : LawR P w K mg (k + 1) := by
  subst hn
  obtain ⟨f, fd, F, m⟩ := F.ex
  refine ⟨f, fd, m, fun s u => ?_, fun base => F.ok S (fun vs H Q E h => ?_) fun cdv A outer s H vs Q E hr h => ?_⟩
  · obtain ⟨oc, od, kV, doc, pm, an, cdv, ct, osl, rfl, lk, hcd⟩ := F.ex
    exact .of_eq (hb kV doc pm an cdv ct [u] rfl)
  · match vs, h with
    | [x], _ => rfl
  · match vs, h with
    | [x], ⟨a, ns, e, r, hl, q⟩ =>
      refine ⟨_, hbody base f cdv A outer s H E hr, ?_⟩
      subst e
      have S0 := zlR c r
      obtain ⟨h', e⟩ := good ns hl
      have := ziV (N := N) (us := [.ref cs.length]) (bd := bd) (Q := Q) (p := 1) S0 (fun x hx => by rw [List.mem_singleton.mp hx]; show cs.length < (cs ++ [_]).length; simp) (by
        rw [e]
        exact fun _ H1 _ _ _ => q H1)
      rw [show ([W.ref cs.length].map (zau γ (put ρ cs.length a))) = [V.ref a] by simp [zau, zc2]] at this
      exact this
section
variable {X : Cx} {γ : Str → Addr} {a : Expr} {da : DE} {pos p2 : Pos}
end
end L2
namespace L2
open PySem PySem.Spec PyProof.Rows
open HL (W SO Sh Sg OR DE DT DA DS Fn)
section
variable {X : Cx} {γ : Str → Addr} {a b c e o : Expr} {da db dc de d1 : DE} {pos pos' apos : Pos}
theorem zhf {x : Str} {i : Int} {u : Value} (hg : Gl X x) (hm : X.mg x = some u) (r : zaV (.int i) u) (hd : (x == ("__debug__" : Str)) = false := by decide) : QE γ X (.Name x pos) (HL.dC (.int i)) :=
  (zk0 hg hm r hd).imp fun σ H Q ⟨ρ, s, h, S, x⟩ => x ρ H (Nxt.refl _ _) S.hp trivial
theorem zfI {ρ : Nat → Addr} (f : Str) : ∀ fs : List (Str × W), (zfE γ ρ fs).lookup f = (fs.lookup f).map (zau γ ρ)
  | [] => rfl
  | (g, x) :: r => by
    unfold zfE
    rw [List.map_cons]
    by_cases e : f = g
    · subst e; simp only [List.lookup, beq_self_eq_true, Option.map_some]
    · have : (f == g) = false := by simpa using e
      simp only [List.lookup, this]
      exact zfI f r
theorem zhs {f : Str} {v : W} : ∀ {fs : List (Str × W)}, fs.lookup f = some v → ∃ p ∈ fs, p.2 = v
  | (g, x) :: r, e => by
    by_cases q : f = g
    · subst q
      simp only [List.lookup, beq_self_eq_true, Option.some.injEq] at e
      exact ⟨(f, x), List.mem_cons_self, e⟩
    · have z : (f == g) = false := by simpa using q
      simp only [List.lookup, z] at e
      obtain ⟨p, hp, hv⟩ := zhs e
      exact ⟨p, List.mem_cons_of_mem _ hp, hv⟩
theorem zkW {ρ : Nat → Addr} (f : Str) (v : W) : ∀ fs : List (Str × W), zfE γ ρ (HL.zix f v fs) = zd7 f (zau γ ρ v) (zfE γ ρ fs)
  | [] => rfl
  | (g, x) :: r => by
    unfold HL.zix
    by_cases e : g = f
    · rw [if_pos e]; simp only [zfE, List.map_cons, zd7, if_pos e]
    · rw [if_neg e]
      have ih := zkW (ρ := ρ) f v r
      simp only [zfE, List.map_cons, zd7, if_neg e] at ih ⊢
      rw [ih]
theorem zks {n : Nat} {f : Str} {v : W} (wv : wf n v) : ∀ {fs : List (Str × W)}, (∀ p ∈ fs, wf n p.2) → ∀ p ∈ HL.zix f v fs, wf n p.2
  | [], _, p, hp => by
    unfold HL.zix at hp
    rw [List.mem_singleton.mp hp]; exact wv
  | (g, x) :: r, w, p, hp => by
    unfold HL.zix at hp
    by_cases e : g = f
    · rw [if_pos e] at hp
      rcases List.mem_cons.mp hp with z | z
      · rw [z]; exact wv
      · exact w p (List.mem_cons_of_mem _ z)
    · rw [if_neg e] at hp
      rcases List.mem_cons.mp hp with z | z
      · rw [z]; exact w (g, x) List.mem_cons_self
      · exact zks wv (fun q hq => w q (List.mem_cons_of_mem _ hq)) p z
def FldOk (K : PySem.W.Frag) (γ : Str → Addr) (cs : List Str) (f : Str) : Prop := ∀ c ∈ cs, Cls K (γ c) ∧ zew K (γ c) f
theorem zjq {cs : List Str} {f : Str} (k : FldOk X.K γ cs f) (he : QE γ X e de) (hb : attributeBase e f X.env (eval e X.env) = eval e X.env := by rfl) : QE γ X (.Attribute e f pos) (HL.zf4 cs f de) :=
  (pe_fld he hb).imp fun σ H Q ⟨ρ, s, h, S, x⟩ => by
    unfold HL.zf4 at x
    refine ⟨ρ, s, h, S, zaP.bind x fun v h1 ρ1 H1 _ n1 S1 w1 x1 => ?_⟩
    cases v with
    | ref i =>
      simp only [HL.ziT] at x1
      cases q : h1[i]? with
      | none => rw [q] at x1; exact x1.elim
      | some ob =>
        rw [q] at x1
        cases ob with
        | ins c fs =>
          simp only at x1
          split at x1
          · rename_i v e1
            split at e1
            · rename_i hc
              obtain ⟨dx, ea⟩ := S1.ob i _ q
              have k1 := k c (by simpa using hc)
              refine ⟨ρ1 i, γ c, dx, zfE γ ρ1 fs, zau γ ρ1 v, rfl, ea, k1.1, k1.2, by rw [zfI, e1]; rfl, ?_⟩
              obtain ⟨p, hp, rfl⟩ := zhs e1
              exact x1 ρ1 H1 (Nxt.refl _ _) S1 (S1.wf i _ q p hp)
            · cases e1
          · exact x1.elim
        | _ => exact x1.elim
    | _ => exact x1.elim
theorem zmf {cs : List Str} {f : Str} (k : FldOk X.K γ cs f) (ho : QE γ X o d1) (he : QE γ X e de) (hs : swapsWith e (some (.Attribute o f pos')) pos.line X.env = pure false := by rfl) : QS γ X (.Assign [.Attribute o f pos'] e pos) (HL.zhb cs f d1 de) :=
  (ps_fld ho he hs).imp fun D σ H ⟨ρ, s, h, S, x⟩ => by
    unfold HL.zhb at x
    refine ⟨ρ, s, h, S, ?_⟩
    cases q1 : de s h with
    | ok v h1 =>
      rw [q1] at x
      intro ρ1 H1 n1 S1 w1
      have T1 := S.next n1 S1
      refine ⟨ρ1, s, h1, T1, ?_⟩
      simp only [HL.R.bind] at x
      cases q2 : d1 s h1 with
      | ok xo h2 =>
        rw [q2] at x
        intro ρ2 H2 n2 S2 w2
        have T2 := T1.next n2 S2
        simp only at x
        cases xo with
        | ref i =>
          simp only [HL.setF] at x
          cases q : h2[i]? with
          | none => rw [q] at x; exact x.elim
          | some ob =>
            rw [q] at x
            cases ob with
            | ins c fs =>
              simp only at x
              by_cases hc : cs.contains c = true ∧ fs.length < 1000
              · rw [if_pos hc] at x
                obtain ⟨dx, ea⟩ := S2.ob i _ q
                have k1 := k c (by simpa using hc.1)
                have wv := w1.mono n2.le
                refine ⟨ρ2 i, γ c, dx, zfE γ ρ2 fs, rfl, ea, k1.1, k1.2, by simp only [zfE, List.length_map]; exact hc.2, ?_⟩
                have S3 : zbM X.K γ ρ2 (h2.set i (.ins c (HL.zix f v fs))) (upd H2 (ρ2 i) (.ins (γ c) dx (zd7 f (zau γ ρ2 v) (zfE γ ρ2 fs)))) :=
                  S2.chg q rfl rfl (zks wv (S2.wf i _ q)) ⟨dx, by rw [zba, zkW]⟩
                have z := x ρ2 _ ((n1.trans n2).trans (Nxt.chg _ _ i _)) S3 (by rw [List.length_set]; exact T2.ws)
                rw [zdQ w1 n2.ag, T2.eq]
                exact z
              · rw [if_neg hc] at x; exact x.elim
            | _ => exact x.elim
        | _ => exact x.elim
      | ex => rw [q2] at x; exact x.elim
      | er => rw [q2] at x; exact x.elim
    | ex => rw [q1] at x; exact x.elim
    | er => rw [q1] at x; exact x.elim
def zj4 (G : Addr → Sp → Prop) (m : Str) (ta : TE) (t : TA) : TE := fun σ H Q => ta σ H fun x H1 => ∃ a C dx fs sp, x = .ref a ∧ H1 a = some (.ins C dx fs) ∧ fs.lookup m = none ∧ G C sp ∧
  t σ H1 fun vs H2 => sp (x :: vs) H2 Q E0
variable {G : Addr → Sp → Prop} {m : Str} {es : List Expr} {ta : TE} {t : TA}
theorem zmn {pl : Sem Bool} (hG : ∀ C sp, G C sp → Cls X.K C ∧ ∃ k ps, zdt X.prog X.w X.K X.mg X.base k C m ps sp ∧ zbr k X.A) (he : PE X o ta) (ha : PA X (e :: es) t)
    (hst : starEach (e :: es) X.env = (false, eval e X.env) :: starEach es X.env := by rfl) (hpl : (backTo pos (starEach es X.env)).any (·.1) = false := by rfl)
    (ht : eval (.Call (.Attribute o m apos) (e :: es) [] pos) X.env = (do
      let ov ← eval o X.env
      standAt apos.atName
      let (f, first) ← holding [ov] (getMethod ov m pl)
      callWith pos f first (backTo pos (starEach (e :: es) X.env)) (backToKw pos (keywordEach [] X.env))) := by rfl) :
    PE X (.Call (.Attribute o m apos) (e :: es) [] pos) (zj4 G m ta t) := by
  intro pins s σ H Q I h
  refine PySem.W.methodCall_KW (pl := pl) (thn (he pins s σ H _ I h) fun u s1 ⟨x, H1, I1, rx, a, C, dx, fs, sp, ex, ea, l, g, q⟩ => ?_) ht
  subst ex
  obtain rfl : u = Value.ref a := rx
  obtain ⟨c, k, ps, D, hr⟩ := hG C sp g
  obtain ⟨f, fd, F, fa, n, kp, b⟩ := D.ex
  refine zhw I1 ea c ⟨fa, n, kp⟩ l ?_
  refine PySem.W.callWith_K (first := [.ref a]) (h₀ := X.base) I.ok.mod.kin kp (thn (ha pos pins s1 σ H1 _ I1 q) fun us s2 ⟨vs, H2, I2, r, q2⟩ => ⟨I2.kIn, ?_⟩) hst hpl
  exact zj7 (us := .ref a :: us) (vs := .ref a :: vs) (dvs := []) (ds := []) F hr b .nil zk1 I2 (.cons rfl r) (by rw [List.append_nil]; exact q2)
theorem zh1 {pl : Sem Bool} (hG : ∀ C sp, G C sp → Cls X.K C ∧ ∃ k ps, zdt X.prog X.w X.K X.mg X.base k C m ps sp ∧ zbr k X.A) (he : PE X o ta)
    (ht : eval (.Call (.Attribute o m apos) [] [] pos) X.env = (do
      let ov ← eval o X.env
      standAt apos.atName
      let (f, first) ← holding [ov] (getMethod ov m pl)
      callWith pos f first (backTo pos (starEach [] X.env)) (backToKw pos (keywordEach [] X.env))) := by rfl) :
    PE X (.Call (.Attribute o m apos) [] [] pos) (zj4 G m ta tNil) := by
  intro pins s σ H Q I h
  refine PySem.W.methodCall_KW (pl := pl) (thn (he pins s σ H _ I h) fun u s1 ⟨x, H1, I1, rx, a, C, dx, fs, sp, ex, ea, l, g, q⟩ => ?_) ht
  subst ex
  obtain rfl : u = Value.ref a := rx
  obtain ⟨c, k, ps, D, hr⟩ := hG C sp g
  obtain ⟨f, fd, F, fa, n, kp, b⟩ := D.ex
  refine zhw I1 ea c ⟨fa, n, kp⟩ l ?_
  exact PySem.W.callWith_K0 (first := [.ref a]) I1.kIn kp (zj7 (us := [.ref a]) (vs := [.ref a]) (dvs := []) (ds := []) F hr b .nil zk1 I1 (.cons rfl .nil) q)
def zb7 (X : Cx) (γ : Str → Addr) (m : Str) (tb : List (Str × Fn)) : Prop := ∀ c f, tb.lookup c = some f → Cls X.K (γ c) ∧ ∃ k p n bd ps, f = HL.fnOf p n bd ∧ zdt X.prog X.w X.K X.mg X.base k (γ c) m ps (spF X.K γ p f) ∧ zbr k X.A
theorem zb7.nil : zb7 X γ m [] := fun c f e => by cases e
theorem zb7.cons {tb : List (Str × Fn)} {c : Str} {k p n : Nat} {bd : DS} {ps : List Str} (h : Cls X.K (γ c)) (D : zdt X.prog X.w X.K X.mg X.base k (γ c) m ps (spF X.K γ p (HL.fnOf p n bd))) (hr : zbr k X.A) (r : zb7 X γ m tb) : zb7 X γ m ((c, HL.fnOf p n bd) :: tb) := fun c' f e => by
  by_cases q : c' = c
  · subst q
    simp only [List.lookup, beq_self_eq_true, Option.some.injEq] at e
    subst e
    exact ⟨h, k, p, n, bd, ps, rfl, D, hr⟩
  · have z : (c' == c) = false := by simpa using q
    simp only [List.lookup, z] at e
    exact r c' f e
def MtG (X : Cx) (γ : Str → Addr) (m : Str) (tb : List (Str × Fn)) (C : Addr) (sp : Sp) : Prop := ∃ c f p n bd k ps, C = γ c ∧ tb.lookup c = some f ∧ f = HL.fnOf p n bd ∧ sp = spF X.K γ p f ∧ Cls X.K (γ c) ∧ zdt X.prog X.w X.K X.mg X.base k (γ c) m ps (spF X.K γ p f) ∧ zbr k X.A
theorem MtG.ok {tb : List (Str × Fn)} : ∀ C sp, MtG X γ m tb C sp → Cls X.K C ∧ ∃ k ps, zdt X.prog X.w X.K X.mg X.base k C m ps sp ∧ zbr k X.A := by
  rintro C sp ⟨c, f, p, n, bd, k, ps, rfl, e, rfl, rfl, h, D, hr⟩
  exact ⟨h, k, ps, D, hr⟩
theorem zl8 {K : PySem.W.Frag} {f : Fn} {p n : Nat} {bd : DS} {ρ : Nat → Addr} {h : Sh} {H : Hp} {us : List W} {Q : VK} {E : XK} (e : f = HL.fnOf p n bd) (S : zbM K γ ρ h H) (w : wfs h.length us) (x : zhJ K γ ρ h (f us h) Q) : spF K γ p f (us.map (zau γ ρ)) H Q E := by
  refine ⟨?_, ρ, h, us, S, w, rfl, x⟩
  rw [List.length_map]
  cases q : f us h with
  | ok v h' => rw [e] at q; exact zjN q
  | ex => rw [q] at x; exact x.elim
  | er => rw [q] at x; exact x.elim
theorem zk9 {tb : List (Str × Fn)} {d : DA} (k : zb7 X γ m tb) (σ : St) (H : Hp) (Q : VK) (x : eE X.K γ (HL.zaK tb m d1 d) σ H Q) : zj4 (MtG X γ m tb) m (eE X.K γ d1) (eA X.K γ d) σ H Q := by
  obtain ⟨ρ, s, h, S, x⟩ := x
  unfold HL.zaK at x
  refine ⟨ρ, s, h, S, zaP.bind x fun v h1 ρ1 H1 _ n1 S1 w1 x1 => ?_⟩
  split at x1
  · rename_i f e1
    cases v with
    | ref i =>
      simp only [HL.zeV] at e1
      split at e1
      · rename_i c fs q
        split at e1
        · rename_i hl
          obtain ⟨dx, ea⟩ := S1.ob i _ q
          obtain ⟨hc, kk, p, n, bd, ps, ef, D, hr⟩ := k c f e1
          refine ⟨ρ1 i, γ c, dx, zfE γ ρ1 fs, _, rfl, ea, by rw [zfI, hl]; rfl, ⟨c, f, p, n, bd, kk, ps, rfl, e1, ef, rfl, hc, D, hr⟩, ?_⟩
          refine ⟨ρ1, s, h1, S.next n1 S1, zaP.bind x1 fun us h2 ρ2 H2 _ n2 S2 w2 x2 => ?_⟩
          have wi : wf h2.length (.ref i) := w1.mono n2.le
          have z := zl8 (E := E0) (us := .ref i :: us) ef S2 (fun y hy => by
            rcases List.mem_cons.mp hy with r | r
            · rw [r]; exact wi
            · exact w2 y r) x2
          rw [List.map_cons] at z
          have e3 : zau γ ρ2 (.ref i) = zau γ ρ1 (.ref i) := (zdQ w1 n2.ag).symm
          rw [e3] at z
          exact z
        · cases e1
      · cases e1
    | _ => cases e1
  · exact x1.elim
theorem zgd {tb : List (Str × Fn)} {d : DA} {pl : Sem Bool} (k : zb7 X γ m tb) (he : QE γ X o d1) (ha : QA γ X (e :: es) d)
    (hst : starEach (e :: es) X.env = (false, eval e X.env) :: starEach es X.env := by rfl) (hpl : (backTo pos (starEach es X.env)).any (·.1) = false := by rfl)
    (ht : eval (.Call (.Attribute o m apos) (e :: es) [] pos) X.env = (do
      let ov ← eval o X.env
      standAt apos.atName
      let (f, first) ← holding [ov] (getMethod ov m pl)
      callWith pos f first (backTo pos (starEach (e :: es) X.env)) (backToKw pos (keywordEach [] X.env))) := by rfl) :
    QE γ X (.Call (.Attribute o m apos) (e :: es) [] pos) (HL.zaK tb m d1 d) := (zmn (pl := pl) MtG.ok he ha hst hpl ht).imp (zk9 k)
theorem zfn {tb : List (Str × Fn)} {pl : Sem Bool} (k : zb7 X γ m tb) (he : QE γ X o d1)
    (ht : eval (.Call (.Attribute o m apos) [] [] pos) X.env = (do
      let ov ← eval o X.env
      standAt apos.atName
      let (f, first) ← holding [ov] (getMethod ov m pl)
      callWith pos f first (backTo pos (starEach [] X.env)) (backToKw pos (keywordEach [] X.env))) := by rfl) :
    QE γ X (.Call (.Attribute o m apos) [] [] pos) (HL.zaK tb m d1 HL.zad) := (zh1 (pl := pl) MtG.ok he ht).imp fun σ H Q x => by
  obtain ⟨ρ, s, h, S, x⟩ := zk9 k σ H Q x
  refine ⟨ρ, s, h, S, ?_⟩
  cases q : d1 s h with
  | ok v h1 =>
    rw [q] at x
    intro ρ1 H1 n1 S1 w1
    obtain ⟨a, C, dx, fs, sp, e1, e2, e3, e4, x⟩ := x ρ1 H1 n1 S1 w1
    obtain ⟨ρ2, s2, h2, S2, x⟩ := x
    exact ⟨a, C, dx, fs, sp, e1, e2, e3, e4, x ρ2 H1 (Nxt.refl _ _) S2.hp fun _ z => by cases z⟩
  | ex => rw [q] at x; exact x.elim
  | er => rw [q] at x; exact x.elim
structure NewOk (X : Cx) (γ : Str → Addr) (x : Str) (p : Nat) (f : Fn) (vs : List W) : Prop where
  at_ : X.mg x = some (.ref (γ x))
  ex : ∃ k g fd ps ds n bd, f = HL.fnOf p n bd ∧ Mk X.K (γ x) g ∧ zf7 X.prog X.w X.K X.mg X.base CX0 k g fd ps (spF X.K γ p f) ∧ zbr (k + 1) X.A ∧ zdw X.K fd ps ds ∧ (∀ ρ, zaD (vs.map (zau γ ρ)) ds) ∧ ∀ n, wfs n vs
theorem zjn {vs : List W} (h : ∀ n, wfs n vs) (ρ ρ' : Nat → Addr) : vs.map (zau γ ρ) = vs.map (zau γ ρ') := zfm (h 0) fun i hi => absurd hi (Nat.not_lt_zero _)
theorem zhr {C : Str} {f : Fn} {p n : Nat} {bd : DS} {vs : List W} {d : DA} {ρ0 : Nat → Addr} (ef : f = HL.fnOf p n bd) (wv : ∀ n, wfs n vs) (σ : St) (H : Hp) (Q : VK) (x : eE X.K γ (HL.zeI C f vs d) σ H Q) : tMake (γ C) (spF X.K γ p f) (vs.map (zau γ ρ0)) E0 (eA X.K γ d) σ H Q := by
  obtain ⟨ρ, s, h, S, x⟩ := x
  unfold HL.zeI at x
  refine ⟨ρ, s, h, S, zaP.bind x fun us h1 ρ1 H1 _ n1 S1 w1 x1 => ?_⟩
  intro y dx hy hdx ne
  have hdx' : upd H1 dx (.own y) y = none := by rw [zaN ne.symm]; exact hy
  have E1 : Ext H1 (upd (upd H1 dx (.own y)) y (.ins (γ C) dx [])) := (Ext.upd _ hdx).trans (Ext.upd _ hdx')
  have S2 := S1.push (p := y) (o := .ins C []) (fun q hq => by cases hq) E1 hy ⟨dx, zba⟩
  have w2 : wfs (h1 ++ [SO.ins C []]).length (.ref h1.length :: (us ++ vs)) := fun q hq => by
    rcases List.mem_cons.mp hq with r | r
    · rw [r]; show h1.length < (h1 ++ [_]).length; simp
    · rcases List.mem_append.mp r with r | r
      · exact (w1 q r).mono (by simp)
      · exact wv _ q r
  have n2 := Nxt.push h1 ρ1 (.ins C []) y
  have z := zl8 (E := E0) ef S2 w2 (Q := fun v H2 => v = .non ∧ Q (.ref y) H2) (zaP.bind (x1.later n2) fun v h3 ρ3 H3 _ n3 S3 w3 x3 => by
    by_cases hv : v = .non
    · rw [if_pos hv] at x3
      subst hv
      refine ⟨rfl, ?_⟩
      have q := x3 ρ3 H3 (Nxt.refl _ _) S3 (Nat.lt_of_lt_of_le (by simp) n3.le)
      rw [show zau γ ρ3 (.ref h1.length) = V.ref y from congrArg V.ref (by rw [← n3.ag h1.length (by simp), zc2])] at q
      exact q
    · rw [if_neg hv] at x3; exact x3.elim)
  rw [List.map_cons, List.map_append] at z
  rw [show zau γ (put ρ1 h1.length y) (.ref h1.length) = V.ref y from congrArg V.ref (zc2 _ _ _), ← zfm w1 (zc3 _ _ _), zjn wv _ ρ0] at z
  exact z
theorem zkL {x : Str} {p : Nat} {f : Fn} {vs : List W} {pp : Pos} {d : DA} (k : NewOk X γ x p f vs) (hg : Gl X x) (ha : QA γ X (e :: es) d) (hdb : (x == ("__debug__" : Str)) = false := by decide)
    (he : starEach (e :: es) X.env = (false, eval e X.env) :: starEach es X.env := by rfl) (hpl : (backTo pos (starEach es X.env)).any (·.1) = false := by rfl) : QE γ X (.Call (.Name x pp) (e :: es) [] pos) (HL.zeI x f vs d) := by
  obtain ⟨kk, g, fd, ps, ds, n, bd, ef, M, F, hr, hb, hv, wv⟩ := k.ex
  exact (zkZ M F hr hg k.at_ hb (hv fun _ => 0) zk1 ha hdb he hpl).imp (zhr ef wv)
end
end L2
namespace L2
open PySem PySem.Spec PyProof.Rows
open HL (W SO Sh Sg OR DE DT DA DS Fn)
section
variable {K : PySem.W.Frag} {γ : Str → Addr}
theorem os_sub : OpS K γ (rI0 fun i j => .int (i - j)) HL.oSub := fun ρ h H x y Q S wx wy q => by
  obtain ⟨i, j, e1, e2, _, q⟩ := ziz (K := K) (γ := γ) (c := fun _ _ => true) (C := fun _ _ => True) (f := fun i j => i - j) (fun _ _ _ => trivial) ρ h H x y Q S wx wy q
  exact ⟨i, j, e1, e2, q⟩
theorem os_mod : OpS K γ (rI (fun _ j => 0 < j) fun i j => .int (i % j)) HL.zbb := ziz fun _ _ h => of_decide_eq_true h
theorem os_div : OpS K γ (rI CDiv fun i j => .int (i / j)) HL.zcU := ziz fun _ _ h => by
  obtain ⟨a, b⟩ := (Bool.and_eq_true _ _).mp h
  exact ⟨of_decide_eq_true a, of_decide_eq_true b⟩
theorem cpow_of {i j : Int} (h : (decide (0 ≤ j) && decide (j ≤ 1000000) && decide (i.natAbs < 2 ^ 64)) = true) : CPow i j := by
  obtain ⟨a, b⟩ := (Bool.and_eq_true _ _).mp h
  obtain ⟨a, c⟩ := (Bool.and_eq_true _ _).mp a
  exact ⟨of_decide_eq_true a, of_decide_eq_true c, of_decide_eq_true b⟩
theorem os_pow : OpS K γ (rI CPow fun i j => .int (i ^ j.toNat)) HL.oPow := ziz fun _ _ h => cpow_of h
end
section
variable {X : Cx} {γ : Str → Addr} {a b c e : Expr} {da db dc de : DE} {pos : Pos}
theorem v (i : Nat) {x : Str} (hN : X.N[i]? = some x := by rfl) (hv : Vis X.env.scope x := by first | exact Or.inl rfl | exact Or.inr (Or.inl rfl) | exact Or.inr (Or.inr rfl)) (hd : (x == ("__debug__" : Str)) = false := by decide)
    (hcd : (x == ("__classdict__" : Str)) = false := by decide) : QE γ X (.Name x pos) (HL.zac i) := q_var hN hv hd hcd
theorem sset (i : Nat) {x : Str} {pos' : Pos} (hN : X.N.Nodup) (he : QE γ X e de) (hi : X.N[i]? = some x := by rfl) (hx : Loc X.env.scope x := by first | exact Or.inl rfl | exact Or.inr rfl) (hs : swapsWith e (some (.Name x pos')) pos.line X.env = pure false := by rfl) (hf : X.fn x = true ∨ X.env.scope.names.lookup x = some .local := by first | exact .inl rfl | exact .inr rfl | assumption) :
    QS γ X (.Assign [.Name x pos'] e pos) (HL.zaE i de) := qs_set hN hi hx he hs hf
theorem gn (i : Nat) {x : Str} (hN : X.N.Nodup) (hi : X.N[i]? = some x := by rfl) (hx : Loc X.env.scope x := by first | exact Or.inl rfl | exact Or.inr rfl) (hf : X.fn x = true ∨ X.env.scope.names.lookup x = some .local := by first | exact .inl rfl | exact .inr rfl | assumption) : QG γ X (.Name x pos) (HL.zck i) := qg_name hN hi hx hf
theorem pn (i : Nat) {x : Str} (hN : X.N.Nodup) (hi : X.N[i]? = some x := by rfl) (hx : Loc X.env.scope x := by first | exact Or.inl rfl | exact Or.inr rfl) (hf : X.fn x = true ∨ X.env.scope.names.lookup x = some .local := by first | exact .inl rfl | exact .inr rfl | assumption) : PG X (.Name x pos) (zck i) := zkY hN hi hx hf
theorem zcG (ha : QE γ X a da) (hb : QE γ X b db) : QE γ X (.BinOp a .Add b pos) (HL.dOp HL.zbc da db) := q_op op_addA os_add nw_add ha hb
theorem b_Sub (ha : QE γ X a da) (hb : QE γ X b db) : QE γ X (.BinOp a .Sub b pos) (HL.dOp HL.oSub da db) := q_op op_sub os_sub ziK ha hb
theorem zdS (ha : QE γ X a da) (hb : QE γ X b db) : QE γ X (.BinOp a .Mult b pos) (HL.dOp HL.zcE da db) := q_op op_mulA os_mul nw_mul ha hb
theorem zbL (ha : QE γ X a da) (hb : QE γ X b db) : QE γ X (.BinOp a .Mod b pos) (HL.dOp HL.zbb da db) := q_op op_mod os_mod ziK ha hb
theorem zaT (ha : QE γ X a da) (hb : QE γ X b db) : QE γ X (.BinOp a .FloorDiv b pos) (HL.dOp HL.zcU da db) := q_op op_fdiv os_div ziK ha hb
theorem b_Pow (ha : QE γ X a da) (hb : QE γ X b db) : QE γ X (.BinOp a .Pow b pos) (HL.dOp HL.oPow da db) := q_op op_pow os_pow ziK ha hb
theorem t_Lt (ha : QE γ X a da) (hb : QE γ X b db) (hm : behindInMarks .Lt b = false := by rfl) : QT γ X (.Compare a [.Lt] [b] pos) (HL.dT (HL.dOp HL.oLt da db)) := zgb op_lt ziA zfK.nw zfK ha hb hm
theorem t_GtE (ha : QE γ X a da) (hb : QE γ X b db) (hm : behindInMarks .GtE b = false := by rfl) : QT γ X (.Compare a [.GtE] [b] pos) (HL.dT (HL.dOp HL.oGe da db)) := zgb op_ge ziA zfK.nw zfK ha hb hm
theorem c_Eq (hu : X.A.units + 64 < cLine) (ha : QE γ X a da) (hb : QE γ X b db) (hm : behindInMarks .Eq b = false := by rfl) : QE γ X (.Compare a [.Eq] [b] pos) (HL.dOp HL.oEq da db) := q_cmp (zmv hu) os_eq bo_eq.nw ha hb hm
theorem t_Eq (hu : X.A.units + 64 < cLine) (ha : QE γ X a da) (hb : QE γ X b db) (hm : behindInMarks .Eq b = false := by rfl) : QT γ X (.Compare a [.Eq] [b] pos) (HL.dT (HL.dOp HL.oEq da db)) := zgb (zmv hu) os_eq bo_eq.nw bo_eq ha hb hm
theorem zcs (hu : X.A.units + 64 < cLine) (ha : QE γ X a da) (hb : QE γ X b db) (hm : behindInMarks .NotEq b = false := by rfl) : QT γ X (.Compare a [.NotEq] [b] pos) (HL.dT (HL.dOp HL.oNe da db)) := zgb (op_neP hu) os_ne bo_ne.nw bo_ne ha hb hm
theorem t_Is (ha : QE γ X a da) (hb : QE γ X b db) (hm : behindInMarks .Is b = false := by rfl) : QT γ X (.Compare a [.Is] [b] pos) (HL.dT (HL.dOp HL.oIs da db)) := zgb op_isN os_isN bo_is.nw bo_is ha hb hm
theorem c_IsNot (ha : QE γ X a da) (hb : QE γ X b db) (hm : behindInMarks .IsNot b = false := by rfl) : QE γ X (.Compare a [.IsNot] [b] pos) (HL.dOp HL.zcH da db) := q_cmp zk8 zk6 zhH.nw ha hb hm
theorem zij (ha : QE γ X a da) (hb : QE γ X b db) (hm : behindInMarks .IsNot b = false := by rfl) : QT γ X (.Compare a [.IsNot] [b] pos) (HL.dT (HL.dOp HL.zcH da db)) := zgb zk8 zk6 zhH.nw zhH ha hb hm
theorem zic (ha : QE γ X a da) (hb : QE γ X b db) (hc : QE γ X c dc) (hm : lastMarks [.LtE, .LtE] [b, c] = false := by with_unfolding_all rfl) : QE γ X (.Compare a [.LtE, .LtE] [b, c] pos) (HL.ze9 HL.oLe HL.oLe da db dc) := q_chain op_le ziA zfK.nw zfK op_le ziA zfK.nw ha hb hc hm
theorem u_neg (ha : QE γ X a da) : QE γ X (.UnaryOp .USub a pos) (HL.dUn HL.ziJ da) := q_un un_neg us_neg nw_neg ha
theorem ix (ha : QE γ X a da) (hb : QE γ X b db) (hp : zi6 b := by exact fun _ _ => rfl) : QE γ X (.Subscript a b pos) (HL.dOp HL.oIx da db) := q_ix ix_seq os_ix nw_ix ha hb hp
theorem zgC {p : Pos} {es : List Expr} {d : DA} (hg : Gl X "len") (hm : X.mg "len" = none) (ha : QA γ X (e :: es) d) (he : starEach (e :: es) X.env = (false, eval e X.env) :: starEach es X.env := by rfl) (hpl : (backTo pos (starEach es X.env)).any (·.1) = false := by rfl) : QE γ X (.Call (.Name "len" p) (e :: es) [] pos) (HL.dB HL.zc7 d) := zgZ zjX cs_len nw_len hg hm PySem.boot_len ha (by decide) (by decide) he hpl
theorem f_max (hc : X.calm = true) {p : Pos} {es : List Expr} {d : DA} (hg : Gl X "max") (hm : X.mg "max" = none) (ha : QA γ X (e :: es) d) (he : starEach (e :: es) X.env = (false, eval e X.env) :: starEach es X.env := by rfl) (hpl : (backTo pos (starEach es X.env)).any (·.1) = false := by rfl) : QE γ X (.Call (.Name "max" p) (e :: es) [] pos) (HL.dB HL.zgE d) := zgZ (zkn hc) cs_max2 nw_max2 hg hm PyProof.Rows.boot_max ha (by decide) (by decide) he hpl
theorem f_min (hc : X.calm = true) {p : Pos} {es : List Expr} {d : DA} (hg : Gl X "min") (hm : X.mg "min" = none) (ha : QA γ X (e :: es) d) (he : starEach (e :: es) X.env = (false, eval e X.env) :: starEach es X.env := by rfl) (hpl : (backTo pos (starEach es X.env)).any (·.1) = false := by rfl) : QE γ X (.Call (.Name "min" p) (e :: es) [] pos) (HL.dB HL.zgD d) := zgZ (zkm hc) cs_min2 nw_min2 hg hm PyProof.Rows.boot_min ha (by decide) (by decide) he hpl
theorem f_int {p : Pos} {es : List Expr} {d : DA} (hg : Gl X "int") (hm : X.mg "int" = none) (ha : QA γ X (e :: es) d) (he : starEach (e :: es) X.env = (false, eval e X.env) :: starEach es X.env := by rfl) (hpl : (backTo pos (starEach es X.env)).any (·.1) = false := by rfl) : QE γ X (.Call (.Name "int" p) (e :: es) [] pos) (HL.dB HL.zev d) := zhg zko cs_int nw_bint hg hm PyProof.Rows.boot_int ha (by decide) (by decide) he hpl
theorem zgn {p : Pos} {es : List Expr} {d : DA} (hg : Gl X "list") (hm : X.mg "list" = none) (ha : QA γ X (e :: es) d) (he : starEach (e :: es) X.env = (false, eval e X.env) :: starEach es X.env := by rfl) (hpl : (backTo pos (starEach es X.env)).any (·.1) = false := by rfl) : QE γ X (.Call (.Name "list" p) (e :: es) [] pos) (HL.dB HL.zcA d) := zhg zi1 cs_list zmw hg hm PyProof.Rows.boot_list ha (by decide) (by decide) he hpl
theorem zli {p : Pos} {es : List Expr} {d : DA} (hg : Gl X "tuple") (hm : X.mg "tuple" = none) (ha : QA γ X (e :: es) d) (he : starEach (e :: es) X.env = (false, eval e X.env) :: starEach es X.env := by rfl) (hpl : (backTo pos (starEach es X.env)).any (·.1) = false := by rfl) : QE γ X (.Call (.Name "tuple" p) (e :: es) [] pos) (HL.dB HL.zds d) := zhg zhT zmU zlL hg hm PyProof.Rows.boot_tuple ha (by decide) (by decide) he hpl
theorem zeW {T : HL.CT} (O : zgF X.K γ T) {p : Pos} {es : List Expr} {d : DA} (hg : Gl X "isinstance") (hm : X.mg "isinstance" = none) (ha : QA γ X (e :: es) d) (he : starEach (e :: es) X.env = (false, eval e X.env) :: starEach es X.env := by rfl) (hpl : (backTo pos (starEach es X.env)).any (·.1) = false := by rfl) : QE γ X (.Call (.Name "isinstance" p) (e :: es) [] pos) (HL.dB (HL.zdT T) d) := zgZ zl2 (cs_isi O) nw_isi hg hm PyProof.Rows.boot_isinstance ha (by decide) (by decide) he hpl
end
end L2
namespace L2
open PySem PySem.Spec PyProof.Rows
open HL (W SO Sh Sg OR DE DT DA DS Fn)
structure zb8 (K : PySem.W.Frag) (C : Addr) (m qual : Str) (st : Stmt) (ps : List Str) : Prop where
  ex : ∃ (f : Addr) (oc : Value) (od : Option Addr) (dV kV doc pm : Value) (an : Option Addr) (cdv ct : Value) (osl : Array (Option Value)),
    K.lookup f = some ⟨oc, od, .func (PySem.W.fnOf m qual (zbJ st) (zaY st) (zai st) dV kV doc pm an cdv ct), osl⟩ ∧ PySem.W.codeIn K cdv qual = true ∧ PySem.W.keepIn K (.ref f) = true ∧ PySem.W.findIn K (.ref C) m = some (some (.ref f)) ∧ PySem.W.isFn K (.ref f) = true ∧
    zdw K (PySem.W.fnOf m qual (zbJ st) (zaY st) (zai st) dV kV doc pm an cdv ct) ps []
theorem zeU {K : PySem.W.Frag} {C : Addr} {m qual : Str} {st : Stmt} {ps : List Str} {f : Addr} {oc : Value} {od an : Option Addr} {osl : Array (Option Value)} {dV kV doc pm cdv ct : Value}
    (a : PySem.W.findIn K (.ref C) m = some (some (.ref f))) (l : K.lookup f = some ⟨oc, od, .func (PySem.W.fnOf m qual (zbJ st) (zaY st) (zai st) dV kV doc pm an cdv ct), osl⟩)
    (c : PySem.W.codeIn K cdv qual = true) (k : PySem.W.keepIn K (.ref f) = true) (n : PySem.W.isFn K (.ref f) = true) (b : zdw K (PySem.W.fnOf m qual (zbJ st) (zaY st) (zai st) dV kV doc pm an cdv ct) ps []) : zb8 K C m qual st ps := ⟨f, oc, od, dV, kV, doc, pm, an, cdv, ct, osl, l, c, k, a, n, b⟩
section
variable {P : Program} {w : World} {K : PySem.W.Frag} {mg : Str → Option Value} {base : Heap} {γ : Str → Addr}
theorem zb8.qdef {C : Addr} {m qual : Str} {st : Stmt} {N ps : List Str} {k p n : Nat} {bd : DS} (F : zb8 K C m qual st ps) (S : zaH N ps (zai st)) (hp : ps.length = p) (hn : N.length = n)
    (hbody : ∀ (f : Addr) (cdv : Value) (A : Around) (outer : List Env) (s : Shared) (H : Hp) (E : XK), zbr k (A.deeper (envOfC qual (zai st) s.heap.objs.size f cdv)) →
      QSs γ (zgr CX0 P w K mg base N qual (zai st) f cdv A outer s H E).nox (zaY st) bd) : zdt P w K mg base (k + 1) C m ps (spF K γ p (HL.fnOf p n bd)) := by
  obtain ⟨f, oc, od, dV, kV, doc, pm, an, cdv, ct, osl, lk, hcd, kp, fi, isf, hb⟩ := F.ex
  refine ⟨f, _, fn_of lk hcd S (fun vs H Q E h => h.1.trans hp.symm) fun A outer s H vs Q E hr hsp => ⟨_, (hbody f cdv A outer s H E hr).nox, ?_⟩, fi, isf, kp, hb⟩
  obtain ⟨_, ρ, hh, us, S, wu, e, x⟩ := hsp
  rw [e]
  subst hn
  exact ziV S wu x
structure MkC (K : PySem.W.Frag) (mg : Str → Option Value) (x : Str) (C : Addr) : Prop where
  at_ : mg x = some (.ref C)
  makes : PySem.W.makesIn K C = true
  kp : PySem.W.keepIn K (.ref C) = true
end
theorem zfX {X : Cx} {γ : Str → Addr} {x : Str} {k p n : Nat} {bd : DS} {ps : List Str} (M : MkC X.K X.mg x (γ x)) (D : zdt X.prog X.w X.K X.mg X.base k (γ x) "__init__" ps (spF X.K γ p (HL.fnOf p n bd))) (hr : zbr (k + 1) X.A) : NewOk X γ x p (HL.fnOf p n bd) [] where
  at_ := M.at_
  ex := by
    obtain ⟨f, fd, F, a, nf, kp, b⟩ := D.ex
    exact ⟨k, f, fd, ps, [], n, bd, rfl, ⟨M.makes, a, nf, M.kp⟩, F, hr, b, fun _ => .nil, fun _ y hy => by cases hy⟩
end L2
namespace L2
open PySem PySem.Spec PyProof.Rows
open HL (W SO Sh Sg OR DE DT DA DS Fn)
structure MethD (K : PySem.W.Frag) (C : Addr) (m qual : Str) (st : Stmt) (ps : List Str) (vs : List W) : Prop where
  ex : ∃ (f : Addr) (oc : Value) (od : Option Addr) (dV kV doc pm : Value) (an : Option Addr) (cdv ct : Value) (osl : Array (Option Value)),
    K.lookup f = some ⟨oc, od, .func (PySem.W.fnOf m qual (zbJ st) (zaY st) (zai st) dV kV doc pm an cdv ct), osl⟩ ∧ PySem.W.codeIn K cdv qual = true ∧ PySem.W.keepIn K (.ref f) = true ∧ PySem.W.findIn K (.ref C) m = some (some (.ref f)) ∧ PySem.W.isFn K (.ref f) = true ∧
    ∃ ds, zdw K (PySem.W.fnOf m qual (zbJ st) (zaY st) (zai st) dV kV doc pm an cdv ct) ps ds ∧ ∀ (γ : Str → Addr) (ρ : Nat → Addr), zaD (vs.map (zau γ ρ)) ds
structure NDef (P : Program) (w : World) (K : PySem.W.Frag) (mg : Str → Option Value) (base : Heap) (k : Nat) (C : Addr) (m : Str) (ps : List Str) (vs : List W) (sp : Sp) : Prop where
  ex : ∃ f fd ds, zf7 P w K mg base CX0 k f fd ps sp ∧ PySem.W.findIn K (.ref C) m = some (some (.ref f)) ∧ PySem.W.isFn K (.ref f) = true ∧ PySem.W.keepIn K (.ref f) = true ∧ zdw K fd ps ds ∧ ∀ (γ : Str → Addr) (ρ : Nat → Addr), zaD (vs.map (zau γ ρ)) ds
section
variable {P : Program} {w : World} {K : PySem.W.Frag} {mg : Str → Option Value} {base : Heap} {γ : Str → Addr}
end
end L2
namespace L2
open PySem
end L2
namespace HL
open PySem (Str)
inductive P where
  | non | bl (b : Bool) | int (i : Int) | str (s : Str) | ty (n : String) | gl (x : Str)
  | lst (xs : List P) | rol (xs : List P) | tup (xs : List P) | ins (c : Str) (fs : List (Str × P))
  deriving Inhabited
mutual
def Dn (T : Nat → Prop) (h : Sh) : P → W → Prop
  | .non, w => w = .non
  | .bl b, w => w = .bl b
  | .int i, w => w = .int i
  | .str s, w => w = .str s
  | .ty n, w => w = .ty n
  | .gl x, w => w = .gl x
  | .lst ps, w => ∃ i us, w = .ref i ∧ ¬ T i ∧ h[i]? = some (.lst us) ∧ Dns T h ps us
  | .rol ps, w => ∃ i us, w = .ref i ∧ ¬ T i ∧ h[i]? = some (.rol us) ∧ Dns T h ps us
  | .tup ps, w => ∃ i us, w = .ref i ∧ ¬ T i ∧ h[i]? = some (.tup us) ∧ Dns T h ps us
  | .ins c fs, w => ∃ i gs, w = .ref i ∧ ¬ T i ∧ h[i]? = some (.ins c gs) ∧ Dnf T h fs gs
def Dns (T : Nat → Prop) (h : Sh) : List P → List W → Prop
  | [], us => us = []
  | p :: ps, us => ∃ u r, us = u :: r ∧ Dn T h p u ∧ Dns T h ps r
def Dnf (T : Nat → Prop) (h : Sh) : List (Str × P) → List (Str × W) → Prop
  | [], us => us = []
  | p :: ps, us => ∃ u r, us = (p.1, u) :: r ∧ Dn T h p.2 u ∧ Dnf T h ps r
end
mutual
theorem Dn.mono {T T' : Nat → Prop} {h h' : Sh} (k : ∀ (i : Nat) (o : SO), ¬ T i → h[i]? = some o → h'[i]? = some o ∧ ¬ T' i) : ∀ (p : P) (w : W), Dn T h p w → Dn T' h' p w
  | .non, w, x => by simpa only [Dn] using x
  | .bl _, w, x => by simpa only [Dn] using x
  | .int _, w, x => by simpa only [Dn] using x
  | .str _, w, x => by simpa only [Dn] using x
  | .ty _, w, x => by simpa only [Dn] using x
  | .gl _, w, x => by simpa only [Dn] using x
  | .lst ps, w, x => by
    simp only [Dn] at x ⊢
    obtain ⟨i, us, e, t, g, d⟩ := x
    exact ⟨i, us, e, (k i _ t g).2, (k i _ t g).1, Dns.mono k ps us d⟩
  | .rol ps, w, x => by
    simp only [Dn] at x ⊢
    obtain ⟨i, us, e, t, g, d⟩ := x
    exact ⟨i, us, e, (k i _ t g).2, (k i _ t g).1, Dns.mono k ps us d⟩
  | .tup ps, w, x => by
    simp only [Dn] at x ⊢
    obtain ⟨i, us, e, t, g, d⟩ := x
    exact ⟨i, us, e, (k i _ t g).2, (k i _ t g).1, Dns.mono k ps us d⟩
  | .ins c fs, w, x => by
    simp only [Dn] at x ⊢
    obtain ⟨i, us, e, t, g, d⟩ := x
    exact ⟨i, us, e, (k i _ t g).2, (k i _ t g).1, Dnf.mono k fs us d⟩
theorem Dns.mono {T T' : Nat → Prop} {h h' : Sh} (k : ∀ (i : Nat) (o : SO), ¬ T i → h[i]? = some o → h'[i]? = some o ∧ ¬ T' i) : ∀ (ps : List P) (us : List W), Dns T h ps us → Dns T' h' ps us
  | [], us, x => by simpa only [Dns] using x
  | p :: ps, us, x => by
    simp only [Dns] at x ⊢
    obtain ⟨u, r, e, d, ds⟩ := x
    exact ⟨u, r, e, Dn.mono k p u d, Dns.mono k ps r ds⟩
theorem Dnf.mono {T T' : Nat → Prop} {h h' : Sh} (k : ∀ (i : Nat) (o : SO), ¬ T i → h[i]? = some o → h'[i]? = some o ∧ ¬ T' i) : ∀ (ps : List (Str × P)) (us : List (Str × W)), Dnf T h ps us → Dnf T' h' ps us
  | [], us, x => by simpa only [Dnf] using x
  | p :: ps, us, x => by
    simp only [Dnf] at x ⊢
    obtain ⟨u, r, e, d, ds⟩ := x
    exact ⟨u, r, e, Dn.mono k p.2 u d, Dnf.mono k ps r ds⟩
end
section
variable {T : Nat → Prop} {h l : Sh}
theorem zax {i : Nat} {o : SO} (e : h[i]? = some o) : (h ++ l)[i]? = some o := by
  rw [List.getElem?_append_left (List.getElem?_eq_some_iff.mp e).1]; exact e
theorem Dn.app {p : P} {w : W} (x : Dn T h p w) : Dn T (h ++ l) p w := Dn.mono (fun _ _ t e => ⟨zax e, t⟩) p w x
theorem Dns.app {p : List P} {w : List W} (x : Dns T h p w) : Dns T (h ++ l) p w := Dns.mono (fun _ _ t e => ⟨zax e, t⟩) p w x
theorem Dns.length : ∀ {ps : List P} {us : List W}, Dns T h ps us → us.length = ps.length
  | [], us, x => by simp only [Dns] at x; rw [x]; rfl
  | p :: ps, us, x => by
    simp only [Dns] at x
    obtain ⟨u, r, e, d, ds⟩ := x
    rw [e, List.length_cons, List.length_cons, Dns.length ds]
theorem Dns.get : ∀ {ps : List P} {us : List W} {i : Nat} {p : P}, Dns T h ps us → ps[i]? = some p → ∃ u, us[i]? = some u ∧ Dn T h p u
  | [], us, i, p, x, e => by simp at e
  | q :: ps, us, 0, p, x, e => by
    simp only [Dns] at x
    obtain ⟨u, r, e1, d, ds⟩ := x
    simp at e; subst e
    exact ⟨u, by rw [e1]; rfl, d⟩
  | q :: ps, us, i + 1, p, x, e => by
    simp only [Dns] at x
    obtain ⟨u, r, e1, d, ds⟩ := x
    obtain ⟨v, a, b⟩ := Dns.get (i := i) ds (by simpa using e)
    exact ⟨v, by rw [e1]; simpa using a, b⟩
theorem Dns.append : ∀ {ps qs : List P} {us vs : List W}, Dns T h ps us → Dns T h qs vs → Dns T h (ps ++ qs) (us ++ vs)
  | [], qs, us, vs, x, y => by simp only [Dns] at x; rw [x]; exact y
  | p :: ps, qs, us, vs, x, y => by
    simp only [Dns] at x
    obtain ⟨u, r, e, d, ds⟩ := x
    rw [e]
    simp only [List.cons_append, Dns]
    exact ⟨u, _, rfl, d, Dns.append ds y⟩
theorem Dns.take : ∀ {ps : List P} {us : List W} (n : Nat), Dns T h ps us → Dns T h (ps.take n) (us.take n)
  | ps, us, 0, x => by simp only [List.take_zero, Dns]
  | [], us, n + 1, x => by simp only [Dns] at x; rw [x]; simp only [List.take_nil, Dns]
  | p :: ps, us, n + 1, x => by
    simp only [Dns] at x
    obtain ⟨u, r, e, d, ds⟩ := x
    rw [e]
    simp only [List.take_succ_cons, Dns]
    exact ⟨u, _, rfl, d, Dns.take n ds⟩
theorem Dns.one {p : P} {u : W} (d : Dn T h p u) : Dns T h [p] [u] := by
  simp only [Dns]; exact ⟨u, [], rfl, d, rfl⟩
theorem Dns.set {q : P} {v : W} (dq : Dn T h q v) : ∀ {ps : List P} {us : List W} (i : Nat), Dns T h ps us → Dns T h (ps.set i q) (us.set i v)
  | [], us, i, x => by simp only [Dns] at x; rw [x]; simp only [List.set_nil, Dns]
  | p :: ps, us, 0, x => by
    simp only [Dns] at x
    obtain ⟨u, r, e, d, ds⟩ := x
    rw [e]
    simp only [List.set_cons_zero, Dns]
    exact ⟨v, r, rfl, dq, ds⟩
  | p :: ps, us, i + 1, x => by
    simp only [Dns] at x
    obtain ⟨u, r, e, d, ds⟩ := x
    rw [e]
    simp only [List.set_cons_succ, Dns]
    exact ⟨u, _, rfl, d, Dns.set dq i ds⟩
theorem Dns.rep {ps : List P} {us : List W} (x : Dns T h ps us) : ∀ n : Nat, Dns T h (List.replicate n ps).flatten (List.replicate n us).flatten
  | 0 => by simp only [List.replicate_zero, List.flatten_nil, Dns]
  | n + 1 => by
    rw [List.replicate_succ, List.replicate_succ, List.flatten_cons, List.flatten_cons]
    exact x.append (Dns.rep x n)
theorem Dns.nil_iff {ps : List P} {us : List W} (x : Dns T h ps us) : us.isEmpty = ps.isEmpty := by
  cases ps with
  | nil => simp only [Dns] at x; rw [x]; rfl
  | cons p ps => simp only [Dns] at x; obtain ⟨u, r, e, _⟩ := x; rw [e]; rfl
end
inductive Fv where
  | val (p : P) | own (xs : List P)
  deriving Inhabited
inductive Sl where
  | no | val (p : P) | own (xs : List P) | obj (c : Str) (fs : List (Str × Fv))
  deriving Inhabited
abbrev Dl := List Sl
inductive RS where
  | nx (d : Dl) | rt (p : P) | rx (p : P) (d : Dl) | ro (xs : List P) | bk (d : Dl) | ct (d : Dl) | er
inductive RF where
  | v (p : P) | o (xs : List P)
def RF.val : RF → P
  | .v p => p
  | .o xs => .lst xs
abbrev PE := Dl → Option P
abbrev PT := Dl → Option Bool
abbrev PA := Dl → Option (List P)
abbrev PS := Dl → RS
abbrev PF := List P → Option RF
def FsD (T : Nat → Prop) (h : Sh) : List (Str × Fv) → List (Str × W) → List Nat → Prop
  | [], gs, o => gs = [] ∧ o = []
  | (f, .val p) :: fs, gs, o => ∃ u r, gs = (f, u) :: r ∧ Dn T h p u ∧ FsD T h fs r o
  | (f, .own xs) :: fs, gs, o => ∃ a us r o', gs = (f, .ref a) :: r ∧ o = a :: o' ∧ h[a]? = some (.lst us) ∧ Dns T h xs us ∧ FsD T h fs r o'
def SlD (T : Nat → Prop) (h : Sh) (w : Option W) (o : List Nat) : Sl → Prop
  | .no => o = []
  | .val p => o = [] ∧ ∃ u, w = some u ∧ Dn T h p u
  | .own xs => ∃ a us, o = [a] ∧ w = some (.ref a) ∧ h[a]? = some (.lst us) ∧ Dns T h xs us
  | .obj c fs => ∃ a gs o', o = a :: o' ∧ o.Nodup ∧ w = some (.ref a) ∧ h[a]? = some (.ins c gs) ∧ FsD T h fs gs o'
def Ow (O : List (List Nat)) (a : Nat) : Prop := ∃ l ∈ O, a ∈ l
theorem Ow.of {O : List (List Nat)} {i a : Nat} {l : List Nat} (e : O[i]? = some l) (m : a ∈ l) : Ow O a := ⟨l, List.mem_of_getElem? e, m⟩
theorem Ow.one {O : List (List Nat)} {i a : Nat} (e : O[i]? = some [a]) : Ow O a := Ow.of e List.mem_cons_self
theorem Ow.at_ {O : List (List Nat)} {a : Nat} (x : Ow O a) : ∃ (i : Nat) (l : List Nat), O[i]? = some l ∧ a ∈ l := by
  obtain ⟨l, m, h⟩ := x
  obtain ⟨i, e⟩ := List.mem_iff_getElem?.mp m
  exact ⟨i, l, e, h⟩
theorem Ow.set {O : List (List Nat)} {i a : Nat} {l : List Nat} (x : Ow (O.set i l) a) : Ow O a ∨ a ∈ l := by
  obtain ⟨k, m, z⟩ := x
  rcases List.mem_or_eq_of_mem_set m with q | q
  · exact .inl ⟨k, q, z⟩
  · subst q; exact .inr z
theorem Ow.none {m a : Nat} (x : Ow (List.replicate m []) a) : False := by
  obtain ⟨l, q, z⟩ := x
  rw [(List.mem_replicate.mp q).2] at z; cases z
theorem zhx {O : List (List Nat)} {i : Nat} {a : Nat} {l : List Nat} (o : (O[i]?).getD [] = a :: l) : O[i]? = some (a :: l) := by
  cases q : O[i]? with
  | none => rw [q] at o; cases o
  | some z => rw [q] at o; exact congrArg some o
def Tb (B : Nat → Prop) (O : List (List Nat)) : Nat → Prop := fun i => B i ∨ Ow O i
structure Lo where
  at_ : Nat
  lent : Nat → Prop
  me : Option W
structure Env (n : Lo) (B : Nat → Prop) (O : List (List Nat)) (s : Sg) (h : Sh) (δ : Dl) : Prop where
  le : n.at_ ≤ h.length
  old : ∀ i, B i → i < n.at_ ∧ ¬ n.lent i
  ls : s.length = δ.length
  lo : O.length = δ.length
  one : ∀ (i j a : Nat) (l m : List Nat), O[i]? = some l → O[j]? = some m → a ∈ l → a ∈ m → i = j
  new : ∀ a, Ow O a → (n.at_ ≤ a ∨ n.lent a) ∧ a < h.length
  at_ : ∀ (i : Nat) (sl : Sl), δ[i]? = some sl → SlD (Tb B O) h ((s[i]?).getD none) ((O[i]?).getD []) sl
  self : ∀ c fs w, δ[0]? = some (.obj c fs) → n.me = some w → s[0]? = some (some w)
section
variable {n : Lo} {B : Nat → Prop} {O : List (List Nat)} {s : Sg} {h l : Sh} {δ : Dl}
theorem FsD.mv {T T' : Nat → Prop} {h h' : Sh} (k : ∀ (i : Nat) (u : SO), ¬ T i → h[i]? = some u → h'[i]? = some u ∧ ¬ T' i) : ∀ (fs : List (Str × Fv)) (gs : List (Str × W)) (o : List Nat), (∀ a ∈ o, ∀ u, h[a]? = some u → h'[a]? = some u) → FsD T h fs gs o → FsD T' h' fs gs o
  | [], gs, o, ko, x => by simpa only [FsD] using x
  | (f, .val p) :: fs, gs, o, ko, x => by
    simp only [FsD] at x ⊢
    obtain ⟨u, r, e, d, y⟩ := x
    exact ⟨u, r, e, Dn.mono k p u d, FsD.mv k fs r o ko y⟩
  | (f, .own xs) :: fs, gs, o, ko, x => by
    simp only [FsD] at x ⊢
    obtain ⟨a, us, r, o', e1, e2, g, d, y⟩ := x
    subst e2
    exact ⟨a, us, r, o', e1, rfl, ko a List.mem_cons_self _ g, Dns.mono k xs us d, FsD.mv k fs r o' (fun b hb => ko b (List.mem_cons_of_mem _ hb)) y⟩
theorem SlD.mv {T T' : Nat → Prop} {h h' : Sh} {w : Option W} {o : List Nat} {sl : Sl} (x : SlD T h w o sl) (k : ∀ (i : Nat) (u : SO), ¬ T i → h[i]? = some u → h'[i]? = some u ∧ ¬ T' i) (ko : ∀ a ∈ o, ∀ u, h[a]? = some u → h'[a]? = some u) : SlD T' h' w o sl := by
  cases sl with
  | no => exact x
  | val p => obtain ⟨a, u, b, d⟩ := x; exact ⟨a, u, b, Dn.mono k p u d⟩
  | own xs => obtain ⟨a, us, b, c, d, e⟩ := x; exact ⟨a, us, b, c, ko a (by rw [b]; exact List.mem_cons_self) _ d, Dns.mono k xs us e⟩
  | obj c fs =>
    obtain ⟨a, gs, o', e1, nd, e2, g, y⟩ := x
    exact ⟨a, gs, o', e1, nd, e2, ko a (by rw [e1]; exact List.mem_cons_self) _ g, FsD.mv k fs gs o' (fun b hb => ko b (by rw [e1]; exact List.mem_cons_of_mem _ hb)) y⟩
theorem SlD.app {T : Nat → Prop} {w : Option W} {o : List Nat} {sl : Sl} (x : SlD T h w o sl) : SlD T (h ++ l) w o sl := x.mv (fun _ _ t e => ⟨zax e, t⟩) fun _ _ _ e => zax e
theorem Env.app (E : Env n B O s h δ) : Env n B O s (h ++ l) δ :=
  ⟨by rw [List.length_append]; have := E.le; omega, E.old, E.ls, E.lo, E.one, fun a ha => ⟨(E.new a ha).1, by rw [List.length_append]; have := (E.new a ha).2; omega⟩, fun i sl e => (E.at_ i sl e).app, E.self⟩
theorem zjk (E : Env n B O s h δ) (i : Nat) {x : Sl} {v : Option W} (hx : ∀ c fs, x ≠ .obj c fs) : ∀ c fs w, (δ.set i x)[0]? = some (.obj c fs) → n.me = some w → (s.set i v)[0]? = some (some w) := fun c fs w e m => by
  by_cases hi : i = 0
  · subst hi
    rw [List.getElem?_set] at e
    simp only [if_true] at e
    split at e
    · cases e; exact absurd rfl (hx c fs)
    · cases e
  · rw [List.getElem?_set_ne hi] at e ⊢; exact E.self c fs w e m
theorem zjl (E : Env n B O s h δ) (i : Nat) {x : Sl} (hx : ∀ c fs, x ≠ .obj c fs) : ∀ c fs w, (δ.set i x)[0]? = some (.obj c fs) → n.me = some w → s[0]? = some (some w) := fun c fs w e m => by
  by_cases hi : i = 0
  · subst hi
    rw [List.getElem?_set] at e
    simp only [if_true] at e
    split at e
    · cases e; exact absurd rfl (hx c fs)
    · cases e
  · rw [List.getElem?_set_ne hi] at e; exact E.self c fs w e m
def Pe (d : DE) (p : PE) : Prop := ∀ n B O s h δ r, Env n B O s h δ → p δ = some r → ∃ w l, d s h = .ok w (h ++ l) ∧ Dn (Tb B O) (h ++ l) r w
def DnB (T : Nat → Prop) (h : Sh) (p : P) (w : W) : Prop := Dn T h p w ∨ ∃ xs a us, p = .lst xs ∧ w = .ref a ∧ h[a]? = some (.lst us) ∧ Dns T h xs us
theorem DnB.app {T : Nat → Prop} {p : P} {w : W} (x : DnB T h p w) : DnB T (h ++ l) p w := by
  rcases x with x | ⟨xs, a, us, e1, e2, g, d⟩
  · exact .inl x.app
  · exact .inr ⟨xs, a, us, e1, e2, zax g, d.app⟩
def Pb (d : DE) (p : PE) : Prop := ∀ n B O s h δ r, Env n B O s h δ → p δ = some r → ∃ w l, d s h = .ok w (h ++ l) ∧ DnB (Tb B O) (h ++ l) r w
theorem Pe.b {d : DE} {p : PE} (x : Pe d p) : Pb d p := fun n B O s h δ r E e => by
  obtain ⟨w, l, a, b⟩ := x n B O s h δ r E e
  exact ⟨w, l, a, .inl b⟩
def Po (d : DE) (p : Dl → Option (List P)) : Prop := ∀ n B O s h δ r, Env n B O s h δ → p δ = some r → ∃ a l us, d s h = .ok (.ref a) (h ++ l) ∧ h.length ≤ a ∧ (h ++ l)[a]? = some (.lst us) ∧ Dns (fun i => Tb B O i ∨ i = a) (h ++ l) r us
theorem Dns.weak {T T' : Nat → Prop} {ps : List P} {us : List W} (x : Dns T h ps us) (k : ∀ i, T' i → T i) : Dns T' h ps us := Dns.mono (fun i o t e => ⟨e, fun z => t (k i z)⟩) ps us x
theorem Dn.weak {T T' : Nat → Prop} {p : P} {u : W} (x : Dn T h p u) (k : ∀ i, T' i → T i) : Dn T' h p u := Dn.mono (fun i o t e => ⟨e, fun z => t (k i z)⟩) p u x
theorem Tb.lt (E : Env n B O s h δ) {i : Nat} (t : Tb B O i) : i < h.length := by
  rcases t with t | t
  · exact Nat.lt_of_lt_of_le (E.old i t).1 E.le
  · exact (E.new i t).2
theorem Po.e {d : DE} {p : Dl → Option (List P)} (x : Po d p) : Pe d (fun δ => (p δ).map .lst) := fun n B O s h δ r E e => by
  have e : (p δ).map P.lst = some r := e
  cases q : p δ with
  | none => rw [q] at e; cases e
  | some xs =>
    rw [q] at e; cases e
    obtain ⟨a, l, us, e1, ge, g, ds⟩ := x n B O s h δ xs E q
    refine ⟨_, l, e1, ?_⟩
    simp only [Dn]
    exact ⟨a, us, rfl, fun t => absurd (Tb.lt E t) (by omega), g, ds.weak fun i t => .inl t⟩
def Pa (d : DA) (p : PA) : Prop := ∀ n B O s h δ r, Env n B O s h δ → p δ = some r → ∃ w l, d s h = .ok w (h ++ l) ∧ Dns (Tb B O) (h ++ l) r w
def Pt (d : DT) (p : PT) : Prop := ∀ n B O s h δ r, Env n B O s h δ → p δ = some r → ∃ l, d s h = .ok r (h ++ l)
def zaj (i : Nat) : PE := fun δ => match δ[i]? with
  | some (.val p) => some p
  | _ => none
def pBor (i : Nat) : PE := fun δ => match δ[i]? with
  | some (.val p) => some p
  | some (.own xs) => some (.lst xs)
  | _ => none
theorem zae (i : Nat) : Pe (zac i) (zaj i) := fun n B O s h δ r E e => by
  unfold zaj at e
  split at e
  · rename_i p q
    cases e
    obtain ⟨_, u, a, b⟩ := E.at_ i _ q
    refine ⟨u, [], ?_, by rw [List.append_nil]; exact b⟩
    unfold zac
    cases q2 : s[i]? with
    | none => rw [q2] at a; cases a
    | some z => rw [q2] at a; simp only [Option.getD_some] at a; subst a; rw [List.append_nil]
  · cases e
def pC (p : P) : PE := fun _ => some p
theorem e_c {w : W} {p : P} (k : ∀ T h, Dn T h p w) : Pe (dC w) (pC p) := fun n B O s h δ r E e => by
  cases e
  exact ⟨w, [], by rw [List.append_nil]; rfl, k _ _⟩
theorem zal (i : Int) : Pe (dC (.int i)) (pC (.int i)) := e_c fun _ _ => by simp only [Dn]
theorem e_bl (b : Bool) : Pe (dC (.bl b)) (pC (.bl b)) := e_c fun _ _ => by simp only [Dn]
theorem zeX : Pe (dC .non) (pC .non) := e_c fun _ _ => by simp only [Dn]
theorem e_ty (x : String) : Pe (dC (.ty x)) (pC (.ty x)) := e_c fun _ _ => by simp only [Dn]
def OrD (T : Nat → Prop) (h : Sh) (r : P) : OR → Prop
  | .er => False
  | .val u => Dn T h r u
  | .new (.lst us) => ∃ rs, r = .lst rs ∧ Dns T h rs us
  | .new (.tup us) => ∃ rs, r = .tup rs ∧ Dns T h rs us
  | .new _ => False
theorem zlg {T : Nat → Prop} {o : OR} {r : P} (lt : ∀ i, T i → i < h.length) (x : OrD T h r o) : ∃ w l, o.fin h = .ok w (h ++ l) ∧ Dn T (h ++ l) r w := by
  cases o with
  | er => exact x.elim
  | val u => exact ⟨u, [], by rw [List.append_nil]; rfl, by rw [List.append_nil]; exact x⟩
  | new o =>
    cases o with
    | lst us =>
      obtain ⟨rs, rfl, d⟩ := x
      refine ⟨_, [.lst us], rfl, ?_⟩
      simp only [Dn]
      exact ⟨h.length, us, rfl, fun t => absurd (lt _ t) (by omega), by simp, d.app⟩
    | tup us =>
      obtain ⟨rs, rfl, d⟩ := x
      refine ⟨_, [.tup us], rfl, ?_⟩
      simp only [Dn]
      exact ⟨h.length, us, rfl, fun t => absurd (lt _ t) (by omega), by simp, d.app⟩
    | _ => exact x.elim
def O2D (f : O2) (g : P → P → Option P) : Prop := ∀ T h p q w v r, DnB T h p w → DnB T h q v → g p q = some r → OrD T h r (f w v h)
def pOp (g : P → P → Option P) (a b : PE) : PE := fun δ => (a δ).bind fun x => (b δ).bind fun y => g x y
theorem zao {f : O2} {g : P → P → Option P} {a b : DE} {p q : PE} (k : O2D f g) (ha : Pb a p) (hb : Pb b q) : Pe (dOp f a b) (pOp g p q) := fun n B O s h δ r E e => by
  unfold pOp at e
  cases e1 : p δ with
  | none => rw [e1] at e; cases e
  | some x =>
    rw [e1] at e
    simp only [Option.bind_some] at e
    cases e2 : q δ with
    | none => rw [e2] at e; cases e
    | some y =>
      rw [e2] at e
      simp only [Option.bind_some] at e
      obtain ⟨w, l, c1, d1⟩ := ha n B O s h δ x E e1
      obtain ⟨v, l2, c2, d2⟩ := hb n B O s (h ++ l) δ y E.app e2
      have d1' : DnB (Tb B O) (h ++ l ++ l2) x w := d1.app
      obtain ⟨u, l3, c3, d3⟩ := zlg (h := h ++ l ++ l2) (fun i t => Tb.lt (E.app (l := l) |>.app (l := l2)) t) (k _ _ _ _ _ _ _ d1' d2 e)
      refine ⟨u, l ++ l2 ++ l3, ?_, ?_⟩
      · unfold dOp
        rw [c1]
        simp only [R.bind]
        rw [c2]
        simp only
        rw [c3]
        simp only [List.append_assoc]
      · simp only [List.append_assoc] at d3 ⊢
        exact d3
theorem DnB.int {T : Nat → Prop} {i : Int} {w : W} (x : DnB T h (.int i) w) : w = .int i := by
  rcases x with x | ⟨xs, a, us, e, _⟩
  · simpa only [Dn] using x
  · cases e
theorem DnB.str {T : Nat → Prop} {i : Str} {w : W} (x : DnB T h (.str i) w) : w = .str i := by
  rcases x with x | ⟨xs, a, us, e, _⟩
  · simpa only [Dn] using x
  · cases e
theorem DnB.bl {T : Nat → Prop} {i : Bool} {w : W} (x : DnB T h (.bl i) w) : w = .bl i := by
  rcases x with x | ⟨xs, a, us, e, _⟩
  · simpa only [Dn] using x
  · cases e
theorem DnB.non {T : Nat → Prop} {w : W} (x : DnB T h .non w) : w = .non := by
  rcases x with x | ⟨xs, a, us, e, _⟩
  · simpa only [Dn] using x
  · cases e
theorem DnB.lst {T : Nat → Prop} {xs : List P} {w : W} (x : DnB T h (.lst xs) w) : ∃ a us, w = .ref a ∧ h[a]? = some (.lst us) ∧ Dns T h xs us := by
  rcases x with x | ⟨ys, a, us, e, e2, g, d⟩
  · simp only [Dn] at x
    obtain ⟨i, us, e, _, g, d⟩ := x
    exact ⟨i, us, e, g, d⟩
  · cases e; exact ⟨a, us, e2, g, d⟩
theorem DnB.rol {T : Nat → Prop} {xs : List P} {w : W} (x : DnB T h (.rol xs) w) : ∃ a us, w = .ref a ∧ h[a]? = some (.rol us) ∧ Dns T h xs us := by
  rcases x with x | ⟨ys, a, us, e, e2, g, d⟩
  · simp only [Dn] at x
    obtain ⟨i, us, e, _, g, d⟩ := x
    exact ⟨i, us, e, g, d⟩
  · cases e
theorem DnB.tup {T : Nat → Prop} {xs : List P} {w : W} (x : DnB T h (.tup xs) w) : ∃ a us, w = .ref a ∧ ¬ T a ∧ h[a]? = some (.tup us) ∧ Dns T h xs us := by
  rcases x with x | ⟨ys, a, us, e, e2, g, d⟩
  · simp only [Dn] at x
    obtain ⟨i, us, e, t, g, d⟩ := x
    exact ⟨i, us, e, t, g, d⟩
  · cases e
def qInt (c : Int → Int → Bool) (f : Int → Int → Int) : P → P → Option P
  | .int i, .int j => if c i j then some (.int (f i j)) else none
  | _, _ => none
theorem d_int {c : Int → Int → Bool} {f : Int → Int → Int} : O2D (zgk c f) (qInt c f) := fun T h p q w v r x y e => by
  unfold qInt at e
  split at e
  · split at e
    · rename_i hc
      cases e
      rw [x.int, y.int]
      unfold zgk
      simp only [hc, if_true, OrD, Dn]
    · cases e
  · cases e
def qCmp (c : Int → Int → Bool) : P → P → Option P
  | .int i, .int j => some (.bl (c i j))
  | _, _ => none
theorem d_cmp {c : Int → Int → Bool} : O2D (zhP c) (qCmp c) := fun T h p q w v r x y e => by
  unfold qCmp at e
  split at e
  · cases e
    rw [x.int, y.int]
    unfold zhP
    simp only [OrD, Dn]
  · cases e
def zeH : P → P → Option P
  | .int i, .int j => some (.int (i + j))
  | .str s, .str t => if s.length + t.length ≤ LIM then some (.str (s ++ t)) else none
  | .lst xs, .lst ys => if xs.length + ys.length ≤ LIM then some (.lst (xs ++ ys)) else none
  | .tup xs, .tup ys => if xs.length + ys.length ≤ LIM ∧ !xs.isEmpty then some (.tup (xs ++ ys)) else none
  | _, _ => none
theorem zdc : O2D zbc zeH := fun T h p q w v r x y e => by
  unfold zeH at e
  split at e
  · cases e; rw [x.int, y.int]; unfold zbc; simp only [OrD, Dn]
  · split at e
    · rename_i hl; cases e; rw [x.str, y.str]; unfold zbc; simp only [hl, if_true, OrD, Dn]
    · cases e
  · split at e
    · rename_i hl
      cases e
      obtain ⟨a, us, rfl, g1, d1⟩ := x.lst
      obtain ⟨b, vs, rfl, g2, d2⟩ := y.lst
      unfold zbc
      simp only [g1, g2, d1.length, d2.length, hl, if_true, OrD]
      exact ⟨_, rfl, d1.append d2⟩
    · cases e
  · split at e
    · rename_i hl
      cases e
      obtain ⟨a, us, rfl, t1, g1, d1⟩ := x.tup
      obtain ⟨b, vs, rfl, t2, g2, d2⟩ := y.tup
      have e1 := d1.nil_iff
      have e2 := d2.nil_iff
      unfold zbc
      simp only [g1, g2, d1.length, d2.length]
      have hu : us ≠ [] := fun z => by
        rw [z] at e1
        have := hl.2
        rw [← e1] at this
        simp at this
      rw [if_pos ⟨hl.1, hu⟩]
      by_cases hv : vs = []
      · rw [if_pos hv]
        subst hv
        have hy : ∀ ys : List P, Dns T h ys [] → ys = [] := fun ys d => by
          cases ys with
          | nil => rfl
          | cons a b => simp only [Dns] at d; obtain ⟨_, _, z, _⟩ := d; cases z
        rw [hy _ d2, List.append_nil]
        simp only [OrD, Dn]
        exact ⟨a, us, rfl, t1, g1, d1⟩
      · rw [if_neg hv]
        exact ⟨_, rfl, d1.append d2⟩
    · cases e
  · cases e
def zfT : P → P → Option P
  | .int i, .int j => if zbm i j then some (.int (i * j)) else none
  | .lst xs, .int k => if k < 2 ^ 20 ∧ -(2 ^ 20) < k ∧ xs.length * k.toNat ≤ LIM then some (.lst (List.replicate k.toNat xs).flatten) else none
  | _, _ => none
theorem zfB : O2D zcE zfT := fun T h p q w v r x y e => by
  unfold zfT at e
  split at e
  · split at e
    · rename_i hc; cases e; rw [x.int, y.int]; unfold zcE; simp only [hc, if_true, OrD, Dn]
    · cases e
  · split at e
    · rename_i hc
      cases e
      obtain ⟨a, us, rfl, g1, d1⟩ := x.lst
      rw [y.int]
      unfold zcE
      simp only [g1, d1.length]
      rw [if_pos hc]
      exact ⟨_, rfl, d1.rep _⟩
    · cases e
  · cases e
def zfs : P → Option (List P)
  | .lst xs => some xs
  | .rol xs => some xs
  | .tup xs => some xs
  | _ => none
theorem DnB.seq {T : Nat → Prop} {p : P} {xs : List P} {w : W} (x : DnB T h p w) (e : zfs p = some xs) : ∃ us, zd0 h w = some us ∧ Dns T h xs us := by
  cases p with
  | lst ys => cases e; obtain ⟨a, us, rfl, g, d⟩ := x.lst; exact ⟨us, by simp [zd0, lstW, zcR, g], d⟩
  | rol ys => cases e; obtain ⟨a, us, rfl, g, d⟩ := x.rol; exact ⟨us, by simp [zd0, lstW, zcR, g], d⟩
  | tup ys => cases e; obtain ⟨a, us, rfl, _, g, d⟩ := x.tup; exact ⟨us, by simp [zd0, lstW, zcR, g], d⟩
  | _ => cases e
def atP (xs : List P) (i : Int) : Option P := (ixW xs.length i).bind fun j => xs[j]?
def qIx (p q : P) : Option P := match zfs p, q with
  | some xs, .int i => atP xs i
  | _, _ => none
theorem zcI : O2D oIx qIx := fun T h p q w v r x y e => by
  unfold qIx at e
  split at e
  · rename_i xs i e1
    obtain ⟨us, g, d⟩ := x.seq e1
    rw [y.int]
    unfold oIx
    rw [g]
    simp only
    unfold atP at e
    unfold atW
    rw [d.length]
    cases e2 : ixW xs.length i with
    | none => rw [e2] at e; cases e
    | some j =>
      rw [e2] at e
      obtain ⟨u, hu, du⟩ := d.get (show xs[j]? = some r from e)
      simp only [Option.bind_some, hu, OrD]
      exact du
  · cases e
def qIs (n : Bool) (p q : P) : Option P := match q with
  | .non => some (.bl (match p with | .non => !n | _ => n))
  | _ => none
theorem zmL {T : Nat → Prop} {p : P} {w : W} (x : DnB T h p w) : decide (w = .non) = (match p with | .non => true | _ => false) := by
  rcases x with x | ⟨xs, a, us, rfl, rfl, _⟩
  · cases p <;> simp only [Dn] at x
    case non => subst x; rfl
    case lst => obtain ⟨_, _, rfl, _⟩ := x; rfl
    case rol => obtain ⟨_, _, rfl, _⟩ := x; rfl
    case tup => obtain ⟨_, _, rfl, _⟩ := x; rfl
    case ins => obtain ⟨_, _, rfl, _⟩ := x; rfl
    all_goals (subst x; rfl)
  · rfl
theorem d_is : O2D oIs (qIs false) := fun T h p q w v r x y e => by
  unfold qIs at e
  split at e
  · cases e
    rw [y.non]
    unfold oIs
    simp only [OrD, Dn, zmL x]
    cases p <;> rfl
  · cases e
theorem zg4 : O2D zcH (qIs true) := fun T h p q w v r x y e => by
  unfold qIs at e
  split at e
  · cases e
    rw [y.non]
    unfold zcH
    simp only [OrD, Dn, zmL x]
    cases p <;> rfl
  · cases e
end
end HL
namespace HL
open PySem (Str)
section
variable {n : Lo} {B : Nat → Prop} {O : List (List Nat)} {s : Sg} {h l : Sh} {δ : Dl}
def zbK (f : P → Option D) : List P → Option (List D)
  | [] => some []
  | x :: r => (f x).bind fun d => (zbK f r).map (d :: ·)
def zbG : Nat → P → Option D
  | _, .non => some .non
  | _, .bl b => some (.bl b)
  | _, .int i => some (.int i)
  | _, .str x => if sOk x then some (.str x) else none
  | n + 1, .lst xs => (zbK (zbG n) xs).map .lst
  | n + 1, .rol xs => (zbK (zbG n) xs).map .lst
  | n + 1, .tup xs => (zbK (zbG n) xs).map .tup
  | _, _ => none
theorem zhB {T : Nat → Prop} {f : P → Option D} {g : W → Option D} (k : ∀ p w d, Dn T h p w → f p = some d → g w = some d) : ∀ (ps : List P) (us : List W) (ds : List D), Dns T h ps us → zbK f ps = some ds → zdy g us = some ds
  | [], us, ds, x, e => by simp only [Dns] at x; rw [x]; exact e
  | p :: ps, us, ds, x, e => by
    simp only [Dns] at x
    obtain ⟨u, r, rfl, d, dr⟩ := x
    unfold zbK at e
    unfold zdy
    cases e1 : f p with
    | none => rw [e1] at e; cases e
    | some a =>
      rw [e1] at e
      cases e2 : zbK f ps with
      | none => rw [e2] at e; cases e
      | some b => rw [e2] at e; rw [k p u a d e1, zhB k ps r b dr e2]; exact e
theorem dat_p {T : Nat → Prop} : ∀ (n : Nat) (p : P) (w : W) (d : D), Dn T h p w → zbG n p = some d → dat n h w = some d := by
  intro n
  induction n with
  | zero =>
    intro p w d x e
    cases p <;> simp only [Dn] at x <;> first
      | (subst x; exact e)
      | cases e
  | succ n ih =>
    intro p w d x e
    cases p <;> simp only [Dn] at x
    case lst ps =>
      obtain ⟨i, us, rfl, _, g, ds⟩ := x
      unfold zbG at e
      unfold dat
      rw [g]
      simp only
      cases q : zbK (zbG n) ps with
      | none => rw [q] at e; cases e
      | some b => rw [q] at e; rw [zhB ih ps us b ds q]; exact e
    case rol ps =>
      obtain ⟨i, us, rfl, _, g, ds⟩ := x
      unfold zbG at e
      unfold dat
      rw [g]
      simp only
      cases q : zbK (zbG n) ps with
      | none => rw [q] at e; cases e
      | some b => rw [q] at e; rw [zhB ih ps us b ds q]; exact e
    case tup ps =>
      obtain ⟨i, us, rfl, _, g, ds⟩ := x
      unfold zbG at e
      unfold dat
      rw [g]
      simp only
      cases q : zbK (zbG n) ps with
      | none => rw [q] at e; cases e
      | some b => rw [q] at e; rw [zhB ih ps us b ds q]; exact e
    case ins => cases e
    all_goals first
      | (subst x; exact e)
theorem dat_b {T : Nat → Prop} {n : Nat} {p : P} {w : W} {d : D} (x : DnB T h p w) (e : zbG (n + 1) p = some d) : dat (n + 1) h w = some d := by
  rcases x with x | ⟨xs, a, us, rfl, rfl, g, ds⟩
  · exact dat_p _ p w d x e
  · unfold zbG at e
    unfold dat
    rw [g]
    simp only
    cases q : zbK (zbG n) xs with
    | none => rw [q] at e; cases e
    | some b => rw [q] at e; rw [zhB (dat_p n) xs us b ds q]; exact e
def eqP (p q : P) : Option Bool := match p, q with
  | .str a, .str b => some (decide (a = b))
  | .int a, .int b => some (decide (a = b))
  | p, q => (match zbG zdv p, zbG zdv q with
    | some a, some b => some (D.eq a b)
    | _, _ => none)
theorem d_eqH {T : Nat → Prop} {p q : P} {w v : W} {b : Bool} (x : DnB T h p w) (y : DnB T h q v) (e : eqP p q = some b) : eqH w v h = some b := by
  have deep : (match zbG zdv p, zbG zdv q with | some a, some b => some (D.eq a b) | _, _ => none) = some b → (match dat zdv h w, dat zdv h v with | some a, some b => some (D.eq a b) | _, _ => none) = some b := fun e => by
    split at e
    · rename_i a c e1 e2
      rw [show dat zdv h w = some a from dat_b (n := 7) x e1, show dat zdv h v = some c from dat_b (n := 7) y e2]
      exact e
    · cases e
  unfold eqP at e
  split at e
  · rw [x.str, y.str]; exact e
  · rw [x.int, y.int]; exact e
  · have z := deep e
    unfold eqH
    split
    · rename_i a c
      rw [← z]
      unfold dat
      split
      · rename_i d1 d2 h1 h2
        split at h1
        · split at h2
          · cases h1; cases h2; simp only [D.eq]; refine congrArg some ?_; rw [Bool.eq_iff_iff]; simp
          · cases h2
        · cases h1
      · rename_i hne
        split at z
        · rename_i d1 d2 h1 h2
          exact absurd (h1) (fun h1 => hne d1 d2 (by unfold dat at h1; exact h1) (by unfold dat at h2; exact h2))
        · cases z
    · rename_i a c
      rw [← z]
      simp only [dat, D.eq]
      refine congrArg some ?_
      rw [Bool.eq_iff_iff]; simp
    · exact z
def qEq (m : Bool) (p q : P) : Option P := (eqP p q).map fun b => .bl (m != b)
theorem d_eq : O2D oEq (qEq false) := fun T h p q w v r x y e => by
  unfold qEq at e
  cases e1 : eqP p q with
  | none => rw [e1] at e; cases e
  | some b =>
    rw [e1] at e; cases e
    unfold oEq
    rw [d_eqH x y e1]
    simp only [OrD, Dn]
    cases b <;> rfl
theorem zjS : O2D oNe (qEq true) := fun T h p q w v r x y e => by
  unfold qEq at e
  cases e1 : eqP p q with
  | none => rw [e1] at e; cases e
  | some b =>
    rw [e1] at e; cases e
    unfold oNe
    rw [d_eqH x y e1]
    simp only [OrD, Dn]
    cases b <;> rfl
def flatP : P → Option W
  | .non => some .non
  | .bl b => some (.bl b)
  | .int i => some (.int i)
  | .str s => some (.str s)
  | _ => none
def pUn (g : P → Option P) (a : PE) : PE := fun δ => (a δ).bind g
def lstP : P → Option (List P)
  | .lst xs => some xs
  | .rol xs => some xs
  | _ => none
theorem DnB.lstW {T : Nat → Prop} {p : P} {xs : List P} {w : W} (x : DnB T h p w) (e : lstP p = some xs) : ∃ us, HL.lstW h w = some us ∧ Dns T h xs us := by
  cases p with
  | lst ys => cases e; obtain ⟨a, us, rfl, g, d⟩ := x.lst; exact ⟨us, by simp [HL.lstW, g], d⟩
  | rol ys => cases e; obtain ⟨a, us, rfl, g, d⟩ := x.rol; exact ⟨us, by simp [HL.lstW, g], d⟩
  | _ => cases e
def zaX : PA := fun _ => some []
def zah (a : PE) (r : PA) : PA := fun δ => (a δ).bind fun x => (r δ).bind fun xs => some (x :: xs)
theorem zbq : Pa zad zaX := fun n B O s h δ r E e => by
  cases e
  exact ⟨[], [], by rw [List.append_nil]; rfl, by simp only [Dns]⟩
theorem zam {a : DE} {r : DA} {p : PE} {q : PA} (ha : Pe a p) (hr : Pa r q) : Pa (zaa a r) (zah p q) := fun n B O s h δ rs E e => by
  unfold zah at e
  cases e1 : p δ with
  | none => rw [e1] at e; cases e
  | some x =>
    rw [e1] at e
    simp only [Option.bind_some] at e
    cases e2 : q δ with
    | none => rw [e2] at e; cases e
    | some xs =>
      rw [e2] at e
      cases e
      obtain ⟨w, l, c1, d1⟩ := ha n B O s h δ x E e1
      obtain ⟨ws, l2, c2, d2⟩ := hr n B O s (h ++ l) δ xs E.app e2
      refine ⟨w :: ws, l ++ l2, ?_, ?_⟩
      · unfold zaa
        rw [c1]
        simp only [R.bind]
        rw [c2, List.append_assoc]
      · rw [← List.append_assoc]
        simp only [Dns]
        exact ⟨w, ws, rfl, d1.app, d2⟩
def zjZ (T : Nat → Prop) (h : Sh) : List P → List W → Prop
  | [], us => us = []
  | p :: ps, us => ∃ u r, us = u :: r ∧ DnB T h p u ∧ zjZ T h ps r
def Pab (d : DA) (p : PA) : Prop := ∀ n B O s h δ r, Env n B O s h δ → p δ = some r → ∃ w l, d s h = .ok w (h ++ l) ∧ zjZ (Tb B O) (h ++ l) r w
theorem zbp : Pab zad zaX := fun n B O s h δ r E e => by
  cases e
  exact ⟨[], [], by rw [List.append_nil]; rfl, rfl⟩
theorem zaM {a : DE} {r : DA} {p : PE} {q : PA} (ha : Pb a p) (hr : Pab r q) : Pab (zaa a r) (zah p q) := fun n B O s h δ rs E e => by
  unfold zah at e
  cases e1 : p δ with
  | none => rw [e1] at e; cases e
  | some x =>
    rw [e1] at e
    simp only [Option.bind_some] at e
    cases e2 : q δ with
    | none => rw [e2] at e; cases e
    | some xs =>
      rw [e2] at e
      cases e
      obtain ⟨w, l, c1, d1⟩ := ha n B O s h δ x E e1
      obtain ⟨ws, l2, c2, d2⟩ := hr n B O s (h ++ l) δ xs E.app e2
      refine ⟨w :: ws, l ++ l2, ?_, ?_⟩
      · unfold zaa
        rw [c1]
        simp only [R.bind]
        rw [c2, List.append_assoc]
      · rw [← List.append_assoc]
        exact ⟨w, ws, rfl, d1.app, d2⟩
def BD (f : List W → Sh → OR) (g : List P → Option P) : Prop := ∀ T h ps ws r, zjZ T h ps ws → g ps = some r → OrD T h r (f ws h)
def pB (g : List P → Option P) (a : PA) : PE := fun δ => (a δ).bind g
theorem e_b {f : List W → Sh → OR} {g : List P → Option P} {a : DA} {p : PA} (k : BD f g) (ha : Pab a p) : Pe (dB f a) (pB g p) := fun n B O s h δ r E e => by
  unfold pB at e
  cases e1 : p δ with
  | none => rw [e1] at e; cases e
  | some x =>
    rw [e1] at e
    obtain ⟨w, l, c1, d1⟩ := ha n B O s h δ x E e1
    obtain ⟨u, l3, c3, d3⟩ := zlg (h := h ++ l) (fun i t => Tb.lt (E.app (l := l)) t) (k _ _ _ _ _ d1 e)
    refine ⟨u, l ++ l3, ?_, by rw [← List.append_assoc]; exact d3⟩
    unfold dB
    rw [c1]
    simp only [R.bind]
    rw [c3, List.append_assoc]
theorem zjZ.one {T : Nat → Prop} {p : P} {us : List W} (x : zjZ T h [p] us) : ∃ u, us = [u] ∧ DnB T h p u := by
  obtain ⟨u, r, e, d, dr⟩ := x
  have : r = [] := dr
  subst this
  exact ⟨u, e, d⟩
theorem zjZ.two {T : Nat → Prop} {p q : P} {us : List W} (x : zjZ T h [p, q] us) : ∃ u v, us = [u, v] ∧ DnB T h p u ∧ DnB T h q v := by
  obtain ⟨u, r, e, d, dr⟩ := x
  obtain ⟨v, rfl, dv⟩ := dr.one
  exact ⟨u, v, e, d, dv⟩
def zeQ (xs : List P) : Option (List P) := if xs.length ≤ LIM then some xs else none
def pO (g : List P → Option (List P)) (a : PA) : Dl → Option (List P) := fun δ => (a δ).bind g
theorem zfz {a : DA} {p : PA} (ha : Pa a p) : Po (dB zbs a) (pO zeQ p) := fun n B O s h δ r E e => by
  unfold pO at e
  cases e1 : p δ with
  | none => rw [e1] at e; cases e
  | some x =>
    rw [e1] at e
    have e : zeQ x = some r := e
    unfold zeQ at e
    by_cases hl : x.length ≤ LIM
    · rw [if_pos hl] at e
      have hr : x = r := Option.some.inj e
      subst hr
      obtain ⟨w, l, c1, d1⟩ := ha n B O s h δ x E e1
      refine ⟨(h ++ l).length, l ++ [.lst w], w, ?_, by simp, by rw [← List.append_assoc]; simp, ?_⟩
      · unfold dB
        rw [c1]
        simp only [R.bind, zbs, d1.length, hl, if_true, OR.fin, List.append_assoc]
      · rw [← List.append_assoc]
        refine Dns.mono (fun i o t e => ⟨zax e, fun z => ?_⟩) x w d1
        rcases z with z | z
        · exact t z
        · have := (List.getElem?_eq_some_iff.mp e).1; omega
    · rw [if_neg hl] at e; cases e
def zft (xs : List P) : Option P := if xs.length ≤ LIM then some (.tup xs) else none
theorem zf2 {a : DA} {p : PA} (ha : Pa a p) : Pe (dB zeJ a) (pB zft p) := fun n B O s h δ r E e => by
  unfold pB at e
  cases e1 : p δ with
  | none => rw [e1] at e; cases e
  | some x =>
    rw [e1] at e
    have e : zft x = some r := e
    unfold zft at e
    split at e
    · rename_i hl
      cases e
      obtain ⟨w, l, c1, d1⟩ := ha n B O s h δ x E e1
      obtain ⟨u, l3, c3, d3⟩ := zlg (h := h ++ l) (o := .new (.tup w)) (r := .tup x) (fun i t => Tb.lt (E.app (l := l)) t) ⟨x, rfl, d1⟩
      refine ⟨u, l ++ l3, ?_, by rw [← List.append_assoc]; exact d3⟩
      unfold dB
      rw [c1]
      simp only [R.bind, zeJ, d1.length, hl, if_true]
      rw [c3, List.append_assoc]
    · cases e
def zge : List P → Option P
  | [.str s] => if s.length ≤ LIM then some (.int s.length) else none
  | [p] => (zfs p).map fun xs => .int xs.length
  | _ => none
theorem zh9 : BD zc7 zge := fun T h ps ws r x e => by
  unfold zge at e
  split at e
  · split at e
    · rename_i hl; cases e; obtain ⟨u, rfl, d⟩ := x.one; rw [d.str]; simp only [zc7, hl, if_true, OrD, Dn]
    · cases e
  · rename_i p hp
    cases e1 : zfs p with
    | none => rw [e1] at e; cases e
    | some xs =>
      rw [e1] at e; cases e
      obtain ⟨u, rfl, d⟩ := x.one
      obtain ⟨us, g, ds⟩ := d.seq e1
      unfold zc7
      split
      · rename_i s hs
        injection hs with hs _
        subst hs
        simp [zd0, lstW, zcR] at g
      · rename_i y hy hs
        injection hs with hs _
        subst hs
        rw [g]
        simp only [OrD, Dn, ds.length]
      · rename_i hne
        exact absurd rfl (hne u)
  · cases e
def qMax2 : List P → Option P
  | [.int i, .int j] => some (.int (if j > i then j else i))
  | _ => none
theorem d_max2 : BD zgE qMax2 := fun T h ps ws r x e => by
  unfold qMax2 at e
  split at e
  · cases e; obtain ⟨u, v, rfl, d1, d2⟩ := x.two; rw [d1.int, d2.int]; simp only [zgE, OrD, Dn]
  · cases e
def qMin2 : List P → Option P
  | [.int i, .int j] => some (.int (if j < i then j else i))
  | _ => none
theorem d_min2 : BD zgD qMin2 := fun T h ps ws r x e => by
  unfold qMin2 at e
  split at e
  · cases e; obtain ⟨u, v, rfl, d1, d2⟩ := x.two; rw [d1.int, d2.int]; simp only [zgD, OrD, Dn]
  · cases e
def zkR : List P → Option P
  | [.int i] => some (.int i)
  | [.bl k] => some (.int (if k then 1 else 0))
  | _ => none
theorem d_int1 : BD zev zkR := fun T h ps ws r x e => by
  unfold zkR at e
  split at e
  · cases e; obtain ⟨u, rfl, d⟩ := x.one; rw [d.int]; simp only [zev, OrD, Dn]
  · cases e; obtain ⟨u, rfl, d⟩ := x.one; rw [d.bl]; simp only [zev, OrD, Dn]
  · cases e
def zh0 : List P → Option P
  | [p] => (zfs p).map .lst
  | _ => none
theorem zhC : BD zcA zh0 := fun T h ps ws r x e => by
  unfold zh0 at e
  split at e
  · rename_i p
    cases e1 : zfs p with
    | none => rw [e1] at e; cases e
    | some xs =>
      rw [e1] at e; cases e
      obtain ⟨u, rfl, d⟩ := x.one
      obtain ⟨us, g, ds⟩ := d.seq e1
      simp only [zcA, g, OrD]
      exact ⟨_, rfl, ds⟩
  · cases e
def ziv : List P → Option P
  | [.tup xs] => some (.tup xs)
  | [p] => (lstP p).map .tup
  | _ => none
theorem zlo : BD zds ziv := fun T h ps ws r x e => by
  unfold ziv at e
  split at e
  · cases e
    obtain ⟨u, rfl, d⟩ := x.one
    obtain ⟨a, us, rfl, t, g, ds⟩ := d.tup
    simp only [zds, lstW, zcR, g, OrD, Dn]
    exact ⟨a, us, rfl, t, g, ds⟩
  · rename_i p hp
    cases e1 : lstP p with
    | none => rw [e1] at e; cases e
    | some xs =>
      rw [e1] at e; cases e
      obtain ⟨u, rfl, d⟩ := x.one
      obtain ⟨us, g, ds⟩ := d.lstW e1
      simp only [zds, g, OrD]
      exact ⟨_, rfl, ds⟩
  · cases e
end
end HL
namespace HL
open PySem (Str)
section
variable {n : Lo} {B : Nat → Prop} {O : List (List Nat)} {s : Sg} {h l : Sh} {δ : Dl}
def zfr : P → Option Bool
  | .non => some false
  | .bl b => some b
  | .int i => some (i != 0)
  | .str s => if s.length ≤ LIM then some ((s.length : Int) != 0) else none
  | .lst xs => some (!xs.isEmpty)
  | .rol xs => some (!xs.isEmpty)
  | .tup xs => some (!xs.isEmpty)
  | _ => none
theorem tru_p {T : Nat → Prop} {p : P} {w : W} {b : Bool} (x : DnB T h p w) (e : zfr p = some b) : zco w h = some b := by
  cases p with
  | non => rw [x.non]; exact e
  | bl b => rw [x.bl]; exact e
  | int i => rw [x.int]; exact e
  | str y => rw [x.str]; exact e
  | lst xs => obtain ⟨a, us, rfl, g, d⟩ := x.lst; cases e; simp only [zco, g, d.nil_iff]
  | rol xs => obtain ⟨a, us, rfl, g, d⟩ := x.rol; cases e; simp only [zco, g, d.nil_iff]
  | tup xs => obtain ⟨a, us, rfl, _, g, d⟩ := x.tup; cases e; simp only [zco, g, d.nil_iff]
  | _ => cases e
def pT (a : PE) : PT := fun δ => (a δ).bind zfr
theorem t_e {a : DE} {p : PE} (ha : Pb a p) : Pt (dT a) (pT p) := fun n B O s h δ r E e => by
  unfold pT at e
  cases e1 : p δ with
  | none => rw [e1] at e; cases e
  | some x =>
    rw [e1] at e
    obtain ⟨w, l, c1, d1⟩ := ha n B O s h δ x E e1
    refine ⟨l, ?_⟩
    unfold dT
    rw [c1]
    simp only [R.bind, tru_p d1 (show zfr x = some r from e)]
def zhk (a : PT) : PT := fun δ => (a δ).map (!·)
theorem t_not {a : DT} {p : PT} (ha : Pt a p) : Pt (zem a) (zhk p) := fun n B O s h δ r E e => by
  unfold zhk at e
  cases e1 : p δ with
  | none => rw [e1] at e; cases e
  | some x =>
    rw [e1] at e; cases e
    obtain ⟨l, c1⟩ := ha n B O s h δ x E e1
    exact ⟨l, by unfold zem; rw [c1]; rfl⟩
def zeC (a b : PT) : PT := fun δ => (a δ).bind fun c => if c = true then b δ else some false
def zgf (a b : PT) : PT := fun δ => (a δ).bind fun c => if c = true then some true else b δ
theorem zky {a b : DT} {p q : PT} (ha : Pt a p) (hb : Pt b q) : Pt (zfP a b) (zeC p q) := fun n B O s h δ r E e => by
  unfold zeC at e
  cases e1 : p δ with
  | none => rw [e1] at e; cases e
  | some x =>
    rw [e1] at e
    simp only [Option.bind_some] at e
    obtain ⟨l, c1⟩ := ha n B O s h δ x E e1
    cases x with
    | false => cases e; exact ⟨l, by unfold zfP; rw [c1]; rfl⟩
    | true =>
      obtain ⟨l2, c2⟩ := hb n B O s (h ++ l) δ r E.app (by simpa using e)
      exact ⟨l ++ l2, by unfold zfP; rw [c1]; simp only [R.bind, if_true]; rw [c2, List.append_assoc]⟩
theorem t_or {a b : DT} {p q : PT} (ha : Pt a p) (hb : Pt b q) : Pt (tOr a b) (zgf p q) := fun n B O s h δ r E e => by
  unfold zgf at e
  cases e1 : p δ with
  | none => rw [e1] at e; cases e
  | some x =>
    rw [e1] at e
    simp only [Option.bind_some] at e
    obtain ⟨l, c1⟩ := ha n B O s h δ x E e1
    cases x with
    | true => cases e; exact ⟨l, by unfold tOr; rw [c1]; rfl⟩
    | false =>
      obtain ⟨l2, c2⟩ := hb n B O s (h ++ l) δ r E.app (by simpa using e)
      exact ⟨l ++ l2, by unfold tOr; rw [c1]; simp only [R.bind, Bool.false_eq_true, if_false]; rw [c2, List.append_assoc]⟩
def zep : PT := fun _ => some true
theorem zj3 : Pt zfO zep := fun n B O s h δ r E e => by cases e; exact ⟨[], by rw [List.append_nil]; rfl⟩
def blP : P → Option Bool
  | .bl b => some b
  | _ => none
def pAnd (a b : PE) : PE := fun δ => (a δ).bind fun x => (blP x).bind fun c => if c = true then b δ else some (.bl false)
def pOr (a b : PE) : PE := fun δ => (a δ).bind fun x => (blP x).bind fun c => if c = true then some (.bl true) else b δ
def pNot (a : PE) : PE := fun δ => (a δ).bind fun x => (blP x).map fun c => .bl (!c)
def pIf (c : PT) (a b : PE) : PE := fun δ => (c δ).bind fun k => if k = true then a δ else b δ
theorem e_if {c : DT} {a b : DE} {pc : PT} {p q : PE} (hc : Pt c pc) (ha : Pe a p) (hb : Pe b q) : Pe (dIf c a b) (pIf pc p q) := fun n B O s h δ r E e => by
  unfold pIf at e
  cases e1 : pc δ with
  | none => rw [e1] at e; cases e
  | some k =>
    rw [e1] at e
    simp only [Option.bind_some] at e
    obtain ⟨l, c1⟩ := hc n B O s h δ k E e1
    cases k with
    | true =>
      obtain ⟨u, l2, c2, d2⟩ := ha n B O s (h ++ l) δ r E.app (by simpa using e)
      exact ⟨u, l ++ l2, by unfold dIf; rw [c1]; simp only [R.bind, if_true]; rw [c2, List.append_assoc], by rw [← List.append_assoc]; exact d2⟩
    | false =>
      obtain ⟨u, l2, c2, d2⟩ := hb n B O s (h ++ l) δ r E.app (by simpa using e)
      exact ⟨u, l ++ l2, by unfold dIf; rw [c1]; simp only [R.bind, Bool.false_eq_true, if_false]; rw [c2, List.append_assoc], by rw [← List.append_assoc]; exact d2⟩
def zms (f g : Int → Int → Bool) (a b c : PE) : PE := fun δ => match a δ, b δ with
  | some (.int i), some (.int j) => if f i j then (match c δ with
      | some (.int k) => some (.bl (g j k))
      | _ => none) else some (.bl false)
  | _, _ => none
abbrev PO := Dl → Option (Option Int)
def zk4 : PO := fun _ => some none
def pPart (a : PE) : PO := fun δ => match a δ with
  | some (.int i) => some (some i)
  | _ => none
def cutP (xs : List P) (lo hi : Option Int) : List P := (xs.drop (sIx xs.length 0 lo)).take (sIx xs.length xs.length hi - sIx xs.length 0 lo)
def qSl (p : P) (lo hi : Option Int) : Option P := match p with
  | .lst xs => some (.lst (cutP xs lo hi))
  | .rol xs => some (.lst (cutP xs lo hi))
  | .tup xs => if sIx xs.length 0 lo = 0 ∧ sIx xs.length xs.length hi = xs.length then none else some (.tup (cutP xs lo hi))
  | _ => none
def pSl (a : PE) (lo hi : PO) : PE := fun δ => (a δ).bind fun x => (lo δ).bind fun l => (hi δ).bind fun u => qSl x l u
def ResD (T : Nat → Prop) (m : Nat) (h : Sh) (w : W) : RF → Prop
  | .v p => Dn T h p w
  | .o xs => ∃ a us, w = .ref a ∧ m ≤ a ∧ h[a]? = some (.lst us) ∧ Dns (fun i => T i ∨ i = a) h xs us
def Pf (f : Fn) (g : PF) : Prop := ∀ T h ws ps r, (∀ i, T i → i < h.length) → Dns T h ps ws → g ps = some r → ∃ w l, f ws h = .ok w (h ++ l) ∧ ResD T h.length (h ++ l) w r
def zjC (g : PF) (a : PA) : PE := fun δ => ((a δ).bind g).map RF.val
theorem zgq {f : Fn} {g : PF} {a : DA} {p : PA} (hf : Pf f g) (ha : Pa a p) : Pe (zav f a) (zjC g p) := fun n B O s h δ r E e => by
  unfold zjC at e
  cases e1 : p δ with
  | none => rw [e1] at e; cases e
  | some x =>
    rw [e1] at e
    simp only [Option.bind_some] at e
    cases e2 : g x with
    | none => rw [e2] at e; cases e
    | some rf =>
      rw [e2] at e; cases e
      obtain ⟨ws, l, c1, d1⟩ := ha n B O s h δ x E e1
      obtain ⟨w, l2, c2, d2⟩ := hf (Tb B O) (h ++ l) ws x rf (fun i t => Tb.lt (E.app (l := l)) t) d1 e2
      refine ⟨w, l ++ l2, by unfold zav; rw [c1]; simp only [R.bind]; rw [c2, List.append_assoc], ?_⟩
      rw [← List.append_assoc]
      cases rf with
      | v p => exact d2
      | o xs =>
        obtain ⟨a, us, rfl, ge, g, ds⟩ := d2
        simp only [RF.val, Dn]
        exact ⟨a, us, rfl, fun t => absurd (Tb.lt (E.app (l := l)) t) (by omega), g, ds.weak fun i t => .inl t⟩
def zmt (g : PF) (a : PA) : Dl → Option (List P) := fun δ => ((a δ).bind g).bind fun r => match r with
  | .o xs => some xs
  | .v _ => none
end
end HL
namespace HL
open PySem (Str)
section
variable {n : Lo} {B : Nat → Prop} {O O' O2 : List (List Nat)} {s : Sg} {h h' h2 l : Sh} {δ : Dl}
structure za3 (O : List (List Nat)) (h : Sh) (O' : List (List Nat)) (h' : Sh) : Prop where
  le : h.length ≤ h'.length
  at_ : ∀ (i : Nat) (o : SO), h[i]? = some o → ¬ Ow O i → h'[i]? = some o ∧ ¬ Ow O' i
theorem za3.refl : za3 O h O h := ⟨Nat.le_refl _, fun _ _ e m => ⟨e, m⟩⟩
theorem za3.trans (a : za3 O h O' h') (b : za3 O' h' O2 h2) : za3 O h O2 h2 := ⟨Nat.le_trans a.le b.le, fun i o e m => b.at_ i o (a.at_ i o e m).1 (a.at_ i o e m).2⟩
theorem za3.app : za3 O h O (h ++ l) := ⟨by simp, fun i o e m => ⟨zax e, m⟩⟩
def Kp (n : Lo) (h h' : Sh) : Prop := n.at_ ≤ h'.length ∧ ∀ (i : Nat) (o : SO), i < n.at_ → ¬ n.lent i → h[i]? = some o → h'[i]? = some o
theorem za3.kp (k : za3 O h O' h') (E : Env n B O s h δ) : Kp n h h' := ⟨Nat.le_trans E.le k.le, fun i o hi hl e => (k.at_ i o e fun m => (E.new i m).1.elim (fun z => absurd z (by omega)) hl).1⟩
theorem Kp.trans {n : Lo} {h h' h2 : Sh} (a : Kp n h h') (b : Kp n h' h2) : Kp n h h2 := ⟨b.1, fun i o hi hl e => b.2 i o hi hl (a.2 i o hi hl e)⟩
theorem za3.dns (k : za3 O h O' h') {p : List P} {w : List W} (x : Dns (Tb B O) h p w) : Dns (Tb B O') h' p w := Dns.mono (fun i o t e => by
  have := k.at_ i o e fun m => t (.inr m)
  exact ⟨this.1, fun z => z.elim (fun z => t (.inl z)) this.2⟩) p w x
def EndD (n : Lo) (B : Nat → Prop) (O : List (List Nat)) (h : Sh) (c : C) : RS → Prop
  | .er => True
  | .nx δ' => ∃ O' s' h', c = .nx s' h' ∧ Env n B O' s' h' δ' ∧ za3 O h O' h'
  | .bk δ' => ∃ O' s' h', c = .bk s' h' ∧ Env n B O' s' h' δ' ∧ za3 O h O' h'
  | .ct δ' => ∃ O' s' h', c = .ct s' h' ∧ Env n B O' s' h' δ' ∧ za3 O h O' h'
  | .rt r => ∃ w h', c = .rt w h' ∧ Kp n h h' ∧ Dn B h' r w
  | .rx r δ' => ∃ w O' s' h', c = .rt w h' ∧ Env n B O' s' h' δ' ∧ za3 O h O' h' ∧ Dn (Tb B O') h' r w
  | .ro xs => ∃ a us h', c = .rt (.ref a) h' ∧ Kp n h h' ∧ (n.at_ ≤ a ∨ n.lent a) ∧ h'[a]? = some (.lst us) ∧ Dns (fun i => B i ∨ i = a) h' xs us
def Ps (d : DS) (p : PS) : Prop := ∀ n B O s h δ, Env n B O s h δ → EndD n B O h (d s h) (p δ)
theorem EndD.before {c : C} {r : RS} (k : za3 O h O' h') (E : Env n B O s h δ) (x : EndD n B O' h' c r) : EndD n B O h c r := by
  cases r with
  | er => trivial
  | nx δ' => obtain ⟨O2, s2, h2, e, E2, k2⟩ := x; exact ⟨O2, s2, h2, e, E2, k.trans k2⟩
  | bk δ' => obtain ⟨O2, s2, h2, e, E2, k2⟩ := x; exact ⟨O2, s2, h2, e, E2, k.trans k2⟩
  | ct δ' => obtain ⟨O2, s2, h2, e, E2, k2⟩ := x; exact ⟨O2, s2, h2, e, E2, k.trans k2⟩
  | rt p => obtain ⟨w, h2, e, k2, d⟩ := x; exact ⟨w, h2, e, (k.kp E).trans k2, d⟩
  | rx p δ' => obtain ⟨w, O2, s2, h2, e, E2, k2, d⟩ := x; exact ⟨w, O2, s2, h2, e, E2, k.trans k2, d⟩
  | ro xs => obtain ⟨a, us, h2, e, k2, d⟩ := x; exact ⟨a, us, h2, e, (k.kp E).trans k2, d⟩
theorem zbd {O : List (List Nat)} {i a : Nat} (m : Ow (O.set i []) a) : Ow O a := m.set.elim id fun z => by cases z
theorem zgB {α : Type} {l : List (Option α)} {i j : Nat} {x : Option α} (ne : i ≠ j) : ((l.set i x)[j]?).getD none = (l[j]?).getD none := by rw [List.getElem?_set_ne ne]
theorem zdI {O : List (List Nat)} {i j : Nat} {x : List Nat} (ne : i ≠ j) : ((O.set i x)[j]?).getD [] = (O[j]?).getD [] := by rw [List.getElem?_set_ne ne]
theorem SlD.weak {T T' : Nat → Prop} {w : Option W} {o : List Nat} {sl : Sl} (x : SlD T h w o sl) (k : ∀ (i : Nat) (u : SO), h[i]? = some u → T' i → T i) : SlD T' h w o sl := x.mv (fun i o t e => ⟨e, fun z => t (k i o e z)⟩) fun _ _ _ e => e
theorem ziC (E : Env n B O s h δ) (i : Nat) {m : List Nat} (hm : ∀ a ∈ m, ¬ Ow O a) : ∀ (j k a : Nat) (l l' : List Nat), (O.set i m)[j]? = some l → (O.set i m)[k]? = some l' → a ∈ l → a ∈ l' → j = k := fun j k a l l' e1 e2 m1 m2 => by
  rw [List.getElem?_set] at e1 e2
  split at e1
  · rename_i hj
    split at e1
    · cases e1
      split at e2
      · rename_i hk; rw [← hj, ← hk]
      · exact absurd (Ow.of e2 m2) (hm a m1)
    · cases e1
  · split at e2
    · split at e2
      · cases e2; exact absurd (Ow.of e1 m1) (hm a m2)
      · cases e2
    · exact E.one j k a l l' e1 e2 m1 m2
theorem Env.set (E : Env n B O s h δ) (i : Nat) {p : P} {w : W} (d : Dn (Tb B O) h p w) : Env n B (O.set i []) (s.set i (some w)) h (δ.set i (.val p)) where
  le := E.le
  old := E.old
  ls := by rw [List.length_set, List.length_set]; exact E.ls
  lo := by rw [List.length_set, List.length_set]; exact E.lo
  one := ziC E i fun _ z => by cases z
  new := fun a m => E.new a (zbd m)
  self := zjk E i fun _ _ z => by cases z
  at_ := fun j sl e => by
    have wk : ∀ (k : Nat) (u : SO), h[k]? = some u → Tb B (O.set i []) k → Tb B O k := fun k _ _ t => t.elim .inl fun m => .inr (zbd m)
    by_cases hj : i = j
    · subst hj
      have hi : i < δ.length := by
        rcases Nat.lt_or_ge i δ.length with z | z
        · exact z
        · rw [List.getElem?_eq_none_iff.mpr (by rw [List.length_set]; exact z)] at e; cases e
      rw [List.getElem?_set_self hi] at e
      cases e
      refine ⟨?_, w, ?_, d.weak fun k t => t.elim .inl fun m => .inr (zbd m)⟩
      · rw [List.getElem?_set_self (by rw [E.lo]; exact hi)]; rfl
      · rw [List.getElem?_set_self (by rw [E.ls]; exact hi)]; rfl
    · rw [List.getElem?_set_ne hj] at e
      rw [zgB hj, zdI hj]
      exact (E.at_ j sl e).weak wk
theorem za3.drop {i : Nat} : za3 O h (O.set i []) h := ⟨Nat.le_refl _, fun j o e m => ⟨e, fun z => m (zbd z)⟩⟩
theorem Env.own (E : Env n B O s h δ) (i : Nat) {a : Nat} {us : List W} {xs : List P} (ge : h.length ≤ a) (g : (h ++ l)[a]? = some (.lst us)) (d : Dns (fun j => Tb B O j ∨ j = a) (h ++ l) xs us) (hi : i < δ.length) :
    Env n B (O.set i [a]) (s.set i (some (.ref a))) (h ++ l) (δ.set i (.own xs)) where
  le := by rw [List.length_append]; have := E.le; omega
  old := E.old
  ls := by rw [List.length_set, List.length_set]; exact E.ls
  lo := by rw [List.length_set, List.length_set]; exact E.lo
  one := ziC E i fun b z t => by rw [List.mem_singleton.mp z] at t; exact absurd (E.new a t).2 (by omega)
  new := fun b m => by
    rcases m.set with z | z
    · exact ⟨(E.new b z).1, by rw [List.length_append]; have := (E.new b z).2; omega⟩
    · rw [List.mem_singleton.mp z]; exact ⟨.inl (Nat.le_trans E.le ge), (List.getElem?_eq_some_iff.mp g).1⟩
  self := zjk E i fun _ _ z => by cases z
  at_ := fun j sl e => by
    have tt : ∀ k, Tb B (O.set i [a]) k → Tb B O k ∨ k = a := fun k t => t.elim (fun z => .inl (.inl z)) fun m => by
      rcases m.set with z | z
      · exact .inl (.inr z)
      · exact .inr (List.mem_singleton.mp z)
    by_cases hj : i = j
    · subst hj
      rw [List.getElem?_set_self hi] at e
      cases e
      refine ⟨a, us, ?_, ?_, g, d.weak fun k t => tt k t⟩
      · rw [List.getElem?_set_self (by rw [E.lo]; exact hi)]; rfl
      · rw [List.getElem?_set_self (by rw [E.ls]; exact hi)]; rfl
    · rw [List.getElem?_set_ne hj] at e
      rw [zgB hj, zdI hj]
      exact ((E.at_ j sl e).weak (T' := Tb B (O.set i [a])) (fun k u ek t => by
        rcases tt k t with z | z
        · exact z
        · have := (List.getElem?_eq_some_iff.mp ek).1; omega)).app
theorem za3.owned {i a : Nat} (ge : h.length ≤ a) : za3 O h (O.set i [a]) (h ++ l) := ⟨by simp, fun j o e m => ⟨zax e, fun z => by
  rcases z.set with q | q
  · exact m q
  · rw [List.mem_singleton.mp q] at e; have := (List.getElem?_eq_some_iff.mp e).1; omega⟩⟩
def frz (i : Nat) (δ : Dl) : Dl := match δ[i]? with
  | some (.own xs) => δ.set i (.val (.lst xs))
  | _ => δ
theorem ziL {i a : Nat} (w : (s[i]?).getD none = some (.ref a)) : s[i]? = some (some (.ref a)) := by
  cases q2 : s[i]? with
  | none => rw [q2] at w; cases w
  | some z => rw [q2] at w; exact congrArg some w
theorem Env.frz (E : Env n B O s h δ) (i : Nat) : ∃ O', Env n B O' s h (frz i δ) ∧ za3 O h O' h := by
  unfold HL.frz
  split
  · rename_i xs q
    refine ⟨O.set i [], ?_, za3.drop⟩
    obtain ⟨a, us, o, w, g, d⟩ := E.at_ i _ q
    have hi : i < δ.length := (List.getElem?_eq_some_iff.mp q).1
    have hoa := zhx o
    have hsw := ziL w
    have nt : ∀ k, Tb B (O.set i []) k → Tb B O k := fun k t => t.elim .inl fun m => .inr (zbd m)
    have na : ¬ Tb B (O.set i []) a := fun t => by
      rcases t with t | t
      · have z1 := E.old a t
        rcases (E.new a (Ow.one hoa)).1 with z | z
        · omega
        · exact z1.2 z
      · obtain ⟨j, l, hj, ml⟩ := t.at_
        rw [List.getElem?_set] at hj
        split at hj
        · split at hj
          · cases hj; cases ml
          · cases hj
        · rename_i ne; exact ne (E.one i j a _ _ hoa hj List.mem_cons_self ml)
    exact {
      le := E.le
      old := E.old
      ls := by rw [List.length_set]; exact E.ls
      lo := by rw [List.length_set, List.length_set]; exact E.lo
      one := ziC E i fun _ z => by cases z
      new := fun b m => E.new b (zbd m)
      self := zjl E i fun _ _ z => by cases z
      at_ := fun j sl e => by
        by_cases hj : i = j
        · subst hj
          rw [List.getElem?_set_self hi] at e
          cases e
          refine ⟨by rw [List.getElem?_set_self (by rw [E.lo]; exact hi)]; rfl, .ref a, by rw [hsw]; rfl, ?_⟩
          simp only [Dn]
          exact ⟨a, us, rfl, na, g, d.weak nt⟩
        · rw [List.getElem?_set_ne hj] at e
          rw [zdI hj]
          exact (E.at_ j sl e).weak fun k _ _ t => nt k t }
  · exact ⟨O, E, za3.refl⟩
def psFrz (i : Nat) (q : PS) : PS := fun δ => q (frz i δ)
def zfU : PS := fun δ => .nx δ
theorem zg9 : Ps sNx zfU := fun n B O s h δ E => ⟨O, s, h, rfl, E, za3.refl⟩
def psBk : PS := fun δ => .bk δ
def psCt : PS := fun δ => .ct δ
def psEr : PS := fun _ => .er
def za6 (a b : PS) : PS := fun δ => match a δ with
  | .nx δ => b δ
  | r => r
theorem zbN {a b : DS} {p q : PS} (ha : Ps a p) (hb : Ps b q) : Ps (zaq a b) (za6 p q) := fun n B O s h δ E => by
  have x := ha n B O s h δ E
  unfold za6 zaq
  cases e : p δ with
  | nx δ' =>
    rw [e] at x
    obtain ⟨O', s', h', e', E', k⟩ := x
    rw [e']
    exact (hb n B O' s' h' δ' E').before k E
  | er => trivial
  | bk δ' => rw [e] at x; obtain ⟨O', s', h', e', E', k⟩ := x; rw [e']; exact ⟨O', s', h', rfl, E', k⟩
  | ct δ' => rw [e] at x; obtain ⟨O', s', h', e', E', k⟩ := x; rw [e']; exact ⟨O', s', h', rfl, E', k⟩
  | rt r => rw [e] at x; obtain ⟨w, h', e', k⟩ := x; rw [e']; exact ⟨w, h', rfl, k⟩
  | rx r δ' => rw [e] at x; obtain ⟨w, O', s', h', e', k⟩ := x; rw [e']; exact ⟨w, O', s', h', rfl, k⟩
  | ro r => rw [e] at x; obtain ⟨a, us, h', e', k⟩ := x; rw [e']; exact ⟨a, us, h', rfl, k⟩
def zcF (i : Nat) (e : PE) : PS := fun δ => match e δ with
  | some p => .nx (δ.set i (.val p))
  | none => .er
theorem zeA {a : DE} {p : PE} (i : Nat) (ha : Pe a p) : Ps (zaE i a) (zcF i p) := fun n B O s h δ E => by
  unfold zcF zaE
  cases e : p δ with
  | none => trivial
  | some r =>
    obtain ⟨w, l, c1, d1⟩ := ha n B O s h δ r E e
    rw [c1]
    exact ⟨_, _, _, rfl, (E.app (l := l)).set i d1, za3.trans za3.app za3.drop⟩
def zjy (i : Nat) (e : Dl → Option (List P)) : PS := fun δ => match e δ with
  | some xs => if i < δ.length then .nx (δ.set i (.own xs)) else .er
  | none => .er
theorem s_own {a : DE} {p : Dl → Option (List P)} (i : Nat) (ha : Po a p) : Ps (zaE i a) (zjy i p) := fun n B O s h δ E => by
  unfold zjy zaE
  cases e : p δ with
  | none => trivial
  | some r =>
    obtain ⟨b, l, us, c1, ge, g, d1⟩ := ha n B O s h δ r E e
    rw [c1]
    by_cases hi : i < δ.length
    · simp only [if_pos hi]
      exact ⟨_, _, _, rfl, E.own i ge g d1 hi, za3.owned ge⟩
    · simp only [if_neg hi]
      trivial
def zbt (e : PE) : PS := fun δ => match e δ with
  | some p => .rt p
  | none => .er
theorem zcj {a : DE} {p : PE} (ha : Pe a p) : Ps (za5 a) (zbt p) := fun n B O s h δ E => by
  unfold zbt za5
  cases e : p δ with
  | none => trivial
  | some r =>
    obtain ⟨w, l, c1, d1⟩ := ha n B O s h δ r E e
    rw [c1]
    exact ⟨w, h ++ l, rfl, za3.app.kp E, d1.weak fun i t => .inl t⟩
def zmj (e : Dl → Option (List P)) : PS := fun δ => match e δ with
  | some p => .ro p
  | none => .er
def zhl (i : Nat) : PS := fun δ => match δ[i]? with
  | some (.own xs) => .ro xs
  | some (.val p) => .rt p
  | _ => .er
theorem s_retV (i : Nat) : Ps (za5 (zac i)) (zhl i) := fun n B O s h δ E => by
  unfold zhl
  split
  · rename_i xs q
    obtain ⟨a, us, o, w, g, d⟩ := E.at_ i _ q
    have hoa := zhx o
    have hsw := ziL w
    have m := Ow.one hoa
    refine ⟨a, us, h, by unfold za5 zac; rw [hsw], za3.refl.kp E, (E.new a m).1, g, d.weak fun k t => t.elim .inl fun z => ?_⟩
    subst z; exact .inr m
  · rename_i p q
    have := zcj (zae i) n B O s h δ E
    unfold zbt zaj at this
    rw [q] at this
    exact this
  · trivial
def zmk : PS := fun _ => .rt .non
def zml (e : PE) : PS := fun δ => match e δ with
  | some _ => .nx δ
  | none => .er
def zdx (c : PT) (a b : PS) : PS := fun δ => match c δ with
  | some k => if k = true then a δ else b δ
  | none => .er
theorem zfS {c : DT} {a b : DS} {pc : PT} {p q : PS} (hc : Pt c pc) (ha : Ps a p) (hb : Ps b q) : Ps (sIf c a b) (zdx pc p q) := fun n B O s h δ E => by
  unfold zdx sIf
  cases e : pc δ with
  | none => trivial
  | some k =>
    obtain ⟨l, c1⟩ := hc n B O s h δ k E e
    rw [c1]
    cases k with
    | true => exact (ha n B O s (h ++ l) δ E.app).before za3.app E
    | false => exact (hb n B O s (h ++ l) δ E.app).before za3.app E
end
end HL
namespace HL
open PySem (Str)
section
variable {n : Lo} {B : Nat → Prop} {O O' O2 : List (List Nat)} {s : Sg} {h h' h2 l : Sh} {δ : Dl}
theorem Env.at_own (E : Env n B O s h δ) {i : Nat} {xs : List P} (q : δ[i]? = some (.own xs)) : ∃ a us, O[i]? = some [a] ∧ s[i]? = some (some (.ref a)) ∧ h[a]? = some (.lst us) ∧ Dns (Tb B O) h xs us ∧ Ow O a := by
  obtain ⟨a, us, o, w, g, d⟩ := E.at_ i _ q
  have hoa := zhx o
  exact ⟨a, us, hoa, ziL w, g, d, Ow.one hoa⟩
theorem zbE {a : Nat} {o u : SO} {k : Nat} (e : h[k]? = some u) (ne : a ≠ k) : (h.set a o)[k]? = some u := by rw [List.getElem?_set_ne ne]; exact e
theorem Env.chg (E : Env n B O s h δ) {i a : Nat} {xs ys : List P} {us : List W} (q : δ[i]? = some (.own xs)) (hoa : O[i]? = some [a]) (hsw : s[i]? = some (some (.ref a))) (d : Dns (Tb B O) h ys us) : Env n B O s (h.set a (.lst us)) (δ.set i (.own ys)) := by
  have m := Ow.one hoa
  have hi : i < δ.length := (List.getElem?_eq_some_iff.mp q).1
  have mv : ∀ (k : Nat) (o : SO), ¬ Tb B O k → h[k]? = some o → (h.set a (.lst us))[k]? = some o ∧ ¬ Tb B O k := fun k o t e => ⟨zbE e (fun z => t (.inr (z ▸ m))), t⟩
  exact {
    le := by rw [List.length_set]; exact E.le
    old := E.old
    ls := by rw [List.length_set]; exact E.ls
    lo := by rw [List.length_set]; exact E.lo
    one := E.one
    new := fun b mb => by rw [List.length_set]; exact E.new b mb
    self := zjl E i fun _ _ z => by cases z
    at_ := fun j sl e => by
      by_cases hj : i = j
      · subst hj
        rw [List.getElem?_set_self hi] at e
        cases e
        exact ⟨a, us, by rw [hoa]; rfl, by rw [hsw]; rfl, List.getElem?_set_self (E.new a m).2, Dns.mono mv ys us d⟩
      · rw [List.getElem?_set_ne hj] at e
        refine (E.at_ j sl e).mv mv fun b mb u eb => zbE eb fun z => hj ?_
        subst z
        cases q2 : O[j]? with
        | none => rw [q2] at mb; cases mb
        | some y => rw [q2] at mb; exact E.one i j a _ _ hoa q2 List.mem_cons_self mb }
theorem za3.chg {a : Nat} {o : SO} (m : Ow O a) : za3 O h O (h.set a o) := ⟨by simp, fun k u e nm => ⟨zbE e (fun z => nm (z ▸ m)), nm⟩⟩
def zeT (i : Nat) (k e : PE) : PS := fun δ => match δ[i]?, e δ, k δ with
  | some (.own xs), some v, some (.int j) => (match ixW xs.length j with
    | some m => .nx (δ.set i (.own (xs.set m v)))
    | none => .er)
  | _, _, _ => .er
theorem zkC {i : Nat} {k e : DE} {pk pe : PE} (hk : Pe k pk) (he : Pe e pe) : Ps (zdh (zac i) k e) (zeT i pk pe) := fun n B O s h δ E => by
  unfold zeT
  split
  · rename_i xs v j q ev ek
    split
    · rename_i m em
      obtain ⟨w, l, c1, d1⟩ := he n B O s h δ v E ev
      have E1 : Env n B O s (h ++ l) δ := E.app
      obtain ⟨u, l2, c2, d2⟩ := hk n B O s (h ++ l) δ _ E1 ek
      have E2 : Env n B O s (h ++ l ++ l2) δ := E1.app
      simp only [Dn] at d2
      subst d2
      obtain ⟨a, us, hoa, hsw, g, d, ma⟩ := E2.at_own q
      refine ⟨O, s, (h ++ l ++ l2).set a (.lst (us.set m w)), ?_, E2.chg q hoa hsw (Dns.set d1.app m d), ?_⟩
      · unfold zdh
        rw [c1]
        simp only [R.bind, zac, hsw]
        rw [c2]
        simp only [g, d.length, em]
      · exact (za3.app.trans za3.app).trans (za3.chg ma)
    · trivial
  · trivial
def psApp (i : Nat) (e : PE) : PS := fun δ => match δ[i]?, e δ with
  | some (.own xs), some v => if xs.length < LIM then .nx (δ.set i (.own (xs ++ [v]))) else .er
  | _, _ => .er
abbrev PG := P → Dl → Option Dl
def Pg (g : DG) (p : PG) : Prop := ∀ n B O s h δ x w δ', Env n B O s h δ → Dn (Tb B O) h x w → p x δ = some δ' → ∃ O' s', g w s h = some s' ∧ Env n B O' s' h δ' ∧ za3 O h O' h
def zcw (i : Nat) : PG := fun x δ => some (δ.set i (.val x))
theorem zhy (i : Nat) : Pg (zck i) (zcw i) := fun n B O s h δ x w δ' E d e => by
  cases e
  exact ⟨_, _, rfl, E.set i d, za3.drop⟩
def zgY : List Nat → List P → Dl → Dl
  | i :: is, v :: vs, δ => zgY is vs (δ.set i (.val v))
  | _, _, δ => δ
def pgTup (is : List Nat) : PG := fun x δ => match x with
  | .tup xs => if xs.length = is.length then some (zgY is xs δ) else none
  | _ => none
def zmi (g : PG) (e : PE) : PS := fun δ => match (e δ).bind fun v => g v δ with
  | some δ => .nx δ
  | none => .er
abbrev PI := Dl → Option (List P)
def ItD (B : Nat → Prop) (O : List (List Nat)) (h : Sh) (t : It) (xs : List P) : Prop := Dns (Tb B O) h xs t.items ∧ t.stays h ∧ ∀ O' h', za3 O h O' h' → t.stays h'
def Pi (d : DI) (p : PI) : Prop := ∀ n B O s h δ r, Env n B O s h δ → p δ = some r → ∃ t l, d s h = .ok t (h ++ l) ∧ ItD B O (h ++ l) t r
def zgx (a : PE) : PI := fun δ => (a δ).bind zfs
theorem zld {a : DE} {p : PE} (ha : Pe a p) : Pi (zgR a) (zgx p) := fun n B O s h δ r E e => by
  unfold zgx at e
  cases e1 : p δ with
  | none => rw [e1] at e; cases e
  | some x =>
    rw [e1] at e
    have e : zfs x = some r := e
    obtain ⟨w, l, c1, d1⟩ := ha n B O s h δ x E e1
    have nm : ∀ i, ¬ Tb B O i → ¬ Ow O i := fun i t m => t (.inr m)
    cases x with
    | lst xs =>
      cases e
      simp only [Dn] at d1
      obtain ⟨i, us, rfl, t, g, ds⟩ := d1
      refine ⟨.lst i us, l, by unfold zgR; rw [c1]; simp only [R.bind, lstW, g], ds, by show lstW _ _ = _; simp only [lstW, g], fun O' h' k => ?_⟩
      show lstW _ _ = _
      simp only [lstW, (k.at_ i _ g (nm i t)).1]
    | rol xs =>
      cases e
      simp only [Dn] at d1
      obtain ⟨i, us, rfl, t, g, ds⟩ := d1
      refine ⟨.lst i us, l, by unfold zgR; rw [c1]; simp only [R.bind, lstW, g], ds, by show lstW _ _ = _; simp only [lstW, g], fun O' h' k => ?_⟩
      show lstW _ _ = _
      simp only [lstW, (k.at_ i _ g (nm i t)).1]
    | tup xs =>
      cases e
      simp only [Dn] at d1
      obtain ⟨i, us, rfl, t, g, ds⟩ := d1
      refine ⟨.tup i us, l, by unfold zgR; rw [c1]; simp only [R.bind, lstW, zcR, g], ds, by show zcR _ _ = _; simp only [zcR, g], fun O' h' k => ?_⟩
      show zcR _ _ = _
      simp only [zcR, (k.at_ i _ g (nm i t)).1]
    | _ => cases e
def zfG (lo : Int) (m : Nat) : List P := (List.range m).map fun (k : Nat) => .int (lo + (k : Int))
theorem zjR {T : Nat → Prop} : ∀ (l : List Nat) (lo : Int), Dns T h (l.map fun (k : Nat) => .int (lo + (k : Int))) (l.map fun (k : Nat) => .int (lo + (k : Int)))
  | [], lo => by simp only [List.map_nil, Dns]
  | k :: l, lo => by simp only [List.map_cons, Dns]; exact ⟨_, _, rfl, by simp only [Dn], zjR l lo⟩
def zcT (a : PE) : PI := fun δ => match a δ with
  | some (.int j) => if -(2 ^ 62) ≤ j ∧ j < 2 ^ 62 then some (zfG 0 j.toNat) else none
  | _ => none
theorem zmM {a : DE} {p : PE} (ha : Pe a p) : Pi (zdi a) (zcT p) := fun n B O s h δ r E e => by
  unfold zcT at e
  split at e
  · rename_i j e1
    split at e
    · rename_i hj
      cases e
      obtain ⟨w, l, c1, d1⟩ := ha n B O s h δ _ E e1
      simp only [Dn] at d1
      subst d1
      exact ⟨.fix (zcv 0 j.toNat), l, by unfold zdi; rw [c1]; simp only [R.bind]; rw [if_pos hj], zjR _ _, trivial, fun _ _ _ => trivial⟩
    · cases e
  · cases e
def zjz (a b : PE) : PI := fun δ => match a δ, b δ with
  | some (.int i), some (.int j) => if -(2 ^ 62) ≤ i ∧ i < 2 ^ 62 ∧ -(2 ^ 62) ≤ j ∧ j < 2 ^ 62 then some (zfG i (j - i).toNat) else none
  | _, _ => none
def zjL (g : PG) (b : PS) : List P → PS
  | [], δ => .nx δ
  | x :: xs, δ => match g x δ with
    | none => .er
    | some δ1 => match b δ1 with
      | .nx δ2 => zjL g b xs δ2
      | .ct δ2 => zjL g b xs δ2
      | .bk δ2 => .nx δ2
      | r => r
def zhm (i : PI) (g : PG) (b : PS) : PS := fun δ => match i δ with
  | some xs => zjL g b xs δ
  | none => .er
theorem for_p {g : DG} {b : DS} {pg : PG} {pb : PS} {t : It} (hg : Pg g pg) (hb : Ps b pb) : ∀ (xs : List P) (us : List W) (O : List (List Nat)) (s : Sg) (h : Sh) (δ : Dl), Env n B O s h δ → Dns (Tb B O) h xs us → (∀ O' h', za3 O h O' h' → t.stays h') → EndD n B O h (zhQ t g b us s h) (zjL pg pb xs δ)
  | [], us, O, s, h, δ, E, d, st => by
    simp only [Dns] at d
    rw [d]
    exact ⟨O, s, h, rfl, E, za3.refl⟩
  | x :: xs, us, O, s, h, δ, E, d, st => by
    simp only [Dns] at d
    obtain ⟨u, r, rfl, d1, d2⟩ := d
    unfold zjL zhQ
    cases e1 : pg x δ with
    | none => trivial
    | some δ1 =>
      obtain ⟨O1, s1, c1, E1, k1⟩ := hg n B O s h δ x u δ1 E d1 e1
      rw [c1]
      simp only
      have y := hb n B O1 s1 h δ1 E1
      cases e2 : pb δ1 with
      | er => trivial
      | nx δ2 =>
        rw [e2] at y
        obtain ⟨O2, s2, h2, c2, E2, k2⟩ := y
        rw [c2]
        have kk := k1.trans k2
        simp only [st O2 h2 kk, if_true]
        exact (for_p hg hb xs r O2 s2 h2 δ2 E2 (kk.dns d2) fun O' h' k => st O' h' (kk.trans k)).before kk E
      | ct δ2 =>
        rw [e2] at y
        obtain ⟨O2, s2, h2, c2, E2, k2⟩ := y
        rw [c2]
        have kk := k1.trans k2
        simp only [st O2 h2 kk, if_true]
        exact (for_p hg hb xs r O2 s2 h2 δ2 E2 (kk.dns d2) fun O' h' k => st O' h' (kk.trans k)).before kk E
      | bk δ2 =>
        rw [e2] at y
        obtain ⟨O2, s2, h2, c2, E2, k2⟩ := y
        rw [c2]
        exact ⟨O2, s2, h2, rfl, E2, k1.trans k2⟩
      | rt p =>
        rw [e2] at y
        obtain ⟨w, h2, c2, k2, dd⟩ := y
        rw [c2]
        exact ⟨w, h2, rfl, (k1.kp E).trans k2, dd⟩
      | rx p δ2 =>
        rw [e2] at y
        obtain ⟨w, O2, s2, h2, c2, E2, k2, dd⟩ := y
        rw [c2]
        exact ⟨w, O2, s2, h2, rfl, E2, k1.trans k2, dd⟩
      | ro p =>
        rw [e2] at y
        obtain ⟨a, vs, h2, c2, k2, dd⟩ := y
        rw [c2]
        exact ⟨a, vs, h2, rfl, (k1.kp E).trans k2, dd⟩
theorem s_for {i : DI} {g : DG} {b : DS} {pi : PI} {pg : PG} {pb : PS} (hi : Pi i pi) (hg : Pg g pg) (hb : Ps b pb) : Ps (zgJ i g b) (zhm pi pg pb) := fun n B O s h δ E => by
  unfold zhm zgJ
  cases e : pi δ with
  | none => trivial
  | some xs =>
    obtain ⟨t, l, c1, d, _, st⟩ := hi n B O s h δ xs E e
    rw [c1]
    exact (for_p hg hb xs t.items O s (h ++ l) δ E.app d st).before za3.app E
def zb2 (m : Nat) (ps : List P) : Dl := ps.map .val ++ List.replicate (m - ps.length) .no
def zeq (p m : Nat) (b : PS) : PF := fun ps => if ps.length = p then (match b (zb2 m ps) with
  | .nx _ => some (.v .non)
  | .rt r => some (.v r)
  | .ro xs => some (.o xs)
  | _ => none) else none
theorem zgp {T : Nat → Prop} {m : Nat} {ps : List P} {ws : List W} (lt : ∀ i, T i → i < h.length) (d : Dns T h ps ws) : Env ⟨h.length, fun _ => False, none⟩ T (List.replicate (zb2 m ps).length []) (start m ws) h (zb2 m ps) where
  le := Nat.le_refl _
  old := fun i t => ⟨lt i t, fun z => z⟩
  ls := by unfold start zb2; simp [d.length]
  lo := by simp
  one := fun i j a l m e _ z _ => (Ow.none (Ow.of e z)).elim
  new := fun a m => m.none.elim
  self := fun _ _ _ _ z => by cases z
  at_ := fun i sl e => by
    have tb : ∀ k, Tb T (List.replicate (zb2 m ps).length []) k → T k := fun k t => t.elim id fun z => z.none.elim
    have on : ((List.replicate (zb2 m ps).length ([] : List Nat))[i]?).getD [] = [] := by
      rw [List.getElem?_replicate]; split <;> rfl
    rw [on]
    unfold zb2 at e
    by_cases hi : i < ps.length
    · rw [List.getElem?_append_left (by simpa using hi), List.getElem?_map, List.getElem?_eq_getElem hi] at e
      cases e
      obtain ⟨u, hu, du⟩ := d.get (List.getElem?_eq_getElem hi)
      refine ⟨rfl, u, ?_, du.weak tb⟩
      unfold start
      rw [List.getElem?_append_left (by rw [List.length_map, d.length]; exact hi), List.getElem?_map, hu]
      rfl
    · rw [List.getElem?_append_right (by simpa using hi), List.getElem?_replicate] at e
      split at e
      · cases e; rfl
      · cases e
theorem ziQ {h h' : Sh} (k : Kp ⟨h.length, fun _ => False, none⟩ h h') : ∃ l, h' = h ++ l := by
  refine ⟨h'.drop h.length, List.ext_getElem? fun i => ?_⟩
  by_cases hi : i < h.length
  · rw [List.getElem?_append_left hi]
    exact (k.2 i _ hi (fun z => z) (List.getElem?_eq_getElem hi)).trans (List.getElem?_eq_getElem hi).symm
  · rw [List.getElem?_append_right (by omega), List.getElem?_drop]
    congr 1; omega
theorem zhz {b : DS} {pb : PS} {p m : Nat} (hb : Ps b pb) : Pf (fnOf p m b) (zeq p m pb) := fun T h ws ps r lt d e => by
  unfold zeq at e
  split at e
  · rename_i hp
    have y := hb ⟨h.length, fun _ => False, none⟩ T _ (start m ws) h (zb2 m ps) (zgp (m := m) lt d)
    unfold fnOf
    rw [if_pos (d.length.trans hp)]
    cases e1 : pb (zb2 m ps) with
    | nx δ' =>
      rw [e1] at e y
      cases e
      obtain ⟨O', s', h', c, E', k⟩ := y
      rw [c]
      obtain ⟨l, rfl⟩ := ziQ (k.kp (zgp (m := m) lt d))
      exact ⟨.non, l, rfl, by simp only [ResD, Dn]⟩
    | rt q =>
      rw [e1] at e y
      cases e
      obtain ⟨w, h', c, k, dd⟩ := y
      rw [c]
      obtain ⟨l, rfl⟩ := ziQ k
      exact ⟨w, l, rfl, dd⟩
    | ro xs =>
      rw [e1] at e y
      cases e
      obtain ⟨a, us, h', c, k, ge, g, dd⟩ := y
      rw [c]
      obtain ⟨l, rfl⟩ := ziQ k
      exact ⟨.ref a, l, rfl, a, us, rfl, ge.elim id fun z => z.elim, g, dd⟩
    | er => rw [e1] at e; cases e
    | bk => rw [e1] at e; cases e
    | ct => rw [e1] at e; cases e
    | rx => rw [e1] at e; cases e
  · cases e
end
end HL
namespace HL
open PySem (Str)
section
variable {n : Lo} {B : Nat → Prop} {O O' : List (List Nat)} {s : Sg} {h h' h2 l : Sh} {δ : Dl}
def zhS (m : Nat) (js : List Nat) (δ : Dl) : Dl := List.replicate m .no ++ js.map fun j => match δ[j]? with
  | some (.val p) => .val p
  | _ => .no
def zfb (g : PG) (c : PT) (e : PE) : List P → Dl → List P → Option (List P)
  | [], _, acc => some acc
  | x :: xs, δ, acc => match g x δ with
    | none => none
    | some δ1 => (c δ1).bind fun k => if k = true then (e δ1).bind fun v => if acc.length < LIM then zfb g c e xs δ1 (acc ++ [v]) else none else zfb g c e xs δ1 acc
def zfx (i : PI) (m : Nat) (js : List Nat) (g : PG) (c : PT) (e : PE) : Dl → Option (List P) := fun δ => (i δ).bind fun xs => zfb g c e xs (zhS m js δ) []
theorem Env.setB (E : Env n B O s h δ) {a : Nat} {o : SO} (b : B a) : Env n B O s (h.set a o) δ := by
  have mv : ∀ (k : Nat) (u : SO), ¬ Tb B O k → h[k]? = some u → (h.set a o)[k]? = some u ∧ ¬ Tb B O k := fun k u t e => ⟨zbE e (fun z => t (.inl (z ▸ b))), t⟩
  exact {
    le := by rw [List.length_set]; exact E.le
    old := E.old
    ls := E.ls
    lo := E.lo
    one := E.one
    new := fun b mb => by rw [List.length_set]; exact E.new b mb
    self := E.self
    at_ := fun j sl e => by
      refine (E.at_ j sl e).mv mv fun c mc u ec => zbE ec fun z => ?_
      subst z
      cases q2 : O[j]? with
      | none => rw [q2] at mc; cases mc
      | some y =>
        rw [q2] at mc
        have z1 := E.old a b
        rcases (E.new a (Ow.of q2 mc)).1 with z | z
        · omega
        · exact z1.2 z }
theorem Dns.setB {T : Nat → Prop} {a : Nat} {o : SO} {ps : List P} {us : List W} (t : T a) (x : Dns T h ps us) : Dns T (h.set a o) ps us := Dns.mono (fun k u tk e => ⟨zbE e (fun z => tk (z ▸ t)), tk⟩) ps us x
theorem zkl {g : DG} {c : DT} {e : DE} {pg : PG} {pc : PT} {pe : PE} {t : It} {A : Nat} (hg : Pg g pg) (hc : Pt c pc) (he : Pe e pe) (bA : B A) :
    ∀ (xs : List P) (us : List W) (O : List (List Nat)) (s : Sg) (h : Sh) (δ : Dl) (acc : List P) (vs : List W) (r : List P), Env n B O s h δ → Dns (Tb B O) h xs us → h[A]? = some (.lst vs) → Dns (Tb B O) h acc vs →
      (∀ h', (∀ (i : Nat) (o : SO), i ≠ A → i < n.at_ → h[i]? = some o → h'[i]? = some o) → t.stays h') → zfb pg pc pe xs δ acc = some r →
      ∃ vs' h', zhF t g c e A us s h = .ok (.ref A) h' ∧ h'[A]? = some (.lst vs') ∧ Dns B h' r vs' ∧ (∀ (i : Nat) (o : SO), i ≠ A → i < n.at_ → h[i]? = some o → h'[i]? = some o) ∧ h.length ≤ h'.length
  | [], us, O, s, h, δ, acc, vs, r, E, d, gA, da, st, eq => by
    simp only [Dns] at d
    cases eq
    rw [d]
    exact ⟨vs, h, rfl, gA, da.weak fun i t => .inl t, fun _ _ _ _ e => e, Nat.le_refl _⟩
  | x :: xs, us, O, s, h, δ, acc, vs, r, E, d, gA, da, st, eq => by
    simp only [Dns] at d
    obtain ⟨u, us, rfl, d1, d2⟩ := d
    unfold zfb at eq
    unfold zhF
    cases e1 : pg x δ with
    | none => rw [e1] at eq; cases eq
    | some δ1 =>
      rw [e1] at eq
      simp only at eq
      obtain ⟨O1, s1, c1, E1, k1⟩ := hg n B O s h δ x u δ1 E d1 e1
      rw [c1]
      simp only
      cases e2 : pc δ1 with
      | none => rw [e2] at eq; cases eq
      | some k =>
        rw [e2] at eq
        simp only [Option.bind_some] at eq
        obtain ⟨l1, c2⟩ := hc n B O1 s1 h δ1 k E1 e2
        rw [c2]
        simp only [R.bind]
        have E2 : Env n B O1 s1 (h ++ l1) δ1 := E1.app
        have d2' : Dns (Tb B O1) (h ++ l1) xs us := (k1.dns d2).app
        have da' : Dns (Tb B O1) (h ++ l1) acc vs := (k1.dns da).app
        have gA' : (h ++ l1)[A]? = some (.lst vs) := zax gA
        have pr : ∀ (i : Nat) (o : SO), i ≠ A → i < n.at_ → h[i]? = some o → (h ++ l1)[i]? = some o := fun i o _ _ e => zax e
        cases k with
        | false =>
          simp only [Bool.false_eq_true, if_false] at eq ⊢
          rw [if_pos (st _ pr)]
          obtain ⟨vs', h', z1, z2, z3, z4, z5⟩ := zkl hg hc he bA xs us O1 s1 (h ++ l1) δ1 acc vs r E2 d2' gA' da' (fun h' q => st h' fun i o a b e => q i o a b (pr i o a b e)) eq
          exact ⟨vs', h', z1, z2, z3, fun i o a b e => z4 i o a b (pr i o a b e), by rw [List.length_append] at z5; omega⟩
        | true =>
          simp only [if_true] at eq ⊢
          cases e3 : pe δ1 with
          | none => rw [e3] at eq; cases eq
          | some v =>
            rw [e3] at eq
            simp only [Option.bind_some] at eq
            split at eq
            · rename_i hl
              obtain ⟨w, l2, c3, d3⟩ := he n B O1 s1 (h ++ l1) δ1 v E2 e3
              rw [c3]
              have gA2 : (h ++ l1 ++ l2)[A]? = some (.lst vs) := zax gA'
              have pr2 : ∀ (i : Nat) (o : SO), i ≠ A → i < n.at_ → h[i]? = some o → (h ++ l1 ++ l2)[i]? = some o := fun i o a b e => zax (zax e)
              have pr3 : ∀ (i : Nat) (o : SO), i ≠ A → i < n.at_ → h[i]? = some o → ((h ++ l1 ++ l2).set A (.lst (vs ++ [w])))[i]? = some o := fun i o a b e => zbE (pr2 i o a b e) (fun z => a z.symm)
              simp only [gA2]
              rw [if_pos ⟨by rw [da.length]; exact hl, st _ pr2, (List.getElem?_eq_some_iff.mp gA2).1⟩]
              have tA : Tb B O1 A := .inl bA
              obtain ⟨vs', h', z1, z2, z3, z4, z5⟩ := zkl hg hc he bA xs us O1 s1 _ δ1 (acc ++ [v]) (vs ++ [w]) r (E2.app (l := l2) |>.setB (a := A) (o := .lst (vs ++ [w])) bA) (d2'.app.setB tA)
                (List.getElem?_set_self (List.getElem?_eq_some_iff.mp gA2).1) ((da'.app.append (Dns.one d3)).setB tA) (fun h' q => st h' fun i o a b e => q i o a b (pr3 i o a b e)) eq
              exact ⟨vs', h', z1, z2, z3, fun i o a b e => z4 i o a b (pr3 i o a b e), by rw [List.length_set, List.length_append, List.length_append] at z5; omega⟩
            · cases eq
theorem env_cap (E : Env n B O s h δ) {B' : Nat → Prop} {m : Nat} {js : List Nat} (hB : ∀ i, B' i → i < h'.length) (mv : ∀ (i : Nat) (o : SO), ¬ Tb B O i → h[i]? = some o → h'[i]? = some o ∧ ¬ B' i) :
    Env ⟨h'.length, fun _ => False, none⟩ B' (List.replicate (zhS m js δ).length []) (zi0 m js s) h' (zhS m js δ) where
  le := Nat.le_refl _
  old := fun i t => ⟨hB i t, fun z => z⟩
  ls := by unfold zi0 zhS; simp
  lo := by simp
  one := fun i j a l m e _ z _ => (Ow.none (Ow.of e z)).elim
  new := fun a m => m.none.elim
  self := fun _ _ _ _ z => by cases z
  at_ := fun i sl e => by
    have tb : ∀ k, Tb B' (List.replicate (zhS m js δ).length []) k → B' k := fun k t => t.elim id fun z => z.none.elim
    have on : ((List.replicate (zhS m js δ).length ([] : List Nat))[i]?).getD [] = [] := by
      rw [List.getElem?_replicate]; split <;> rfl
    rw [on]
    unfold zhS at e
    by_cases hi : i < m
    · rw [List.getElem?_append_left (by simpa using hi), List.getElem?_replicate, if_pos hi] at e
      cases e; rfl
    · rw [List.getElem?_append_right (by simpa using hi), List.length_replicate, List.getElem?_map] at e
      unfold zi0
      rw [List.getElem?_append_right (by simpa using hi), List.length_replicate, List.getElem?_map]
      cases q : js[i - m]? with
      | none => rw [q] at e; cases e
      | some j =>
        rw [q] at e
        simp only [Option.map_some] at e ⊢
        cases q2 : δ[j]? with
        | none => rw [q2] at e; cases e; rfl
        | some z =>
          rw [q2] at e
          cases z with
          | val p =>
            cases e
            obtain ⟨_, u, a, b⟩ := E.at_ j _ q2
            exact ⟨rfl, u, a, Dn.mono (fun k o t e => ⟨(mv k o t e).1, fun z => (mv k o t e).2 (tb k z)⟩) p u b⟩
          | no => cases e; rfl
          | own xs => cases e; rfl
          | obj c fs => cases e; rfl
theorem ziI {i : DI} {g : DG} {c : DT} {e : DE} {pi : PI} {pg : PG} {pc : PT} {pe : PE} {m : Nat} {js : List Nat} (hi : Pi i pi) (hg : Pg g pg) (hc : Pt c pc) (he : Pe e pe) : Po (ze8 i m js g c e) (zfx pi m js pg pc pe) := fun n B O s h δ r E eq => by
  unfold zfx at eq
  cases e1 : pi δ with
  | none => rw [e1] at eq; cases eq
  | some xs =>
    rw [e1] at eq
    simp only [Option.bind_some] at eq
    obtain ⟨t, l, c1, d, st0, st⟩ := hi n B O s h δ xs E e1
    have E1 : Env n B O s (h ++ l) δ := E.app
    have tl : ∀ i, Tb B O i → i < (h ++ l).length := fun i t => Tb.lt E1 t
    have hlen : ((h ++ l) ++ [SO.lst []]).length = (h ++ l).length + 1 := by rw [List.length_append]; rfl
    have mv : ∀ (k : Nat) (o : SO), ¬ Tb B O k → (h ++ l)[k]? = some o → ((h ++ l) ++ [SO.lst []])[k]? = some o ∧ ¬ (Tb B O k ∨ k = (h ++ l).length) := fun k o t e => ⟨zax e, fun z => by
      rcases z with z | z
      · exact t z
      · have := (List.getElem?_eq_some_iff.mp e).1; omega⟩
    have E2 := env_cap E1 (B' := fun i => Tb B O i ∨ i = (h ++ l).length) (m := m) (js := js) (h' := (h ++ l) ++ [SO.lst []]) (fun i z => by
      rw [hlen]
      rcases z with z | z
      · have := tl i z; omega
      · omega) mv
    have dd : Dns (Tb (fun i => Tb B O i ∨ i = (h ++ l).length) (List.replicate (zhS m js δ).length [])) ((h ++ l) ++ [SO.lst []]) xs t.items := Dns.mono (fun k o t e => ⟨(mv k o t e).1, fun z => (mv k o t e).2 (z.elim id fun y => y.none.elim)⟩) xs _ d
    obtain ⟨vs', h', z1, z2, z3, z4, z5⟩ := zkl (t := t) (A := (h ++ l).length) hg hc he (.inr rfl) xs t.items _ _ _ _ [] [] r E2 dd (by simp) (by simp only [Dns]) (fun h' q => st O h' ⟨by
        have : ∀ i < (h ++ l).length, i < h'.length := fun i hi => by
          have := q i _ (by omega) (by show i < ((h ++ l) ++ [SO.lst []]).length; rw [hlen]; omega) (zax (List.getElem?_eq_getElem hi))
          exact (List.getElem?_eq_some_iff.mp this).1
        rcases Nat.eq_zero_or_pos (h ++ l).length with z | z
        · omega
        · have := this ((h ++ l).length - 1) (by omega); omega, fun i o e nm => ⟨q i o (by have := (List.getElem?_eq_some_iff.mp e).1; omega) (by show i < ((h ++ l) ++ [SO.lst []]).length; rw [hlen]; have := (List.getElem?_eq_some_iff.mp e).1; omega) (zax e), nm⟩⟩) eq
    have kp : Kp ⟨h.length, fun _ => False, none⟩ h h' := ⟨by show h.length ≤ _; rw [hlen, List.length_append] at z5; omega, fun i o hi _ e => z4 i o (by rw [List.length_append]; have hi : i < h.length := hi; omega) (by show i < ((h ++ l) ++ [SO.lst []]).length; rw [hlen, List.length_append]; have hi : i < h.length := hi; omega) (zax (zax e))⟩
    obtain ⟨l', rfl⟩ := ziQ kp
    refine ⟨(h ++ l).length, l', vs', ?_, by rw [List.length_append]; omega, z2, z3⟩
    unfold ze8
    rw [c1]
    exact z1
def OrN (T : Nat → Prop) (h : Sh) (xs : List P) : OR → Prop
  | .new (.lst us) => Dns T h xs us
  | _ => False
theorem fin_n {T : Nat → Prop} {o : OR} {r : List P} (x : OrN T h r o) : ∃ a l us, o.fin h = .ok (.ref a) (h ++ l) ∧ h.length ≤ a ∧ (h ++ l)[a]? = some (.lst us) ∧ Dns (fun i => T i ∨ i = a) (h ++ l) r us := by
  cases o with
  | new o =>
    cases o with
    | lst us =>
      refine ⟨h.length, [.lst us], us, rfl, Nat.le_refl _, by simp, Dns.mono (fun i o t e => ⟨zax e, fun z => ?_⟩) r us x⟩
      rcases z with z | z
      · exact t z
      · have := (List.getElem?_eq_some_iff.mp e).1; omega
    | _ => exact x.elim
  | _ => exact x.elim
theorem o_b {f : List W → Sh → OR} {g : List P → Option (List P)} {a : DA} {p : PA} (k : ∀ T h ps ws r, zjZ T h ps ws → g ps = some r → OrN T h r (f ws h)) (ha : Pab a p) : Po (dB f a) (pO g p) := fun n B O s h δ r E e => by
  unfold pO at e
  cases e1 : p δ with
  | none => rw [e1] at e; cases e
  | some x =>
    rw [e1] at e
    obtain ⟨w, l, c1, d1⟩ := ha n B O s h δ x E e1
    obtain ⟨b, l3, us, c3, ge, g3, d3⟩ := fin_n (k _ _ _ _ _ d1 e)
    refine ⟨b, l ++ l3, us, ?_, by rw [List.length_append] at ge; omega, by rw [← List.append_assoc]; exact g3, by rw [← List.append_assoc]; exact d3⟩
    unfold dB
    rw [c1]
    simp only [R.bind]
    rw [c3, List.append_assoc]
def oList : List P → Option (List P)
  | [p] => zfs p
  | _ => none
theorem o_list {a : DA} {p : PA} (ha : Pab a p) : Po (dB zcA a) (pO oList p) := o_b (fun T h ps ws r x e => by
  unfold oList at e
  split at e
  · obtain ⟨u, rfl, d⟩ := x.one
    obtain ⟨us, g, ds⟩ := d.seq e
    simp only [zcA, g, OrN]
    exact ds
  · cases e) ha
def pOpO (g : P → P → Option (List P)) (p q : PE) : Dl → Option (List P) := fun δ => (p δ).bind fun x => (q δ).bind fun y => g x y
def flatB (p : P) : Bool := (flatP p).isSome
def zmu (g : PF) (a : PA) : PE := fun δ => ((a δ).bind g).bind fun r => if flatB r.val then some r.val else none
def lent : List P → List W → Nat → Prop
  | _ :: ps, w :: ws, i => w = .ref i ∨ lent ps ws i
  | _, _, _ => False
end
end HL
namespace HL
open PySem (Str)
abbrev cLt (i j : Int) : Bool := decide (i < j)
abbrev cLe (i j : Int) : Bool := decide (i ≤ j)
abbrev cGt (i j : Int) : Bool := decide (j < i)
abbrev cGe (i j : Int) : Bool := decide (j ≤ i)
def qSub := qInt (fun _ _ => true) fun i j => i - j
def zgL := qInt (fun _ j => decide (0 < j) && decide (j < 1073741824)) fun i j => i / j
def zd6 := qInt (fun _ j => decide (0 < j)) fun i j => i % j
def qLt := qCmp cLt
def qLe := qCmp cLe
def qGt := qCmp cGt
def qGe := qCmp cGe
theorem d_sub : O2D oSub qSub := d_int
theorem zea : O2D zcU zgL := d_int
theorem zb0 : O2D zbb zd6 := d_int
theorem d_lt : O2D oLt qLt := d_cmp
theorem d_ge : O2D oGe qGe := d_cmp
section
variable {h l : Sh}
def tyP : P → Option Ty
  | .non => some (.bi "NoneType")
  | .bl _ => some (.bi "bool")
  | .int _ => some (.bi "int")
  | .str _ => some (.bi "str")
  | .lst _ => some (.bi "list")
  | .rol _ => some (.bi "list")
  | .tup _ => some (.bi "tuple")
  | .ins c _ => some (.own false c)
  | _ => none
theorem ty_p {T : Nat → Prop} {p : P} {w : W} {t : Ty} (x : DnB T h p w) (e : tyP p = some t) : tyW h w = some t := by
  rcases x with x | ⟨xs, a, us, rfl, rfl, g, d⟩
  · cases p <;> simp only [Dn] at x <;> first
      | (subst x; exact e)
      | (obtain ⟨i, us, rfl, _, g, _⟩ := x; simp only [tyW, g]; exact e)
  · simp only [tyW, g]; exact e
def clP : P → Option W
  | .ty n => some (.ty n)
  | .gl x => some (.gl x)
  | _ => none
def clsP : List P → Option (List W)
  | [] => some []
  | p :: ps => (clP p).bind fun u => (clsP ps).map (u :: ·)
theorem cl_p {T : Nat → Prop} {p : P} {w u : W} (x : Dn T h p w) (e : clP p = some u) : w = u ∧ isCl u = true := by
  cases p <;> first
    | (cases e; simp only [Dn] at x; exact ⟨x, rfl⟩)
    | cases e
theorem cls_p {T : Nat → Prop} : ∀ (ps : List P) (us vs : List W), Dns T h ps us → clsP ps = some vs → us = vs ∧ vs.all isCl = true
  | [], us, vs, x, e => by simp only [Dns] at x; rw [x]; cases e; exact ⟨rfl, rfl⟩
  | p :: ps, us, vs, x, e => by
    simp only [Dns] at x
    obtain ⟨u, r, rfl, d, dr⟩ := x
    unfold clsP at e
    cases e1 : clP p with
    | none => rw [e1] at e; cases e
    | some a =>
      rw [e1] at e
      cases e2 : clsP ps with
      | none => rw [e2] at e; cases e
      | some b =>
        rw [e2] at e
        cases e
        obtain ⟨z1, z2⟩ := cl_p d e1
        obtain ⟨z3, z4⟩ := cls_p ps r b dr e2
        subst z1 z3
        exact ⟨rfl, by rw [List.all_cons, z2, z4]; rfl⟩
def qIsi (T : CT) : List P → Option P
  | [p, .tup cs] => (tyP p).bind fun t => (clsP cs).bind fun us => if us.isEmpty then none else (isiN T t us).map .bl
  | [p, c] => (tyP p).bind fun t => (clP c).bind fun u => (isi1 T t u).map .bl
  | _ => none
theorem d_isi {T : CT} : BD (zdT T) (qIsi T) := fun S h ps ws r x e => by
  unfold qIsi at e
  split at e
  · rename_i p cs
    obtain ⟨u, v, rfl, d1, d2⟩ := x.two
    cases e1 : tyP p with
    | none => rw [e1] at e; cases e
    | some t =>
      rw [e1] at e
      simp only [Option.bind_some] at e
      cases e2 : clsP cs with
      | none => rw [e2] at e; cases e
      | some us =>
        rw [e2] at e
        simp only [Option.bind_some] at e
        split at e
        · cases e
        · rename_i ne
          obtain ⟨a, vs, rfl, _, g, ds⟩ := d2.tup
          obtain ⟨rfl, ac⟩ := cls_p cs vs us ds e2
          cases e3 : isiN T t vs with
          | none => rw [e3] at e; cases e
          | some b =>
            rw [e3] at e; cases e
            simp only [zdT, isi, ty_p d1 e1, g, ac, Bool.eq_false_iff.mpr ne, Bool.not_false, Bool.and_self, if_true, e3, OrD, Dn]
  · rename_i p c hc
    obtain ⟨u, v, rfl, d1, d2⟩ := x.two
    cases e1 : tyP p with
    | none => rw [e1] at e; cases e
    | some t =>
      rw [e1] at e
      simp only [Option.bind_some] at e
      cases e2 : clP c with
      | none => rw [e2] at e; cases e
      | some w =>
        rw [e2] at e
        simp only [Option.bind_some] at e
        cases e3 : isi1 T t w with
        | none => rw [e3] at e; cases e
        | some b =>
          rw [e3] at e; cases e
          have hv : v = w ∧ isCl w = true := by
            rcases d2 with d2 | ⟨xs, a, us, rfl, _⟩
            · exact cl_p d2 e2
            · cases e2
          obtain ⟨rfl, ic⟩ := hv
          have : isi T h u v = some b := by
            unfold isi
            rw [ty_p d1 e1]
            cases v with
            | ty n => exact e3
            | gl n => exact e3
            | _ => cases ic
          simp only [zdT, this, OrD, Dn]
  · cases e
end
def pL (o : Dl → Option (List P)) : PE := fun δ => (o δ).map .lst
theorem e_l {d : DE} {o : Dl → Option (List P)} (x : Po d o) : Pe d (pL o) := x.e
end HL
namespace HL
open PySem (Str)
def mixV (c k : Int) : Int :=
  ((c % 2147483647 * (c % 2147483647) % 2147483629) * (c % 2147483647 * (c % 2147483647) % 2147483629) + 69621 * (c % 2147483647 * (c % 2147483647) % 2147483629) + k) % 2147483587
def zdd (ns : List Int) (k : Int) : Int :=
  mixV (if ns = [] then 7919 * k + 11 else ns.getD (k % ns.length).toNat 0 * 48271 + 104729 * k + k / ns.length * 7919) k
theorem zlZ (ns : List Int) (k : Int) : 0 ≤ zdd ns k := Int.emod_nonneg _ (by decide)
theorem zfY {i j : Int} (h : i.natAbs < 18446744073709551616) : zbm i j = true := by unfold zbm; simp [show i.natAbs < 2 ^ 64 from h]
theorem ziM {i j : Int} (h : j.natAbs < 18446744073709551616) : zbm i j = true := by unfold zbm; simp [show j.natAbs < 2 ^ 64 from h]
theorem zhi (i j : Int) : zfT (.int i) (.int j) = if zbm i j = true then some (.int (i * j)) else none := rfl
theorem zjv (i j : Int) : zeH (.int i) (.int j) = some (.int (i + j)) := rfl
theorem zjr (i j : Int) : qSub (.int i) (.int j) = some (.int (i - j)) := rfl
theorem zaR (i j : Int) (h : 0 < j) : zd6 (.int i) (.int j) = some (.int (i % j)) := by unfold zd6 qInt; simp [h]
theorem zeR (i j : Int) (h : 0 < j) (h2 : j < 1073741824) : zgL (.int i) (.int j) = some (.int (i / j)) := by unfold zgL qInt; simp [h, h2]
theorem zkN (i j : Int) : qLt (.int i) (.int j) = some (.bl (decide (i < j))) := rfl
theorem zkO (i j : Int) : qLe (.int i) (.int j) = some (.bl (decide (i ≤ j))) := rfl
theorem zkS (i j : Int) : qGt (.int i) (.int j) = some (.bl (decide (j < i))) := rfl
theorem zkT (i j : Int) : qGe (.int i) (.int j) = some (.bl (decide (j ≤ i))) := rfl
theorem zfo (m : Bool) (i j : Int) : qEq m (.int i) (.int j) = some (.bl (m != decide (i = j))) := rfl
theorem zkU (m : Bool) (i j : Str) : qEq m (.str i) (.str j) = some (.bl (m != decide (i = j))) := rfl
theorem zkk (n : Nat) (ns : List Int) : zbK (zbG n) (ns.map P.int) = some (ns.map D.int) := by
  induction ns with
  | nil => rfl
  | cons a r ih => rw [List.map_cons]; unfold zbK; rw [ih]; cases n <;> rfl
theorem zkq (xs ys : List Int) : D.eqs (xs.map D.int) (ys.map D.int) = decide (xs = ys) := by
  induction xs generalizing ys with
  | nil => cases ys <;> simp [D.eqs]
  | cons x xs ih =>
    cases ys with
    | nil => simp [D.eqs]
    | cons y ys =>
      simp only [List.map_cons, D.eqs, D.eq, ih]
      rw [Bool.eq_iff_iff]; simp
theorem zkV (m : Bool) (ns : List Int) : qEq m (.rol (ns.map .int)) (.lst []) = some (.bl (m != decide (ns = []))) := by
  unfold qEq eqP
  simp only [zdv, zbG, zkk, Option.map_some, zbK]
  have := zkq ns []
  simp only [D.eq, List.map_nil] at this ⊢
  rw [this]
theorem zm1 (ns : List Int) (i : Int) (h0 : 0 ≤ i) (h : i < ns.length) : atP (ns.map P.int) i = some (.int (ns.getD i.toNat 0)) := by
  have h1 : i.toNat < ns.length := by omega
  unfold atP ixW
  rw [List.length_map, if_pos h0, if_pos h]
  simp only [Option.bind_some, List.getElem?_map]
  rw [List.getElem?_eq_getElem h1, List.getD_eq_getElem?_getD, List.getElem?_eq_getElem h1]
  rfl
theorem ziw (xs : List P) (i : Int) : qIx (.lst xs) (.int i) = atP xs i := rfl
theorem zkQ (xs : List P) (i : Int) : qIx (.rol xs) (.int i) = atP xs i := rfl
theorem zkP (xs : List P) (i : Int) : qIx (.tup xs) (.int i) = atP xs i := rfl
theorem zjt (xs : List P) : zge [.rol xs] = some (.int xs.length) := rfl
theorem zju (xs : List P) : zge [.lst xs] = some (.int xs.length) := rfl
theorem zjs (xs : List P) : zge [.tup xs] = some (.int xs.length) := rfl
theorem atP_0 (x0 : P) (r : List P) : atP (x0 :: r) 0 = some x0 := by
  unfold atP ixW
  rw [if_pos (by decide), if_pos (by simp only [List.length_cons]; omega)]
  rfl
theorem atP_1 (x0 x1 : P) (r : List P) : atP (x0 :: x1 :: r) 1 = some x1 := by
  unfold atP ixW
  rw [if_pos (by decide), if_pos (by simp only [List.length_cons]; omega)]
  rfl
theorem atP_2 (x0 x1 x2 : P) (r : List P) : atP (x0 :: x1 :: x2 :: r) 2 = some x2 := by
  unfold atP ixW
  rw [if_pos (by decide), if_pos (by simp only [List.length_cons]; omega)]
  rfl
theorem atP_3 (x0 x1 x2 x3 : P) (r : List P) : atP (x0 :: x1 :: x2 :: x3 :: r) 3 = some x3 := by
  unfold atP ixW
  rw [if_pos (by decide), if_pos (by simp only [List.length_cons]; omega)]
  rfl
theorem atP_4 (x0 x1 x2 x3 x4 : P) (r : List P) : atP (x0 :: x1 :: x2 :: x3 :: x4 :: r) 4 = some x4 := by
  unfold atP ixW
  rw [if_pos (by decide), if_pos (by simp only [List.length_cons]; omega)]
  rfl
theorem atP_5 (x0 x1 x2 x3 x4 x5 : P) (r : List P) : atP (x0 :: x1 :: x2 :: x3 :: x4 :: x5 :: r) 5 = some x5 := by
  unfold atP ixW
  rw [if_pos (by decide), if_pos (by simp only [List.length_cons]; omega)]
  rfl
theorem atP_6 (x0 x1 x2 x3 x4 x5 x6 : P) (r : List P) : atP (x0 :: x1 :: x2 :: x3 :: x4 :: x5 :: x6 :: r) 6 = some x6 := by
  unfold atP ixW
  rw [if_pos (by decide), if_pos (by simp only [List.length_cons]; omega)]
  rfl
theorem atP_7 (x0 x1 x2 x3 x4 x5 x6 x7 : P) (r : List P) : atP (x0 :: x1 :: x2 :: x3 :: x4 :: x5 :: x6 :: x7 :: r) 7 = some x7 := by
  unfold atP ixW
  rw [if_pos (by decide), if_pos (by simp only [List.length_cons]; omega)]
  rfl
theorem atP_8 (x0 x1 x2 x3 x4 x5 x6 x7 x8 : P) (r : List P) : atP (x0 :: x1 :: x2 :: x3 :: x4 :: x5 :: x6 :: x7 :: x8 :: r) 8 = some x8 := by
  unfold atP ixW
  rw [if_pos (by decide), if_pos (by simp only [List.length_cons]; omega)]
  rfl
theorem atP_9 (x0 x1 x2 x3 x4 x5 x6 x7 x8 x9 : P) (r : List P) : atP (x0 :: x1 :: x2 :: x3 :: x4 :: x5 :: x6 :: x7 :: x8 :: x9 :: r) 9 = some x9 := by
  unfold atP ixW
  rw [if_pos (by decide), if_pos (by simp only [List.length_cons]; omega)]
  rfl
theorem zm3 (x0 x1 x2 x3 x4 x5 x6 x7 x8 x9 x10 : P) (r : List P) : atP (x0 :: x1 :: x2 :: x3 :: x4 :: x5 :: x6 :: x7 :: x8 :: x9 :: x10 :: r) 10 = some x10 := by
  unfold atP ixW
  rw [if_pos (by decide), if_pos (by simp only [List.length_cons]; omega)]
  rfl
theorem zm2 (x0 x1 x2 x3 x4 x5 x6 x7 x8 x9 x10 x11 : P) (r : List P) : atP (x0 :: x1 :: x2 :: x3 :: x4 :: x5 :: x6 :: x7 :: x8 :: x9 :: x10 :: x11 :: r) 11 = some x11 := by
  unfold atP ixW
  rw [if_pos (by decide), if_pos (by simp only [List.length_cons]; omega)]
  rfl
theorem zjj (xs : List P) : zfs (.lst xs) = some xs := rfl
theorem zji (xs : List P) : zfs (.rol xs) = some xs := rfl
theorem zjh (xs : List P) : zfs (.tup xs) = some xs := rfl
theorem zjI (xs : List P) : lstP (.lst xs) = some xs := rfl
theorem zjH (xs : List P) : lstP (.rol xs) = some xs := rfl
theorem zje : zfr .non = some false := rfl
theorem zku (b : Bool) : zfr (.bl b) = some b := rfl
theorem zjg (i : Int) : zfr (.int i) = some (i != 0) := rfl
theorem zjf (xs : List P) : zfr (.lst xs) = some (!xs.isEmpty) := rfl
theorem zjd (xs : List P) : zfr (.rol xs) = some (!xs.isEmpty) := rfl
theorem zjc (xs : List P) : zfr (.tup xs) = some (!xs.isEmpty) := rfl
theorem zm0 (b : Bool) : blP (.bl b) = some b := rfl
theorem zbk {a b : PS} {δ δ' : Dl} {r : RS} (h : a δ = .nx δ') (k : b δ' = r) : za6 a b δ = r := by unfold za6; rw [h]; exact k
theorem zeO {a b : PS} {δ : Dl} {p : P} (h : a δ = .rt p) : za6 a b δ = .rt p := by unfold za6; rw [h]
theorem for_nx {i : PI} {g : PG} {b : PS} {δ : Dl} {xs : List P} {r : RS} (h : i δ = some xs) (k : zjL g b xs δ = r) : zhm i g b δ = r := by unfold zhm; rw [h]; exact k
theorem zfD {i : Nat} {e : PE} {δ : Dl} {p : P} (h : e δ = some p) : zcF i e δ = .nx (δ.set i (.val p)) := by unfold zcF; rw [h]
theorem zho {p m : Nat} {b : PS} {ps : List P} {δ : Dl} {r : P} (hp : ps.length = p) (hs : zb2 m ps = δ) (h : b δ = .rt r) : zeq p m b ps = some (.v r) := by unfold zeq; rw [if_pos hp, hs, h]
theorem pf_ro {p m : Nat} {b : PS} {ps : List P} {δ : Dl} {r : List P} (hp : ps.length = p) (hs : zb2 m ps = δ) (h : b δ = .ro r) : zeq p m b ps = some (.o r) := by unfold zeq; rw [if_pos hp, hs, h]
end HL
namespace HL
mutual
theorem D.eq_rfl : ∀ d : D, D.eq d d = true
  | .non => by simp only [D.eq]
  | .bl b => by simp only [D.eq, beq_self_eq_true]
  | .int i => by simp only [D.eq, beq_self_eq_true]
  | .str s => by simp only [D.eq, beq_self_eq_true]
  | .lst xs => by simp only [D.eq]; exact D.eqs_rfl xs
  | .tup xs => by simp only [D.eq]; exact D.eqs_rfl xs
theorem D.eqs_rfl : ∀ xs : List D, D.eqs xs xs = true
  | [] => by simp only [D.eqs, List.isEmpty_nil]
  | x :: xs => by simp only [D.eqs, D.eq_rfl x, D.eqs_rfl xs, Bool.and_self]
end
theorem zhj (m : Bool) {p : P} {d : D} (h : zbG zdv p = some d) : qEq m p p = some (.bl (!m)) := by
  unfold qEq eqP
  split
  · simp
  · simp
  · simp only [h, D.eq_rfl, Option.map_some]; simp
theorem qEq_nil {xs : List P} {ds : List D} (m : Bool) (h : zbK (zbG 7) xs = some ds) : qEq m (.lst xs) (.lst []) = some (.bl (m != xs.isEmpty)) := by
  have e1 : zbG zdv (.lst xs) = some (.lst ds) := by simp only [zdv, zbG, h, Option.map_some]
  have e2 : zbG zdv (.lst []) = some (.lst []) := rfl
  unfold qEq eqP
  simp only [e1, e2, Option.map_some, D.eq]
  cases xs with
  | nil => simp only [zbK, Option.some.injEq] at h; subst h; simp only [D.eqs]; rfl
  | cons x xs =>
    cases ds with
    | nil =>
      simp only [zbK] at h
      cases hx : zbG 7 x <;> rw [hx] at h <;> simp only [Option.bind_none, Option.bind_some, reduceCtorEq] at h
      cases hy : zbK (zbG 7) xs <;> rw [hy] at h <;> simp at h
    | cons d ds => simp only [D.eqs, List.isEmpty_cons]
theorem zfp {β : Type} (n : Nat) (f : β → P) (g : β → D) (h : ∀ b, zbG n (f b) = some (g b)) (xs : List β) : zbK (zbG n) (xs.map f) = some (xs.map g) := by
  induction xs with
  | nil => rfl
  | cons x xs ih => simp only [List.map_cons, zbK, h, ih, Option.bind_some, Option.map_some]
theorem zlq {β : Type} {t : PT} {e : PE} {τ : Dl} (emb f : β → P) (q : β → Bool) : ∀ (xs : List β) (acc : List P) (x0 : Sl), (∀ b ∈ xs, t (.val (emb b) :: τ) = some (q b)) → (∀ b ∈ xs, q b = true → e (.val (emb b) :: τ) = some (f b)) → acc.length + xs.length ≤ 1000 →
    zfb (zcw 0) t e (xs.map emb) (x0 :: τ) acc = some (acc ++ (xs.filter q).map f)
  | [], acc, x0, _, _, _ => by simp [zfb]
  | x :: xs, acc, x0, ht, he, hl => by
    rw [List.map_cons]
    unfold zfb
    rw [List.length_cons] at hl
    have hlen : acc.length < LIM := by unfold LIM; omega
    have r0 := ht x List.mem_cons_self
    have r1 := fun (a : List P) (ha : a.length + xs.length ≤ 1000) => zlq emb f q xs a (.val (emb x)) (fun b hb => ht b (List.mem_cons_of_mem _ hb)) (fun b hb => he b (List.mem_cons_of_mem _ hb)) ha
    simp only [zcw, List.set_cons_zero, r0, Option.bind_some]
    cases hq : q x with
    | true =>
      simp only [if_true, he x List.mem_cons_self hq, Option.bind_some, if_pos hlen]
      rw [r1 _ (by rw [List.length_append, List.length_cons, List.length_nil]; omega), List.filter_cons_of_pos hq]
      simp
    | false =>
      simp only [Bool.false_eq_true, if_false]
      rw [r1 _ (by omega), List.filter_cons_of_neg (by rw [hq]; decide)]
theorem ziX {β : Type} {e : PE} {τ : Dl} (emb f : β → P) (xs : List β) (x0 : Sl) (he : ∀ b ∈ xs, e (.val (emb b) :: τ) = some (f b)) (hl : xs.length ≤ 1000) :
    zfb (zcw 0) zep e (xs.map emb) (x0 :: τ) [] = some (xs.map f) := by
  rw [zlq emb f (fun _ => true) xs [] x0 (fun _ _ => rfl) (fun b hb _ => he b hb) (by simp; omega), List.filter_eq_self.mpr (fun _ _ => rfl), List.nil_append]
end HL
namespace HL
open PySem (Str)
section
variable {n : Lo} {B : Nat → Prop} {O O' O2 : List (List Nat)} {s : Sg} {h h' h2 l : Sh} {δ : Dl}
theorem Dnf.get {T : Nat → Prop} {f : Str} {p : P} : ∀ {fs : List (Str × P)} {gs : List (Str × W)}, Dnf T h fs gs → fs.lookup f = some p → ∃ w, gs.lookup f = some w ∧ Dn T h p w
  | [], gs, x, e => by cases e
  | (g, q) :: fs, gs, x, e => by
    simp only [Dnf] at x
    obtain ⟨u, r, rfl, d, ds⟩ := x
    by_cases z : f = g
    · subst z
      simp only [List.lookup, beq_self_eq_true, Option.some.injEq] at e
      subst e
      exact ⟨u, by simp only [List.lookup, beq_self_eq_true], d⟩
    · have zb : (f == g) = false := by simpa using z
      simp only [List.lookup, zb] at e
      obtain ⟨w, a, b⟩ := Dnf.get ds e
      exact ⟨w, by simp only [List.lookup, zb]; exact a, b⟩
theorem Dnf.no {T : Nat → Prop} {f : Str} : ∀ {fs : List (Str × P)} {gs : List (Str × W)}, Dnf T h fs gs → fs.lookup f = none → gs.lookup f = none
  | [], gs, x, e => by simp only [Dnf] at x; rw [x]; rfl
  | (g, q) :: fs, gs, x, e => by
    simp only [Dnf] at x
    obtain ⟨u, r, rfl, d, ds⟩ := x
    by_cases z : f = g
    · subst z
      simp only [List.lookup, beq_self_eq_true, reduceCtorEq] at e
    · have zb : (f == g) = false := by simpa using z
      simp only [List.lookup, zb] at e ⊢
      exact Dnf.no ds e
def qFld (cs : List Str) (f : Str) : P → Option P
  | .ins c fs => if cs.contains c = true then fs.lookup f else none
  | _ => none
def pFld (cs : List Str) (f : Str) (a : PE) : PE := fun δ => (a δ).bind (qFld cs f)
theorem e_fld {cs : List Str} {f : Str} {a : DE} {p : PE} (ha : Pe a p) : Pe (zf4 cs f a) (pFld cs f p) := fun n B O s h δ r E e => by
  unfold pFld at e
  cases e1 : p δ with
  | none => rw [e1] at e; cases e
  | some x =>
    rw [e1] at e
    simp only [Option.bind_some] at e
    obtain ⟨w, l, c1, d1⟩ := ha n B O s h δ x E e1
    cases x with
    | ins c fs =>
      simp only [qFld] at e
      split at e
      · rename_i hc
        simp only [Dn] at d1
        obtain ⟨i, gs, rfl, _, g, ds⟩ := d1
        obtain ⟨u, lu, du⟩ := ds.get e
        refine ⟨u, l, ?_, du⟩
        unfold zf4
        rw [c1]
        simp only [R.bind, ziT, g, hc, if_true, lu]
      · cases e
    | _ => cases e
def TbD (tb : List (Str × Fn)) (pt : List (Str × PF)) : Prop := ∀ c g, pt.lookup c = some g → ∃ f, tb.lookup c = some f ∧ Pf f g
theorem TbD.nil : TbD [] [] := fun c g e => by cases e
theorem TbD.cons {c : Str} {f : Fn} {g : PF} {tb : List (Str × Fn)} {pt : List (Str × PF)} (k : Pf f g) (r : TbD tb pt) : TbD ((c, f) :: tb) ((c, g) :: pt) := fun c' g' e => by
  by_cases z : c' = c
  · subst z
    simp only [List.lookup, beq_self_eq_true, Option.some.injEq] at e ⊢
    subst e
    exact ⟨f, rfl, k⟩
  · have zb : (c' == c) = false := by simpa using z
    simp only [List.lookup, zb] at e ⊢
    exact r c' g' e
def qMt (pt : List (Str × PF)) (m : Str) : P → Option PF
  | .ins c fs => if fs.lookup m = none then pt.lookup c else none
  | _ => none
def zk5 (pt : List (Str × PF)) (m : Str) (a : PE) (as : PA) : PE := fun δ => (a δ).bind fun x => (qMt pt m x).bind fun g => (as δ).bind fun xs => (g (x :: xs)).map RF.val
theorem zmR {tb : List (Str × Fn)} {pt : List (Str × PF)} {m : Str} {a : DE} {p : PE} {as : DA} {ps : PA} (k : TbD tb pt) (ha : Pe a p) (hs : Pa as ps) : Pe (zaK tb m a as) (zk5 pt m p ps) := fun n B O s h δ r E e => by
  unfold zk5 at e
  cases e1 : p δ with
  | none => rw [e1] at e; cases e
  | some x =>
    rw [e1] at e
    simp only [Option.bind_some] at e
    obtain ⟨w, l, c1, d1⟩ := ha n B O s h δ x E e1
    cases x with
    | ins c fs =>
      simp only [qMt] at e
      split at e
      · rename_i hn
        cases e2 : pt.lookup c with
        | none => rw [e2] at e; cases e
        | some g =>
          rw [e2] at e
          simp only [Option.bind_some] at e
          cases e3 : ps δ with
          | none => rw [e3] at e; cases e
          | some xs =>
            rw [e3] at e
            simp only [Option.bind_some] at e
            cases e4 : g (.ins c fs :: xs) with
            | none => rw [e4] at e; cases e
            | some rf =>
              rw [e4] at e; cases e
              obtain ⟨f, lf, pf⟩ := k c g e2
              obtain ⟨ws, l2, c2, d2⟩ := hs n B O s (h ++ l) δ xs E.app e3
              have d1' : Dn (Tb B O) (h ++ l ++ l2) (.ins c fs) w := d1.app
              have dd : Dns (Tb B O) (h ++ l ++ l2) (.ins c fs :: xs) (w :: ws) := by simp only [Dns]; exact ⟨w, ws, rfl, d1', d2⟩
              obtain ⟨v, l3, c3, d3⟩ := pf (Tb B O) (h ++ l ++ l2) (w :: ws) _ rf (fun i t => Tb.lt (E.app (l := l) |>.app (l := l2)) t) dd e4
              refine ⟨v, l ++ l2 ++ l3, ?_, ?_⟩
              · simp only [Dn] at d1
                obtain ⟨i, gs, rfl, _, g1, ds⟩ := d1
                unfold zaK
                rw [c1]
                simp only [R.bind, zeV, g1, ds.no hn, if_true, lf]
                rw [c2]
                simp only
                rw [c3]
                simp only [List.append_assoc]
              · rw [← List.append_assoc, ← List.append_assoc]
                cases rf with
                | v p => exact d3
                | o xs =>
                  obtain ⟨a, us, rfl, ge, g, ds⟩ := d3
                  simp only [RF.val, Dn]
                  exact ⟨a, us, rfl, fun t => absurd (Tb.lt (E.app (l := l) |>.app (l := l2)) t) (by omega), g, ds.weak fun i t => .inl t⟩
      · cases e
    | _ => cases e
theorem Dnf.zip {T : Nat → Prop} : ∀ (ns : List Str) (xs : List P) (us : List W), Dns T h xs us → Dnf T h (ns.zip xs) (ns.zip us)
  | [], xs, us, d => by simp only [List.zip_nil_left, Dnf]
  | f :: ns, [], us, d => by simp only [Dns] at d; rw [d]; simp only [List.zip_nil_right, Dnf]
  | f :: ns, x :: xs, us, d => by
    simp only [Dns] at d
    obtain ⟨u, r, rfl, d1, d2⟩ := d
    simp only [List.zip_cons_cons, Dnf]
    exact ⟨u, _, rfl, d1, Dnf.zip ns xs r d2⟩
end
end HL
namespace HL
open PySem (Str)
section
variable {n : Lo} {B : Nat → Prop} {O O' : List (List Nat)} {s : Sg} {h h' h2 l : Sh} {δ : Dl}
abbrev PX := Dl → Option (P × Dl)
def Px (d : DE) (p : PX) : Prop := ∀ n B O s h δ r δ', Env n B O s h δ → p δ = some (r, δ') → ∃ w O' h', d s h = .ok w h' ∧ Env n B O' s h' δ' ∧ za3 O h O' h' ∧ Dn (Tb B O') h' r w
def pxE (p : PE) : PX := fun δ => (p δ).map fun r => (r, δ)
theorem Pe.x {d : DE} {p : PE} (x : Pe d p) : Px d (pxE p) := fun n B O s h δ r δ' E e => by
  unfold pxE at e
  cases e1 : p δ with
  | none => rw [e1] at e; cases e
  | some q =>
    rw [e1] at e; cases e
    obtain ⟨w, l, c, d⟩ := x n B O s h δ _ E e1
    exact ⟨w, O, h ++ l, c, E.app, za3.app, d⟩
abbrev PXT := Dl → Option (Bool × Dl)
def Pxt (d : DT) (p : PXT) : Prop := ∀ n B O s h δ r δ', Env n B O s h δ → p δ = some (r, δ') → ∃ O' h', d s h = .ok r h' ∧ Env n B O' s h' δ' ∧ za3 O h O' h'
def pxT (p : PT) : PXT := fun δ => (p δ).map fun r => (r, δ)
theorem Pt.x {d : DT} {p : PT} (x : Pt d p) : Pxt d (pxT p) := fun n B O s h δ r δ' E e => by
  unfold pxT at e
  cases e1 : p δ with
  | none => rw [e1] at e; cases e
  | some q =>
    rw [e1] at e; cases e
    obtain ⟨l, c⟩ := x n B O s h δ _ E e1
    exact ⟨O, h ++ l, c, E.app, za3.app⟩
end
end HL
namespace HL
open PySem (Str)
section
variable {n : Lo} {B : Nat → Prop} {O O' : List (List Nat)} {s : Sg} {h h' h2 l : Sh} {δ : Dl}
abbrev PM := List (Str × Fv) → List P → Option (P × List (Str × Fv))
def Ad (T : Nat → Prop) (o : List Nat) : Nat → Prop := fun i => T i ∨ i ∈ o
theorem FsD.lt {T : Nat → Prop} : ∀ {fs : List (Str × Fv)} {gs : List (Str × W)} {o : List Nat}, FsD T h fs gs o → ∀ i ∈ o, i < h.length
  | [], gs, o, x, i, hi => by simp only [FsD] at x; rw [x.2] at hi; cases hi
  | (f, .val p) :: fs, gs, o, x, i, hi => by
    simp only [FsD] at x
    obtain ⟨u, r, e, d, y⟩ := x
    exact FsD.lt y i hi
  | (f, .own xs) :: fs, gs, o, x, i, hi => by
    simp only [FsD] at x
    obtain ⟨a, us, r, o', e1, e2, g, d, y⟩ := x
    subst e2
    rcases List.mem_cons.mp hi with z | z
    · rw [z]; exact (List.getElem?_eq_some_iff.mp g).1
    · exact FsD.lt y i z
theorem FsD.weak {T T' : Nat → Prop} {fs : List (Str × Fv)} {gs : List (Str × W)} {o : List Nat} (x : FsD T h fs gs o) (k : ∀ i, T' i → T i) : FsD T' h fs gs o := FsD.mv (fun i u t e => ⟨e, fun z => t (k i z)⟩) fs gs o (fun _ _ _ e => e) x
theorem Env.obj (E : Env n B O s h δ) {i a : Nat} {c : Str} {fs fs' : List (Str × Fv)} {o o' : List Nat} {gs' : List (Str × W)} (q : δ[i]? = some (.obj c fs)) (hoa : O[i]? = some (a :: o)) (hsw : s[i]? = some (some (.ref a)))
    (le : h.length ≤ h'.length) (fr : ∀ (k : Nat) (u : SO), k ∉ a :: o → h[k]? = some u → h'[k]? = some u) (g : h'[a]? = some (.ins c gs')) (nd : (a :: o').Nodup) (nw : ∀ k ∈ o', k ∈ o ∨ h.length ≤ k)
    (d : FsD (Ad (fun k => B k ∨ Ow (O.set i []) k) (a :: o')) h' fs' gs' o') : Env n B (O.set i (a :: o')) s h' (δ.set i (.obj c fs')) ∧ za3 O h (O.set i (a :: o')) h' ∧ ∀ k, Tb B (O.set i (a :: o')) k → Ad (fun k => B k ∨ Ow (O.set i []) k) (a :: o') k := by
  have hi : i < δ.length := (List.getElem?_eq_some_iff.mp q).1
  have es : O.set i (a :: o') = (O.set i []).set i (a :: o') := by rw [List.set_set]
  have tb : ∀ k, Tb B (O.set i (a :: o')) k → Ad (fun k => B k ∨ Ow (O.set i []) k) (a :: o') k := fun k t => by
    rcases t with t | t
    · exact .inl (.inl t)
    · rw [es] at t
      rcases t.set with z | z
      · exact .inl (.inr z)
      · exact .inr z
  have oa : Ow O a := Ow.of hoa List.mem_cons_self
  have nk : ∀ (k : Nat) (u : SO), ¬ Ow O k → h[k]? = some u → ¬ Ow (O.set i (a :: o')) k := fun k u t e z => by
    rw [es] at z
    rcases z.set with z | z
    · exact t (zbd z)
    · rcases List.mem_cons.mp z with z | z
      · rw [z] at t; exact t oa
      · rcases nw k z with z | z
        · exact t (Ow.of hoa (List.mem_cons_of_mem _ z))
        · have := (List.getElem?_eq_some_iff.mp e).1; omega
  have nm : ∀ k, ¬ Ow O k → k ∉ a :: o := fun k t z => t (Ow.of hoa z)
  refine ⟨?_, ⟨le, fun k u e t => ⟨fr k u (nm k t) e, nk k u t e⟩⟩, tb⟩
  exact {
    le := Nat.le_trans E.le le
    old := E.old
    ls := by rw [List.length_set]; exact E.ls
    lo := by rw [List.length_set, List.length_set]; exact E.lo
    one := fun j k b l m e1 e2 m1 m2 => by
      have key : ∀ (k : Nat) (l : List Nat), i ≠ k → (O.set i (a :: o'))[k]? = some l → ∀ b ∈ l, b ∉ a :: o' := fun k l ne e b hb z => by
        rw [List.getElem?_set_ne ne] at e
        rcases List.mem_cons.mp z with z | z
        · exact ne (E.one i k a _ _ hoa e List.mem_cons_self (z ▸ hb))
        · rcases nw b z with z | z
          · exact ne (E.one i k b _ _ hoa e (List.mem_cons_of_mem _ z) hb)
          · have := (E.new b (Ow.of e hb)).2; omega
      have self : ∀ (l : List Nat), (O.set i (a :: o'))[i]? = some l → l = a :: o' := fun l e => by
        rw [List.getElem?_set_self (by rw [E.lo]; exact hi)] at e; cases e; rfl
      by_cases hj : i = j
      · by_cases hk : i = k
        · rw [← hj, ← hk]
        · subst hj
          rw [self l e1] at m1
          exact absurd m1 (key k m hk e2 b m2)
      · by_cases hk : i = k
        · subst hk
          rw [self m e2] at m2
          exact absurd m2 (key j l hj e1 b m1)
        · rw [List.getElem?_set_ne hj] at e1
          rw [List.getElem?_set_ne hk] at e2
          exact E.one j k b l m e1 e2 m1 m2
    new := fun b m => by
      rw [es] at m
      rcases m.set with z | z
      · have := E.new b (zbd z); exact ⟨this.1, by omega⟩
      · rcases List.mem_cons.mp z with z | z
        · rw [z]; have := E.new a oa; exact ⟨this.1, by omega⟩
        · refine ⟨?_, d.lt b z⟩
          rcases nw b z with z | z
          · exact (E.new b (Ow.of hoa (List.mem_cons_of_mem _ z))).1
          · exact .inl (Nat.le_trans E.le z)
    self := fun c2 f2 w e m => by
      by_cases hi0 : i = 0
      · subst hi0; exact E.self c fs w q m
      · rw [List.getElem?_set_ne hi0] at e; exact E.self c2 f2 w e m
    at_ := fun j sl e => by
      by_cases hj : i = j
      · subst hj
        rw [List.getElem?_set_self hi] at e
        cases e
        refine ⟨a, gs', o', ?_, ?_, by rw [hsw]; rfl, g, d.weak tb⟩
        · rw [List.getElem?_set_self (by rw [E.lo]; exact hi)]; rfl
        · rw [List.getElem?_set_self (by rw [E.lo]; exact hi)]; exact nd
      · rw [List.getElem?_set_ne hj] at e
        rw [zdI hj]
        refine (E.at_ j sl e).mv (fun k u t ek => ⟨fr k u (nm k fun z => t (.inr z)) ek, fun z => z.elim (fun z => t (.inl z)) fun z => nk k u (fun z => t (.inr z)) ek z⟩) fun b hb u eb => fr b u (fun z => ?_) eb
        cases q2 : O[j]? with
        | none => rw [q2] at hb; cases hb
        | some y => rw [q2] at hb; exact hj (E.one i j b _ _ hoa q2 z hb) }
end
end HL
namespace HL
open PySem (Str)
section
variable {n : Lo} {B : Nat → Prop} {O O' : List (List Nat)} {s : Sg} {h h' h2 l : Sh} {δ : Dl}
end
end HL
namespace HL
open PySem (Str)
section
variable {n : Lo} {B : Nat → Prop} {O O' : List (List Nat)} {s : Sg} {h h' h2 l : Sh} {δ : Dl} {T : Nat → Prop}
theorem FsD.len : ∀ {fs : List (Str × Fv)} {gs : List (Str × W)} {o : List Nat}, FsD T h fs gs o → gs.length = fs.length
  | [], gs, o, x => by simp only [FsD] at x; rw [x.1]; rfl
  | (g, .val q) :: fs, gs, o, x => by
    simp only [FsD] at x
    obtain ⟨u, r, rfl, d, ds⟩ := x
    rw [List.length_cons, List.length_cons, FsD.len ds]
  | (g, .own q) :: fs, gs, o, x => by
    simp only [FsD] at x
    obtain ⟨a, us, r, o', rfl, rfl, ga, d, ds⟩ := x
    rw [List.length_cons, List.length_cons, FsD.len ds]
end
end HL
namespace HL
open PySem (Str)
section
variable {n : Lo} {B : Nat → Prop} {O O' : List (List Nat)} {s : Sg} {h h' h2 l : Sh} {δ : Dl} {T : Nat → Prop}
end
end HL
namespace HL
open PySem (Str)
section
variable {n : Lo} {B : Nat → Prop} {O O' : List (List Nat)} {s : Sg} {h h' h2 l : Sh} {δ : Dl} {T : Nat → Prop}
theorem Env.apart (E : Env n B O s h δ) {i : Nat} {m : List Nat} (hoa : O[i]? = some m) : ∀ k ∈ m, ¬ (B k ∨ Ow (O.set i []) k) := fun k hk t => by
  rcases t with t | t
  · have z1 := E.old k t
    rcases (E.new k (Ow.of hoa hk)).1 with z | z
    · omega
    · exact z1.2 z
  · obtain ⟨j, l, hj, ml⟩ := t.at_
    rw [List.getElem?_set] at hj
    split at hj
    · split at hj
      · cases hj; cases ml
      · cases hj
    · rename_i ne; exact ne (E.one i j k _ _ hoa hj hk ml)
def zjK : Fv → Bool
  | .own _ => true
  | .val _ => false
def shape (fs : List (Str × Fv)) : List Bool := fs.map fun x => zjK x.2
theorem FsD.same {T' : Nat → Prop} : ∀ {fs fs' : List (Str × Fv)} {gs : List (Str × W)} {o o' : List Nat}, FsD T h fs gs o → FsD T' h' fs' gs o' → shape fs' = shape fs → o' = o
  | [], [], gs, o, o', x, y, e => by simp only [FsD] at x y; rw [x.2, y.2]
  | [], _ :: _, gs, o, o', x, y, e => by simp [shape] at e
  | _ :: _, [], gs, o, o', x, y, e => by simp [shape] at e
  | (f, .val p) :: fs, (f', .val p') :: fs', gs, o, o', x, y, e => by
    simp only [FsD] at x y
    obtain ⟨u, r, rfl, d, x⟩ := x
    obtain ⟨u', r', e1, d', y⟩ := y
    cases e1
    exact FsD.same x y (by simpa [shape, zjK] using e)
  | (f, .own p) :: fs, (f', .own p') :: fs', gs, o, o', x, y, e => by
    simp only [FsD] at x y
    obtain ⟨a, us, r, o1, rfl, rfl, g, d, x⟩ := x
    obtain ⟨a', us', r', o1', e1, rfl, g', d', y⟩ := y
    cases e1
    rw [FsD.same x y (by simpa [shape, zjK] using e)]
  | (f, .val p) :: fs, (f', .own p') :: fs', gs, o, o', x, y, e => by simp [shape, zjK] at e
  | (f, .own p) :: fs, (f', .val p') :: fs', gs, o, o', x, y, e => by simp [shape, zjK] at e
end
end HL
namespace HL
open PySem (Str)
section
variable {n : Lo} {B : Nat → Prop} {O O' O2 : List (List Nat)} {s : Sg} {h h' h2 l : Sh} {δ : Dl}
end
end HL
namespace L2
open PySem PySem.Spec PyProof.Rows
open HL (W SO Sh Sg OR DE DT DA DS Fn)
structure Mk0 (K : PySem.W.Frag) (mg : Str → Option Value) (x : Str) (C : Addr) : Prop where
  at_ : mg x = some (.ref C)
  makes : PySem.W.makesIn K C = true
  init : PySem.W.findIn K (.ref C) "__init__" = some (some (.builtin "object.__init__"))
  kp : PySem.W.keepIn K (.ref C) = true
section
variable {X : Cx} {γ : Str → Addr} {a b c e o f : Expr} {es : List Expr} {da db dc de d1 d2 : DE} {pos pos' apos cpos : Pos}
def DEs : List (Str × Int) → List DictEntry → Prop
  | [], [] => True
  | (k, i) :: r, e :: es => (∃ t, e.key = .str k t) ∧ (∃ t, e.val = .int i t) ∧ DEs r es
  | _, _ => False
structure DctI (K : PySem.W.Frag) (mg : Str → Option Value) (w : World) (x : Str) (tb : List (Str × Int)) : Prop where
  ex : ∃ D es n, mg x = some (.ref D) ∧ K.lookup D = some { cls := .type "dict", data := .dict es n } ∧ PySem.W.KeysLit w.params es.toList ∧ (D == sysModules) = false ∧ DEs tb es.toList
end
def gm (mg : Str → Option Value) (x : Str) : Addr := match mg x with
  | some (.ref a) => a
  | _ => 0
theorem zaF {mg : Str → Option Value} {x : Str} {C : Addr} (h : mg x = some (.ref C)) : gm mg x = C := by unfold gm; rw [h]
def isiB (K : PySem.W.Frag) (cs : List (Str × Addr × List W)) : Bool :=
  (cs.all fun p => cs.all fun q => PySem.W.kitOne K (.ref p.2.1) (.ref q.2.1) == some (p.2.2.contains (.gl q.1))) &&
  (cs.all fun p => HL.biN.all fun b => PySem.W.kitOne K (.ref p.2.1) (.type b) == some (p.2.2.contains (.ty b))) &&
  (cs.all fun q => ("NoneType" :: HL.biN).all fun a => PySem.W.kitOne K (.type a) (.ref q.2.1) == some false) &&
  cs.all fun p => !(p.2.2.contains (.ty "ValueError"))
theorem zhu {α : Type} {c : Str} {l : α} : ∀ {T : List (Str × α)}, T.lookup c = some l → (c, l) ∈ T
  | [], e => by cases e
  | (d, m) :: T, e => by
    by_cases z : c = d
    · subst z
      simp only [List.lookup, beq_self_eq_true, Option.some.injEq] at e
      subst e; exact List.mem_cons_self
    · have zb : (c == d) = false := by simpa using z
      simp only [List.lookup, zb] at e
      exact List.mem_cons_of_mem _ (zhu e)
theorem isiOk_of {K : PySem.W.Frag} {γ : Str → Addr} {cs : List (Str × Addr × List W)} (hγ : ∀ p ∈ cs, γ p.1 = p.2.1) (hi : ∀ p ∈ cs, zlv K p.2.1) (hb : isiB K cs = true) : zgF K γ (cs.map fun p => (p.1, p.2.2)) := by
  unfold isiB at hb
  simp only [Bool.and_eq_true] at hb
  obtain ⟨⟨⟨h1, h2⟩, h3⟩, h4⟩ := hb
  have mem : ∀ c l, (cs.map fun p => (p.1, p.2.2)).lookup c = some l → ∃ a, (c, a, l) ∈ cs ∧ γ c = a := fun c l e => by
    obtain ⟨p, hp, q⟩ := List.mem_map.mp (zhu e)
    obtain ⟨x, a, m⟩ := p
    cases q
    exact ⟨a, hp, hγ _ hp⟩
  refine ⟨?_, ?_, ?_, ?_⟩
  · intro c l e
    obtain ⟨a, hp, ga⟩ := mem c l e
    rw [ga]
    have hv := List.all_eq_true.mp h4 _ hp
    simp only [Bool.not_eq_true'] at hv
    exact ⟨fun _ => hi _ hp, fun z => by rw [hv] at z; cases z⟩
  · intro c l e x m e2
    obtain ⟨a, hp, ga⟩ := mem c l e
    obtain ⟨b, hq, gb⟩ := mem x m e2
    rw [ga, gb]
    exact beq_iff_eq.mp (List.all_eq_true.mp (List.all_eq_true.mp h1 _ hp) _ hq)
  · intro c l e b hb
    obtain ⟨a, hp, ga⟩ := mem c l e
    rw [ga]
    exact beq_iff_eq.mp (List.all_eq_true.mp (List.all_eq_true.mp h2 _ hp) b hb)
  · intro x m e a ha
    obtain ⟨b, hq, gb⟩ := mem x m e
    rw [gb]
    exact beq_iff_eq.mp (List.all_eq_true.mp (List.all_eq_true.mp h3 _ hq) a ha)
theorem keys_nil {P : Params} : PySem.W.KeysLit P [] := trivial
theorem keys_cons {P : Params} {e : DictEntry} {r : List DictEntry} (h : ∃ x t, e.key = Value.str x t ∧ e.hash = PyData.keyHash P x) (k : PySem.W.KeysLit P r) : PySem.W.KeysLit P (e :: r) := ⟨h, k⟩
theorem des_nil : DEs [] [] := trivial
theorem des_cons {k : Str} {i : Int} {r : List (Str × Int)} {e : DictEntry} {es : List DictEntry} (h1 : ∃ t, e.key = .str k t) (h2 : ∃ t, e.val = .int i t) (h : DEs r es) : DEs ((k, i) :: r) (e :: es) := ⟨h1, h2, h⟩
end L2
namespace L2
open PySem
end L2
namespace L2
open PySem PySem.Spec PyProof.Rows
end L2
namespace HL
open PySem (Str)
end HL
namespace L2
open PySem PySem.Spec PyProof.Rows
open HL (W SO Sh Sg OR DE DT DA DS Fn)
section
variable {X : Cx} {K : PySem.W.Frag} {γ : Str → Addr} {a b c e o f i : Expr} {es : List Expr} {da db dc de d1 d2 di : DE} {d : DA} {pos pos' apos cpos p1 p2 : Pos}
def DEsN (mg : Str → Option Value) : List (Str × Str) → List DictEntry → Prop
  | [], [] => True
  | (k, g) :: r, e :: es => (∃ t, e.key = .str k t) ∧ mg g = some e.val ∧ DEsN mg r es
  | _, _ => False
theorem desN_nil {mg : Str → Option Value} : DEsN mg [] [] := trivial
theorem desN_cons {mg : Str → Option Value} {k g : Str} {r : List (Str × Str)} {e : DictEntry} {es : List DictEntry} (h1 : ∃ t, e.key = .str k t) (h2 : mg g = some e.val) (h : DEsN mg r es) : DEsN mg ((k, g) :: r) (e :: es) := ⟨h1, h2, h⟩
structure DctN (K : PySem.W.Frag) (mg : Str → Option Value) (w : World) (x : Str) (tn : List (Str × Str)) : Prop where
  ex : ∃ D es n, mg x = some (.ref D) ∧ K.lookup D = some { cls := .type "dict", data := .dict es n } ∧ PySem.W.KeysLit w.params es.toList ∧ (D == sysModules) = false ∧ DEsN mg tn es.toList
def FtOk (X : Cx) (γ : Str → Addr) (tn : List (Str × Str)) (tb : List (Str × Fn)) : Prop := ∀ k f, tb.lookup k = some f → ∃ g kk p n bd ps, tn.lookup k = some g ∧ f = HL.fnOf p n bd ∧ Def X.prog X.w X.K X.mg X.base kk g ps (spF X.K γ p f) ∧ zbr kk X.A
theorem FtOk.nil : FtOk X γ [] [] := fun k f e => by cases e
end
end L2
namespace HL
open PySem (Str)
end HL
namespace L2
open PySem PySem.Spec PyProof.Rows
open HL (W SO Sh Sg OR DE DT DA DS Fn)
section
variable {X : Cx} {K : PySem.W.Frag} {γ : Str → Addr} {a b c e o f i : Expr} {es : List Expr} {da db dc de d1 d2 di : DE} {d : DA} {pos pos' apos cpos p1 p2 : Pos} {name : Str} {T id : String}
end
end L2
namespace HL
open PySem (Str)
end HL
namespace L2
open PySem PySem.Spec PyProof.Rows
open HL (W SO Sh Sg OR DE DT DA DS Fn)
section
variable {X : Cx} {pins : List (Addr × Obj)} {σ : St} {H : Hp} {s : Shared} {h' : Heap}
end
section
variable {X : Cx} {γ : Str → Addr} {a : Expr} {da : DE} {pos : Pos}
end
end L2
namespace L2
open PySem PySem.Spec PyProof.Rows PySem.W
structure EqOk (K : PySem.W.Frag) (C : Addr) : Prop where
  eq : findIn K (.ref C) "__eq__" = some (some (.builtin "object.__eq__"))
  ob : subIn K (.ref C) (.type "object") = some true
section
variable {prog : Program} {w : World} {A : Around} {E : Value → Shared → Prop} {s : Shared} {K : PySem.W.Frag} {x y C : Addr} {ox oy : Obj} {odx ody : Option Obj}
end
section
open AutoSeq1 (wpAny_loadPart')
end
section
variable {X : Cx} {γ : Str → Addr} {a b c e o f i : Expr} {da db dc de d1 d2 di : HL.DE} {pos pos' apos cpos p1 p2 : Pos}
end
section
variable {X : Cx} {K : PySem.W.Frag} {γ : Str → Addr} {a b c e o f i : Expr} {da db dc de d1 d2 di : HL.DE} {pos pos' apos cpos p1 p2 : Pos}
end
end L2
namespace HL
end HL
namespace L2
open PySem PySem.Spec PyProof.Rows
open HL (W SO Sh Sg OR DE DT DA DS Fn)
section
variable {X : Cx} {K : PySem.W.Frag} {γ : Str → Addr} {a b e : Expr} {da db : DE} {pos p1 p2 pos2 : Pos}
end
end L2
namespace L2
open PySem PySem.Spec PyProof.Rows
section
variable {X : Cx} {pins : List (Addr × Obj)} {σ : St} {H : Hp} {s : Shared} {h' : Heap} {a : Addr}
theorem Inv.slots {ch : List Addr} {t' : Nat} (I : Inv X pins σ H s)
    (hch : ∀ c ∈ ch, X.s₀.heap.get? c = none ∧ (∀ p ∈ X.pn ++ pins, p.1 ≠ c) ∧ c ≠ X.env.locals ∧ ∀ y d, X.env.cells.lookup y = some d → d ≠ c)
    (k : ∀ b o, s.heap.get? b = some o → b ∉ frs X.stack → b ∉ ch → h'.get? b = some o)
    (sl : ∀ b o, s.heap.get? b = some o → b ∈ frs X.stack → ∃ l, h'.get? b = some { o with slots := l })
    (th : ∀ c ∈ ch, (∃ o, s.heap.get? c = some o) → ∃ o', h'.get? c = some o')
    (ok : HOk X.prog X.w H h') : Inv X pins σ H { s with heap := h', toks := t' } := by
  have any : ∀ b o, s.heap.get? b = some o → b ∉ ch → ∃ l, h'.get? b = some { o with slots := l } := fun b o e n => by
    by_cases z : b ∈ frs X.stack
    · exact sl b o e z
    · exact ⟨o.slots, k b o e z n⟩
  have cel : ∀ c v, c ∉ ch → s.heap.IsCell c v → h'.IsCell c v := fun c v n ⟨o, e, d⟩ => by
    obtain ⟨l, e'⟩ := any c o e n
    exact ⟨_, e', d⟩
  have nch : X.env.locals ∉ ch := fun z => (hch _ z).2.2.1 rfl
  have nce : ∀ y d, X.env.cells.lookup y = some d → d ∉ ch := fun y d e z => (hch d z).2.2.2 y d e rfl
  have old : ∀ b o, X.s₀.heap.get? b = some o → b ∉ ch := fun b o e z => by have := (hch b z).1; rw [e] at this; cases this
  refine ⟨I.ok, I.os, I.bare, ⟨?_, ?_, I.base.free, ?_, I.base.tups, I.base.frzs, I.base.tbls⟩, ?_, ?_, I.free, I.freeC, ?_, ok, I.len⟩
  · intro b o e n hf hx
    refine k b o (I.base.keep b o e n hf hx) (fun z => ?_) (old b o e)
    rcases List.mem_cons.mp (I.stkSub b z) with q | q
    · exact Nat.lt_irrefl _ (Nat.lt_of_lt_of_le (q ▸ Heap.lt_size e) I.ok.above)
    · exact hf q
  · intro b o e n hf hx
    obtain ⟨l, e1⟩ := I.base.slot b o e n hf hx
    obtain ⟨l2, e2⟩ := any b _ e1 (old b o e)
    exact ⟨l2, e2⟩
  · intro b o e hx
    obtain ⟨o1, e1⟩ := I.base.there b o e hx
    obtain ⟨l2, e2⟩ := any b o1 e1 (old b o e)
    exact ⟨_, e2⟩
  · obtain ⟨m, ⟨o, es, ep, e, hd, hk, hn⟩, hl⟩ := I.loc
    obtain ⟨l, e'⟩ := any _ o e nch
    refine ⟨m, ⟨_, es, ep, e', hd, hk, hn⟩, fun i x v e1 e2 vis => ?_⟩
    obtain ⟨u, r, lk⟩ := hl i x v e1 e2 vis
    refine ⟨u, r, ?_⟩
    rcases lk with ⟨q1, q2⟩ | ⟨q1, c, q2, q3⟩
    · exact .inl ⟨q1, q2⟩
    · exact .inr ⟨q1, c, q2, cel c _ (nce x c q2) q3⟩
  · intro x c e
    obtain ⟨v, q⟩ := I.cell x c e
    exact ⟨v, cel c v (nce x c e) q⟩
  · intro p hp
    obtain ⟨e, n, n1, n2, n3⟩ := I.pin p hp
    refine ⟨k _ _ e (fun z => ?_) (fun z => (hch _ z).2.1 p hp rfl), n, n1, n2, n3⟩
    rcases List.mem_cons.mp (I.stkSub _ z) with q | q
    · exact n1 q
    · exact n2 q
theorem HOk.excChg {P : Program} {w : World} {h : Heap} {C : Addr} {dx : Option Addr} {fs : List (Str × V)} {o : Obj} {vs' : Array Value} (x : HOk P w H h) (e : H a = some (.exc C dx fs)) (k : ∀ b u, b ≠ a → H b ≠ none → h.get? b = some u → h'.get? b = some u)
    (ho : h.get? a = some o) (ha : h'.get? a = some { o with data := .fields vs' }) : HOk P w H h' := fun b u q => by
  by_cases hb : b = a
  · subst hb
    rw [e] at q
    cases q
    obtain ⟨o1, vs, e1, c1, d1, f1, l1, w1, mA, n1, r1, i1⟩ := x b _ e
    rw [ho] at e1
    cases e1
    refine ⟨_, vs', ha, c1, d1, rfl, l1, w1, mA, ?_, r1, i1⟩
    cases dx with
    | none => exact n1
    | some d =>
      obtain ⟨od, es, ep, q1, q2⟩ := n1
      obtain ⟨hd, hne⟩ := w1 d rfl
      exact ⟨od, es, ep, k d od hne (by rw [hd]; exact fun z => by cases z) q1, q2⟩
  · refine (x b u q).stay (fun c v z q1 => ?_) (fun _ z => z) fun _ _ z => z
    rcases z with z | z
    · subst z
      exact k c v hb (by rw [q]; exact fun z => by cases z) q1
    · by_cases hc : c = a
      · subst hc; rw [e] at z; cases z
      · exact k c v hc (by rw [z]; exact fun z => by cases z) q1
def Trc (X : Cx) (pins : List (Addr × Obj)) (H : Hp) (h : Heap) (a : Addr) : Prop := X.s₀.heap.get? a = none ∧ ∃ o vs, h.get? a = some o ∧ o.data = .fields vs ∧ 1 < vs.size ∧
  (vs[1]? = some .none ∨ ∃ T oT ts, vs[1]? = some (.ref T) ∧ X.s₀.heap.get? T = none ∧ T ≠ a ∧ (∀ p ∈ X.pn ++ pins, p.1 ≠ T) ∧ H T = none ∧ h.get? T = some oT ∧ oT.data = .fields ts ∧ 3 < ts.size)
theorem Inv.notFld (I : Inv X pins σ H s) {T : Addr} {oT : Obj} {ts : Array Value} (e : s.heap.get? T = some oT) (d : oT.data = .fields ts) : T ≠ X.env.locals ∧ (∀ y c, X.env.cells.lookup y = some c → c ≠ T) ∧ T ∉ frs X.stack := by
  refine ⟨fun z => ?_, fun y c q z => ?_, fun z => ?_⟩
  · obtain ⟨m, ⟨o, es, ep, e2, hd, _⟩, _⟩ := I.loc
    rw [← z, e] at e2; cases e2
    rw [d] at hd; cases hd
  · obtain ⟨v, o, e2, hd⟩ := I.cell y c q
    rw [z, e] at e2; cases e2
    rw [d] at hd; cases hd
  · obtain ⟨_, o, e2, hd⟩ := I.stack.mem z
    rw [e] at e2; cases e2
    exact hd _ d
theorem zeM {M : Model} {A : Around} {E : Value → Shared → Prop} {s : Shared} {a : Addr} {o : Obj} {vs : Array Value} {i : Nat} {x : Value} {Q : Unit → Shared → Prop} (e : s.heap.get? a = some o) (d : o.data = .fields vs) (hi : i < vs.size)
    (h : ∀ h', (∀ b, b ≠ a → h'.get? b = s.heap.get? b) → h'.get? a = some { o with data := .fields (vs.setIfInBounds i x) } → Q () { s with heap := h' }) : wpAny M A (setField (.ref a) i x) Q E s := by
  unfold setField updateField
  refine wpAny_bind (wpAny_load e ?_)
  rw [d]
  show wpAny M A (if i < vs.size then _ else _) _ _ _
  rw [if_pos hi]
  refine wpAny_update e (h _ (fun b hb => Heap.get?_update_other _ _ (Ne.symm hb)) ?_)
  have e2 : Obj.mapFields (fun x_1 => x_1.setIfInBounds i x) o = { o with data := .fields (vs.setIfInBounds i x) } := by
    obtain ⟨c, dd, da, sl⟩ := o
    cases d
    rfl
  rw [Heap.get?_update_self _ e (by rw [e2]; rfl), e2]
theorem zeN {M : Model} {A : Around} {E : Value → Shared → Prop} {s : Shared} {a : Addr} {o : Obj} {vs : Array Value} {i : Nat} {x : Value} {Q : Value → Shared → Prop} (e : s.heap.get? a = some o) (d : o.data = .fields vs) (hx : vs[i]? = some x) (h : Q x s) : wpAny M A (field (.ref a) i) Q E s := by
  unfold field
  refine wpAny_bind (wpAny_fieldsOf e d ?_)
  rw [hx]
  exact wpAny_pure h
theorem Inv.entry {A : Around} {E : Value → Shared → Prop} {Q : Unit → Shared → Prop} {M : Model} {C : Addr} {dx : Option Addr} {fs : List (Str × V)} {o : Obj} {vs : Array Value} {head : Value} {hn : Bool} (I : Inv X pins σ H s) (hA : A.frames = some X.stack) (hst : X.stack = X.env :: X.outer ∧ X.env.frame = some X.env.locals)
    (e : H a = some (.exc C dx fs)) (ha : X.s₀.heap.get? a = none) (eo : s.heap.get? a = some o) (d : o.data = .fields vs) (hs : 1 < vs.size)
    (h : ∀ s', Inv X pins σ H s' → Trc X pins H s'.heap a → Q () s') :
    wpAny M A (do
      let fr ← frameOf X.env
      let pl ← entryPlaceOf X.env.locals hn
      let x ← EntryCells.newEntry head fr .none (rawInt X.env.locals) .none pl
      setField (.ref a) 1 x) Q E s := by
  have hf : s.heap.FunFrames X.base (X.env :: X.outer) := hst.1 ▸ I.stack
  have na := I.notFld eo d
  refine wpAny_bind (wpAny_frameOf_fun (hst.1 ▸ hA) hf hst.2 fun h1 so => ?_)
  refine wpAny_bind (wpAny_entryPlaceOf fun pl hp => ?_)
  unfold EntryCells.newEntry newFields
  generalize hl : ([head, .ref X.env.locals, .none, rawInt X.env.locals, .none] ++ if pl.isEmpty = true then List.replicate 6 Value.none else pl) = l
  have ln : l.length = 11 := by
    rw [← hl]
    rcases hp with rfl | ⟨_, _, _, _, _, _, _, rfl⟩ <;> rfl
  have es : h1.get? a = some o := by rw [so.2.1 a (by rw [hst.1] at na; exact na.2.2), eo]
  refine wpAny_bind (wpAny_newObj_type ?_ (by show l.toArray.size ≤ sizeLine + 2; rw [List.size_toArray, ln, sizeLine_eq]; decide))
  refine zeM (o := o) (vs := vs) (Heap.get?_push_of_some _ es) d hs fun h3 k3 e3 => ?_
  have kk : ∀ b u, s.heap.get? b = some u → b ∉ frs X.stack → b ≠ a → h3.get? b = some u := fun b u q n1 n2 => by
    rw [k3 b n2]
    exact Heap.get?_push_of_some _ (by rw [so.2.1 b (by rw [hst.1] at n1; exact n1), q])
  have lt : ∀ b u, s.heap.get? b = some u → b ≠ h1.objs.size := fun b u q z => by
    have := Heap.lt_size q
    rw [← so.1, ← z] at this
    exact Nat.lt_irrefl _ this
  refine h { s with heap := h3 } (I.slots (t' := s.toks) (ch := [a]) ?_ (fun b u q n1 n2 => kk b u q n1 fun z => n2 (List.mem_singleton.mpr z)) ?_ ?_ ?_) ⟨ha, _, _, e3, rfl, by rw [Array.size_setIfInBounds]; exact hs, .inr ⟨h1.objs.size, { cls := .type "traceback", data := .fields l.toArray }, l.toArray, ?_, ?_, ?_, ?_, ?_, ?_, rfl, ?_⟩⟩
  · intro c hc
    rw [List.mem_singleton.mp hc]
    refine ⟨ha, ?_, na.1, na.2.1⟩
    intro p hp z
    have := (I.pin p hp).2.1
    rw [z, e] at this; cases this
  · intro b u q z
    obtain ⟨sl, q2⟩ := so.2.2 b u q
    refine ⟨sl, ?_⟩
    rw [k3 b (fun y => na.2.2 (y ▸ z))]
    exact Heap.get?_push_of_some _ q2
  · intro c hc _
    rw [List.mem_singleton.mp hc]
    exact ⟨_, e3⟩
  · exact I.hok.excChg e (fun b u n1 n2 q => kk b u q (fun z => n2 (I.stkFree b z)) n1) eo e3
  · rw [Array.getElem?_setIfInBounds]; simp [hs]
  · exact Heap.get?_none_of_le (by rw [so.1]; exact I.sz)
  · exact fun z => lt a o eo z.symm
  · exact fun p hp z => lt _ _ (I.pin p hp).1 z
  · exact I.hok.fresh (Nat.le_of_eq so.1.symm)
  · rw [k3 _ (fun z => lt a o eo z.symm)]
    exact Heap.get?_push_size _ rfl
  · rw [List.size_toArray, ln]; decide
theorem Inv.record {T : Addr} {oT : Obj} {ts : Array Value} {x : Value} (I : Inv X pins σ H s) (hT : X.s₀.heap.get? T = none) (hp : ∀ p ∈ X.pn ++ pins, p.1 ≠ T) (hn : H T = none) (eT : s.heap.get? T = some oT) (dT : oT.data = .fields ts)
    (k : ∀ b, b ≠ T → h'.get? b = s.heap.get? b) (e' : h'.get? T = some { oT with data := .fields (ts.setIfInBounds 3 x) }) : Inv X pins σ H { s with heap := h' } := by
  have nT := I.notFld eT dT
  refine I.slots (t' := s.toks) (ch := [T]) ?_ (fun b u q n1 n2 => by rw [k b fun z => n2 (List.mem_singleton.mpr z)]; exact q) (fun b u q z => ⟨u.slots, by rw [k b fun y => nT.2.2 (y ▸ z)]; exact q⟩) (fun c hc _ => by rw [List.mem_singleton.mp hc]; exact ⟨_, e'⟩) ?_
  · intro c hc
    rw [List.mem_singleton.mp hc]
    exact ⟨hT, hp, nT.1, nT.2.1⟩
  · intro b u q
    refine (I.hok b u q).stay (fun c v z q1 => ?_) (fun _ z => z) fun _ _ z => z
    have : c ≠ T := by
      rintro rfl
      rcases z with z | z
      · subst z; rw [hn] at q; cases q
      · rw [hn] at z; cases z
    rw [k c this]; exact q1
theorem Trc.record {T : Addr} {oT : Obj} {ts : Array Value} {x : Value} {h : Heap} (t : Trc X pins H h a) (hTa : T ≠ a) (eT : h.get? T = some oT) (dT : oT.data = .fields ts)
    (k : ∀ b, b ≠ T → h'.get? b = h.get? b) (e' : h'.get? T = some { oT with data := .fields (ts.setIfInBounds 3 x) }) : Trc X pins H h' a := by
  obtain ⟨ha, o, vs, eo, d, hs, z⟩ := t
  refine ⟨ha, o, vs, by rw [k a fun y => hTa y.symm]; exact eo, d, hs, ?_⟩
  rcases z with z | ⟨T', oT', ts', z1, z2, z3, z4, z5, z6, z7, z8⟩
  · exact .inl z
  · by_cases y : T' = T
    · subst y
      exact .inr ⟨T', _, _, z1, z2, z3, z4, z5, e', rfl, by rw [eT] at z6; cases z6; rw [dT] at z7; cases z7; rw [Array.size_setIfInBounds]; exact z8⟩
    · exact .inr ⟨T', oT', ts', z1, z2, z3, z4, z5, by rw [k T' y]; exact z6, z7, z8⟩
theorem Inv.flight {A : Around} {E : Value → Shared → Prop} {Q : Unit → Shared → Prop} {M : Model} {fr : Option Addr} (I : Inv X pins σ H s) (t : Trc X pins H s.heap a) (h : ∀ s', Inv X pins σ H s' → Trc X pins H s'.heap a → Q () s') : wpAny M A (setFlight (.ref a) fr) Q E s := by
  obtain ⟨ha, o, vs, eo, d, hs, z⟩ := id t
  unfold setFlight
  rcases z with z | ⟨T, oT, ts, z1, z2, z3, z4, z5, z6, z7, z8⟩
  · refine wpAny_bind (zeN eo d z ?_)
    exact wpAny_pure (h s I t)
  · refine wpAny_bind (zeN eo d z1 ?_)
    refine zeM z6 z7 z8 fun h3 k3 e3 => h _ (I.record z2 z4 z5 z6 z7 k3 e3) (t.record z3 z6 z7 k3 e3)
theorem Inv.noted {A : Around} {E : Value → Shared → Prop} {Q : Unit → Shared → Prop} {M : Model} {C : Addr} {dx : Option Addr} {fs : List (Str × V)} (I : Inv X pins σ H s) (hA : A.frames = some X.stack) (hst : X.stack = X.env :: X.outer ∧ X.env.frame = some X.env.locals) (e : H a = some (.exc C dx fs)) (t : Trc X pins H s.heap a)
    (h : ∀ s', Inv X pins σ H s' → Trc X pins H s'.heap a → Q () s') : wpAny M A (noteFrame (.ref a) X.env) Q E s := by
  obtain ⟨ha, o, vs, eo, d, hs, z⟩ := id t
  unfold noteFrame
  rw [hst.2]
  simp only
  rcases z with z | ⟨T, oT, ts, z1, z2, z3, z4, z5, z6, z7, z8⟩
  · refine wpAny_bind (zeN eo d z ?_)
    exact I.entry hA hst e ha eo d hs h
  · refine wpAny_bind (zeN eo d z1 ?_)
    obtain ⟨x3, q3⟩ : ∃ x3, ts[3]? = some x3 := ⟨_, Array.getElem?_eq_getElem z8⟩
    show wpAny M A (do let f3 ← field (.ref T) 3; if (f3 == rawInt ↑X.env.locals) = true then pure () else _) Q E s
    refine wpAny_bind (zeN z6 z7 q3 ?_)
    split
    · exact wpAny_pure (h s I t)
    · refine wpAny_bind (zeM z6 z7 z8 fun h3 k3 e3 => ?_)
      exact (I.record z2 z4 z5 z6 z7 k3 e3).entry hA hst e ha (by show h3.get? a = _; rw [k3 a fun y => z3 y.symm]; exact eo) d hs h
end
end L2
namespace L2
open PySem PySem.Spec PySem.W PyProof.Rows
section
variable {X : Cx} {pins : List (Addr × Obj)} {σ : St} {H : Hp} {s : Shared} {h' : Heap} {a : Addr}
theorem Inv.gone (I : Inv X pins σ H s) (hx : X.ex = []) {b : Addr} (n : s.heap.get? b = none) : X.s₀.heap.get? b = none := by
  cases e : X.s₀.heap.get? b with
  | none => rfl
  | some o =>
    obtain ⟨o', q⟩ := I.base.there b o e (by rw [hx]; exact List.not_mem_nil)
    rw [n] at q; cases q
def Thr (X : Cx) (Ψ : V → Hp → Prop) : Prop := ∀ (pins : List (Addr × Obj)) (σ : St) (H : Hp) (s : Shared) (a C : Addr) (dx : Option Addr) (fs : List (Str × V)), Inv X pins σ H s → H a = some (.exc C dx fs) → Trc X pins H s.heap a → Ψ (.ref a) H → X.xe (.ref a) s
def CXE (P : Program) (w : World) : CXT := fun outer H s E e s' => ∃ (a C : Addr) (dx : Option Addr) (fs : List (Str × V)) (H' : Hp), e = .ref a ∧ s'.os = s.os ∧ AllBare s'.gens ∧ Un (frs outer) [] H H' s.heap s'.heap ∧ HOk P w H' s'.heap ∧ H' a = some (.exc C dx fs) ∧
  (s.heap.get? a = none ∧ ∃ o vs, s'.heap.get? a = some o ∧ o.data = .fields vs ∧ 1 < vs.size ∧ (vs[1]? = some .none ∨ ∃ T oT ts, vs[1]? = some (.ref T) ∧ s.heap.get? T = none ∧ T ≠ a ∧ H' T = none ∧ s'.heap.get? T = some oT ∧ oT.data = .fields ts ∧ 3 < ts.size)) ∧ E (.ref a) none H'
def XKof (Ψ : V → Hp → Prop) : XK := fun e _ H' => ∃ a, e = .ref a ∧ Ψ (.ref a) H'
theorem Thr.passes {Ψ : V → Hp → Prop} (T : Thr X Ψ) (hx : X.ex = []) : zgs (CXE X.prog X.w) X (XKof Ψ) := by
  rintro pins σ H s e s' I ⟨a, C, dx, fs, H', rfl, os, ba, un, ok, ea, ⟨ha, o, vs, eo, d, hs, z⟩, a', e', hΨ⟩
  cases e'
  obtain ⟨v, H'', I', _, rfl⟩ := I.after (Q := fun _ H'' => H'' = H') (u := .none) (s' := s') ⟨.non, H', os, ba, un, ok, rfl, rfl⟩
  have up : ∀ b, s.heap.get? b = none → X.s₀.heap.get? b = none := fun b n => I.gone hx n
  refine T pins σ _ s' a C dx fs I' ea ⟨up a ha, o, vs, eo, d, hs, ?_⟩ hΨ
  rcases z with z | ⟨T, oT, ts, z1, z2, z3, z4, z5, z6, z7⟩
  · exact .inl z
  · refine .inr ⟨T, oT, ts, z1, up T z2, z3, fun p hp q => ?_, z4, z5, z6, z7⟩
    have := (I.pin p hp).1
    rw [q, z2] at this; cases this
theorem zl6 {h : Heap} {bmB l : List Value} {v : Value} (T : OwnTail h bmB l) (hv : bmB.contains v = true) : l.contains v = true := by
  induction T with
  | base => exact hv
  | own _ _ _ _ ih => rw [List.contains_cons, ih]; simp
def tRaise0 (C : Addr) (Ψ : V → Hp → Prop) (t : TA) : TS := fun _ σ H => t σ H fun vs H1 => vs.length ≤ sizeLine ∧ ∀ e, H1 e = none → Ψ (.ref e) (upd H1 e (.exc C none []))
theorem zlF {Ψ : V → Hp → Prop} {C : Addr} {x : Str} {p cpos pos : Pos} {e : Expr} {es : List Expr} {t : TA} (O : Exc0 X.K X.mg x C) (hg : Gl X x) (hc : X.calm = true) (hx : X.ex = []) (T : Thr X Ψ) (ha : PA X (e :: es) t) (hdb : (x == ("__debug__" : Str)) = false := by decide)
    (he : starEach (e :: es) X.env = (false, eval e X.env) :: starEach es X.env := by rfl) (hpl : (backTo cpos (starEach es X.env)).any (·.1) = false := by rfl) : PS X (.Raise (some (.Call (.Name x p) (e :: es) [] cpos)) none pos) (tRaise0 C Ψ t) := by
  intro pins s σ H D I h
  rw [arm_exec_Raise]
  obtain ⟨bm, N, nm, qn, bs, hdct, sn, sub, ab, col, dd, k0, k1, k2, k3, k5, mN, hC, hN, hni, Tl⟩ := zjQ I.ok.mod.kin O.ex
  refine wpAny_bind (wpAny_standAt ?_)
  refine wpAny_raiseStmt_made_sub (C := C) (nm := nm) (q := qn) (N := N) (bs := bs) (bm := bm) (hdct := hdct) (sn := sn) (sub := sub) (ab := ab) (col := col) (dd := dd) (k0 := k0) (k1 := k1) (k2 := k2) (k3 := k3) (k5 := k5) (newId := "ValueError.__new__") (zl6 Tl (by decide)) (I.ok.hd hc) ?_
  show wpAny _ _ (do let v ← eval (.Call (.Name x p) (e :: es) [] cpos) X.env; standAt pos; pure v) _ _ _
  refine wpAny_bind ?_
  refine wpAny_Call_Name_kw (zfZ I hg O.at_ ?_ hdb)
  refine PySem.W.callWith_K (h₀ := X.base) I.ok.mod.kin O.kp (thn (ha cpos pins s σ H _ I h) fun us s1 ⟨vs, H1, I1, r, hl, q⟩ => ⟨I1.kIn, ?_⟩) he hpl
  obtain ⟨bm', N', nm', qn', bs', hdct', sn', sub', ab', col', dd', k0', k1', k2', k3', k5', mN', hC', hN', hni', T'⟩ := zjQ I1.kIn O.ex
  have I1' := I1
  obtain ⟨hp, g, d, tk, os⟩ := s1
  refine wpAny_call_exc_subT PySem.F.excBase_ValueError T' hC' hN' hni' (fun h' ea m => ?_) (by show us.length ≤ sizeLine; rw [← r.length]; exact hl)
  obtain ⟨hn, I2⟩ := I1'.excMade m
  obtain ⟨tt, e1, e2, e3⟩ := m.there
  refine wpAny_bind (wpAny_standAt (wpAny_pure ⟨ea, tt, rfl, ?_, e1, ?_⟩))
  · exact I2.bk _ _ hC
  · exact T pins σ _ _ ea C none [] I2 zba ⟨I1'.gone hx m.new, _, _, e1, rfl, Nat.le_of_ble_eq_true rfl, .inl rfl⟩ (q ea hn)
end
end L2
namespace L2
open PySem PySem.Spec PySem.W PyProof.Rows
section
variable {X : Cx} {pins : List (Addr × Obj)} {σ : St} {H : Hp} {s : Shared} {h' : Heap} {a : Addr}
abbrev Cx.pinned (X : Cx) (E : Value → Shared → Prop) (pn : List (Addr × Obj)) : Cx := { X with xe := E, pn := pn }
abbrev Cx.marked (X : Cx) (v : Value) : Cx := { X with A := X.A.mark (some v), calm := false, xe := fun _ _ => False }
theorem Inv.pin2 {E : Value → Shared → Prop} (I : Inv X pins σ H s) : Inv (X.pinned E (X.pn ++ pins)) [] σ H s :=
  ⟨⟨I.ok.mod, I.ok.kind, I.ok.glob, I.ok.blt, I.ok.above, I.ok.inj, I.ok.has, I.ok.cab, I.ok.hd, I.ok.frames, I.ok.stk, I.ok.exf, I.ok.bs, I.ok.bsz, I.ok.noex, I.ok.exfs, I.ok.funs, I.ok.frf⟩, I.os, I.bare, I.base, I.loc, I.cell, I.free, I.freeC, fun p hp => I.pin p (by rw [List.append_nil] at hp; exact hp), I.hok, I.len⟩
theorem Inv.unpin {E : Value → Shared → Prop} {ps : List (Addr × Obj)} (I : Inv (X.pinned E (X.pn ++ pins)) ps σ H s) : Inv X pins σ H s :=
  ⟨⟨I.ok.mod, I.ok.kind, I.ok.glob, I.ok.blt, I.ok.above, I.ok.inj, I.ok.has, I.ok.cab, I.ok.hd, I.ok.frames, I.ok.stk, I.ok.exf, I.ok.bs, I.ok.bsz, I.ok.noex, I.ok.exfs, I.ok.funs, I.ok.frf⟩, I.os, I.bare, I.base, I.loc, I.cell, I.free, I.freeC, fun p hp => I.pin p (List.mem_append_left _ hp), I.hok, I.len⟩
theorem SP.unpin {E : Value → Shared → Prop} {D : zhL} {f : Flow} {s' : Shared} (h : SP (X.pinned E (X.pn ++ pins)) [] D f s') : SP X pins D f s' := by
  cases f with
  | next => obtain ⟨σ', H', I, q⟩ := h; exact ⟨σ', H', I.unpin, q⟩
  | brk => obtain ⟨σ', H', I, q⟩ := h; exact ⟨σ', H', I.unpin, q⟩
  | cont => obtain ⟨σ', H', I, q⟩ := h; exact ⟨σ', H', I.unpin, q⟩
  | ret u => obtain ⟨v, σ', H', I, r, q⟩ := h; exact ⟨v, σ', H', I.unpin, r, q⟩
theorem Inv.forget (I : Inv X pins σ H s) : Inv X pins (List.replicate X.N.length none) H s := by
  refine ⟨I.ok, I.os, I.bare, I.base, ?_, I.cell, I.free, I.freeC, I.pin, I.hok, List.length_replicate⟩
  obtain ⟨m, hn, _⟩ := I.loc
  refine ⟨m, hn, fun i x v _ e => ?_⟩
  rw [List.getElem?_replicate] at e
  split at e <;> cases e
theorem Inv.mark {v : Value} (I : Inv X pins σ H s) : Inv (X.marked v) pins σ H s :=
  ⟨⟨I.ok.mod, I.ok.kind, I.ok.glob, I.ok.blt, I.ok.above, I.ok.inj, I.ok.has, I.ok.cab, (fun z => by cases z), I.ok.frames, I.ok.stk, I.ok.exf, I.ok.bs, I.ok.bsz, I.ok.noex, I.ok.exfs, I.ok.funs, I.ok.frf⟩, I.os, I.bare, I.base, I.loc, I.cell, I.free, I.freeC, I.pin, I.hok, I.len⟩
theorem Inv.unmark {v : Value} (ok : X.Ok) (I : Inv (X.marked v) pins σ H s) : Inv X pins σ H s := ⟨ok, I.os, I.bare, I.base, I.loc, I.cell, I.free, I.freeC, I.pin, I.hok, I.len⟩
theorem Inv.nameGoes {M : Model} {A : Around} {E : Value → Shared → Prop} {n : Str} {pos : Pos} {Q : Unit → Shared → Prop} (I : Inv X pins σ H s) (hk : X.env.kindOf n = some .local) (h : ∀ s', Inv X pins (List.replicate X.N.length none) H s' → Q () s') : wpAny M A (do bindName X.env n .none; unbindBehindTheSuite X.env n pos) Q E s := by
  obtain ⟨m, hn, _⟩ := id I.loc
  obtain ⟨ol, es, ep, el, hd, _⟩ := id hn
  have nc : ∀ c v, s.heap.IsCell c v → c ≠ X.env.locals := fun c v ⟨o, e, d⟩ z => by
    rw [z, el] at e; cases e
    rw [hd] at d; cases d
  refine wpAny_nameGoes_keeps hk hn (by rw [I.ok.kind]; rfl) fun h2 v n2 sb => h _ ?_
  have k : ∀ b o, b ≠ X.env.locals → s.heap.get? b = some o → h2.get? b = some o := fun b o z e => by rw [sb.2 b z]; exact e
  refine ⟨I.ok, I.os, I.bare, ⟨fun b o e n f x => ?_, fun b o e n f x => ?_, I.base.free, fun b o e x => ?_, I.base.tups, I.base.frzs, I.base.tbls⟩, ⟨_, n2, fun i x v _ e => ?_⟩, fun x c e => ?_, I.free, I.freeC, fun p hp => ?_, ?_, List.length_replicate⟩
  · exact k b o (fun z => Nat.lt_irrefl _ (Nat.lt_of_lt_of_le (z ▸ Heap.lt_size e) I.ok.above)) (I.base.keep b o e n f x)
  · obtain ⟨sl, q⟩ := I.base.slot b o e n f x
    exact ⟨sl, k b _ (fun z => Nat.lt_irrefl _ (Nat.lt_of_lt_of_le (z ▸ Heap.lt_size e) I.ok.above)) q⟩
  · obtain ⟨o', q⟩ := I.base.there b o e x
    exact ⟨o', k b _ (fun z => Nat.lt_irrefl _ (Nat.lt_of_lt_of_le (z ▸ Heap.lt_size e) I.ok.above)) q⟩
  · rw [List.getElem?_replicate] at e
    split at e <;> cases e
  · obtain ⟨v, q⟩ := I.cell x c e
    obtain ⟨o, e1, d1⟩ := id q
    exact ⟨v, o, k c o (nc c v q) e1, d1⟩
  · obtain ⟨e, n, n1, n2, n3⟩ := I.pin p hp
    exact ⟨k _ _ n1 e, n, n1, n2, n3⟩
  · intro b u q
    refine (I.hok b u q).stay (fun c v z q1 => k c v ?_ q1) (fun _ z => z) fun _ _ z => z
    rintro rfl
    have fr := I.free
    rcases z with z | z
    · rw [z, q] at fr; cases fr
    · rw [z] at fr; cases fr
def hΨ (X : Cx) (B : Addr) (i : Nat) (th : TS) (D : zhL) : V → Hp → Prop := fun v H' => ∃ a C dx fs, v = .ref a ∧ H' a = some (.exc C dx fs) ∧ exmOne X.K (.ref C) (.ref B) = some true ∧ th { nx := fun _ _ => False, rt := D.rt } ((List.replicate X.N.length none).set i (some v)) H'
theorem ps_try {body suite : List Stmt} {b0 : Stmt} {cx n : Str} {np hpos pos : Pos} {i : Nat} {B : Addr} {tb : (V → Hp → Prop) → TS} {th : TS} (hst : X.stack = X.env :: X.outer ∧ X.env.frame = some X.env.locals) (hg : Gl X cx) (hB : X.mg cx = some (.ref B)) (hN : X.N.Nodup) (hi : X.N[i]? = some n)
    (hk : X.env.kindOf n = some .local) (hl : Loc X.env.scope n) (hf : X.fn n = true ∨ X.env.scope.names.lookup n = some .local)
    (hb : ∀ E' pn' Ψ, Thr (X.pinned E' pn') Ψ → PSs (X.pinned E' pn') body (tb Ψ)) (hh : ∀ a : Addr, PSs (X.marked (.ref a)) (b0 :: suite) th) (hdb : (cx == ("__debug__" : Str)) = false := by decide) :
    PS X (.Try body [.ExceptHandler (some (.Name cx np)) (some n) (b0 :: suite) hpos] [] [] pos) (fun D σ H => tb (hΨ X B i th D) D σ H) := by
  intro pins s σ H D I h
  refine wpAny_Try_except ?_
  let E' : Value → Shared → Prop := fun e s₁ => wpAny (model X.prog X.w) X.A (noteFrame e X.env) (fun _ s₂ => wpAny (model X.prog X.w) X.A (setFlight e none) (fun _ s₃ => wpAny (model X.prog X.w) X.A (handleBy e X.env [.ExceptHandler (some (.Name cx np)) (some n) (b0 :: suite) hpos]) (SP X pins D) X.xe s₃) X.xe s₂) X.xe s₁
  have thr : Thr (X.pinned E' (X.pn ++ pins)) (hΨ X B i th D) := by
    rintro ps σ1 H1 s1 a C dx fs I1 e1 t1 ⟨a', C', dx', fs', ea, e1', hm, hth⟩
    cases ea
    rw [e1] at e1'; cases e1'
    refine I1.noted I1.ok.frames hst e1 t1 fun s2 I2 t2 => I2.flight t2 fun s3 I3 t3 => ?_
    have J : Inv X pins (List.replicate X.N.length none) H1 s3 := I3.unpin.forget
    refine wpAny_handleBy_cons ?_ (by intro z; cases z)
    have J' : Inv (X.marked (.ref a)) pins (List.replicate X.N.length none) H1 s3 := J.mark
    refine codeAny_handlers_test (zfZ J' hg hB ?_ hdb)
    obtain ⟨ox, od, Ja, _⟩ := zjO J' e1
    refine exm_one J'.kIn Ja.type hm _ _ _ s3 (fun b o q => q) ?_
    show codeAny _ _ _ _ s3
    have t3' : Trc (X.marked (.ref a)) pins H1 s3.heap a := by
      obtain ⟨ha, o, vs, eo, d, hs, z⟩ := t3
      refine ⟨ha, o, vs, eo, d, hs, ?_⟩
      rcases z with z | ⟨T, oT, ts, z1, z2, z3, zp, z4, z5, z6, z7⟩
      · exact .inl z
      · exact .inr ⟨T, oT, ts, z1, z2, z3, fun p hp => zp p (List.mem_append_left _ hp), z4, z5, z6, z7⟩
    refine codeAny_handlers_suite_as (J'.flight t3' fun s4 J4 t4 => ?_)
    refine zg5 (X := X.marked (.ref a)) (v := .ref a) J4 hN hi hl rfl (fun s5 J5 => ?_) hf
    refine wpAny_mono (hh a pins s5 _ H1 _ J5 hth) (fun f s6 q => ?_) fun _ _ z => z.elim
    cases f with
    | ret u =>
      obtain ⟨v, σ', H', J6, r, q⟩ := q
      exact (Inv.unmark J.ok J6).nameGoes hk fun s7 J7 => ⟨v, _, H', J7, r, q⟩
    | next => obtain ⟨_, _, _, z⟩ := q; exact z.elim
    | brk => obtain ⟨_, _, _, z⟩ := q; exact z.elim
    | cont => obtain ⟨_, _, _, z⟩ := q; exact z.elim
  refine wpAny_mono (hb E' _ _ thr [] s σ H D I.pin2 h) (fun f s1 q => ?_) fun e s1 z => z
  have q := q.unpin
  cases f with
  | next =>
    obtain ⟨σ', H', J, q⟩ := q
    exact zkX pins s1 σ' H' D J q
  | brk => exact q
  | cont => exact q
  | ret u => exact q
end
end L2
namespace HL
open PySem (Str)
def zha (c : Str) (as : DA) : DS := fun s h => match as s h with
  | .ok vs h1 => if vs.length ≤ LIM then .ex h1.length (h1 ++ [.exc c []]) else .er
  | _ => .er
def sNo (d : DS) : DS := fun s h => match d s h with
  | .ex _ _ => .er
  | c => c
def tNo (d : DT) : DT := fun s h => match d s h with
  | .ex _ _ => .er
  | c => c
def aNo (d : DA) : DA := fun s h => match d s h with
  | .ex _ _ => .er
  | c => c
def sTry (e0 : DE) (body : DS) (n i : Nat) (cs : List Str) (hd : DS) : DS := fun s h => match e0 s h with
  | .ok _ _ => sNo body s h
  | .ex a h1 => (match h1[a]? with
    | some (.exc c _) => if cs.contains c = true then (match hd ((List.replicate n none).set i (some (.ref a))) h1 with
      | .rt v h2 => .rt v h2
      | _ => .er) else .er
    | _ => .er)
  | .er => .er
end HL
namespace L2
open PySem PySem.Spec PySem.W PyProof.Rows
open HL (W SO Sh Sg OR DE DT DA DS Fn)
def XQ (K : PySem.W.Frag) (γ : Str → Addr) (ρ : Nat → Addr) (h : Sh) (a : Nat) (h1 : Sh) (Ψ : V → Hp → Prop) : Prop := ∀ ρ' H', Nxt h ρ h1 ρ' → zbM K γ ρ' h1 H' → a < h1.length → Ψ (.ref (ρ' a)) H'
def eX (K : PySem.W.Frag) (γ : Str → Addr) (d : DE) (Ψ : V → Hp → Prop) (σ : St) (H : Hp) : Prop := ∃ ρ s h a h1, Sim K γ ρ s h σ H ∧ d s h = .ex a h1 ∧ XQ K γ ρ h a h1 Ψ
def eXs (K : PySem.W.Frag) (γ : Str → Addr) (d : DS) (Ψ : V → Hp → Prop) (σ : St) (H : Hp) : Prop := ∃ ρ s h a h1, Sim K γ ρ s h σ H ∧ d s h = .ex a h1 ∧ XQ K γ ρ h a h1 Ψ
abbrev QX (γ : Str → Addr) (X : Cx) (Ψ : V → Hp → Prop) (e : Expr) (d : DE) : Prop := PE X e (fun σ H _ => eX X.K γ d Ψ σ H)
abbrev QXs (γ : Str → Addr) (X : Cx) (Ψ : V → Hp → Prop) (b : List Stmt) (d : DS) : Prop := PSs X b (fun _ σ H => eXs X.K γ d Ψ σ H)
abbrev QX1 (γ : Str → Addr) (X : Cx) (Ψ : V → Hp → Prop) (b : Stmt) (d : DS) : Prop := PS X b (fun _ σ H => eXs X.K γ d Ψ σ H)
section
variable {X : Cx} {γ : Str → Addr} {Ψ : V → Hp → Prop} {e : Expr} {es : List Expr} {d : DA} {da db : DS} {pos : Pos}
theorem XQ.later {K : PySem.W.Frag} {ρ ρ1 : Nat → Addr} {h h1 h2 : Sh} {a : Nat} (x : XQ K γ ρ h a h2 Ψ) (n : Nxt h ρ h1 ρ1) : XQ K γ ρ1 h1 a h2 Ψ := fun ρ' H' n' => x ρ' H' (n.trans n')
theorem xs_nil : QXs γ X Ψ [] HL.sNx := fun pins s σ H D I ⟨ρ, t, h, a, h1, S, e, x⟩ => by cases e
theorem xs_no {b : List Stmt} : QXs γ X Ψ b (HL.sNo da) := fun pins s σ H D I ⟨ρ, t, h, a, h1, S, e, x⟩ => by
  unfold HL.sNo at e
  split at e
  · cases e
  · rename_i c z
    exact absurd e (z _ _)
theorem qss_no {b : List Stmt} (h : QSs γ X b da) : QSs γ X b (HL.sNo da) := fun pins s σ H D I ⟨ρ, t, hh, S, x⟩ => h pins s σ H D I ⟨ρ, t, hh, S, by
  unfold HL.sNo at x
  split at x
  · exact x.elim
  · exact x⟩
theorem xs_one {b : Stmt} (h : QX1 γ X Ψ b da) : QXs γ X Ψ [b] da := ziy h
theorem xs_cons {b : Stmt} {r : List Stmt} (hn : QS γ X b da) (h1 : QX1 γ X Ψ b da) (h2 : QXs γ X Ψ r db) : QXs γ X Ψ (b :: r) (HL.zaq da db) := by
  have c : PS X b (fun D σ H => eS X.K γ da D σ H ∨ eXs X.K γ da Ψ σ H) := fun pins s σ H D I z => z.elim (hn pins s σ H D I) (h1 pins s σ H D I)
  intro pins s σ H D I ⟨ρ, t, h, a, hh, S, e, x⟩
  refine zjx c h2 pins s σ H D I ?_
  unfold HL.zaq at e
  cases q : da t h with
  | nx s1 h1 =>
    rw [q] at e
    refine .inl ⟨ρ, t, h, S, ?_⟩
    rw [q]
    exact fun ρ1 H1 n1 S1 w1 => ⟨ρ1, s1, h1, a, hh, ⟨S1, w1, rfl⟩, e, x.later n1⟩
  | ex a1 h1 => rw [q] at e; cases e; exact .inr ⟨ρ, t, h, a, hh, S, q, x⟩
  | rt => rw [q] at e; cases e
  | bk => rw [q] at e; cases e
  | ct => rw [q] at e; cases e
  | er => rw [q] at e; cases e
theorem qt_no {c : Expr} {dc : DT} (h : QT γ X c dc) : QT γ X c (HL.tNo dc) := fun pins s σ H Q I ⟨ρ, t, hh, S, x⟩ => h pins s σ H Q I ⟨ρ, t, hh, S, by
  unfold HL.tNo at x
  split at x
  · exact x.elim
  · exact x⟩
theorem x_if {c : Expr} {a b : List Stmt} {dc : DT} (hc : QT γ X c dc) (ha : QXs γ X Ψ a da) (hb : QXs γ X Ψ b db) : QX1 γ X Ψ (.If c a b pos) (HL.sIf (HL.tNo dc) da db) := by
  intro pins s σ H D I ⟨ρ, t, h, a1, hh, S, e, x⟩
  refine ps_if hc ha hb pins s σ H D I ?_
  unfold HL.sIf HL.tNo at e
  refine ⟨ρ, t, h, S, ?_⟩
  cases q : dc t h with
  | ok k h1 =>
    rw [q] at e
    intro ρ1 H1 n1 S1 _
    have T1 := S.next n1 S1
    cases k with
    | true => exact ⟨ρ1, t, h1, a1, hh, T1, e, x.later n1⟩
    | false => exact ⟨ρ1, t, h1, a1, hh, T1, e, x.later n1⟩
  | ex => rw [q] at e; cases e
  | er => rw [q] at e; cases e
theorem x_raise {x : Str} {p cpos : Pos} (O : Exc0 X.K X.mg x (γ x)) (hg : Gl X x) (hc : X.calm = true) (hx : X.ex = []) (T : Thr X Ψ) (ha : QA γ X (e :: es) d) (hdb : (x == ("__debug__" : Str)) = false := by decide)
    (he : starEach (e :: es) X.env = (false, eval e X.env) :: starEach es X.env := by rfl) (hpl : (backTo cpos (starEach es X.env)).any (·.1) = false := by rfl) : QX1 γ X Ψ (.Raise (some (.Call (.Name x p) (e :: es) [] cpos)) none pos) (HL.zha x d) := by
  intro pins s σ H D I ⟨ρ, t, h, a1, hh, S, ee, xx⟩
  refine zlF O hg hc hx T ha hdb he hpl pins s σ H D I ⟨ρ, t, h, S, ?_⟩
  unfold HL.zha at ee
  cases q : d t h with
  | ok vs h1 =>
    rw [q] at ee
    simp only at ee
    split at ee
    · rename_i hl
      cases ee
      intro ρ1 H1 n1 S1 w1
      refine ⟨by rw [List.length_map]; exact zb5 hl, fun ea hn => ?_⟩
      have S2 : zbM X.K γ (put ρ1 h1.length ea) (h1 ++ [.exc x []]) (upd H1 ea (.exc (γ x) none [])) := S1.push (o := .exc x []) (fun q hq => by cases hq) (Ext.upd _ hn) hn ⟨none, zba⟩
      have z := xx _ _ (n1.trans (Nxt.push h1 ρ1 (.exc x []) ea)) S2 (by simp)
      rw [zc2] at z
      exact z
    · cases ee
  | ex => rw [q] at ee; cases ee
  | er => rw [q] at ee; cases ee
theorem zjo {x : Option Expr} {c : Str} : QS γ X (.Raise x none pos) (HL.zha c d) := fun pins s σ H D I ⟨ρ, t, h, S, z⟩ => by
  unfold HL.zha at z
  split at z
  · split at z <;> exact z.elim
  · exact z.elim
def spX (K : PySem.W.Frag) (γ : Str → Addr) (p : Nat) (f : Fn) : Sp := fun vs H _ E => vs.length = p ∧ ∃ ρ h us a h1, zbM K γ ρ h H ∧ wfs h.length us ∧ vs = us.map (zau γ ρ) ∧ f us h = .ex a h1 ∧ XQ K γ ρ h a h1 fun v H' => ∃ b, v = .ref b ∧ E (.ref b) none H'
structure XDef (P : Program) (w : World) (K : PySem.W.Frag) (mg : Str → Option Value) (base : Heap) (k : Nat) (C : Addr) (m : Str) (ps : List Str) (sp : Sp) : Prop where
  ex : ∃ f fd, zf7 P w K mg base (CXE P w) k f fd ps sp ∧ findIn K (.ref C) m = some (some (.ref f)) ∧ isFn K (.ref f) = true ∧ keepIn K (.ref f) = true ∧ zdw K fd ps []
theorem thr_E {P : Program} {w : World} {K : PySem.W.Frag} {mg : Str → Option Value} {base : Heap} {N : List Str} {qual : Str} {scope : Scope} {f : Addr} {cd : Value} {A : Around} {outer : List Env} {s0 : Shared} {H0 : Hp} {E : XK} : Thr (zgr (CXE P w) P w K mg base N qual scope f cd A outer s0 H0 E) (fun v H' => ∃ b, v = .ref b ∧ E (.ref b) none H') := by
  rintro pins σ H s a C dx fs I e t ⟨b, eb, hΨ⟩
  cases eb
  show wpAny _ _ (leaving _ (.ref a)) _ _ s
  unfold leaving
  refine wpAny_bind (I.noted I.ok.frames ⟨rfl, rfl⟩ e t fun s1 I1 t1 => I1.flight t1 fun s2 I2 t2 => ?_)
  obtain ⟨ha, o, vs, eo, d, hs, z⟩ := t2
  refine ⟨a, C, dx, fs, H, rfl, I2.os, I2.bare, I2.base, I2.hok, e, ⟨ha, o, vs, eo, d, hs, ?_⟩, hΨ⟩
  rcases z with z | ⟨T, oT, ts, z1, z2, z3, _, z4, z5, z6, z7⟩
  · exact .inl z
  · exact .inr ⟨T, oT, ts, z1, z2, z3, z4, z5, z6, z7⟩
theorem zb8.xdef {P : Program} {w : World} {K : PySem.W.Frag} {mg : Str → Option Value} {base : Heap} {γ : Str → Addr} {C : Addr} {m qual : Str} {st : Stmt} {N ps : List Str} {k p n : Nat} {bd : DS} (F : zb8 K C m qual st ps) (S : zaH N ps (zai st)) (hp : ps.length = p) (hn : N.length = n)
    (hbody : ∀ (f : Addr) (cdv : Value) (A : Around) (outer : List Env) (s : Shared) (H : Hp) (E : XK) (Ψ : V → Hp → Prop), zbr k (A.deeper (envOfC qual (zai st) s.heap.objs.size f cdv)) → Thr (zgr (CXE P w) P w K mg base N qual (zai st) f cdv A outer s H E) Ψ →
      QXs γ (zgr (CXE P w) P w K mg base N qual (zai st) f cdv A outer s H E) Ψ (zaY st) bd) : XDef P w K mg base (k + 1) C m ps (spX K γ p (HL.fnOf p n bd)) := by
  obtain ⟨f, oc, od, dV, kV, doc, pm, an, cdv, ct, osl, lk, hcd, kp, fi, isf, hb⟩ := F.ex
  refine ⟨f, _, fn_of lk hcd S (fun vs H Q E h => h.1.trans hp.symm) fun A outer s H vs Q E hr hsp => ⟨_, hbody f cdv A outer s H E _ hr thr_E, ?_⟩, fi, isf, kp, hb⟩
  obtain ⟨_, ρ, hh, us, a, h1, S, wu, e, ex, x⟩ := hsp
  rw [e]
  subst hn
  unfold HL.fnOf at ex
  split at ex
  · refine ⟨ρ, HL.start N.length us, hh, a, h1, ⟨S, zi9 wu, zhc N us⟩, ?_, x⟩
    cases q : bd (HL.start N.length us) hh with
    | nx => rw [q] at ex; cases ex
    | rt => rw [q] at ex; cases ex
    | bk => rw [q] at ex; cases ex
    | ct => rw [q] at ex; cases ex
    | ex => rw [q] at ex; cases ex; rfl
    | er => rw [q] at ex; cases ex
  · cases ex
theorem x_new {x : Str} {k p n : Nat} {bd : DS} {ps : List Str} {pp : Pos} (M : MkC X.K X.mg x (γ x)) (F : XDef X.prog X.w X.K X.mg X.base k (γ x) "__init__" ps (spX X.K γ p (HL.fnOf p n bd))) (hr : zbr (k + 1) X.A) (hx : X.ex = []) (T : Thr X Ψ) (hp : ps.length = p) (hg : Gl X x) (ha : QA γ X (e :: es) d) (hdb : (x == ("__debug__" : Str)) = false := by decide)
    (he : starEach (e :: es) X.env = (false, eval e X.env) :: starEach es X.env := by rfl) (hpl : (backTo pos (starEach es X.env)).any (·.1) = false := by rfl) : QX γ X Ψ (.Call (.Name x pp) (e :: es) [] pos) (HL.zeI x (HL.fnOf p n bd) [] (HL.aNo d)) := by
  obtain ⟨g, fd, F, a, nf, kp, b⟩ := F.ex
  refine (zkZ (E := XKof Ψ) ⟨M.makes, a, nf, M.kp⟩ F hr hg M.at_ b .nil (T.passes hx) ha hdb he hpl).imp fun σ H Q z => ?_
  obtain ⟨ρ, s, h, ea, hh, S, ee, xx⟩ := z
  unfold HL.zeI HL.aNo at ee
  refine ⟨ρ, s, h, S, ?_⟩
  cases q : d s h with
  | ok us h1 =>
    rw [q] at ee
    simp only [HL.R.bind] at ee
    intro ρ1 H1 n1 S1 w1 y dx hy hdx ne
    have hdx' : upd H1 dx (.own y) y = none := by rw [zaN ne.symm]; exact hy
    have E1 : Ext H1 (upd (upd H1 dx (.own y)) y (.ins (γ x) dx [])) := (Ext.upd _ hdx).trans (Ext.upd _ hdx')
    have S2 := S1.push (p := y) (o := .ins x []) (fun q hq => by cases hq) E1 hy ⟨dx, zba⟩
    have w2 : wfs (h1 ++ [SO.ins x []]).length (.ref h1.length :: (us ++ [])) := fun q hq => by
      rcases List.mem_cons.mp hq with r | r
      · rw [r]; show h1.length < (h1 ++ [_]).length; simp
      · rw [List.append_nil] at r
        exact (w1 q r).mono (by simp)
    have n2 := Nxt.push h1 ρ1 (.ins x []) y
    have fx : HL.fnOf p n bd (.ref h1.length :: (us ++ [])) (h1 ++ [.ins x []]) = .ex ea hh := by
      cases q2 : HL.fnOf p n bd (.ref h1.length :: (us ++ [])) (h1 ++ [.ins x []]) with
      | ok v h2 =>
        rw [q2] at ee
        simp only at ee
        split at ee <;> cases ee
      | ex => rw [q2] at ee; cases ee; rfl
      | er => rw [q2] at ee; cases ee
    have lp : (.ref h1.length :: (us ++ []) : List W).length = p := by
      unfold HL.fnOf at fx
      split at fx
      · assumption
      · cases fx
    refine ⟨?_, put ρ1 h1.length y, _, _, ea, hh, S2, w2, ?_, fx, fun ρ' H' n' S' la => ⟨ρ' ea, rfl, ρ' ea, rfl, xx ρ' H' (n1.trans (n2.trans n')) S' la⟩⟩
    · rw [← lp]; simp
    · rw [List.map_cons, List.map_append, show zau γ (put ρ1 h1.length y) (.ref h1.length) = V.ref y from congrArg V.ref (zc2 _ _ _), ← zfm w1 (zc3 _ _ _)]
      rfl
  | ex a2 h2 => rw [q] at ee; cases ee
  | er => rw [q] at ee; cases ee
theorem x_ret {de : DE} (h : QX γ X Ψ e de) : PSs X [.Return (some e) pos] (fun _ σ H => eX X.K γ de Ψ σ H) := ziy (zmh h)
theorem x_len {de : DE} {p : Pos} (hg : Gl X "len") (hm : X.mg "len" = none) (h : QX γ X Ψ e de) (he : starEach [e] X.env = (false, eval e X.env) :: starEach [] X.env := by rfl) (hpl : (backTo pos (starEach [] X.env)).any (·.1) = false := by rfl) : QX γ X Ψ (.Call (.Name "len" p) [e] [] pos) de :=
  zjA zjX hg hm PySem.boot_len (zk2 h zmr he) (by decide) (by decide) he hpl
theorem x_meth0 {de : DE} {m : Str} {apos : Pos} {pl : Sem Bool} (h : QX γ X Ψ e de)
    (ht : eval (.Call (.Attribute e m apos) [] [] pos) X.env = (do
      let ov ← eval e X.env
      standAt apos.atName
      let (f, first) ← holding [ov] (getMethod ov m pl)
      callWith pos f first (backTo pos (starEach [] X.env)) (backToKw pos (keywordEach [] X.env))) := by rfl) : QX γ X Ψ (.Call (.Attribute e m apos) [] [] pos) de :=
  zh1 (G := fun _ _ => False) (pl := pl) (fun _ _ z => z.elim) h ht
theorem qs_try {body suite : List Stmt} {b0 : Stmt} {cx n : Str} {np hpos : Pos} {i : Nat} {B : Addr} {cs : List Str} {e0 : DE} {db hd : DS} (hst : X.stack = X.env :: X.outer ∧ X.env.frame = some X.env.locals) (hg : Gl X cx) (hB : X.mg cx = some (.ref B)) (hN : X.N.Nodup) (hi : X.N[i]? = some n)
    (hk : X.env.kindOf n = some .local) (hl : Loc X.env.scope n) (hf : X.fn n = true ∨ X.env.scope.names.lookup n = some .local)
    (hbN : ∀ pn', QSs γ (X.pinned (fun _ _ => False) pn') body db) (hbR : ∀ E' pn' Ψ, Thr (X.pinned E' pn') Ψ → PSs (X.pinned E' pn') body (fun _ σ H => eX X.K γ e0 Ψ σ H)) (hh : ∀ a : Addr, QSs γ (X.marked (.ref a)) (b0 :: suite) hd)
    (hm : ∀ c, cs.contains c = true → exmOne X.K (.ref (γ c)) (.ref B) = some true) (hdb : (cx == ("__debug__" : Str)) = false := by decide) :
    QS γ X (.Try body [.ExceptHandler (some (.Name cx np)) (some n) (b0 :: suite) hpos] [] [] pos) (HL.sTry e0 db X.N.length i cs hd) := by
  refine (ps_try (tb := fun Ψ D σ H => eS X.K γ db D σ H ∨ eX X.K γ e0 Ψ σ H) (th := eS X.K γ hd) hst hg hB hN hi hk hl hf (fun E' pn' Ψ T pins s σ H D I z => z.elim ((hbN pn').nox pins s σ H D I) (hbR E' pn' Ψ T pins s σ H D I)) hh hdb).imp fun D σ H z => ?_
  obtain ⟨ρ, s, h, S, z⟩ := z
  unfold HL.sTry at z
  cases q : e0 s h with
  | ok v h1 =>
    rw [q] at z
    refine .inl ⟨ρ, s, h, S, ?_⟩
    simp only at z
    unfold HL.sNo at z
    split at z
    · exact z.elim
    · exact z
  | ex a h1 =>
    rw [q] at z
    simp only at z
    refine .inr ⟨ρ, s, h, a, h1, S, q, fun ρ' H' n' S' la => ?_⟩
    cases q1 : h1[a]? with
    | none => rw [q1] at z; exact z.elim
    | some o =>
      rw [q1] at z
      cases o with
      | exc c fs =>
        simp only at z
        split at z
        · rename_i hc
          obtain ⟨dx, ob⟩ := S'.ob a _ q1
          refine ⟨ρ' a, γ c, dx, _, rfl, ob, hm c hc, ρ', (List.replicate X.N.length none).set i (some (.ref a)), h1, ⟨S', ?_, ?_⟩, ?_⟩
          · exact zj0 (fun y hy => by cases (List.mem_replicate.mp hy).2) la
          · rw [zhd]
            unfold zeG
            rw [List.map_replicate]
            rfl
          · cases q2 : hd ((List.replicate X.N.length none).set i (some (.ref a))) h1 with
            | rt v h2 =>
              rw [q2] at z
              exact fun ρ2 H2 n2 => z ρ2 H2 (n'.trans n2)
            | _ => rw [q2] at z; exact z.elim
        · exact z.elim
      | _ => exact z.elim
  | er => rw [q] at z; exact z.elim
end
end L2
namespace L2
open PySem PySem.Spec PySem.W PyProof.Rows
open HL (W)
def isiX (K : PySem.W.Frag) (cs : List (Str × Addr × List W)) : Bool :=
  (cs.all fun p => cs.all fun q => PySem.W.kitOne K (.ref p.2.1) (.ref q.2.1) == some (p.2.2.contains (.gl q.1))) &&
  (cs.all fun p => HL.biN.all fun b => PySem.W.kitOne K (.ref p.2.1) (.type b) == some (p.2.2.contains (.ty b))) &&
  (cs.all fun q => ("NoneType" :: HL.biN).all fun a => PySem.W.kitOne K (.type a) (.ref q.2.1) == some false)
theorem zlS {K : PySem.W.Frag} {γ : Str → Addr} {cs : List (Str × Addr × List W)} (hγ : ∀ p ∈ cs, γ p.1 = p.2.1) (hi : ∀ p ∈ cs, p.2.2.contains (.ty "ValueError") = false → zlv K p.2.1) (hx : ∀ p ∈ cs, p.2.2.contains (.ty "ValueError") = true → zih K p.2.1) (hb : isiX K cs = true) : zgF K γ (cs.map fun p => (p.1, p.2.2)) := by
  unfold isiX at hb
  simp only [Bool.and_eq_true] at hb
  obtain ⟨⟨h1, h2⟩, h3⟩ := hb
  have mem : ∀ c l, (cs.map fun p => (p.1, p.2.2)).lookup c = some l → ∃ a, (c, a, l) ∈ cs ∧ γ c = a := fun c l e => by
    obtain ⟨p, hp, q⟩ := List.mem_map.mp (zhu e)
    obtain ⟨x, a, m⟩ := p
    cases q
    exact ⟨a, hp, hγ _ hp⟩
  refine ⟨?_, ?_, ?_, ?_⟩
  · intro c l e
    obtain ⟨a, hp, ga⟩ := mem c l e
    rw [ga]
    exact ⟨fun z => hi _ hp z, fun z => hx _ hp z⟩
  · intro c l e x m e2
    obtain ⟨a, hp, ga⟩ := mem c l e
    obtain ⟨b, hq, gb⟩ := mem x m e2
    rw [ga, gb]
    exact beq_iff_eq.mp (List.all_eq_true.mp (List.all_eq_true.mp h1 _ hp) _ hq)
  · intro c l e b hb
    obtain ⟨a, hp, ga⟩ := mem c l e
    rw [ga]
    exact beq_iff_eq.mp (List.all_eq_true.mp (List.all_eq_true.mp h2 _ hp) b hb)
  · intro x m e a ha
    obtain ⟨b, hq, gb⟩ := mem x m e
    rw [gb]
    exact beq_iff_eq.mp (List.all_eq_true.mp (List.all_eq_true.mp h3 _ hq) a ha)
end L2
namespace HL
open PySem (Str)
def dOrT (a b : DE) : DE := fun s h => (a s h).bind fun x h => match zco x h with
  | some true => .ok x h
  | some false => b s h
  | none => .er
def pOrT (a b : PE) : PE := fun δ => (a δ).bind fun x => (zfr x).bind fun k => if k = true then some x else b δ
theorem e_orT {a b : DE} {p q : PE} (ha : Pe a p) (hb : Pe b q) : Pe (dOrT a b) (pOrT p q) := fun n B O s h δ r E e => by
  unfold pOrT at e
  cases e1 : p δ with
  | none => rw [e1] at e; cases e
  | some x =>
    rw [e1] at e
    simp only [Option.bind_some] at e
    cases e2 : zfr x with
    | none => rw [e2] at e; cases e
    | some k =>
      rw [e2] at e
      simp only [Option.bind_some] at e
      obtain ⟨w, l, c1, d1⟩ := ha n B O s h δ x E e1
      have t := tru_p (.inl d1) e2
      cases k with
      | true =>
        simp only [if_true] at e
        cases e
        exact ⟨w, l, by unfold dOrT; rw [c1]; simp only [R.bind, t], d1⟩
      | false =>
        simp only [Bool.false_eq_true, if_false] at e
        obtain ⟨u, l2, c2, d2⟩ := hb n B O s (h ++ l) δ r E.app e
        exact ⟨u, l ++ l2, by unfold dOrT; rw [c1]; simp only [R.bind, t]; rw [c2, List.append_assoc], by rw [← List.append_assoc]; exact d2⟩
end HL
namespace L2
open PySem PySem.Spec PyProof.Rows
open HL (W SO Sh Sg OR DE DT DA DS Fn)
section
variable {X : Cx} {γ : Str → Addr} {a b c e : Expr} {ta tb : TE} {da db dc de : DE} {pos : Pos} {zc1 : List Expr}
def tOrT (K : PySem.W.Frag) (ta tb : TE) : TE := fun σ H Q => ta σ H fun x H1 => ∃ k, TruV K x H1 k ∧ if k = true then Q x H1 else tb σ H1 Q
theorem pe_orT (ha : PE X a ta) (hb : PE X (.BoolOp .Or (b :: zc1) pos) tb) : PE X (.BoolOp .Or (a :: b :: zc1) pos) (tOrT X.K ta tb) := by
  intro pins s σ H Q I h
  refine BoolOp_or (thn (ha pins s σ H _ I h) fun v s1 ⟨x, H1, I1, r1, q1⟩ => ?_)
  refine thn (zl5 pins s1 σ H1 x v (fun k H2 => if k = true then Q x H2 else tb σ H2 Q) I1 r1 q1) fun k s2 ⟨H2, I2, q2⟩ => ?_
  cases k with
  | false => exact hb pins s2 σ H2 Q I2 q2
  | true => exact ⟨x, H2, I2, r1, q2⟩
theorem q_orT (ha : QE γ X a da) (hb : QE γ X (.BoolOp .Or (b :: zc1) pos) db) : QE γ X (.BoolOp .Or (a :: b :: zc1) pos) (HL.dOrT da db) := (pe_orT ha hb).imp fun σ H Q x => by
  obtain ⟨ρ, s, h, S, x⟩ := x
  refine ⟨ρ, s, h, S, zaP.bind x fun v h1 ρ1 H1 _ n1 S1 w1 x1 => ?_⟩
  have fin : ∀ k, HL.zco v h1 = some k → if k = true then Q (zau γ ρ1 v) H1 else eE X.K γ db σ H1 Q := fun k e => by
    cases k with
    | true => simp only [e] at x1; exact x1 ρ1 H1 (Nxt.refl _ _) S1 w1
    | false => simp only [e] at x1; exact ⟨ρ1, s, h1, S.next n1 S1, x1⟩
  cases v with
  | non => exact ⟨_, rfl, fin _ rfl⟩
  | bl b => exact ⟨_, rfl, fin _ rfl⟩
  | int i => exact ⟨_, rfl, fin _ rfl⟩
  | str y =>
    by_cases hl : y.length ≤ HL.LIM
    · exact ⟨_, ⟨zb5 hl, rfl⟩, fin _ (if_pos hl)⟩
    · simp only [HL.zco, if_neg hl] at x1
      exact x1.elim
  | ref i =>
    cases q : h1[i]? with
    | none => simp only [HL.zco, q] at x1; exact x1.elim
    | some o =>
      have ob := S1.ob i o q
      cases o with
      | lst xs => exact ⟨_, .inl ⟨_, SqL.of ob, rfl⟩, by have := fin (!xs.isEmpty) (by simp only [HL.zco, q]); simpa using this⟩
      | rol xs => exact ⟨_, .inl ⟨_, (show RoL _ _ _ _ from ob).sq, rfl⟩, by have := fin (!xs.isEmpty) (by simp only [HL.zco, q]); simpa using this⟩
      | tup xs => exact ⟨_, .inr (.inl ⟨_, ob, rfl⟩), by have := fin (!xs.isEmpty) (by simp only [HL.zco, q]); simpa using this⟩
      | ins c fs => simp only [HL.zco, q] at x1; exact x1.elim
      | exc c fs => simp only [HL.zco, q] at x1; exact x1.elim
  | ty n => exact x1.elim
  | gl n => exact x1.elim
end
end L2
namespace K54
open HL
open PySem (Str)
def zeL : CT := [("BadRow", [.gl "BadRow", .gl "MillError", .ty "ValueError"]), ("Guesses", [.gl "Guesses"]), ("MillError", [.gl "MillError", .ty "ValueError"]), ("NoCall", [.gl "NoCall", .gl "MillError", .ty "ValueError"]), ("NoInputs", [.gl "NoInputs", .gl "MillError", .ty "ValueError"]), ("NoLine", [.gl "NoLine", .gl "MillError", .ty "ValueError"]), ("NoLog", [.gl "NoLog", .gl "MillError", .ty "ValueError"]), ("NoMemory", [.gl "NoMemory", .gl "MillError", .ty "ValueError"]), ("NoMill", [.gl "NoMill", .gl "MillError", .ty "ValueError"]), ("NoName", [.gl "NoName", .gl "MillError", .ty "ValueError"]), ("NoPlace", [.gl "NoPlace", .gl "MillError", .ty "ValueError"]), ("NoProgram", [.gl "NoProgram", .gl "MillError", .ty "ValueError"]), ("NoSets", [.gl "NoSets", .gl "MillError", .ty "ValueError"]), ("NoSize", [.gl "NoSize", .gl "MillError", .ty "ValueError"]), ("NoStep", [.gl "NoStep", .gl "MillError", .ty "ValueError"]), ("NoText", [.gl "NoText", .gl "MillError", .ty "ValueError"]), ("NoWord", [.gl "NoWord", .gl "MillError", .ty "ValueError"]), ("Shut", [.gl "Shut", .gl "MillError", .ty "ValueError"])]
def zfa : List SO := []
def zcX : DS := (zaq (zaE 2 (dOp zbc (dOp zcE (dC (.int 7919)) (zac 1)) (dC (.int 11))))
    (zaq (sIf (dT (dOp oNe (zac 0) (dB zbs zad))) (zaq (zaE 2 (dOp zbc (dOp zcE (dOp oIx (zac 0) (dOp zbb (zac 1) (dB zc7 (zaa (zac 0) zad)))) (dC (.int 48271))) (dOp zcE (dC (.int 104729)) (zac 1))))
    (zaE 2 (dOp zbc (zac 2) (dOp zcE (dOp zcU (zac 1) (dB zc7 (zaa (zac 0) zad))) (dC (.int 7919)))))) sNx)
    (zaq (zaE 3 (dOp zbb (zac 2) (dC (.int 2147483647))))
    (zaq (zaE 3 (dOp zbb (dOp zcE (zac 3) (zac 3)) (dC (.int 2147483629))))
    (za5 (dOp zbb (dOp zbc (dOp zbc (dOp zcE (zac 3) (zac 3)) (dOp zcE (dC (.int 69621)) (zac 3))) (zac 1)) (dC (.int 2147483587))))))))
abbrev zaB : Fn := fnOf 2 4 zcX
def zfc : DS := (za5 (ziW (dB (zdT zeL) (zaa (zac 0) (zaa (dC (.ty "int")) zad))) (dNot (dB (zdT zeL) (zaa (zac 0) (zaa (dC (.ty "bool")) zad))))))
abbrev zdJ : Fn := fnOf 1 1 zfc
def zdL : DS := (za5 (ziW (zav zdJ (zaa (zac 0) zad)) (ze9 oLe oLe (zac 1) (zac 0) (zac 2))))
abbrev zbS : Fn := fnOf 3 3 zdL
def zbo : DS := (zaq (sIf (tNo (zem (dT (zav zbS (zaa (zac 1) (zaa (dC (.int 1)) (zaa (dC (.int 16)) zad))))))) (zha "NoSize" (zaa (dC (.str "there are 1 to 16 slots")) zad)) sNx)
    (sNo (zhb ["Guesses"] "entries" (zac 0) (ze8 (zdi (zac 1)) 1 [] (zck 0) zfO (dC .non)))))
abbrev zan : Fn := fnOf 2 2 zbo
def zcf : DS := (za5 (dB zds (zaa (zf4 ["Guesses"] "entries" (zac 0)) zad)))
abbrev zaL : Fn := fnOf 1 1 zcf
def zaW : List (Str × Fn) := [("Guesses", zaL)]
def zfd : DS := (sTry (zeI "Guesses" zan [] (aNo (zaa (zac 0) zad))) (za5 (dB zc7 (zaa (zaK zaW "slots" (zeI "Guesses" zan [] (zaa (zac 0) zad)) zad) zad))) 4 1 ["NoSize"] (zaq (zaE 2 (dB (zdT zeL) (zaa (zac 1) (zaa (dB zeJ (zaa (dC (.gl "NoProgram")) (zaa (dC (.gl "NoMemory")) (zaa (dC (.gl "NoInputs")) (zaa (dC (.gl "NoStep")) (zaa (dC (.gl "NoCall")) (zaa (dC (.gl "Shut")) (zaa (dC (.gl "NoLine")) (zaa (dC (.gl "NoSets")) (zaa (dC (.gl "NoPlace")) zad)))))))))) zad))))
    (zaq (zaE 3 (dB (zdT zeL) (zaa (zac 1) (zaa (dB zeJ (zaa (dC (.gl "NoText")) (zaa (dC (.gl "NoLog")) (zaa (dC (.gl "BadRow")) (zaa (dC (.gl "NoMill")) (zaa (dC (.gl "NoName")) (zaa (dC (.gl "NoWord")) zad))))))) zad))))
    (zaq (sIf (tOr (dT (zac 2)) (tOr (dT (zac 3)) (zem (dT (dB (zdT zeL) (zaa (zac 1) (zaa (dC (.ty "ValueError")) zad))))))) (za5 (dC (.str "other"))) sNx)
    (za5 (dOp oIx (dB zbs (zaa (dC (.str "other")) (zaa (dC (.str "no")) zad))) (dB zev (zaa (dB (zdT zeL) (zaa (zac 1) (zaa (dC (.gl "NoSize")) zad))) zad))))))))
abbrev zap : Fn := fnOf 1 4 zfd
def zce : DS := (zaq (zaE 1 (dOp oIx (dB zbs (zaa (dOp zbb (dOp zcU (zac 0) (dC (.int 4))) (dC (.int 1024))) (zaa (dOp oSub (dC (.int 65536)) (dOp zbb (dOp zcU (zac 0) (dC (.int 4))) (dC (.int 3)))) zad))) (dOp zbb (dOp zcU (zac 0) (dC (.int 4096))) (dC (.int 2)))))
    (za5 (dOp oIx (dB zbs (zaa (dOp zbb (dOp zcU (zac 0) (dC (.int 4))) (dC (.int 4))) (zaa (dOp zbb (dOp zcU (zac 0) (dC (.int 4))) (dC (.int 70))) (zaa (zac 1) (zaa (dOp zcE (dOp zbb (dOp zcU (zac 0) (dC (.int 4))) (dC (.int 3))) (dC (.int 16))) zad))))) (dOp zbb (zac 0) (dC (.int 4))))))
abbrev zbA : Fn := fnOf 1 2 zce
def zcz : DS := (za5 (dOp oIx (dB zbs (zaa (dOp zbc (zac 1) (dC (.int 1))) (zaa (dOp zbc (zac 1) (dC (.int 1))) (zaa (dOp zbb (dOp zcU (zac 0) (dC (.int 4))) (dC (.int 3))) (zaa (dOp zbb (dOp zcU (zac 0) (dC (.int 4))) (dC (.int 1024))) zad))))) (dOp zbb (zac 0) (dC (.int 4)))))
abbrev zbU : Fn := fnOf 2 2 zcz
def zcP : DS := (zaq (sIf (dT (dOp oIs (zac 0) (dC .non))) (za5 (dC .non)) sNx)
    (za5 (dB zds (zaa (zac 0) zad))))
abbrev zb6 : Fn := fnOf 1 1 zcP
def zdj : DS := (zaq (zaE 1 (zeI "Guesses" zan [] (zaa (dB zc7 (zaa (zac 0) zad)) zad)))
    (zaq (zhb ["Guesses"] "entries" (zac 1) (ze8 (zgR (zac 0)) 1 [] (zck 0) zfO (zav zb6 (zaa (zac 0) zad))))
    (za5 (zac 1))))
abbrev zaS : Fn := fnOf 1 2 zdj
def za9 : DS := (za5 (dOp zbb (zac 1) (dB zc7 (zaa (zf4 ["Guesses"] "entries" (zac 0)) zad))))
abbrev zaC : Fn := fnOf 2 2 za9
def zcq : List (Str × Fn) := [("Guesses", zaC)]
def zf5 : DS := (zaq (zaE 3 (dOp oEq (zac 2) (dOp zbc (zac 1) (dC (.int 1)))))
    (zaq (sIf (tOr (dT (dOp oIs (zac 0) (dC .non))) (dT (dOp oNe (dOp oIx (zac 0) (dC (.int 0))) (zac 1)))) (za5 (dIf (dT (zac 3)) (zac 0) (dB zeJ (zaa (zac 1) (zaa (zac 2) (zaa (dC (.int 2)) zad)))))) sNx)
    (zaq (sIf (dT (dOp oEq (zac 2) (dOp oIx (zac 0) (dC (.int 1))))) (za5 (dB zeJ (zaa (zac 1) (zaa (zac 2) (zaa (dB zgD (zaa (dOp zbc (dOp oIx (zac 0) (dC (.int 2))) (dC (.int 1))) (zaa (dC (.int 3)) zad))) zad))))) sNx)
    (zaq (sIf (dT (zac 3)) (za5 (dB zeJ (zaa (zac 1) (zaa (dOp oIx (zac 0) (dC (.int 1))) (zaa (dB zgE (zaa (dOp oSub (dOp oIx (zac 0) (dC (.int 2))) (dC (.int 1))) (zaa (dC (.int 0)) zad))) zad))))) sNx)
    (za5 (dB zeJ (zaa (zac 1) (zaa (zac 2) (zaa (dC (.int 2)) zad)))))))))
abbrev zf1 : Fn := fnOf 3 4 zf5
def zcg : DS := (zaq (zaE 3 (zaK zcq "slot_number" (zac 0) (zaa (zac 1) zad)))
    (zdh (zf4 ["Guesses"] "entries" (zac 0)) (zac 3) (zav zf1 (zaa (dOp oIx (zf4 ["Guesses"] "entries" (zac 0)) (zac 3)) (zaa (zac 1) (zaa (zac 2) zad))))))
abbrev za0 : Fn := fnOf 3 4 zcg
def zcr : List (Str × Fn) := [("Guesses", za0)]
def zcQ : DS := (zaq (zaE 3 (dB zcA (zaa (zac 0) zad)))
    (zaq (zaE 4 (dOp zbb (zac 1) (dB zc7 (zaa (zac 0) zad))))
    (zaq (zaE 5 (dOp oIx (zac 0) (zac 4)))
    (zaq (sIf (tOr (dT (dOp oIs (zac 5) (dC .non))) (dT (dOp oNe (dOp oIx (zac 5) (dC (.int 0))) (zac 1)))) (sIf (dT (dOp oNe (zac 2) (dOp zbc (zac 1) (dC (.int 1))))) (zdh (zac 3) (zac 4) (dB zeJ (zaa (zac 1) (zaa (zac 2) (zaa (dC (.int 2)) zad))))) sNx) (sIf (dT (dOp oEq (dOp oIx (zac 5) (dC (.int 1))) (zac 2))) (zdh (zac 3) (zac 4) (dB zeJ (zaa (zac 1) (zaa (zac 2) (zaa (dOp oIx (dB zbs (zaa (dC (.int 1)) (zaa (dC (.int 2)) (zaa (dC (.int 3)) (zaa (dC (.int 3)) zad))))) (dOp oIx (zac 5) (dC (.int 2)))) zad))))) (sIf (dT (dOp oEq (zac 2) (dOp zbc (zac 1) (dC (.int 1))))) (zdh (zac 3) (zac 4) (dB zeJ (zaa (zac 1) (zaa (dOp oIx (zac 5) (dC (.int 1))) (zaa (dOp oIx (dB zbs (zaa (dC (.int 0)) (zaa (dC (.int 0)) (zaa (dC (.int 1)) (zaa (dC (.int 2)) zad))))) (dOp oIx (zac 5) (dC (.int 2)))) zad))))) (zdh (zac 3) (zac 4) (dB zeJ (zaa (zac 1) (zaa (zac 2) (zaa (dC (.int 2)) zad))))))))
    (za5 (zac 3))))))
abbrev zbg : Fn := fnOf 3 6 zcQ
def zdk : DS := (zaq (zaE 2 (dOp oIx (zac 0) (dOp zbb (zac 1) (dB zc7 (zaa (zac 0) zad)))))
    (zaq (sIf (tOr (dT (dOp oIs (zac 2) (dC .non))) (tOr (dT (dOp oNe (dOp oIx (zac 2) (dC (.int 0))) (zac 1))) (dT (dOp oLt (dOp oIx (zac 2) (dC (.int 2))) (dC (.int 2)))))) (za5 (dOp zbc (zac 1) (dC (.int 1)))) sNx)
    (za5 (dOp oIx (zac 2) (dC (.int 1))))))
abbrev zby : Fn := fnOf 2 3 zdk
def zch : DS := (zaq (zaE 2 (dOp oIx (zf4 ["Guesses"] "entries" (zac 0)) (zaK zcq "slot_number" (zac 0) (zaa (zac 1) zad))))
    (zaq (sIf (zfP (dT (dOp zcH (zac 2) (dC .non))) (zfP (dT (dOp oEq (dOp oIx (zac 2) (dC (.int 0))) (zac 1))) (dT (dOp oGe (dOp oIx (zac 2) (dC (.int 2))) (dC (.int 2)))))) (za5 (dOp oIx (zac 2) (dC (.int 1)))) sNx)
    (za5 (dOp zbc (zac 1) (dC (.int 1))))))
abbrev zbB : Fn := fnOf 2 3 zch
def zdZ : List (Str × Fn) := [("Guesses", zbB)]
def zdM : DS := (zaq (zaE 2 (zaK zaW "slots" (zac 0) zad))
    (zaq (sIf (tOr (zem (dT (dB (zdT zeL) (zaa (zac 2) (zaa (dC (.ty "tuple")) zad))))) (dT (dOp oNe (dB zcA (zaa (zac 2) zad)) (zac 1)))) (za5 (dC (.bl false))) sNx)
    (zaq (zgJ (zgR (zac 2)) (zck 3) (zaq (sIf (zfP (dT (dOp zcH (zac 3) (dC .non))) (zem (dT (dB (zdT zeL) (zaa (zac 3) (zaa (dC (.ty "tuple")) zad)))))) (za5 (dC (.bl false))) sNx)
    (sIf (zfP (dT (dOp zcH (zac 3) (dC .non))) (dT (dOp oNe (ze8 (zgR (zac 3)) 1 [] (zck 0) (dT (dB (zdT zeL) (zaa (zac 0) (zaa (dC (.ty "bool")) zad)))) (zac 0)) (dB zbs zad)))) (za5 (dC (.bl false))) sNx)))
    (za5 (dC (.bl true))))))
abbrev zbT : Fn := fnOf 2 4 zdM
def zlt : DS := (zaq (zaE 1 (dB zbs (zaa (dC (.int 0)) (zaa (dC (.int 17)) (zaa (dUn ziJ (dC (.int 1))) (zaa (dC (.bl true)) (zaa (dC (.bl false)) (zaa (dC .non) (zaa (dC (.str "8")) (zaa (dOp oPow (dC (.int 10)) (dC (.int 20))) (zaa (dUn ziJ (dOp oPow (dC (.int 10)) (dC (.int 20)))) (zaa (dB zeJ (zaa (dC (.int 8)) zad)) (zaa (dB zbs (zaa (dC (.int 8)) zad)) (zaa (dC (.int 16)) (zaa (dC (.int 1)) zad)))))))))))))))
    (zaq (zaE 2 (dOp oIx (zac 1) (dOp zbb (zav zaB (zaa (zac 0) (zaa (dC (.int 0)) zad))) (dC (.int 13)))))
    (zaq (zaE 3 (ziW (dB (zdT zeL) (zaa (zac 2) (zaa (dC (.ty "int")) zad))) (ziW (dNot (dB (zdT zeL) (zaa (zac 2) (zaa (dC (.ty "bool")) zad)))) (ze9 oLe oLe (dC (.int 1)) (zac 2) (dC (.int 16))))))
    (zaq (sIf (dT (dOp oNe (zav zap (zaa (zac 2) zad)) (dOp oIx (dB zbs (zaa (dC (.str "no")) (zaa (zac 2) zad))) (dB zev (zaa (zac 3) zad))))) (za5 (dC (.bl false))) sNx)
    (zaq (zaE 4 (dOp zbc (dC (.int 1)) (dOp zbb (zav zaB (zaa (zac 0) (zaa (dC (.int 1)) zad))) (dC (.int 16)))))
    (zaq (zaE 5 (dB zbs (zaa (zeI "Guesses" zan [] (zaa (zac 4) zad)) (zaa (zeI "Guesses" zan [] (zaa (dOp zbc (dC (.int 1)) (dOp zbb (zav zaB (zaa (zac 0) (zaa (dC (.int 2)) zad))) (dC (.int 16)))) zad)) zad))))
    (zaq (zaE 6 (dB zbs (zaa (dOp zcE (dB zbs (zaa (dC .non) zad)) (zac 4)) (zaa (dOp zcE (dB zbs (zaa (dC .non) zad)) (dB zc7 (zaa (zaK zaW "slots" (dOp oIx (zac 5) (dC (.int 1))) zad) zad))) zad))))
    (zaq (zgJ (zdi (dC (.int 24))) (zck 7) (zaq (zaE 8 (zav zaB (zaa (zac 0) (zaa (dOp zbc (dC (.int 10)) (zac 7)) zad))))
    (zaq (zaE 9 (dOp zbb (zac 8) (dC (.int 2))))
    (zaq (zaE 10 (zav zbA (zaa (dOp zcU (zac 8) (dC (.int 2))) zad)))
    (zaq (zaE 11 (zav zbU (zaa (dOp zcU (zac 8) (dC (.int 64))) (zaa (zac 10) zad))))
    (zaq (sIf (dT (dOp oEq (dOp zbb (dOp zcU (zac 8) (dC (.int 16))) (dC (.int 8))) (dC (.int 1)))) (zaq (zaE 12 (zaK zaW "slots" (dOp oIx (zac 5) (zac 9)) zad))
    (zaq (zaE 1 (dB zbs (zaa (zac 12) (zaa (dB zcA (zaa (zac 12) zad)) (zaa (ze8 (zgR (zac 12)) 1 [] (zck 0) zfO (dOp oIx (dB zbs (zaa (zac 0) (zaa (dB zcA (zaa (dOrT (zac 0) (dB zeJ zad)) zad)) zad))) (dB zev (zaa (dOp zcH (zac 0) (dC .non)) zad)))) zad)))))
    (zaq (zaE 13 (dOp oIx (zac 1) (dOp zbb (dOp zcU (zac 8) (dC (.int 128))) (dC (.int 3)))))
    (zaq (zaE 14 (dB zcA (zaa (zac 13) zad)))
    (zaq (zdh (zac 5) (zac 9) (zav zaS (zaa (zac 13) zad)))
    (zaq (zd4 (zaK zcr "learn" (dOp oIx (zac 5) (zac 9)) (zaa (zac 10) (zaa (dOp zbc (zac 11) (dC (.int 9))) zad))))
    (zaq (sIf (dT (dOp oNe (dB zcA (zaa (zac 13) zad)) (zac 14))) (za5 (dC (.bl false))) sNx)
    (zaq (zdh (zac 5) (zac 9) (zav zaS (zaa (zac 13) zad)))
    (sIf (dT (dOp oNe (zaK zaW "slots" (dOp oIx (zac 5) (zac 9)) zad) (zac 12))) (za5 (dC (.bl false))) sNx))))))))) sNx)
    (zaq (sIf (dT (dOp oEq (dOp zbb (dOp zcU (zac 8) (dC (.int 16))) (dC (.int 8))) (dC (.int 2)))) (zaq (zaE 15 (zav zaS (zaa (zaK zaW "slots" (dOp oIx (zac 5) (zac 9)) zad) zad)))
    (zd4 (zaK zcr "learn" (zac 15) (zaa (zac 10) (zaa (dOp zbc (zac 11) (dC (.int 5))) zad))))) sNx)
    (zaq (zd4 (zaK zcr "learn" (dOp oIx (zac 5) (zac 9)) (zaa (zac 10) (zaa (zac 11) zad))))
    (zaq (zdh (zac 6) (zac 9) (zav zbg (zaa (dOp oIx (zac 6) (zac 9)) (zaa (zac 10) (zaa (zac 11) zad)))))
    (zgJ (zdi (dC (.int 2))) (zck 16) (zaq (zaE 17 (zav zby (zaa (dOp oIx (zac 6) (zac 16)) (zaa (zac 10) zad))))
    (sIf (tOr (zem (dT (zav zbT (zaa (dOp oIx (zac 5) (zac 16)) (zaa (dOp oIx (zac 6) (zac 16)) zad))))) (dT (dOp oNe (zaK zdZ "guess" (dOp oIx (zac 5) (zac 16)) (zaa (zac 10) zad)) (zac 17)))) (za5 (dC (.bl false))) sNx))))))))))))
    (za5 (dC (.bl true)))))))))))
abbrev zlj : Fn := fnOf 1 18 zlt
end K54
namespace K54
open HL
open PySem (Str)
def zdK : PS := (za6 (zcF 2 (pOp zeH (pOp zfT (pC (.int 7919)) (zaj 1)) (pC (.int 11))))
    (za6 (zdx (pT (pOp (qEq true) (zaj 0) (pL (pO zeQ zaX)))) (za6 (zcF 2 (pOp zeH (pOp zfT (pOp qIx (zaj 0) (pOp zd6 (zaj 1) (pB zge (zah (zaj 0) zaX)))) (pC (.int 48271))) (pOp zfT (pC (.int 104729)) (zaj 1))))
    (zcF 2 (pOp zeH (zaj 2) (pOp zfT (pOp zgL (zaj 1) (pB zge (zah (zaj 0) zaX))) (pC (.int 7919)))))) zfU)
    (za6 (zcF 3 (pOp zd6 (zaj 2) (pC (.int 2147483647))))
    (za6 (zcF 3 (pOp zd6 (pOp zfT (zaj 3) (zaj 3)) (pC (.int 2147483629))))
    (zbt (pOp zd6 (pOp zeH (pOp zeH (pOp zfT (zaj 3) (zaj 3)) (pOp zfT (pC (.int 69621)) (zaj 3))) (zaj 1)) (pC (.int 2147483587))))))))
def zbQ : PF := zeq 2 4 zdK
theorem zfe : Pf zaB zbQ := zhz (show Ps zcX zdK from (zbN (zeA 2 (zao zdc ((zao zfB ((zal _)).b ((zae 1)).b)).b ((zal _)).b))
    (zbN (zfS (t_e ((zao zjS ((zae 0)).b ((e_l (zfz zbq))).b)).b) (zbN (zeA 2 (zao zdc ((zao zfB ((zao zcI ((zae 0)).b ((zao zb0 ((zae 1)).b ((e_b zh9 (zaM ((zae 0)).b zbp))).b)).b)).b ((zal _)).b)).b ((zao zfB ((zal _)).b ((zae 1)).b)).b))
    (zeA 2 (zao zdc ((zae 2)).b ((zao zfB ((zao zea ((zae 1)).b ((e_b zh9 (zaM ((zae 0)).b zbp))).b)).b ((zal _)).b)).b))) zg9)
    (zbN (zeA 3 (zao zb0 ((zae 2)).b ((zal _)).b))
    (zbN (zeA 3 (zao zb0 ((zao zfB ((zae 3)).b ((zae 3)).b)).b ((zal _)).b))
    (zcj (zao zb0 ((zao zdc ((zao zdc ((zao zfB ((zae 3)).b ((zae 3)).b)).b ((zao zfB ((zal _)).b ((zae 3)).b)).b)).b ((zae 1)).b)).b ((zal _)).b)))))))
def zc5 : PS := (za6 (zcF 1 (pOp qIx (pL (pO zeQ (zah (pOp zd6 (pOp zgL (zaj 0) (pC (.int 4))) (pC (.int 1024))) (zah (pOp qSub (pC (.int 65536)) (pOp zd6 (pOp zgL (zaj 0) (pC (.int 4))) (pC (.int 3)))) zaX)))) (pOp zd6 (pOp zgL (zaj 0) (pC (.int 4096))) (pC (.int 2)))))
    (zbt (pOp qIx (pL (pO zeQ (zah (pOp zd6 (pOp zgL (zaj 0) (pC (.int 4))) (pC (.int 4))) (zah (pOp zd6 (pOp zgL (zaj 0) (pC (.int 4))) (pC (.int 70))) (zah (zaj 1) (zah (pOp zfT (pOp zd6 (pOp zgL (zaj 0) (pC (.int 4))) (pC (.int 3))) (pC (.int 16))) zaX)))))) (pOp zd6 (zaj 0) (pC (.int 4))))))
def zc4 : PF := zeq 1 2 zc5
theorem zgS : Pf zbA zc4 := zhz (show Ps zce zc5 from (zbN (zeA 1 (zao zcI ((e_l (zfz (zam (zao zb0 ((zao zea ((zae 0)).b ((zal _)).b)).b ((zal _)).b) (zam (zao d_sub ((zal _)).b ((zao zb0 ((zao zea ((zae 0)).b ((zal _)).b)).b ((zal _)).b)).b) zbq))))).b ((zao zb0 ((zao zea ((zae 0)).b ((zal _)).b)).b ((zal _)).b)).b))
    (zcj (zao zcI ((e_l (zfz (zam (zao zb0 ((zao zea ((zae 0)).b ((zal _)).b)).b ((zal _)).b) (zam (zao zb0 ((zao zea ((zae 0)).b ((zal _)).b)).b ((zal _)).b) (zam (zae 1) (zam (zao zfB ((zao zb0 ((zao zea ((zae 0)).b ((zal _)).b)).b ((zal _)).b)).b ((zal _)).b) zbq))))))).b ((zao zb0 ((zae 0)).b ((zal _)).b)).b))))
def zdr : PS := (zbt (pOp qIx (pL (pO zeQ (zah (pOp zeH (zaj 1) (pC (.int 1))) (zah (pOp zeH (zaj 1) (pC (.int 1))) (zah (pOp zd6 (pOp zgL (zaj 0) (pC (.int 4))) (pC (.int 3))) (zah (pOp zd6 (pOp zgL (zaj 0) (pC (.int 4))) (pC (.int 1024))) zaX)))))) (pOp zd6 (zaj 0) (pC (.int 4)))))
def zdn : PF := zeq 2 2 zdr
theorem zhI : Pf zbU zdn := zhz (show Ps zcz zdr from (zcj (zao zcI ((e_l (zfz (zam (zao zdc ((zae 1)).b ((zal _)).b) (zam (zao zdc ((zae 1)).b ((zal _)).b) (zam (zao zb0 ((zao zea ((zae 0)).b ((zal _)).b)).b ((zal _)).b) (zam (zao zb0 ((zao zea ((zae 0)).b ((zal _)).b)).b ((zal _)).b) zbq))))))).b ((zao zb0 ((zae 0)).b ((zal _)).b)).b)))
def zhD : PS := (za6 (zcF 3 (pOp (qEq false) (zaj 2) (pOp zeH (zaj 1) (pC (.int 1)))))
    (za6 (zdx (zgf (pT (pOp (qIs false) (zaj 0) (pC .non))) (pT (pOp (qEq true) (pOp qIx (zaj 0) (pC (.int 0))) (zaj 1)))) (zbt (pIf (pT (zaj 3)) (zaj 0) (pB zft (zah (zaj 1) (zah (zaj 2) (zah (pC (.int 2)) zaX)))))) zfU)
    (za6 (zdx (pT (pOp (qEq false) (zaj 2) (pOp qIx (zaj 0) (pC (.int 1))))) (zbt (pB zft (zah (zaj 1) (zah (zaj 2) (zah (pB qMin2 (zah (pOp zeH (pOp qIx (zaj 0) (pC (.int 2))) (pC (.int 1))) (zah (pC (.int 3)) zaX))) zaX))))) zfU)
    (za6 (zdx (pT (zaj 3)) (zbt (pB zft (zah (zaj 1) (zah (pOp qIx (zaj 0) (pC (.int 1))) (zah (pB qMax2 (zah (pOp qSub (pOp qIx (zaj 0) (pC (.int 2))) (pC (.int 1))) (zah (pC (.int 0)) zaX))) zaX))))) zfU)
    (zbt (pB zft (zah (zaj 1) (zah (zaj 2) (zah (pC (.int 2)) zaX)))))))))
def zjB : PF := zeq 3 4 zhD
theorem zm4 : Pf zf1 zjB := zhz (show Ps zf5 zhD from (zbN (zeA 3 (zao d_eq ((zae 2)).b ((zao zdc ((zae 1)).b ((zal _)).b)).b))
    (zbN (zfS (t_or (t_e ((zao d_is ((zae 0)).b (zeX).b)).b) (t_e ((zao zjS ((zao zcI ((zae 0)).b ((zal _)).b)).b ((zae 1)).b)).b)) (zcj (e_if (t_e ((zae 3)).b) (zae 0) (zf2 (zam (zae 1) (zam (zae 2) (zam (zal _) zbq)))))) zg9)
    (zbN (zfS (t_e ((zao d_eq ((zae 2)).b ((zao zcI ((zae 0)).b ((zal _)).b)).b)).b) (zcj (zf2 (zam (zae 1) (zam (zae 2) (zam (e_b d_min2 (zaM ((zao zdc ((zao zcI ((zae 0)).b ((zal _)).b)).b ((zal _)).b)).b (zaM ((zal _)).b zbp))) zbq))))) zg9)
    (zbN (zfS (t_e ((zae 3)).b) (zcj (zf2 (zam (zae 1) (zam (zao zcI ((zae 0)).b ((zal _)).b) (zam (e_b d_max2 (zaM ((zao d_sub ((zao zcI ((zae 0)).b ((zal _)).b)).b ((zal _)).b)).b (zaM ((zal _)).b zbp))) zbq))))) zg9)
    (zcj (zf2 (zam (zae 1) (zam (zae 2) (zam (zal _) zbq))))))))))
def zfA : PS := (za6 (zdx (pT (pOp (qIs false) (zaj 0) (pC .non))) (zbt (pC .non)) zfU)
    (zbt (pB ziv (zah (zaj 0) zaX))))
def za4 : PF := zeq 1 1 zfA
theorem zhU : Pf zb6 za4 := zhz (show Ps zcP zfA from (zbN (zfS (t_e ((zao d_is ((zae 0)).b (zeX).b)).b) (zcj zeX) zg9)
    (zcj (e_b zlo (zaM ((zae 0)).b zbp)))))
def zbH : PS := (zbt (pOp zd6 (zaj 1) (pB zge (zah (pFld ["Guesses"] "entries" (zaj 0)) zaX))))
def za8 : PF := zeq 2 2 zbH
theorem zeK : Pf zaC za8 := zhz (show Ps za9 zbH from (zcj (zao zb0 ((zae 1)).b ((e_b zh9 (zaM ((e_fld (zae 0))).b zbp))).b)))
def zeS : List (Str × PF) := [("Guesses", za8)]
theorem zgG : TbD zcq zeS := (TbD.cons zeK TbD.nil)
def zc6 : PS := (za6 (zcF 2 (pOp qIx (pFld ["Guesses"] "entries" (zaj 0)) (zk5 zeS "slot_number" (zaj 0) (zah (zaj 1) zaX))))
    (za6 (zdx (zeC (pT (pOp (qIs true) (zaj 2) (pC .non))) (zeC (pT (pOp (qEq false) (pOp qIx (zaj 2) (pC (.int 0))) (zaj 1))) (pT (pOp qGe (pOp qIx (zaj 2) (pC (.int 2))) (pC (.int 2)))))) (zbt (pOp qIx (zaj 2) (pC (.int 1)))) zfU)
    (zbt (pOp zeH (zaj 1) (pC (.int 1))))))
def zeE : PF := zeq 2 3 zc6
theorem zgU : Pf zbB zeE := zhz (show Ps zch zc6 from (zbN (zeA 2 (zao zcI ((e_fld (zae 0))).b ((zmR zgG (zae 0) (zam (zae 1) zbq))).b))
    (zbN (zfS (zky (t_e ((zao zg4 ((zae 2)).b (zeX).b)).b) (zky (t_e ((zao d_eq ((zao zcI ((zae 2)).b ((zal _)).b)).b ((zae 1)).b)).b) (t_e ((zao d_ge ((zao zcI ((zae 2)).b ((zal _)).b)).b ((zal _)).b)).b))) (zcj (zao zcI ((zae 2)).b ((zal _)).b)) zg9)
    (zcj (zao zdc ((zae 1)).b ((zal _)).b)))))
def zeF : PS := (zbt (pB ziv (zah (pFld ["Guesses"] "entries" (zaj 0)) zaX)))
def zeD : PF := zeq 1 1 zeF
theorem zgT : Pf zaL zeD := zhz (show Ps zcf zeF from (zcj (e_b zlo (zaM ((e_fld (zae 0))).b zbp))))
def zjw : List (Str × PF) := [("Guesses", zeD)]
theorem zlA : TbD zaW zjw := (TbD.cons zgT TbD.nil)
def zeu : PS := (za6 (zcF 2 (pOp qIx (zaj 0) (pOp zd6 (zaj 1) (pB zge (zah (zaj 0) zaX)))))
    (za6 (zdx (zgf (pT (pOp (qIs false) (zaj 2) (pC .non))) (zgf (pT (pOp (qEq true) (pOp qIx (zaj 2) (pC (.int 0))) (zaj 1))) (pT (pOp qLt (pOp qIx (zaj 2) (pC (.int 2))) (pC (.int 2)))))) (zbt (pOp zeH (zaj 1) (pC (.int 1)))) zfU)
    (zbt (pOp qIx (zaj 2) (pC (.int 1))))))
def zfV : PF := zeq 2 3 zeu
theorem zi4 : Pf zby zfV := zhz (show Ps zdk zeu from (zbN (zeA 2 (zao zcI ((zae 0)).b ((zao zb0 ((zae 1)).b ((e_b zh9 (zaM ((zae 0)).b zbp))).b)).b))
    (zbN (zfS (t_or (t_e ((zao d_is ((zae 2)).b (zeX).b)).b) (t_or (t_e ((zao zjS ((zao zcI ((zae 2)).b ((zal _)).b)).b ((zae 1)).b)).b) (t_e ((zao d_lt ((zao zcI ((zae 2)).b ((zal _)).b)).b ((zal _)).b)).b))) (zcj (zao zdc ((zae 1)).b ((zal _)).b)) zg9)
    (zcj (zao zcI ((zae 2)).b ((zal _)).b)))))
def zcO : PS := (za6 (zjy 3 (pO oList (zah (zaj 0) zaX)))
    (za6 (zcF 4 (pOp zd6 (zaj 1) (pB zge (zah (zaj 0) zaX))))
    (za6 (zcF 5 (pOp qIx (zaj 0) (zaj 4)))
    (za6 (zdx (zgf (pT (pOp (qIs false) (zaj 5) (pC .non))) (pT (pOp (qEq true) (pOp qIx (zaj 5) (pC (.int 0))) (zaj 1)))) (zdx (pT (pOp (qEq true) (zaj 2) (pOp zeH (zaj 1) (pC (.int 1))))) (zeT 3 (zaj 4) (pB zft (zah (zaj 1) (zah (zaj 2) (zah (pC (.int 2)) zaX))))) zfU) (zdx (pT (pOp (qEq false) (pOp qIx (zaj 5) (pC (.int 1))) (zaj 2))) (zeT 3 (zaj 4) (pB zft (zah (zaj 1) (zah (zaj 2) (zah (pOp qIx (pL (pO zeQ (zah (pC (.int 1)) (zah (pC (.int 2)) (zah (pC (.int 3)) (zah (pC (.int 3)) zaX)))))) (pOp qIx (zaj 5) (pC (.int 2)))) zaX))))) (zdx (pT (pOp (qEq false) (zaj 2) (pOp zeH (zaj 1) (pC (.int 1))))) (zeT 3 (zaj 4) (pB zft (zah (zaj 1) (zah (pOp qIx (zaj 5) (pC (.int 1))) (zah (pOp qIx (pL (pO zeQ (zah (pC (.int 0)) (zah (pC (.int 0)) (zah (pC (.int 1)) (zah (pC (.int 2)) zaX)))))) (pOp qIx (zaj 5) (pC (.int 2)))) zaX))))) (zeT 3 (zaj 4) (pB zft (zah (zaj 1) (zah (zaj 2) (zah (pC (.int 2)) zaX))))))))
    (zhl 3)))))
def zfw : PF := zeq 3 6 zcO
theorem zhV : Pf zbg zfw := zhz (show Ps zcQ zcO from (zbN (s_own 3 (o_list (zaM ((zae 0)).b zbp)))
    (zbN (zeA 4 (zao zb0 ((zae 1)).b ((e_b zh9 (zaM ((zae 0)).b zbp))).b))
    (zbN (zeA 5 (zao zcI ((zae 0)).b ((zae 4)).b))
    (zbN (zfS (t_or (t_e ((zao d_is ((zae 5)).b (zeX).b)).b) (t_e ((zao zjS ((zao zcI ((zae 5)).b ((zal _)).b)).b ((zae 1)).b)).b)) (zfS (t_e ((zao zjS ((zae 2)).b ((zao zdc ((zae 1)).b ((zal _)).b)).b)).b) (zkC (zae 4) (zf2 (zam (zae 1) (zam (zae 2) (zam (zal _) zbq))))) zg9) (zfS (t_e ((zao d_eq ((zao zcI ((zae 5)).b ((zal _)).b)).b ((zae 2)).b)).b) (zkC (zae 4) (zf2 (zam (zae 1) (zam (zae 2) (zam (zao zcI ((e_l (zfz (zam (zal _) (zam (zal _) (zam (zal _) (zam (zal _) zbq))))))).b ((zao zcI ((zae 5)).b ((zal _)).b)).b) zbq))))) (zfS (t_e ((zao d_eq ((zae 2)).b ((zao zdc ((zae 1)).b ((zal _)).b)).b)).b) (zkC (zae 4) (zf2 (zam (zae 1) (zam (zao zcI ((zae 5)).b ((zal _)).b) (zam (zao zcI ((e_l (zfz (zam (zal _) (zam (zal _) (zam (zal _) (zam (zal _) zbq))))))).b ((zao zcI ((zae 5)).b ((zal _)).b)).b) zbq))))) (zkC (zae 4) (zf2 (zam (zae 1) (zam (zae 2) (zam (zal _) zbq))))))))
    (s_retV 3))))))
def zcy : PS := (za6 (zdx (zeC (pT (pOp (qIs true) (zaj 3) (pC .non))) (zhk (pT (pB (qIsi zeL) (zah (zaj 3) (zah (pC (.ty "tuple")) zaX)))))) (zbt (pC (.bl false))) zfU)
    (zdx (zeC (pT (pOp (qIs true) (zaj 3) (pC .non))) (pT (pOp (qEq true) (pL (zfx (zgx (zaj 3)) 1 [] (zcw 0) (pT (pB (qIsi zeL) (zah (zaj 0) (zah (pC (.ty "bool")) zaX)))) (zaj 0))) (pL (pO zeQ zaX))))) (zbt (pC (.bl false))) zfU))
def ze7 : PS := (za6 (zcF 2 (zk5 zjw "slots" (zaj 0) zaX))
    (za6 (zdx (zgf (zhk (pT (pB (qIsi zeL) (zah (zaj 2) (zah (pC (.ty "tuple")) zaX))))) (pT (pOp (qEq true) (pB zh0 (zah (zaj 2) zaX)) (zaj 1)))) (zbt (pC (.bl false))) zfU)
    (za6 (zhm (zgx (zaj 2)) (zcw 3) zcy)
    (zbt (pC (.bl true))))))
def zgy : PF := zeq 2 4 ze7
theorem zjY : Pf zbT zgy := zhz (show Ps zdM ze7 from (zbN (zeA 2 (zmR zlA (zae 0) zbq))
    (zbN (zfS (t_or (t_not (t_e ((e_b d_isi (zaM ((zae 2)).b (zaM ((e_ty _)).b zbp)))).b)) (t_e ((zao zjS ((e_b zhC (zaM ((zae 2)).b zbp))).b ((zae 1)).b)).b)) (zcj (e_bl _)) zg9)
    (zbN (s_for (zld (zae 2)) (zhy 3) (zbN (zfS (zky (t_e ((zao zg4 ((zae 3)).b (zeX).b)).b) (t_not (t_e ((e_b d_isi (zaM ((zae 3)).b (zaM ((e_ty _)).b zbp)))).b))) (zcj (e_bl _)) zg9)
    (zfS (zky (t_e ((zao zg4 ((zae 3)).b (zeX).b)).b) (t_e ((zao zjS ((e_l (ziI (zld (zae 3)) (zhy 0) (t_e ((e_b d_isi (zaM ((zae 0)).b (zaM ((e_ty _)).b zbp)))).b) (zae 0)))).b ((e_l (zfz zbq))).b)).b)) (zcj (e_bl _)) zg9)))
    (zcj (e_bl _))))))
end K54
namespace K54
open PySem L2
seal PS PE PA PSs PT PI PG PW PO
def top (i : Nat) : Stmt := PySem.Challenge.pw_rowmill_k54_sizes_and_slots.main.body.getD i (.Pass ⟨0, 0, 0, 0⟩)
abbrev zdE : Stmt := top 30
theorem zbY : zaH ["_law_script", "_law_k", "_law_cell_here", "_law_more"] ["_law_script", "_law_k"] (zai zdE) := ⟨rfl, rfl, rfl, by decide +kernel, rfl, by decide +kernel, by decide +kernel⟩
abbrev zdB : Stmt := top 19
theorem zim : zaH ["thing"] ["thing"] (zai zdB) := ⟨rfl, rfl, rfl, by decide +kernel, rfl, by decide +kernel, by decide +kernel⟩
abbrev zdA : Stmt := top 20
theorem zil : zaH ["thing", "low", "high"] ["thing", "low", "high"] (zai zdA) := ⟨rfl, rfl, rfl, by decide +kernel, rfl, by decide +kernel, by decide +kernel⟩
abbrev zbO : Stmt := zf0 (top 26) 0
theorem zez : zaH ["self", "size"] ["self", "size"] (zai zbO) := ⟨rfl, rfl, rfl, by decide +kernel, rfl, by decide +kernel, by decide +kernel⟩
abbrev zcb : Stmt := zf0 (top 26) 4
theorem zf8 : zaH ["self"] ["self"] (zai zcb) := ⟨rfl, rfl, rfl, by decide +kernel, rfl, by decide +kernel, by decide +kernel⟩
abbrev zdC : Stmt := top 36
theorem zde : zaH ["_law_size", "e", "_law_others", "_law_more"] ["_law_size"] (zai zdC) := ⟨rfl, rfl, rfl, by decide +kernel, rfl, by decide +kernel, by decide +kernel⟩
abbrev zca : Stmt := top 33
theorem zd1 : zaH ["_law_cell_here", "_law_far"] ["_law_cell_here"] (zai zca) := ⟨rfl, rfl, rfl, by decide +kernel, rfl, by decide +kernel, by decide +kernel⟩
abbrev zcu : Stmt := top 34
theorem zgI : zaH ["_law_cell_here", "_law_place"] ["_law_cell_here", "_law_place"] (zai zcu) := ⟨rfl, rfl, rfl, by decide +kernel, rfl, by decide +kernel, by decide +kernel⟩
abbrev zcM : Stmt := top 27
theorem zg8 : zaH ["slot"] ["slot"] (zai zcM) := ⟨rfl, rfl, rfl, by decide +kernel, rfl, by decide +kernel, by decide +kernel⟩
abbrev zdf : Stmt := top 28
theorem zfu : zaH ["slots", "guesses"] ["slots"] (zai zdf) := ⟨rfl, rfl, rfl, by decide +kernel, rfl, by decide +kernel, by decide +kernel⟩
abbrev za7 : Stmt := zf0 (top 26) 1
theorem zeo : zaH ["self", "place"] ["self", "place"] (zai za7) := ⟨rfl, rfl, rfl, by decide +kernel, rfl, by decide +kernel, by decide +kernel⟩
abbrev zfR : Stmt := top 25
theorem zhY : zaH ["slot", "place", "goal", "behind"] ["slot", "place", "goal"] (zai zfR) := ⟨rfl, rfl, rfl, by decide +kernel, rfl, by decide +kernel, by decide +kernel⟩
abbrev zcc : Stmt := zf0 (top 26) 3
theorem zd2 : zaH ["self", "place", "goal", "number"] ["self", "place", "goal"] (zai zcc) := ⟨rfl, rfl, rfl, by decide +kernel, rfl, by decide +kernel, by decide +kernel⟩
abbrev zcN : Stmt := top 32
theorem zct : zaH ["_law_slots", "_law_place", "_law_goal", "_law_found", "_law_at", "_law_slot"] ["_law_slots", "_law_place", "_law_goal"] (zai zcN) := ⟨rfl, rfl, rfl, by decide +kernel, rfl, by decide +kernel, by decide +kernel⟩
abbrev zdg : Stmt := top 31
theorem zfv : zaH ["_law_slots", "_law_place", "_law_slot"] ["_law_slots", "_law_place"] (zai zdg) := ⟨rfl, rfl, rfl, by decide +kernel, rfl, by decide +kernel, by decide +kernel⟩
abbrev zcd : Stmt := zf0 (top 26) 2
theorem zd3 : zaH ["self", "place", "slot"] ["self", "place"] (zai zcd) := ⟨rfl, rfl, rfl, by decide +kernel, rfl, by decide +kernel, by decide +kernel⟩
abbrev zdD : Stmt := top 35
theorem zen : zaH ["_law_guesses", "_law_slots", "_law_found", "_law_slot"] ["_law_guesses", "_law_slots"] (zai zdD) := ⟨rfl, rfl, rfl, by decide +kernel, rfl, by decide +kernel, by decide +kernel⟩
abbrev zkD : Stmt := top 37
theorem zbv : zaH ["_law_script", "_law_some", "_law_odd", "_law_good", "_law_size", "_law_guesses", "_law_slots", "_law_k", "_law_more", "_law_at", "_law_place", "_law_goal", "_law_told", "_law_handed", "_law_before", "_law_beside", "_law_one", "_law_due"] ["_law_script"] (zai zkD) := ⟨rfl, rfl, rfl, by decide +kernel, rfl, by decide +kernel, by decide +kernel⟩
structure Txt (w : World) (K : PySem.W.Frag) (γ : Str → Addr) (mg : Str → Option Value) : Prop where
  zcp : mg "ValueError" = none
  zfC : mg "bool" = none
  zfN : mg "int" = none
  zaz : mg "isinstance" = none
  zdX : mg "len" = none
  zdO : mg "list" = none
  zi8 : mg "max" = none
  zi7 : mg "min" = none
  zel : mg "range" = none
  zdz : mg "tuple" = none
  isi : zgF K γ zeL
  zay : Cls K (γ "Guesses")
  zbx : MkC K mg "Guesses" (γ "Guesses")
  zmI : mg "BadRow" = some (.ref (γ "BadRow"))
  zjG : mg "MillError" = some (.ref (γ "MillError"))
  zmH : mg "NoCall" = some (.ref (γ "NoCall"))
  zke : mg "NoInputs" = some (.ref (γ "NoInputs"))
  zmG : mg "NoLine" = some (.ref (γ "NoLine"))
  m_NoLog : mg "NoLog" = some (.ref (γ "NoLog"))
  zkd : mg "NoMemory" = some (.ref (γ "NoMemory"))
  zmF : mg "NoMill" = some (.ref (γ "NoMill"))
  zmE : mg "NoName" = some (.ref (γ "NoName"))
  zlO : mg "NoPlace" = some (.ref (γ "NoPlace"))
  zjF : mg "NoProgram" = some (.ref (γ "NoProgram"))
  zmD : mg "NoSets" = some (.ref (γ "NoSets"))
  zmC : mg "NoSize" = some (.ref (γ "NoSize"))
  zmB : mg "NoStep" = some (.ref (γ "NoStep"))
  zmA : mg "NoText" = some (.ref (γ "NoText"))
  zmz : mg "NoWord" = some (.ref (γ "NoWord"))
  m_Shut : mg "Shut" = some (.ref (γ "Shut"))
  zbR : FldOk K γ ["Guesses"] "entries"
  zbZ : ∃ u, mg "LEAST_SURE" = some u ∧ zaV (.int 0) u
  zcm : ∃ u, mg "MOST_SURE" = some u ∧ zaV (.int 3) u
  zbh : ∃ u, mg "NEW_SURE" = some u ∧ zaV (.int 2) u
  zhR : ∀ c, List.contains (["NoSize"] : List Str) c = true → PySem.W.exmOne K (.ref (γ c)) (.ref (γ "MillError")) = some true
  zdY : Exc0 K mg "NoSize" (γ "NoSize")
section
variable {P : Program} {w : World} {K : PySem.W.Frag} {mg : Str → Option Value} {base : Heap} {γ : Str → Addr}
theorem ziH (T : Txt w K γ mg)  (F : zaG K mg "_law_cell" zdE) : Def P w K mg base 1 "_law_cell" ["_law_script", "_law_k"] (spF K γ 2 zaB) := by
  refine F.qdef (k := 0) zbY rfl rfl (fun _ _ _ _ _ _ us hl => match us, hl with | [_, _], _ => rfl) (bd := zcX) fun f cdv A outer s H E hr => ?_
  unfold zcX
  exact (zak (sset 2 zbY.nd (zcG (zdS zag (v 1)) zag))
    (zak (zbP (zcs (zbF hr) (v 0) (zcS zaf)) (zak (sset 2 zbY.nd (zcG (zdS (ix (v 0) (zbL (v 1) (zgC rfl T.zdX (zab (v 0) zaf)))) zag) (zdS zag (v 1))))
    (zas (sset 2 zbY.nd (zcG (v 2) (zdS (zaT (v 1) (zgC rfl T.zdX (zab (v 0) zaf))) zag))))) zbl)
    (zak (sset 3 zbY.nd (zbL (v 2) zag))
    (zak (sset 3 zbY.nd (zbL (zdS (v 3) (v 3)) zag))
    (zas (zaO (zbL (zcG (zcG (zdS (v 3) (v 3)) (zdS zag (v 3))) (v 1)) zag)))))))
theorem ziE (T : Txt w K γ mg)  (F : zaG K mg "is_number" zdB) : Def P w K mg base 1 "is_number" ["thing"] (spF K γ 1 zdJ) := by
  refine F.qdef (k := 0) zim rfl rfl (fun _ _ _ _ _ _ us hl => match us, hl with | [_], _ => rfl) (bd := zfc) fun f cdv A outer s H E hr => ?_
  unfold zfc
  exact (zas (zaO (zkM (zeW T.isi rfl T.zaz (zab (v 0) (zab (zjp rfl T.zfN PyProof.Rows.boot_int) zaf))) (zkK (q_not (zeW T.isi rfl T.zaz (zab (v 0) (zab (zjp rfl T.zfC PyProof.Rows.boot_bool) zaf))))))))
theorem ziD (T : Txt w K γ mg) (zfl : Def P w K mg base 1 "is_number" ["thing"] (spF K γ 1 zdJ)) (F : zaG K mg "is_within" zdA) : Def P w K mg base 2 "is_within" ["thing", "low", "high"] (spF K γ 3 zbS) := by
  refine F.qdef (k := 1) zil rfl rfl (fun _ _ _ _ _ _ us hl => match us, hl with | [_, _, _], _ => rfl) (bd := zdL) fun f cdv A outer s H E hr => ?_
  unfold zdL
  exact (zas (zaO (zkM (zbw zfl (hr.mono (by decide)) (by rfl) (zab (v 0) zaf)) (zkK (zic (v 1) (v 0) (v 2))))))
theorem zgN (T : Txt w K γ mg) (zbV : Def P w K mg base 2 "is_within" ["thing", "low", "high"] (spF K γ 3 zbS)) (F : zb8 K (γ "Guesses") "__init__" "Guesses.__init__" zbO ["self", "size"]) : zdt P w K mg base 3 (γ "Guesses") "__init__" ["self", "size"] (spF K γ 2 zan) := by
  refine F.qdef (k := 2) zez rfl rfl (bd := zbo) fun f cdv A outer s H E hr => ?_
  unfold zbo
  exact (zak (zbP (qt_no (zfH (zgK (zbw zbV (hr.mono (by decide)) (by rfl) (zab (v 1) (zab zag (zab zag zaf))))))) (zas zjo) zbl)
    (qss_no (zas (zmf T.zbR (v 0) (ziu (cs := []) (ts := ["number"]) (js := []) (ziZ _ rfl rfl rfl rfl (by decide +kernel) (by decide +kernel) rfl) rfl rfl (zgc rfl T.zel (v 1)) (fun _ _ _ => (gn 0 (show List.Nodup (["number"] : List Str) by decide +kernel))) (fun _ _ _ => ziq) (fun _ _ _ => zd5))))))
theorem zfW (T : Txt w K γ mg) (zbV : Def P w K mg base 2 "is_within" ["thing", "low", "high"] (spF K γ 3 zbS)) (F : zb8 K (γ "Guesses") "__init__" "Guesses.__init__" zbO ["self", "size"]) : XDef P w K mg base 3 (γ "Guesses") "__init__" ["self", "size"] (spX K γ 2 zan) := by
  refine F.xdef (k := 2) zez rfl rfl (bd := zbo) fun f cdv A outer s H E Ψ hr Th => ?_
  unfold zbo
  exact (xs_cons (zbP (qt_no (zfH (zgK (zbw zbV (hr.mono (by decide)) (by rfl) (zab (v 1) (zab zag (zab zag zaf))))))) (zas zjo) zbl) (x_if (zfH (zgK (zbw zbV (hr.mono (by decide)) (by rfl) (zab (v 1) (zab zag (zab zag zaf)))))) (xs_one (x_raise T.zdY (by rfl) rfl rfl Th (zab zhZ zaf))) xs_nil)
    xs_no)
theorem zgh (T : Txt w K γ mg)  (F : zb8 K (γ "Guesses") "slots" "Guesses.slots" zcb ["self"]) : zdt P w K mg base 1 (γ "Guesses") "slots" ["self"] (spF K γ 1 zaL) := by
  refine F.qdef (k := 0) zf8 rfl rfl (bd := zcf) fun f cdv A outer s H E hr => ?_
  unfold zcf
  exact (zas (zaO (zli rfl T.zdz (zab (zjq T.zbR (v 0)) zaf))))
theorem ziF (T : Txt w K γ mg) (zaA : zdt P w K mg base 3 (γ "Guesses") "__init__" ["self", "size"] (spF K γ 2 zan)) (zat : zdt P w K mg base 1 (γ "Guesses") "slots" ["self"] (spF K γ 1 zaL)) (zcJ : XDef P w K mg base 3 (γ "Guesses") "__init__" ["self", "size"] (spX K γ 2 zan)) (F : zaG K mg "_law_made" zdC) : Def P w K mg base 5 "_law_made" ["_law_size"] (spF K γ 1 zap) := by
  refine F.qdef (k := 4) zde rfl rfl (fun _ _ _ _ _ _ us hl => match us, hl with | [_], _ => rfl) (bd := zfd) fun f cdv A outer s H E hr => ?_
  unfold zfd
  exact (zas (qs_try (cs := ["NoSize"]) ⟨rfl, rfl⟩ rfl T.zjG zde.nd rfl rfl (Or.inl rfl) (.inl rfl) (fun _ => (zas (zaO (zgC rfl T.zdX (zab (zfn (zb7.cons T.zay zat (hr.mono (by decide)) zb7.nil) (zkL (zfX T.zbx zaA (hr.mono (by decide))) (by rfl) (zab (v 0) zaf))) zaf))))) (fun _ _ _ Th => (x_ret (x_len rfl T.zdX (x_meth0 (x_new T.zbx zcJ (hr.mono (by decide)) rfl Th rfl (by rfl) (zab (v 0) zaf)))))) (fun _ => (zak (sset 2 zde.nd (zeW T.isi rfl T.zaz (zab (v 1) (zab (zeB (zab (zb4 rfl T.zjF) (zab (zb4 rfl T.zkd) (zab (zb4 rfl T.zke) (zab (zb4 rfl T.zmB) (zab (zb4 rfl T.zmH) (zab (zb4 rfl T.m_Shut) (zab (zb4 rfl T.zmG) (zab (zb4 rfl T.zmD) (zab (zb4 rfl T.zlO) zaf)))))))))) zaf))))
    (zak (sset 3 zde.nd (zeW T.isi rfl T.zaz (zab (v 1) (zab (zeB (zab (zb4 rfl T.zmA) (zab (zb4 rfl T.m_NoLog) (zab (zb4 rfl T.zmI) (zab (zb4 rfl T.zmF) (zab (zb4 rfl T.zmE) (zab (zb4 rfl T.zmz) zaf))))))) zaf))))
    (zak (zbP (zir (zgw (zgK (v 2)) (zgw (zgK (v 3)) (zga (zfH (zgK (zeW T.isi rfl T.zaz (zab (v 1) (zab (zjp rfl T.zcp boot_VE) zaf))))))))) (zas (zaO zhZ)) zbl)
    (zas (zaO (ix (zcS (zab zhZ (zab zhZ zaf))) (f_int rfl T.zfN (zab (zeW T.isi rfl T.zaz (zab (v 1) (zab (zb4 rfl T.zmC) zaf))) zaf))))))))) T.zhR))
theorem zgg (T : Txt w K γ mg)  (F : zaG K mg "_law_place_by" zca) : Def P w K mg base 1 "_law_place_by" ["_law_cell_here"] (spF K γ 1 zbA) := by
  refine F.qdef (k := 0) zd1 rfl rfl (fun _ _ _ _ _ _ us hl => match us, hl with | [_], _ => rfl) (bd := zce) fun f cdv A outer s H E hr => ?_
  unfold zce
  exact (zak (sset 1 zd1.nd (ix (zcS (zab (zbL (zaT (v 0) zag) zag) (zab (b_Sub zag (zbL (zaT (v 0) zag) zag)) zaf))) (zbL (zaT (v 0) zag) zag)))
    (zas (zaO (ix (zcS (zab (zbL (zaT (v 0) zag) zag) (zab (zbL (zaT (v 0) zag) zag) (zab (v 1) (zab (zdS (zbL (zaT (v 0) zag) zag) zag) zaf))))) (zbL (v 0) zag)))))
theorem zgM (T : Txt w K γ mg)  (F : zaG K mg "_law_goal_by" zcu) : Def P w K mg base 1 "_law_goal_by" ["_law_cell_here", "_law_place"] (spF K γ 2 zbU) := by
  refine F.qdef (k := 0) zgI rfl rfl (fun _ _ _ _ _ _ us hl => match us, hl with | [_, _], _ => rfl) (bd := zcz) fun f cdv A outer s H E hr => ?_
  unfold zcz
  exact (zas (zaO (ix (zcS (zab (zcG (v 1) zag) (zab (zcG (v 1) zag) (zab (zbL (zaT (v 0) zag) zag) (zab (zbL (zaT (v 0) zag) zag) zaf))))) (zbL (v 0) zag))))
theorem zhp (T : Txt w K γ mg)  (F : zaG K mg "slot_copied" zcM) : Def P w K mg base 1 "slot_copied" ["slot"] (spF K γ 1 zb6) := by
  refine F.qdef (k := 0) zg8 rfl rfl (fun _ _ _ _ _ _ us hl => match us, hl with | [_], _ => rfl) (bd := zcP) fun f cdv A outer s H E hr => ?_
  unfold zcP
  exact (zak (zbP (t_Is (v 0) zd5) (zas (zaO zd5)) zbl)
    (zas (zaO (zli rfl T.zdz (zab (v 0) zaf)))))
theorem zhN (T : Txt w K γ mg) (zaA : zdt P w K mg base 3 (γ "Guesses") "__init__" ["self", "size"] (spF K γ 2 zan)) (zdW : Def P w K mg base 1 "slot_copied" ["slot"] (spF K γ 1 zb6)) (F : zaG K mg "with_slots" zdf) : Def P w K mg base 5 "with_slots" ["slots"] (spF K γ 1 zaS) := by
  refine F.qdef (k := 4) zfu rfl rfl (fun _ _ _ _ _ _ us hl => match us, hl with | [_], _ => rfl) (bd := zdj) fun f cdv A outer s H E hr => ?_
  unfold zdj
  exact (zak (sset 1 zfu.nd (zkL (zfX T.zbx zaA (hr.mono (by decide))) (by rfl) (zab (zgC rfl T.zdX (zab (v 0) zaf)) zaf)))
    (zak (zmf T.zbR (v 1) (ziu (cs := []) (ts := ["slot"]) (js := []) (ziZ _ rfl rfl rfl rfl (by decide +kernel) (by decide +kernel) rfl) rfl rfl (zit (v 0)) (fun _ _ _ => (gn 0 (show List.Nodup (["slot"] : List Str) by decide +kernel))) (fun _ _ _ => ziq) (fun _ _ _ => (zbw zdW (hr.mono (by decide)) (by rfl) (zab (v 0) zaf)))))
    (zas (zaO (v 1)))))
theorem zer (T : Txt w K γ mg)  (F : zb8 K (γ "Guesses") "slot_number" "Guesses.slot_number" za7 ["self", "place"]) : zdt P w K mg base 1 (γ "Guesses") "slot_number" ["self", "place"] (spF K γ 2 zaC) := by
  refine F.qdef (k := 0) zeo rfl rfl (bd := za9) fun f cdv A outer s H E hr => ?_
  unfold za9
  exact (zas (zaO (zbL (v 1) (zgC rfl T.zdX (zab (zjq T.zbR (v 0)) zaf)))))
theorem zlJ (T : Txt w K γ mg)  (F : zaG K mg "learnt" zfR) : Def P w K mg base 1 "learnt" ["slot", "place", "goal"] (spF K γ 3 zf1) := by
  refine F.qdef (k := 0) zhY rfl rfl (fun _ _ _ _ _ _ us hl => match us, hl with | [_, _, _], _ => rfl) (bd := zf5) fun f cdv A outer s H E hr => ?_
  unfold zf5
  exact (zak (sset 3 zhY.nd (c_Eq (zbF hr) (v 2) (zcG (v 1) zag)))
    (zak (zbP (zir (zgw (t_Is (v 0) zd5) (zga (zcs (zbF hr) (ix (v 0) zag) (v 1))))) (zas (zaO (q_if (zgK (v 3)) (v 0) (zeB (zab (v 1) (zab (v 2) (zab (zhf (by rfl) T.zbh.choose_spec.1 T.zbh.choose_spec.2) zaf))))))) zbl)
    (zak (zbP (t_Eq (zbF hr) (v 2) (ix (v 0) zag)) (zas (zaO (zeB (zab (v 1) (zab (v 2) (zab (f_min rfl rfl T.zi7 (zab (zcG (ix (v 0) zag) zag) (zab (zhf (by rfl) T.zcm.choose_spec.1 T.zcm.choose_spec.2) zaf))) zaf)))))) zbl)
    (zak (zbP (zgK (v 3)) (zas (zaO (zeB (zab (v 1) (zab (ix (v 0) zag) (zab (f_max rfl rfl T.zi8 (zab (b_Sub (ix (v 0) zag) zag) (zab (zhf (by rfl) T.zbZ.choose_spec.1 T.zbZ.choose_spec.2) zaf))) zaf)))))) zbl)
    (zas (zaO (zeB (zab (v 1) (zab (v 2) (zab (zhf (by rfl) T.zbh.choose_spec.1 T.zbh.choose_spec.2) zaf))))))))))
theorem zgi (T : Txt w K γ mg) (zaI : zdt P w K mg base 1 (γ "Guesses") "slot_number" ["self", "place"] (spF K γ 2 zaC)) (zhM : Def P w K mg base 1 "learnt" ["slot", "place", "goal"] (spF K γ 3 zf1)) (F : zb8 K (γ "Guesses") "learn" "Guesses.learn" zcc ["self", "place", "goal"]) : zdt P w K mg base 2 (γ "Guesses") "learn" ["self", "place", "goal"] (spF K γ 3 za0) := by
  refine F.qdef (k := 1) zd2 rfl rfl (bd := zcg) fun f cdv A outer s H E hr => ?_
  unfold zcg
  exact (zak (sset 3 zd2.nd (zgd (zb7.cons T.zay zaI (hr.mono (by decide)) zb7.nil) (v 0) (zab (v 1) zaf)))
    (zas (zeP (zbw zhM (hr.mono (by decide)) (by rfl) (zab (ix (zjq T.zbR (v 0)) (v 3)) (zab (v 1) (zab (v 2) zaf)))) (zjq T.zbR (v 0)) (v 3))))
theorem zhq (T : Txt w K γ mg)  (F : zaG K mg "_law_learnt" zcN) : Def P w K mg base 1 "_law_learnt" ["_law_slots", "_law_place", "_law_goal"] (spF K γ 3 zbg) := by
  refine F.qdef (k := 0) zct rfl rfl (fun _ _ _ _ _ _ us hl => match us, hl with | [_, _, _], _ => rfl) (bd := zcQ) fun f cdv A outer s H E hr => ?_
  unfold zcQ
  exact (zak (sset 3 zct.nd (zgn rfl T.zdO (zab (v 0) zaf)))
    (zak (sset 4 zct.nd (zbL (v 1) (zgC rfl T.zdX (zab (v 0) zaf))))
    (zak (sset 5 zct.nd (ix (v 0) (v 4)))
    (zak (zbP (zir (zgw (t_Is (v 5) zd5) (zga (zcs (zbF hr) (ix (v 5) zag) (v 1))))) (zas (zbP (zcs (zbF hr) (v 2) (zcG (v 1) zag)) (zas (zeP (zeB (zab (v 1) (zab (v 2) (zab zag zaf)))) (v 3) (v 4))) zbl)) (zas (zbP (t_Eq (zbF hr) (ix (v 5) zag) (v 2)) (zas (zeP (zeB (zab (v 1) (zab (v 2) (zab (ix (zcS (zab zag (zab zag (zab zag (zab zag zaf))))) (ix (v 5) zag)) zaf)))) (v 3) (v 4))) (zas (zbP (t_Eq (zbF hr) (v 2) (zcG (v 1) zag)) (zas (zeP (zeB (zab (v 1) (zab (ix (v 5) zag) (zab (ix (zcS (zab zag (zab zag (zab zag (zab zag zaf))))) (ix (v 5) zag)) zaf)))) (v 3) (v 4))) (zas (zeP (zeB (zab (v 1) (zab (v 2) (zab zag zaf)))) (v 3) (v 4))))))))
    (zas (zaO (v 3)))))))
theorem zhO (T : Txt w K γ mg)  (F : zaG K mg "_law_guess" zdg) : Def P w K mg base 1 "_law_guess" ["_law_slots", "_law_place"] (spF K γ 2 zby) := by
  refine F.qdef (k := 0) zfv rfl rfl (fun _ _ _ _ _ _ us hl => match us, hl with | [_, _], _ => rfl) (bd := zdk) fun f cdv A outer s H E hr => ?_
  unfold zdk
  exact (zak (sset 2 zfv.nd (ix (v 0) (zbL (v 1) (zgC rfl T.zdX (zab (v 0) zaf)))))
    (zak (zbP (zir (zgw (t_Is (v 2) zd5) (zgw (zcs (zbF hr) (ix (v 2) zag) (v 1)) (zga (t_Lt (ix (v 2) zag) zag))))) (zas (zaO (zcG (v 1) zag))) zbl)
    (zas (zaO (ix (v 2) zag)))))
theorem zgj (T : Txt w K γ mg) (zaI : zdt P w K mg base 1 (γ "Guesses") "slot_number" ["self", "place"] (spF K γ 2 zaC)) (F : zb8 K (γ "Guesses") "guess" "Guesses.guess" zcd ["self", "place"]) : zdt P w K mg base 2 (γ "Guesses") "guess" ["self", "place"] (spF K γ 2 zbB) := by
  refine F.qdef (k := 1) zd3 rfl rfl (bd := zch) fun f cdv A outer s H E hr => ?_
  unfold zch
  exact (zak (sset 2 zd3.nd (ix (zjq T.zbR (v 0)) (zgd (zb7.cons T.zay zaI (hr.mono (by decide)) zb7.nil) (v 0) (zab (v 1) zaf))))
    (zak (zbP (zir (zio (zij (v 2) zd5) (zio (t_Eq (zbF hr) (ix (v 2) zag) (v 1)) (zin (t_GtE (ix (v 2) zag) (zhf (by rfl) T.zbh.choose_spec.1 T.zbh.choose_spec.2)))))) (zas (zaO (ix (v 2) zag))) zbl)
    (zas (zaO (zcG (v 1) zag)))))
theorem ziG (T : Txt w K γ mg) (zat : zdt P w K mg base 1 (γ "Guesses") "slots" ["self"] (spF K γ 1 zaL)) (F : zaG K mg "_law_kept" zdD) : Def P w K mg base 2 "_law_kept" ["_law_guesses", "_law_slots"] (spF K γ 2 zbT) := by
  refine F.qdef (k := 1) zen rfl rfl (fun _ _ _ _ _ _ us hl => match us, hl with | [_, _], _ => rfl) (bd := zdM) fun f cdv A outer s H E hr => ?_
  unfold zdM
  exact (zak (sset 2 zen.nd (zfn (zb7.cons T.zay zat (hr.mono (by decide)) zb7.nil) (v 0)))
    (zak (zbP (zir (zgw (zfH (zgK (zeW T.isi rfl T.zaz (zab (v 2) (zab (zjp rfl T.zdz PyProof.Rows.boot_tuple) zaf))))) (zga (zcs (zbF hr) (zgn rfl T.zdO (zab (v 2) zaf)) (v 1))))) (zas (zaO zhh)) zbl)
    (zak (zj8 PassesOwn.never rfl (zit (v 2)) (gn 3 zen.nd) (zak (zbP (zir (zio (zij (v 3) zd5) (zin (zfH (zgK (zeW T.isi rfl T.zaz (zab (v 3) (zab (zjp rfl T.zdz PyProof.Rows.boot_tuple) zaf)))))))) (zas (zaO zhh)) zbl)
    (zas (zbP (zir (zio (zij (v 3) zd5) (zin (zcs (zbF hr) (ziu (cs := []) (ts := ["_law_one"]) (js := []) (ziZ _ rfl rfl rfl rfl (by decide +kernel) (by decide +kernel) rfl) rfl rfl (zit (v 3)) (fun _ _ _ => (gn 0 (show List.Nodup (["_law_one"] : List Str) by decide +kernel))) (fun _ _ _ => (qts_one (zgK (zeW T.isi rfl T.zaz (zab (v 0) (zab (zjp rfl T.zfC PyProof.Rows.boot_bool) zaf)))))) (fun _ _ _ => (v 0))) (zcS zaf))))) (zas (zaO zhh)) zbl))))
    (zas (zaO zhh)))))
theorem ok_law (T : Txt w K γ mg) {ρ : Nat → Addr} (C : zfM K γ ρ zfa) (zbu : ∀ base, Def P w K mg base 1 "_law_cell" ["_law_script", "_law_k"] (spF K γ 2 zaB)) (zcY : ∀ base, Def P w K mg base 5 "_law_made" ["_law_size"] (spF K γ 1 zap)) (zaA : ∀ base, zdt P w K mg base 3 (γ "Guesses") "__init__" ["self", "size"] (spF K γ 2 zan)) (zat : ∀ base, zdt P w K mg base 1 (γ "Guesses") "slots" ["self"] (spF K γ 1 zaL)) (zbC : ∀ base, Def P w K mg base 1 "_law_place_by" ["_law_cell_here"] (spF K γ 1 zbA)) (zbW : ∀ base, Def P w K mg base 1 "_law_goal_by" ["_law_cell_here", "_law_place"] (spF K γ 2 zbU)) (zbz : ∀ base, Def P w K mg base 5 "with_slots" ["slots"] (spF K γ 1 zaS)) (za1 : ∀ base, zdt P w K mg base 2 (γ "Guesses") "learn" ["self", "place", "goal"] (spF K γ 3 za0)) (zb9 : ∀ base, Def P w K mg base 1 "_law_learnt" ["_law_slots", "_law_place", "_law_goal"] (spF K γ 3 zbg)) (zcD : ∀ base, Def P w K mg base 1 "_law_guess" ["_law_slots", "_law_place"] (spF K γ 2 zby)) (zbD : ∀ base, zdt P w K mg base 2 (γ "Guesses") "guess" ["self", "place"] (spF K γ 2 zbB)) (zcZ : ∀ base, Def P w K mg base 2 "_law_kept" ["_law_guesses", "_law_slots"] (spF K γ 2 zbT)) (F : zaG K mg "law" zkD) (good : ∀ ns : List Int, ns.length ≤ 63 → ∃ h', zlj [.ref zfa.length] (zfa ++ [.rol (ns.map HL.W.int)]) = .ok (.bl true) h') : LawR P w K mg 6 := by
  refine F.qlaw (k := 5) (γ := γ) zbv rfl C (fun _ _ _ _ _ _ us hl => match us, hl with | [_], _ => rfl) (bd := zlt) (fun base f cdv A outer s H E hr => ?_) good
  replace zbu := zbu base
  replace zcY := zcY base
  replace zaA := zaA base
  replace zat := zat base
  replace zbC := zbC base
  replace zbW := zbW base
  replace zbz := zbz base
  replace za1 := za1 base
  replace zb9 := zb9 base
  replace zcD := zcD base
  replace zbD := zbD base
  replace zcZ := zcZ base
  unfold zlt
  exact (zak (sset 1 zbv.nd (zcS (zab zag (zab zag (zab (u_neg zag) (zab zhh (zab zhh (zab zd5 (zab zhZ (zab (b_Pow zag zag) (zab (u_neg (b_Pow zag zag)) (zab (zeB (zab zag zaf)) (zab (zcS (zab zag zaf)) (zab zag (zab zag zaf)))))))))))))))
    (zak (sset 2 zbv.nd (ix (v 1) (zbL (zbw zbu (hr.mono (by decide)) (by rfl) (zab (v 0) (zab zag zaf))) zag)))
    (zak (sset 3 zbv.nd (zkM (zeW T.isi rfl T.zaz (zab (v 2) (zab (zjp rfl T.zfN PyProof.Rows.boot_int) zaf))) (zkM (q_not (zeW T.isi rfl T.zaz (zab (v 2) (zab (zjp rfl T.zfC PyProof.Rows.boot_bool) zaf)))) (zkK (zic zag (v 2) zag)))))
    (zak (zbP (zcs (zbF hr) (zbw zcY (hr.mono (by decide)) (by rfl) (zab (v 2) zaf)) (ix (zcS (zab zhZ (zab (v 2) zaf))) (f_int rfl T.zfN (zab (v 3) zaf)))) (zas (zaO zhh)) zbl)
    (zak (sset 4 zbv.nd (zcG zag (zbL (zbw zbu (hr.mono (by decide)) (by rfl) (zab (v 0) (zab zag zaf))) zag)))
    (zak (sset 5 zbv.nd (zcS (zab (zkL (zfX T.zbx zaA (hr.mono (by decide))) (by rfl) (zab (v 4) zaf)) (zab (zkL (zfX T.zbx zaA (hr.mono (by decide))) (by rfl) (zab (zcG zag (zbL (zbw zbu (hr.mono (by decide)) (by rfl) (zab (v 0) (zab zag zaf))) zag)) zaf)) zaf))))
    (zak (sset 6 zbv.nd (zcS (zab (zdS (zcS (zab zd5 zaf)) (v 4)) (zab (zdS (zcS (zab zd5 zaf)) (zgC rfl T.zdX (zab (zfn (zb7.cons T.zay zat (hr.mono (by decide)) zb7.nil) (ix (v 5) zag)) zaf))) zaf))))
    (zak (zj8 PassesOwn.never rfl (zgc rfl T.zel zag) (gn 7 zbv.nd) (zak (sset 8 zbv.nd (zbw zbu (hr.mono (by decide)) (by rfl) (zab (v 0) (zab (zcG zag (v 7)) zaf))))
    (zak (sset 9 zbv.nd (zbL (v 8) zag))
    (zak (sset 10 zbv.nd (zbw zbC (hr.mono (by decide)) (by rfl) (zab (zaT (v 8) zag) zaf)))
    (zak (sset 11 zbv.nd (zbw zbW (hr.mono (by decide)) (by rfl) (zab (zaT (v 8) zag) (zab (v 10) zaf))))
    (zak (zbP (t_Eq (zbF hr) (zbL (zaT (v 8) zag) zag) zag) (zak (sset 12 zbv.nd (zfn (zb7.cons T.zay zat (hr.mono (by decide)) zb7.nil) (ix (v 5) (v 9))))
    (zak (sset 1 zbv.nd (zcS (zab (v 12) (zab (zgn rfl T.zdO (zab (v 12) zaf)) (zab (ziu (cs := []) (ts := ["_law_one"]) (js := []) (ziZ _ rfl rfl rfl rfl (by decide +kernel) (by decide +kernel) rfl) rfl rfl (zit (v 12)) (fun _ _ _ => (gn 0 (show List.Nodup (["_law_one"] : List Str) by decide +kernel))) (fun _ _ _ => ziq) (fun _ _ _ => (ix (zcS (zab (v 0) (zab (zgn rfl T.zdO (zab (q_orT (v 0) (zkK (zeB zaf))) zaf)) zaf))) (f_int rfl T.zfN (zab (c_IsNot (v 0) zd5) zaf))))) zaf)))))
    (zak (sset 13 zbv.nd (ix (v 1) (zbL (zaT (v 8) zag) zag)))
    (zak (sset 14 zbv.nd (zgn rfl T.zdO (zab (v 13) zaf)))
    (zak (zeP (zbw zbz (hr.mono (by decide)) (by rfl) (zab (v 13) zaf)) (v 5) (v 9))
    (zak (zis (zgd (zb7.cons T.zay za1 (hr.mono (by decide)) zb7.nil) (ix (v 5) (v 9)) (zab (v 10) (zab (zcG (v 11) zag) zaf))))
    (zak (zbP (zcs (zbF hr) (zgn rfl T.zdO (zab (v 13) zaf)) (v 14)) (zas (zaO zhh)) zbl)
    (zak (zeP (zbw zbz (hr.mono (by decide)) (by rfl) (zab (v 13) zaf)) (v 5) (v 9))
    (zas (zbP (zcs (zbF hr) (zfn (zb7.cons T.zay zat (hr.mono (by decide)) zb7.nil) (ix (v 5) (v 9))) (v 12)) (zas (zaO zhh)) zbl)))))))))) zbl)
    (zak (zbP (t_Eq (zbF hr) (zbL (zaT (v 8) zag) zag) zag) (zak (sset 15 zbv.nd (zbw zbz (hr.mono (by decide)) (by rfl) (zab (zfn (zb7.cons T.zay zat (hr.mono (by decide)) zb7.nil) (ix (v 5) (v 9))) zaf)))
    (zas (zis (zgd (zb7.cons T.zay za1 (hr.mono (by decide)) zb7.nil) (v 15) (zab (v 10) (zab (zcG (v 11) zag) zaf)))))) zbl)
    (zak (zis (zgd (zb7.cons T.zay za1 (hr.mono (by decide)) zb7.nil) (ix (v 5) (v 9)) (zab (v 10) (zab (v 11) zaf))))
    (zak (zeP (zbw zb9 (hr.mono (by decide)) (by rfl) (zab (ix (v 6) (v 9)) (zab (v 10) (zab (v 11) zaf)))) (v 6) (v 9))
    (zas (zj8 PassesOwn.never rfl (zgc rfl T.zel zag) (gn 16 zbv.nd) (zak (sset 17 zbv.nd (zbw zcD (hr.mono (by decide)) (by rfl) (zab (ix (v 6) (v 16)) (zab (v 10) zaf))))
    (zas (zbP (zir (zgw (zfH (zgK (zbw zcZ (hr.mono (by decide)) (by rfl) (zab (ix (v 5) (v 16)) (zab (ix (v 6) (v 16)) zaf))))) (zga (zcs (zbF hr) (zgd (zb7.cons T.zay zbD (hr.mono (by decide)) zb7.nil) (ix (v 5) (v 16)) (zab (v 10) zaf)) (v 17))))) (zas (zaO zhh)) zbl))))))))))))))
    (zas (zaO zhh))))))))))
theorem all (T : Txt w K γ mg) {ρ : Nat → Addr} (C : zfM K γ ρ zfa) (zfk : zaG K mg "_law_cell" zdE) (zfh : zaG K mg "is_number" zdB) (zfg : zaG K mg "is_within" zdA) (zcC : zb8 K (γ "Guesses") "__init__" "Guesses.__init__" zbO ["self", "size"]) (zc9 : zb8 K (γ "Guesses") "slots" "Guesses.slots" zcb ["self"]) (zfi : zaG K mg "_law_made" zdC) (zc8 : zaG K mg "_law_place_by" zca) (zdu : zaG K mg "_law_goal_by" zcu) (zdU : zaG K mg "slot_copied" zcM) (zex : zaG K mg "with_slots" zdf) (zbI : zb8 K (γ "Guesses") "slot_number" "Guesses.slot_number" za7 ["self", "place"]) (zhK : zaG K mg "learnt" zfR) (zda : zb8 K (γ "Guesses") "learn" "Guesses.learn" zcc ["self", "place", "goal"]) (zdV : zaG K mg "_law_learnt" zcN) (zey : zaG K mg "_law_guess" zdg) (zdb : zb8 K (γ "Guesses") "guess" "Guesses.guess" zcd ["self", "place"]) (zfj : zaG K mg "_law_kept" zdD) (F_law : zaG K mg "law" zkD) (good : ∀ ns : List Int, ns.length ≤ 63 → ∃ h', zlj [.ref zfa.length] (zfa ++ [.rol (ns.map HL.W.int)]) = .ok (.bl true) h') : LawR P w K mg 6 := by
  have zbu := fun base => ziH (base := base) (P := P) T  zfk
  have zfl := fun base => ziE (base := base) (P := P) T  zfh
  have zbV := fun base => ziD (base := base) (P := P) T (zfl base) zfg
  have zaA := fun base => zgN (base := base) (P := P) T (zbV base) zcC
  have zcJ := fun base => zfW (base := base) (P := P) T (zbV base) zcC
  have zat := fun base => zgh (base := base) (P := P) T  zc9
  have zcY := fun base => ziF (base := base) (P := P) T (zaA base) (zat base) (zcJ base) zfi
  have zbC := fun base => zgg (base := base) (P := P) T  zc8
  have zbW := fun base => zgM (base := base) (P := P) T  zdu
  have zdW := fun base => zhp (base := base) (P := P) T  zdU
  have zbz := fun base => zhN (base := base) (P := P) T (zaA base) (zdW base) zex
  have zaI := fun base => zer (base := base) (P := P) T  zbI
  have zhM := fun base => zlJ (base := base) (P := P) T  zhK
  have za1 := fun base => zgi (base := base) (P := P) T (zaI base) (zhM base) zda
  have zb9 := fun base => zhq (base := base) (P := P) T  zdV
  have zcD := fun base => zhO (base := base) (P := P) T  zey
  have zbD := fun base => zgj (base := base) (P := P) T (zaI base) zdb
  have zcZ := fun base => ziG (base := base) (P := P) T (zat base) zfj
  exact ok_law T C zbu zcY zaA zat zbC zbW zbz za1 zb9 zcD zbD zcZ F_law good
end
end K54
namespace K54
open HL
local macro_rules | `(tactic| simp! only [$ls,*]) => `(tactic| simp only [zeq, zb2, za6, zcF, zdx, zbt, zmk, zfU, psBk, psCt, psEr, zjy, zmj, zhl, zml, psFrz, frz, zeT, psApp, zmi, zhm, pOp, pUn, zaj, pBor, pC, pT, zhk, zeC, zgf, zep, pAnd, pOr, pNot, pIf, zms, pB, pO, pL, zaX, zah, zjC, zmu, zmt, pOpO, pSl, zk4, pPart, zfx, zhS, zgx, zcT, zjz, zcw, pgTup, zgY, RF.val, zeQ, zft, LIM, zjj, zji, zjh, zjI, zjH, zje, zku, zjg, zjf, zjd, zjc, zm0, List.isEmpty_cons, List.isEmpty_nil, zhi, zjv, zjr, zaR, zeR, zkN, zkO, zkS, zkT, zfo, zkU, ziw, zkQ, zkP, zjt, zju, zjs, List.map_cons, List.map_nil, List.length_cons, List.length_nil, List.getElem?_cons_zero, List.getElem?_cons_succ, List.getElem?_nil, List.set_cons_zero, List.set_cons_succ, List.replicate, List.cons_append, List.nil_append, List.append_nil, Option.bind_some, Option.map_some, Option.bind_none, Option.map_none, Option.getD_some, if_true, if_false, Nat.reduceSub, Nat.reduceAdd, Nat.reduceLeDiff, Nat.reduceLT, Int.reduceLT, Int.reduceLE, Bool.not_true, Bool.not_false, Bool.false_eq_true, bne_self_eq_false, Bool.bne_true, Bool.bne_false, Bool.true_bne, Bool.false_bne, decide_eq_true_eq, reduceIte, reduceCtorEq, atP_0, atP_1, atP_2, atP_3, atP_4, atP_5, atP_6, atP_7, atP_8, atP_9, zm3, zm2, $ls,*])
open PySem (Str)
theorem ziY (ns : List Int) (k : Int) (hl : ns.length ≤ 63) (h0 : 0 ≤ k) (h1 : k ≤ 100000000) : zbQ [.rol (ns.map .int), .int k] = some (.v (.int (zdd ns k))) := by
  have c1 : ∀ x : Int, zbm 7919 x = true := fun x => zfY (by decide)
  have c2 : ∀ x : Int, zbm x 48271 = true := fun x => ziM (by decide)
  have c3 : ∀ x : Int, zbm 104729 x = true := fun x => zfY (by decide)
  have c4 : ∀ x : Int, zbm x 7919 = true := fun x => ziM (by decide)
  have c5 : ∀ x : Int, zbm 69621 x = true := fun x => zfY (by decide)
  have c6 : ∀ x : Int, zbm (x % 2147483647) (x % 2147483647) = true := fun x => zfY (by omega)
  have c7 : ∀ x : Int, zbm (x % 2147483629) (x % 2147483629) = true := fun x => zfY (by omega)
  by_cases hn : ns = []
  · subst hn
    have q0 := zkV true []
    simp only [List.map_nil, decide_true] at q0
    simp! only [zbQ, zdK, c1, c2, c3, c4, c5, c6, c7, q0, decide_true, bne_self_eq_false]
    simp only [zdd, mixV, if_true]
  · have hp : 0 < ns.length := List.length_pos_iff.mpr hn
    have hp' : (0 : Int) < (ns.length : Int) := by omega
    have hp2 : (ns.length : Int) < 1073741824 := by omega
    have hm0 : 0 ≤ k % (ns.length : Int) := Int.emod_nonneg _ (by omega)
    have hm1 : k % (ns.length : Int) < ns.length := Int.emod_lt_of_pos _ (by omega)
    simp! only [zbQ, zdK, c1, c2, c3, c4, c5, c6, c7, zkV, hn, List.length_map, hp', hp2, zm1 _ _ hm0 hm1, decide_false]
    simp only [zdd, mixV, hn, if_false]
theorem zaw {g : P → P → Option P} {a b : PE} {δ : Dl} {x y r : P} (h : a δ = some x) (h2 : b δ = some y) (k : g x y = some r) : pOp g a b δ = some r := by unfold pOp; rw [h]; simp only [Option.bind_some]; rw [h2]; exact k
theorem zb3 {e : PE} {δ : Dl} {p : P} (h : e δ = some p) : zbt e δ = .rt p := by unfold zbt; rw [h]
theorem zdH {t : PT} {a b : PS} {δ : Dl} {r : RS} (h : t δ = some true) (k : a δ = r) : zdx t a b δ = r := by unfold zdx; rw [h]; exact k
theorem zcV {t : PT} {a b : PS} {δ : Dl} {r : RS} (h : t δ = some false) (k : b δ = r) : zdx t a b δ = r := by unfold zdx; rw [h]; exact k
theorem zk3 {e : PE} {δ : Dl} {p : P} {b : Bool} (h : e δ = some p) (k : zfr p = some b) : pT e δ = some b := by unfold pT; rw [h]; exact k
theorem lst4 {a b c d : PE} {δ : Dl} {x y z w : P} (h1 : a δ = some x) (h2 : b δ = some y) (h3 : c δ = some z) (h4 : d δ = some w) : pL (pO zeQ (zah a (zah b (zah c (zah d zaX))))) δ = some (.lst [x, y, z, w]) := by
  have e : zah a (zah b (zah c (zah d zaX))) δ = some [x, y, z, w] := by unfold zah; rw [h1, h2, h3, h4]; rfl
  unfold pL pO; rw [e]; rfl
theorem lst2 {a b : PE} {δ : Dl} {x y : P} (h1 : a δ = some x) (h2 : b δ = some y) : pL (pO zeQ (zah a (zah b zaX))) δ = some (.lst [x, y]) := by
  have e : zah a (zah b zaX) δ = some [x, y] := by unfold zah; rw [h1, h2]; rfl
  unfold pL pO; rw [e]; rfl
theorem zmm (x : Int) (hx : 0 ≤ x) : ∃ v, 0 ≤ v ∧ zc4 [.int x] = some (.v (.int v)) := by
  have m1 := zaR x 4 (by decide)
  have d1 := zeR x 4 (by decide) (by decide)
  have d2 := zeR x 4096 (by decide) (by decide)
  have a1 := zaR (x / 4) 1024 (by decide)
  have a2 := zaR (x / 4) 3 (by decide)
  have a3 := zaR (x / 4096) 2 (by decide)
  have a4 := zaR (x / 4) 4 (by decide)
  have a5 := zaR (x / 4) 70 (by decide)
  have a6 : zfT (.int (x / 4 % 3)) (.int 16) = some (.int (x / 4 % 3 * 16)) := by rw [zhi, ziM (by decide)]; rfl
  have g1 : ∃ v, 0 ≤ v ∧ qIx (.lst [.int (x / 4 % 1024), .int (65536 - x / 4 % 3)]) (.int (x / 4096 % 2)) = some (.int v) := by
    obtain e | e : x / 4096 % 2 = 0 ∨ x / 4096 % 2 = 1 := by omega
    · rw [e]; exact ⟨x / 4 % 1024, by omega, rfl⟩
    · rw [e]; exact ⟨65536 - x / 4 % 3, by omega, rfl⟩
  obtain ⟨f, f0, g1⟩ := g1
  have g2 : ∃ v, 0 ≤ v ∧ qIx (.lst [.int (x / 4 % 4), .int (x / 4 % 70), .int f, .int (x / 4 % 3 * 16)]) (.int (x % 4)) = some (.int v) := by
    obtain e | e | e | e : x % 4 = 0 ∨ x % 4 = 1 ∨ x % 4 = 2 ∨ x % 4 = 3 := by omega
    · rw [e]; exact ⟨x / 4 % 4, by omega, rfl⟩
    · rw [e]; exact ⟨x / 4 % 70, by omega, rfl⟩
    · rw [e]; exact ⟨f, f0, rfl⟩
    · rw [e]; exact ⟨x / 4 % 3 * 16, by omega, rfl⟩
  obtain ⟨v, v0, g2⟩ := g2
  refine ⟨v, v0, ?_⟩
  refine zho rfl rfl ?_
  unfold zc5
  refine zbk (δ' := [.val (.int x), .val (.int f)]) (zfD (zaw (lst2 (zaw (zaw rfl rfl d1) rfl a1) (zaw rfl (zaw (zaw rfl rfl d1) rfl a2) rfl)) (zaw (zaw rfl rfl d2) rfl a3) g1)) (zb3 ?_)
  exact zaw (lst4 (zaw (zaw rfl rfl d1) rfl a4) (zaw (zaw rfl rfl d1) rfl a5) rfl (zaw (zaw (zaw rfl rfl d1) rfl a2) rfl a6)) (zaw rfl rfl m1) g2
theorem goal_ok (x pl : Int) (hp : 0 ≤ pl) : ∃ v, 0 ≤ v ∧ zdn [.int x, .int pl] = some (.v (.int v)) := by
  have m1 := zaR x 4 (by decide)
  have d1 := zeR x 4 (by decide) (by decide)
  have a1 := zaR (x / 4) 3 (by decide)
  have a2 := zaR (x / 4) 1024 (by decide)
  have g2 : ∃ v, 0 ≤ v ∧ qIx (.lst [.int (pl + 1), .int (pl + 1), .int (x / 4 % 3), .int (x / 4 % 1024)]) (.int (x % 4)) = some (.int v) := by
    obtain e | e | e | e : x % 4 = 0 ∨ x % 4 = 1 ∨ x % 4 = 2 ∨ x % 4 = 3 := by omega
    · rw [e]; exact ⟨pl + 1, by omega, rfl⟩
    · rw [e]; exact ⟨pl + 1, by omega, rfl⟩
    · rw [e]; exact ⟨x / 4 % 3, by omega, rfl⟩
    · rw [e]; exact ⟨x / 4 % 1024, by omega, rfl⟩
  obtain ⟨v, v0, g2⟩ := g2
  refine ⟨v, v0, ?_⟩
  refine zho rfl rfl ?_
  unfold zdr
  exact zb3 (zaw (lst4 rfl rfl (zaw (zaw rfl rfl d1) rfl a1) (zaw (zaw rfl rfl d1) rfl a2)) (zaw rfl rfl m1) g2)
abbrev zaU := Option (Int × Int × Int)
def sP : zaU → P
  | none => .non
  | some (a, b, c) => .tup [.int a, .int b, .int c]
def sL : zaU → P
  | none => .non
  | some (a, b, c) => .lst [.int a, .int b, .int c]
def Ok : zaU → Prop
  | none => True
  | some (_, _, c) => 0 ≤ c ∧ c ≤ 3
def lrn (x : zaU) (pl go : Int) : zaU := match x with
  | none => if go = pl + 1 then none else some (pl, go, 2)
  | some (a, b, c) => if a = pl then (if go = b then some (pl, go, if (3 : Int) < c + 1 then 3 else c + 1) else if go = pl + 1 then some (pl, b, if (0 : Int) > c - 1 then 0 else c - 1) else some (pl, go, 2)) else if go = pl + 1 then some (a, b, c) else some (pl, go, 2)
theorem lrn_ok {x : zaU} {pl go : Int} (h : Ok x) : Ok (lrn x pl go) := by
  unfold lrn
  split
  · split <;> simp [Ok]
  · rename_i a b c
    simp only [Ok] at h
    split
    · split
      · simp only [Ok]; split <;> omega
      · split
        · simp only [Ok]; split <;> omega
        · simp [Ok]
    · split
      · exact h
      · simp [Ok]
theorem zhE (x : zaU) : za4 [sP x] = some (.v (sP x)) := by
  cases x with
  | none => rfl
  | some z => obtain ⟨a, b, c⟩ := z; rfl
theorem zmV (x : zaU) : za4 [sL x] = some (.v (sP x)) := by
  cases x with
  | none => rfl
  | some z => obtain ⟨a, b, c⟩ := z; rfl
theorem zk7 {s t : PT} {δ : Dl} (h1 : s δ = some true) : zgf s t δ = some true := by unfold zgf; rw [h1]; rfl
theorem zfy {s t : PT} {δ : Dl} {b : Bool} (h1 : s δ = some false) (h2 : t δ = some b) : zgf s t δ = some b := by unfold zgf; rw [h1]; exact h2
theorem zi3 {s t : PT} {δ : Dl} (h1 : s δ = some false) : zeC s t δ = some false := by unfold zeC; rw [h1]; rfl
theorem zfL {s t : PT} {δ : Dl} {b : Bool} (h1 : s δ = some true) (h2 : t δ = some b) : zeC s t δ = some b := by unfold zeC; rw [h1]; exact h2
theorem eqT (a b : Int) : (qEq false (.int a) (.int b)).bind zfr = some (decide (a = b)) := by rw [zfo]; simp [zfr]
theorem neT (a b : Int) : (qEq true (.int a) (.int b)).bind zfr = some (!decide (a = b)) := by rw [zfo]; simp [zfr]
theorem zlQ (x : zaU) (pl go : Int) : zjB [sP x, .int pl, .int go] = some (.v (sP (lrn x pl go))) := by
  refine zho rfl rfl ?_
  unfold zhD
  refine zbk (δ' := [.val (sP x), .val (.int pl), .val (.int go), .val (.bl (decide (go = pl + 1)))]) (zfD (zaw rfl rfl (by rw [zfo]; simp))) ?_
  cases x with
  | none =>
    refine zeO (zdH (zk7 rfl) (zb3 ?_))
    show (match some (decide (go = pl + 1)) with | some k => if k = true then _ else _ | none => none) = _
    unfold lrn
    by_cases z : go = pl + 1
    · rw [decide_eq_true z, if_pos z]; rfl
    · rw [decide_eq_false z, if_neg z]; rfl
  | some z =>
    obtain ⟨a, b, c⟩ := z
    have t1 : pT (pOp (qIs false) (zaj 0) (pC .non)) [.val (sP (some (a, b, c))), .val (.int pl), .val (.int go), .val (.bl (decide (go = pl + 1)))] = some false := rfl
    have t2 : pT (pOp (qEq true) (pOp qIx (zaj 0) (pC (.int 0))) (zaj 1)) [.val (sP (some (a, b, c))), .val (.int pl), .val (.int go), .val (.bl (decide (go = pl + 1)))] = some (!decide (a = pl)) := neT a pl
    have t3 : pT (pOp (qEq false) (zaj 2) (pOp qIx (zaj 0) (pC (.int 1)))) [.val (sP (some (a, b, c))), .val (.int pl), .val (.int go), .val (.bl (decide (go = pl + 1)))] = some (decide (go = b)) := eqT go b
    have t4 : pT (zaj 3) [.val (sP (some (a, b, c))), .val (.int pl), .val (.int go), .val (.bl (decide (go = pl + 1)))] = some (decide (go = pl + 1)) := rfl
    unfold lrn
    simp only
    by_cases z : a = pl
    · rw [decide_eq_true z] at t2
      rw [if_pos z]
      refine zbk (zcV (zfy t1 t2) rfl) ?_
      by_cases z2 : go = b
      · rw [decide_eq_true z2] at t3
        rw [if_pos z2]
        exact zeO (zdH t3 (zb3 rfl))
      · rw [decide_eq_false z2] at t3
        rw [if_neg z2]
        refine zbk (zcV t3 rfl) ?_
        by_cases z3 : go = pl + 1
        · rw [decide_eq_true z3] at t4 ⊢
          rw [if_pos z3]
          exact zeO (zdH t4 (zb3 rfl))
        · rw [decide_eq_false z3] at t4 ⊢
          rw [if_neg z3]
          exact zbk (zcV t4 rfl) (zb3 rfl)
    · rw [decide_eq_false z] at t2
      rw [if_neg z]
      refine zeO (zdH (zfy t1 t2) (zb3 ?_))
      by_cases z3 : go = pl + 1
      · rw [decide_eq_true z3, if_pos z3]; rfl
      · rw [decide_eq_false z3, if_neg z3]; rfl
def at_ (t : List zaU) (pl : Int) : zaU := (t[(pl % (t.length : Int)).toNat]?).getD none
def gsV (t : List zaU) (pl : Int) : Int := match at_ t pl with
  | none => pl + 1
  | some (a, b, c) => if a = pl ∧ 2 ≤ c then b else pl + 1
theorem ix_ok (t : List zaU) (pl : Int) (h0 : 0 < t.length) : qIx (.lst (t.map sP)) (.int (pl % (t.length : Int))) = some (sP (at_ t pl)) := by
  have m0 := Int.emod_nonneg pl (show (t.length : Int) ≠ 0 by omega)
  have m1 := Int.emod_lt_of_pos pl (show (0 : Int) < (t.length : Int) by omega)
  have hk : (pl % (t.length : Int)).toNat < t.length := by omega
  rw [ziw]
  unfold atP ixW
  rw [List.length_map, if_pos m0, if_pos m1]
  simp only [Option.bind_some]
  unfold at_
  rw [List.getElem?_map, List.getElem?_eq_getElem hk]
  rfl
def gP (t : List zaU) : P := .ins "Guesses" [("entries", .lst (t.map sP))]
theorem num_ok (t : List zaU) (pl : Int) (h0 : 0 < t.length) : za8 [gP t, .int pl] = some (.v (.int (pl % (t.length : Int)))) := by
  refine zho rfl rfl ?_
  unfold zbH
  have q := zaR pl (t.length : Int) (by omega)
  refine zb3 (zaw (x := .int pl) (y := .int (t.length : Int)) rfl ?_ q)
  show some (P.int ((t.map sP).length : Int)) = _
  rw [List.length_map]
theorem zmO (t : List zaU) (pl : Int) (h0 : 0 < t.length) : zeE [gP t, .int pl] = some (.v (.int (gsV t pl))) := by
  have n1 := num_ok t pl h0
  have i1 := ix_ok t pl h0
  refine zho rfl rfl ?_
  unfold zc6
  refine zbk (δ' := [.val (gP t), .val (.int pl), .val (sP (at_ t pl))]) (zfD (zaw (x := .lst (t.map sP)) (y := .int (pl % (t.length : Int))) rfl ?_ i1)) ?_
  · show (za8 [gP t, .int pl]).map RF.val = _
    rw [n1]; rfl
  unfold gsV
  generalize gP t = S
  cases at_ t pl with
  | none => exact zbk (zcV (zi3 rfl) rfl) (zb3 rfl)
  | some z =>
    obtain ⟨a, b, c⟩ := z
    have t1 : pT (pOp (qIs true) (zaj 2) (pC .non)) [.val S, .val (.int pl), .val (sP (some (a, b, c)))] = some true := rfl
    have t2 : pT (pOp (qEq false) (pOp qIx (zaj 2) (pC (.int 0))) (zaj 1)) [.val S, .val (.int pl), .val (sP (some (a, b, c)))] = some (decide (a = pl)) := eqT a pl
    have t3 : pT (pOp qGe (pOp qIx (zaj 2) (pC (.int 2))) (pC (.int 2))) [.val S, .val (.int pl), .val (sP (some (a, b, c)))] = some (decide (2 ≤ c)) := rfl
    simp only
    by_cases z1 : a = pl
    · rw [decide_eq_true z1] at t2
      by_cases z2 : 2 ≤ c
      · rw [decide_eq_true z2] at t3
        rw [if_pos ⟨z1, z2⟩]
        exact zeO (zdH (zfL t1 (zfL t2 t3)) (zb3 rfl))
      · rw [decide_eq_false z2] at t3
        rw [if_neg fun h => z2 h.2]
        exact zbk (zcV (zfL t1 (zfL t2 t3)) rfl) (zb3 rfl)
    · rw [decide_eq_false z1] at t2
      rw [if_neg fun h => z1 h.1]
      exact zbk (zcV (zfL t1 (zi3 t2)) rfl) (zb3 rfl)
theorem zlP (t : List zaU) (pl : Int) (h0 : 0 < t.length) : zfV [.lst (t.map sP), .int pl] = some (.v (.int (gsV t pl))) := by
  have i1 := ix_ok t pl h0
  have q := zaR pl (t.length : Int) (by omega)
  refine zho rfl rfl ?_
  unfold zeu
  refine zbk (δ' := [.val (.lst (t.map sP)), .val (.int pl), .val (sP (at_ t pl))]) (zfD (zaw (x := .lst (t.map sP)) (y := .int (pl % (t.length : Int))) rfl (zaw (x := .int pl) (y := .int (t.length : Int)) rfl ?_ q) i1)) ?_
  · show some (P.int ((t.map sP).length : Int)) = _
    rw [List.length_map]
  unfold gsV
  generalize P.lst (t.map sP) = S
  cases at_ t pl with
  | none => exact zeO (zdH (zk7 rfl) (zb3 rfl))
  | some z =>
    obtain ⟨a, b, c⟩ := z
    have t1 : pT (pOp (qIs false) (zaj 2) (pC .non)) [.val S, .val (.int pl), .val (sP (some (a, b, c)))] = some false := rfl
    have t2 : pT (pOp (qEq true) (pOp qIx (zaj 2) (pC (.int 0))) (zaj 1)) [.val S, .val (.int pl), .val (sP (some (a, b, c)))] = some (!decide (a = pl)) := neT a pl
    have t3 : pT (pOp qLt (pOp qIx (zaj 2) (pC (.int 2))) (pC (.int 2))) [.val S, .val (.int pl), .val (sP (some (a, b, c)))] = some (decide (c < 2)) := rfl
    simp only
    by_cases z1 : a = pl
    · rw [decide_eq_true z1] at t2
      by_cases z2 : 2 ≤ c
      · rw [decide_eq_false (show ¬ c < 2 by omega)] at t3
        rw [if_pos ⟨z1, z2⟩]
        exact zbk (zcV (zfy t1 (zfy t2 t3)) rfl) (zb3 rfl)
      · rw [decide_eq_true (show c < 2 by omega)] at t3
        rw [if_neg fun h => z2 h.2]
        exact zeO (zdH (zfy t1 (zfy t2 t3)) (zb3 rfl))
    · rw [decide_eq_false z1] at t2
      rw [if_neg fun h => z1 h.1]
      exact zeO (zdH (zfy t1 (zk7 t2)) (zb3 rfl))
end K54
namespace K54
open HL
local macro_rules | `(tactic| simp! only [$ls,*]) => `(tactic| simp only [zeq, zb2, za6, zcF, zdx, zbt, zmk, zfU, psBk, psCt, psEr, zjy, zmj, zhl, zml, psFrz, frz, zeT, psApp, zmi, zhm, pOp, pUn, zaj, pBor, pC, pT, zhk, zeC, zgf, zep, pAnd, pOr, pNot, pIf, zms, pB, pO, pL, zaX, zah, zjC, zmu, zmt, pOpO, pSl, zk4, pPart, zfx, zhS, zgx, zcT, zjz, zcw, pgTup, zgY, RF.val, zeQ, zft, LIM, zjj, zji, zjh, zjI, zjH, zje, zku, zjg, zjf, zjd, zjc, zm0, List.isEmpty_cons, List.isEmpty_nil, zhi, zjv, zjr, zaR, zeR, zkN, zkO, zkS, zkT, zfo, zkU, ziw, zkQ, zkP, zjt, zju, zjs, List.map_cons, List.map_nil, List.length_cons, List.length_nil, List.getElem?_cons_zero, List.getElem?_cons_succ, List.getElem?_nil, List.set_cons_zero, List.set_cons_succ, List.replicate, List.cons_append, List.nil_append, List.append_nil, Option.bind_some, Option.map_some, Option.bind_none, Option.map_none, Option.getD_some, if_true, if_false, Nat.reduceSub, Nat.reduceAdd, Nat.reduceLeDiff, Nat.reduceLT, Int.reduceLT, Int.reduceLE, Bool.not_true, Bool.not_false, Bool.false_eq_true, bne_self_eq_false, Bool.bne_true, Bool.bne_false, Bool.true_bne, Bool.false_bne, decide_eq_true_eq, reduceIte, reduceCtorEq, atP_0, atP_1, atP_2, atP_3, atP_4, atP_5, atP_6, atP_7, atP_8, atP_9, zm3, zm2, $ls,*])
open PySem (Str)
theorem tup3 {a b c : PE} {δ : Dl} {x y z : P} (h1 : a δ = some x) (h2 : b δ = some y) (h3 : c δ = some z) : pB zft (zah a (zah b (zah c zaX))) δ = some (.tup [x, y, z]) := by
  have e : zah a (zah b (zah c zaX)) δ = some [x, y, z] := by unfold zah; rw [h1, h2, h3]; rfl
  unfold pB; rw [e]; rfl
def kx (t : List zaU) (pl : Int) : Nat := (pl % (t.length : Int)).toNat
theorem ixk (t : List zaU) (pl : Int) (h0 : 0 < t.length) : ixW (t.map sP).length (pl % (t.length : Int)) = some (kx t pl) := by
  have m0 := Int.emod_nonneg pl (show (t.length : Int) ≠ 0 by omega)
  have m1 := Int.emod_lt_of_pos pl (show (0 : Int) < (t.length : Int) by omega)
  unfold ixW
  rw [List.length_map, if_pos m0, if_pos m1]
  rfl
theorem set_k (t : List zaU) (pl : Int) (x : zaU) : (t.map sP).set (kx t pl) (sP x) = (t.set (kx t pl) x).map sP := by rw [List.map_set]
theorem zl9 (t : List zaU) (pl : Int) (h0 : 0 < t.length) : t.set (kx t pl) (at_ t pl) = t := by
  have m0 := Int.emod_nonneg pl (show (t.length : Int) ≠ 0 by omega)
  have m1 := Int.emod_lt_of_pos pl (show (0 : Int) < (t.length : Int) by omega)
  have hk : kx t pl < t.length := by unfold kx; omega
  unfold at_
  show t.set (kx t pl) ((t[kx t pl]?).getD none) = t
  rw [List.getElem?_eq_getElem hk]
  exact List.set_getElem_self hk
theorem sub_ok {k e : PE} {δ : Dl} {xs : List P} {v : P} {j : Int} {m : Nat} (h1 : δ[3]? = some (.own xs)) (h2 : e δ = some v) (h3 : k δ = some (.int j)) (h4 : ixW xs.length j = some m) : zeT 3 k e δ = .nx (δ.set 3 (.own (xs.set m v))) := by
  unfold zeT
  rw [h1, h2, h3]
  simp only [h4]
theorem zkf (t : List zaU) (pl go : Int) (h0 : 0 < t.length) (hk : Ok (at_ t pl)) : zfw [.lst (t.map sP), .int pl, .int go] = some (.o ((t.set (kx t pl) (lrn (at_ t pl) pl go)).map sP)) := by
  have i1 := ix_ok t pl h0
  have i2 := ixk t pl h0
  have q := zaR pl (t.length : Int) (by omega)
  have ss := zl9 t pl h0
  have sk := set_k t pl
  have len : some (P.int ((t.map sP).length : Int)) = some (P.int (t.length : Int)) := by rw [List.length_map]
  generalize hx : at_ t pl = x at *
  generalize hL : t.map sP = L at *
  generalize hm : pl % (t.length : Int) = m at *
  generalize hkk : kx t pl = k at *
  have body : zcO [.val (.lst L), .val (.int pl), .val (.int go), .no, .no, .no] = .ro ((t.set k (lrn x pl go)).map sP) := by
    unfold zcO
    refine zbk (δ' := [.val (.lst L), .val (.int pl), .val (.int go), .own L, .no, .no]) rfl ?_
    refine zbk (δ' := [.val (.lst L), .val (.int pl), .val (.int go), .own L, .val (.int m), .no]) (zfD (zaw (x := .int pl) (y := .int (t.length : Int)) rfl len q)) ?_
    refine zbk (δ' := [.val (.lst L), .val (.int pl), .val (.int go), .own L, .val (.int m), .val (sP x)]) (zfD (zaw (x := .lst L) (y := .int m) rfl rfl i1)) ?_
    have fin : ∀ y : zaU, RS.nx ([.val (.lst L), .val (.int pl), .val (.int go), .own L, .val (.int m), .val (sP x)].set 3 (.own (L.set k (sP y)))) = .nx [.val (.lst L), .val (.int pl), .val (.int go), .own ((t.set k y).map sP), .val (.int m), .val (sP x)] := fun y => by rw [sk y]; rfl
    have one : ∀ (y : zaU) (e : PE), e [.val (.lst L), .val (.int pl), .val (.int go), .own L, .val (.int m), .val (sP x)] = some (sP y) → zeT 3 (zaj 4) e [.val (.lst L), .val (.int pl), .val (.int go), .own L, .val (.int m), .val (sP x)] = .nx [.val (.lst L), .val (.int pl), .val (.int go), .own ((t.set k y).map sP), .val (.int m), .val (sP x)] := fun y e h => (sub_ok rfl h rfl i2).trans (fin y)
    have same : [Sl.val (.lst L), .val (.int pl), .val (.int go), .own L, .val (.int m), .val (sP x)] = [Sl.val (.lst L), .val (.int pl), .val (.int go), .own ((t.set k x).map sP), .val (.int m), .val (sP x)] := by rw [ss, hL]
    have neG : pT (pOp (qEq true) (zaj 2) (pOp zeH (zaj 1) (pC (.int 1)))) [.val (.lst L), .val (.int pl), .val (.int go), .own L, .val (.int m), .val (sP x)] = some (!decide (go = pl + 1)) := neT go (pl + 1)
    have eqG : pT (pOp (qEq false) (zaj 2) (pOp zeH (zaj 1) (pC (.int 1)))) [.val (.lst L), .val (.int pl), .val (.int go), .own L, .val (.int m), .val (sP x)] = some (decide (go = pl + 1)) := eqT go (pl + 1)
    refine zbk (δ' := [.val (.lst L), .val (.int pl), .val (.int go), .own ((t.set k (lrn x pl go)).map sP), .val (.int m), .val (sP x)]) ?_ rfl
    cases x with
    | none =>
      refine zdH (zk7 rfl) ?_
      unfold lrn
      by_cases z : go = pl + 1
      · rw [decide_eq_true z] at neG
        simp only [z, if_true]
        refine zcV (z ▸ neG) ?_
        show RS.nx _ = _
        rw [z] at same
        rw [same]
      · rw [decide_eq_false z] at neG
        simp only [z, if_false]
        exact zdH neG (one _ _ rfl)
    | some w =>
      obtain ⟨a, b, c⟩ := w
      have t1 : pT (pOp (qIs false) (zaj 5) (pC .non)) [.val (.lst L), .val (.int pl), .val (.int go), .own L, .val (.int m), .val (sP (some (a, b, c)))] = some false := rfl
      have t2 : pT (pOp (qEq true) (pOp qIx (zaj 5) (pC (.int 0))) (zaj 1)) [.val (.lst L), .val (.int pl), .val (.int go), .own L, .val (.int m), .val (sP (some (a, b, c)))] = some (!decide (a = pl)) := neT a pl
      have t3 : pT (pOp (qEq false) (pOp qIx (zaj 5) (pC (.int 1))) (zaj 2)) [.val (.lst L), .val (.int pl), .val (.int go), .own L, .val (.int m), .val (sP (some (a, b, c)))] = some (decide (b = go)) := eqT b go
      simp only [Ok] at hk
      have u1 : qIx (.lst [.int 1, .int 2, .int 3, .int 3]) (.int c) = some (.int (if (3 : Int) < c + 1 then 3 else c + 1)) := by
        obtain rfl | rfl | rfl | rfl : c = 0 ∨ c = 1 ∨ c = 2 ∨ c = 3 := by omega
        all_goals rfl
      have u2 : qIx (.lst [.int 0, .int 0, .int 1, .int 2]) (.int c) = some (.int (if (0 : Int) > c - 1 then 0 else c - 1)) := by
        obtain rfl | rfl | rfl | rfl : c = 0 ∨ c = 1 ∨ c = 2 ∨ c = 3 := by omega
        all_goals rfl
      unfold lrn
      simp only
      by_cases z : a = pl
      · rw [decide_eq_true z] at t2
        rw [if_pos z]
        refine zcV (zfy t1 t2) ?_
        by_cases z2 : b = go
        · rw [decide_eq_true z2] at t3
          rw [if_pos z2.symm]
          exact zdH t3 (one (some (pl, go, _)) _ (tup3 rfl rfl (zaw (lst4 rfl rfl rfl rfl) rfl u1)))
        · rw [decide_eq_false z2] at t3
          rw [if_neg fun y => z2 y.symm]
          refine zcV t3 ?_
          by_cases z3 : go = pl + 1
          · rw [decide_eq_true z3] at eqG
            rw [if_pos z3]
            exact zdH eqG (one (some (pl, b, _)) _ (tup3 rfl rfl (zaw (lst4 rfl rfl rfl rfl) rfl u2)))
          · rw [decide_eq_false z3] at eqG
            rw [if_neg z3]
            exact zcV eqG (one (some (pl, go, 2)) _ (tup3 rfl rfl rfl))
      · rw [decide_eq_false z] at t2
        rw [if_neg z]
        refine zdH (zfy t1 t2) ?_
        by_cases z3 : go = pl + 1
        · rw [decide_eq_true z3] at neG
          rw [if_pos z3]
          refine zcV neG ?_
          exact congrArg RS.nx same
        · rw [decide_eq_false z3] at neG
          rw [if_neg z3]
          exact zdH neG (one (some (pl, go, 2)) _ (tup3 rfl rfl rfl))
  exact pf_ro rfl rfl body
def sD : zaU → D
  | none => .non
  | some (a, b, c) => .tup [.int a, .int b, .int c]
theorem dat_s (n : Nat) (x : zaU) : zbG (n + 1) (sP x) = some (sD x) := by
  cases x with
  | none => rfl
  | some z => obtain ⟨a, b, c⟩ := z; cases n <;> rfl
theorem zh3 (g l T : P) : ∀ (t : List zaU) (y : Sl), ∃ y', zjL (zcw 3) zcy (t.map sP) [.val g, .val l, .val T, y] = .nx [.val g, .val l, .val T, y']
  | [], y => ⟨y, rfl⟩
  | x :: t, y => by
    obtain ⟨y', r⟩ := zh3 g l T t (.val (sP x))
    refine ⟨y', ?_⟩
    have b1 : zcy [.val g, .val l, .val T, .val (sP x)] = .nx [.val g, .val l, .val T, .val (sP x)] := by
      unfold zcy
      cases x with
      | none => exact zbk (zcV (zi3 rfl) rfl) (zcV (zi3 rfl) rfl)
      | some z =>
        obtain ⟨a, b, c⟩ := z
        refine zbk (zcV (zfL rfl rfl) rfl) (zcV (zfL rfl ?_) rfl)
        exact zk3 (zaw (x := .lst []) (y := .lst []) rfl rfl (qEq_nil (ds := []) true rfl)) rfl
    rw [List.map_cons]
    unfold zjL
    show (match zcy [.val g, .val l, .val T, .val (sP x)] with | .nx δ2 => _ | .ct δ2 => _ | .bk δ2 => _ | r => r) = _
    rw [b1]
    exact r
theorem kept_ok (t : List zaU) : zgy [gP t, .lst (t.map sP)] = some (.v (.bl true)) := by
  have q : qEq true (.lst (t.map sP)) (.lst (t.map sP)) = some (.bl false) := by
    refine zhj true (d := .lst (t.map sD)) ?_
    show (zbK (zbG 7) (t.map sP)).map D.lst = _
    rw [zfp 7 sP sD (dat_s 6) t]; rfl
  have i1 : pT (pB (qIsi zeL) (zah (zaj 2) (zah (pC (.ty "tuple")) zaX))) [.val (gP t), .val (.lst (t.map sP)), .val (.tup (t.map sP)), .no] = some true := rfl
  obtain ⟨y', lp⟩ := zh3 (gP t) (.lst (t.map sP)) (.tup (t.map sP)) t .no
  refine zho rfl rfl ?_
  unfold ze7
  refine zbk (δ' := [.val (gP t), .val (.lst (t.map sP)), .val (.tup (t.map sP)), .no]) (zfD rfl) ?_
  refine zbk (δ' := [.val (gP t), .val (.lst (t.map sP)), .val (.tup (t.map sP)), .no]) (zcV (zfy (by unfold zhk; rw [i1]; rfl) (zk3 (zaw (x := .lst (t.map sP)) rfl rfl q) rfl)) rfl) ?_
  exact zbk (for_nx (xs := t.map sP) rfl lp) rfl
end K54
namespace K54
open HL
open PySem (Str)
local macro_rules | `(tactic| simp! only [$ls,*]) => `(tactic| simp only [fnOf, start, zaq, za5, sRetN, zaE, zd4, sIf, sNx, zhb, zdh, dB, zaa, zad, zac, dC, dOp, dUn, zf4, zaK, zav, zeI, dT, zem, zfP, tOr, zfO, dNot, ziW, dOr, ze9, R.bind, OR.fin, zbc, oSub, zgk, zcE, zcU, zbb, oLe, zhP, zco, ziJ, List.map_cons, List.map_nil, List.length_cons, List.length_nil, List.cons_append, List.nil_append, List.replicate, List.getElem?_cons_zero, List.getElem?_cons_succ, List.set_cons_zero, List.set_cons_succ, Nat.reduceAdd, Nat.reduceSub, Nat.zero_add, if_true, if_false, Bool.not_true, Bool.not_false, Bool.false_eq_true, reduceIte, reduceCtorEq, decide_true, decide_false, Bool.and_true, Bool.and_self, $ls,*])
def Has (h : Sh) (L : List (Nat × SO)) : Prop := (L.map Prod.fst).Nodup ∧ ∀ x ∈ L, h[x.1]? = some x.2
section
variable {h : Sh} {L L' : List (Nat × SO)} {i : Nat} {o o' : SO}
theorem Has.perm (H : Has h L) (p : L.Perm L') : Has h L' := ⟨(p.map _).nodup_iff.mp H.1, fun x hx => H.2 x (p.symm.subset hx)⟩
theorem Has.get (H : Has h L) (m : (i, o) ∈ L) : h[i]? = some o := H.2 _ m
theorem Has.lt (H : Has h L) (m : (i, o) ∈ L) : i < h.length := by
  have := H.get m
  exact (List.getElem?_eq_some_iff.mp this).1
theorem Has.set (H : Has h ((i, o) :: L)) : Has (h.set i o') ((i, o') :: L) := by
  have lt := H.lt (List.mem_cons_self ..)
  refine ⟨H.1, fun x hx => ?_⟩
  rcases List.mem_cons.mp hx with rfl | hx
  · simp only [List.getElem?_set, lt, if_true]
  · have : i ≠ x.1 := by
      intro e
      have n := (List.nodup_cons.mp H.1).1
      exact n (List.mem_map.mpr ⟨x, hx, e.symm⟩)
    simp only [List.getElem?_set, this, if_false]
    exact H.2 x (List.mem_cons_of_mem _ hx)
theorem Has.app (H : Has h L) (l : Sh) : Has (h ++ l) L := ⟨H.1, fun x hx => by
  have := H.2 x hx
  rw [List.getElem?_append_left (List.getElem?_eq_some_iff.mp this).1]
  exact this⟩
theorem Has.new (H : Has h L) (o : SO) : Has (h ++ [o]) ((h.length, o) :: L) := by
  refine ⟨List.nodup_cons.mpr ⟨?_, H.1⟩, fun x hx => ?_⟩
  · intro m
    obtain ⟨x, hx, e⟩ := List.mem_map.mp m
    have := (List.getElem?_eq_some_iff.mp (H.2 x hx)).1
    omega
  · rcases List.mem_cons.mp hx with rfl | hx
    · simp only [List.getElem?_append_right (Nat.le_refl _), Nat.sub_self, List.getElem?_cons_zero]
    · exact (H.app [o]).2 x hx
theorem Has.left (H : Has h (L ++ L')) : Has h L := ⟨by have := H.1; rw [List.map_append] at this; exact (List.nodup_append.mp this).1, fun x hx => H.2 x (List.mem_append_left _ hx)⟩
theorem Has.ne {j : Nat} {p : SO} (H : Has h ((i, o) :: L)) (m : (j, p) ∈ L) : i ≠ j := by
  intro e
  exact (List.nodup_cons.mp H.1).1 (List.mem_map.mpr ⟨_, m, e.symm⟩)
end
theorem zg2 {h : Sh} {i : Nat} {c f : Str} {fs : List (Str × W)} {cs : List Str} {v : W} (e : h[i]? = some (.ins c fs)) (hc : cs.contains c = true) (hf : fs.lookup f = some v) : ziT cs f (.ref i) h = some v := by
  simp only [ziT, e, hc, if_true, hf]
theorem zd8 {h : Sh} {i : Nat} {c m : Str} {fs : List (Str × W)} {tb : List (Str × Fn)} (e : h[i]? = some (.ins c fs)) (hf : fs.lookup m = none) : zeV tb m (.ref i) h = tb.lookup c := by
  simp only [zeV, e, hf, if_true]
theorem zkB {h : Sh} {i : Nat} {c f : Str} {fs : List (Str × W)} {cs : List Str} {v : W} (e : h[i]? = some (.ins c fs)) (hc : cs.contains c = true) (hf : fs.length < 1000) : setF cs f (.ref i) v h = .ok .non (h.set i (.ins c (zix f v fs))) := by
  simp only [setF, e, hc, hf, true_and, if_true]
theorem Has.upd {h : Sh} {A B : List (Nat × SO)} {i : Nat} {o o' : SO} (H : Has h (A ++ (i, o) :: B)) : Has (h.set i o') (A ++ (i, o') :: B) :=
  ((H.perm (List.perm_middle)).set (o' := o')).perm List.perm_middle.symm
theorem atW_of {xs : List W} {i : Int} {v : W} (h0 : 0 ≤ i) (e : xs[i.toNat]? = some v) : atW xs i = some v := by
  have lt := (List.getElem?_eq_some_iff.mp e).1
  have : i < (xs.length : Int) := by omega
  simp only [atW, ixW, h0, this, if_true, Option.bind_some, e]
theorem Has.sub {h : Sh} {L L' : List (Nat × SO)} (H : Has h L) (s : L'.Sublist L) : Has h L' := ⟨H.1.sublist (s.map _), fun x hx => H.2 x (s.subset hx)⟩
theorem zar {a b : DS} {s s' : Sg} {h h' : Sh} (e : a s h = .nx s' h') : zaq a b s h = b s' h' := by unfold zaq; rw [e]
theorem zjM {p n : Nat} {b : DS} {vs : List W} {h h' : Sh} {v : W} (hp : vs.length = p) (e : b (start n vs) h = .rt v h') : fnOf p n b vs h = .ok v h' := by simp only [fnOf, hp, if_true, e]
theorem fn_nx {p n : Nat} {b : DS} {vs : List W} {h h' : Sh} {s' : Sg} (hp : vs.length = p) (e : b (start n vs) h = .nx s' h') : fnOf p n b vs h = .ok .non h' := by simp only [fnOf, hp, if_true, e]
theorem zlM (a : Int) (h : Sh) : zdJ [.int a] h = .ok (.bl true) h := rfl
theorem zlx (a lo hi : Int) (h : Sh) (h1 : lo ≤ a) (h2 : a ≤ hi) : zbS [.int a, .int lo, .int hi] h = .ok (.bl true) h := by
  simp! only [zdL, zlM, h1, h2]
end K54
namespace K54
open HL
open PySem (Str)
local macro_rules | `(tactic| simp! only [$ls,*]) => `(tactic| simp only [fnOf, start, zaq, za5, sRetN, zaE, zd4, sIf, sNx, zhb, zdh, dB, zaa, zad, zac, dC, dOp, dUn, zf4, zaK, zav, zeI, dT, zem, zfP, tOr, zfO, dNot, ziW, dOr, ze9, R.bind, OR.fin, zbc, oSub, zgk, zcE, zcU, zbb, oLe, zhP, zco, ziJ, List.map_cons, List.map_nil, List.length_cons, List.length_nil, List.cons_append, List.nil_append, List.replicate, List.getElem?_cons_zero, List.getElem?_cons_succ, List.set_cons_zero, List.set_cons_succ, Nat.reduceAdd, Nat.reduceSub, Nat.zero_add, if_true, if_false, Bool.not_true, Bool.not_false, Bool.false_eq_true, reduceIte, reduceCtorEq, decide_true, decide_false, Bool.and_true, Bool.and_self, $ls,*])
theorem zh8 (f : HL.W → Option D) (hf : ∀ i, f (.int i) = some (.int i)) : ∀ ns : List Int, zdy f (ns.map .int) = some (ns.map .int)
  | [] => rfl
  | n :: ns => by simp only [List.map_cons, zdy, hf, zh8 f hf ns, Option.bind_some, Option.map_some]
section
variable {h : Sh} {ns : List Int}
theorem zg7 {l : Sh} (hs : h[0]? = some (.rol (ns.map .int))) : (h ++ l)[0]? = some (.rol (ns.map .int)) := by
  rw [List.getElem?_append_left (List.getElem?_eq_some_iff.mp hs).1]; exact hs
theorem ne_ok (hs : h[0]? = some (.rol (ns.map .int))) : eqH (.ref 0) (.ref h.length) (h ++ [.lst []]) = some ns.isEmpty := by
  have e1 : dat zdv (h ++ [.lst []]) (.ref 0) = some (.lst (ns.map .int)) := by
    show (match (h ++ [SO.lst []])[0]? with
      | some (.lst xs) => (zdy (dat 7 (h ++ [SO.lst []])) xs).map D.lst
      | some (.rol xs) => (zdy (dat 7 (h ++ [SO.lst []])) xs).map D.lst
      | some (.tup xs) => (zdy (dat 7 (h ++ [SO.lst []])) xs).map D.tup
      | _ => none) = _
    rw [zg7 hs]
    show (zdy (dat 7 (h ++ [SO.lst []])) (ns.map HL.W.int)).map D.lst = _
    rw [zh8 (dat 7 (h ++ [SO.lst []])) (fun i => rfl)]; rfl
  have e2 : dat zdv (h ++ [.lst []]) (.ref h.length) = some (.lst []) := by
    show (match (h ++ [SO.lst []])[h.length]? with
      | some (.lst xs) => (zdy (dat 7 (h ++ [SO.lst []])) xs).map D.lst
      | some (.rol xs) => (zdy (dat 7 (h ++ [SO.lst []])) xs).map D.lst
      | some (.tup xs) => (zdy (dat 7 (h ++ [SO.lst []])) xs).map D.tup
      | _ => none) = _
    rw [List.getElem?_append_right (Nat.le_refl _), Nat.sub_self]
    rfl
  simp only [eqH, e1, e2]
  cases ns <;> rfl
def zjV (ns : List Int) (k : Int) : Int := if ns.isEmpty = true then 7919 * k + 11 else (ns[(k % ((ns.length : Nat) : Int)).toNat]?).getD 0 * 48271 + 104729 * k + k / ((ns.length : Nat) : Int) * 7919
def zlr (ns : List Int) (k : Int) : Int := (zjV ns k % 2147483647) * (zjV ns k % 2147483647) % 2147483629
def zmZ (ns : List Int) (k : Int) : Int := (zlr ns k * zlr ns k + 69621 * zlr ns k + k) % 2147483587
theorem zmY (hs : h[0]? = some (.rol (ns.map .int))) (hl : ns.length ≤ 63) (k : Int) (h0 : 0 ≤ k) : ∃ v, zaB [.ref 0, .int k] h = .ok (.int v) (h ++ [.lst []]) ∧ 0 ≤ v ∧ v < 2147483587 ∧ v = zmZ ns k := by
  have e1 := ne_ok hs
  have g1 := zg7 (l := [.lst []]) hs
  have s1 : zaE 2 (dOp zbc (dOp zcE (dC (.int 7919)) (zac 1)) (dC (.int 11))) (start 4 [.ref 0, .int k]) h = .nx [some (.ref 0), some (.int k), some (.int (7919 * k + 11)), none] h := by
    simp! only [show zbm 7919 k = true from rfl]
  have sq : zd0 (h ++ [.lst []]) (.ref 0) = some (ns.map .int) := by simp only [zd0, lstW, g1, Option.or]
  have s2 : ∃ c : Int, (sIf (dT (dOp oNe (zac 0) (dB zbs zad))) (zaq (zaE 2 (dOp zbc (dOp zcE (dOp oIx (zac 0) (dOp zbb (zac 1) (dB zc7 (zaa (zac 0) zad)))) (dC (.int 48271))) (dOp zcE (dC (.int 104729)) (zac 1))))
    (zaE 2 (dOp zbc (zac 2) (dOp zcE (dOp zcU (zac 1) (dB zc7 (zaa (zac 0) zad))) (dC (.int 7919)))))) sNx) [some (.ref 0), some (.int k), some (.int (7919 * k + 11)), none] h = .nx [some (.ref 0), some (.int k), some (.int c), none] (h ++ [.lst []]) ∧ c = zjV ns k := by
    have lim : (0 : Nat) ≤ LIM := Nat.zero_le _
    cases hn : ns with
    | nil =>
      rw [hn] at e1
      refine ⟨7919 * k + 11, ?_, rfl⟩
      simp! only [zbs, lim, oNe, e1, List.isEmpty_nil]
    | cons a r =>
      rw [hn] at e1 sq hl
      have pos : (0 : Int) < (((a :: r).length : Nat) : Int) := by rw [List.length_cons]; omega
      have lt30 : (((a :: r).length : Nat) : Int) < 1073741824 := by omega
      have lt : (k % (((a :: r).length : Nat) : Int)).toNat < (a :: r).length := by
        have := Int.emod_lt_of_pos k pos
        have := Int.emod_nonneg k (Int.ne_of_gt pos)
        omega
      have e3 : atW ((a :: r).map HL.W.int) (k % (((a :: r).length : Nat) : Int)) = some (.int (a :: r)[(k % (((a :: r).length : Nat) : Int)).toNat]) := atW_of (Int.emod_nonneg _ (by omega)) (by rw [List.getElem?_map, List.getElem?_eq_getElem lt]; rfl)
      have m1 : ∀ x : Int, zbm x 48271 = true := fun x => by simp [zbm]
      have m2 : ∀ x : Int, zbm x 7919 = true := fun x => by simp [zbm]
      have lm : ((a :: r).map HL.W.int).length = (a :: r).length := List.length_map ..
      have hcx : (a :: r)[(k % (((a :: r).length : Nat) : Int)).toNat] * 48271 + 104729 * k + k / (((a :: r).length : Nat) : Int) * 7919 = zjV (a :: r) k := by
        unfold zjV
        rw [if_neg (by exact Bool.false_ne_true), List.getElem?_eq_getElem lt]
        rfl
      generalize (a :: r)[(k % (((a :: r).length : Nat) : Int)).toNat] = x at e3 hcx
      refine ⟨x * 48271 + 104729 * k + k / (((a :: r).length : Nat) : Int) * 7919, ?_, hcx⟩
      have ne : (a :: r).isEmpty = false := rfl
      rw [ne] at e1
      generalize (a :: r) = w at e1 sq pos lt30 e3 lm ⊢
      simp! only [zbs, lim, oNe, e1, zc7, sq, lm, pos, lt30, oIx, e3, m1, m2, show zbm 104729 k = true from rfl]
  obtain ⟨c, s2, hc⟩ := s2
  have p1 := Int.emod_nonneg c (show (2147483647 : Int) ≠ 0 by decide)
  have p2 := Int.emod_lt_of_pos c (show (0 : Int) < 2147483647 by decide)
  have s3 : zaE 3 (dOp zbb (zac 2) (dC (.int 2147483647))) [some (.ref 0), some (.int k), some (.int c), none] (h ++ [.lst []]) = .nx [some (.ref 0), some (.int k), some (.int c), some (.int (c % 2147483647))] (h ++ [.lst []]) := by
    simp! only [show decide ((0 : Int) < 2147483647) = true from rfl]
  generalize hd : c % 2147483647 = d at p1 p2 s3
  have m1 : zbm d d = true := by
    have : d.natAbs < 2 ^ 64 := by omega
    simp only [zbm, this, decide_true, Bool.true_or]
  have s4 : zaE 3 (dOp zbb (dOp zcE (zac 3) (zac 3)) (dC (.int 2147483629))) [some (.ref 0), some (.int k), some (.int c), some (.int d)] (h ++ [.lst []]) = .nx [some (.ref 0), some (.int k), some (.int c), some (.int (d * d % 2147483629))] (h ++ [.lst []]) := by
    simp! only [m1, show decide ((0 : Int) < 2147483629) = true from rfl]
  have q1 := Int.emod_nonneg (d * d) (show (2147483629 : Int) ≠ 0 by decide)
  have q2 := Int.emod_lt_of_pos (d * d) (show (0 : Int) < 2147483629 by decide)
  generalize he : d * d % 2147483629 = e at q1 q2 s4
  have m2 : zbm e e = true := by
    have : e.natAbs < 2 ^ 64 := by omega
    simp only [zbm, this, decide_true, Bool.true_or]
  refine ⟨(e * e + 69621 * e + k) % 2147483587, zjM rfl ?_, Int.emod_nonneg _ (by decide), Int.emod_lt_of_pos _ (by decide), by unfold zmZ zlr; rw [← hc, hd, he]⟩
  unfold zcX
  rw [zar s1, zar s2, zar s3, zar s4]
  simp! only [m2, show zbm 69621 e = true from rfl, show decide ((0 : Int) < 2147483587) = true from rfl]
end
end K54
namespace K54
open HL
open PySem (Str)
def zdP : List W := [.int 0, .int 17, .int (-1), .bl true, .bl false, .non, .str "8", .int 100000000000000000000, .int (-100000000000000000000), .ref 1, .ref 2, .int 16, .int 1]
def h13 (z : SO) : Sh := [z, .tup [.int 8], .lst [.int 8], .lst zdP, .lst []]
def fin2 : R W → Option (W × Option SO)
  | .ok v h => some (v, h[0]?)
  | _ => none
theorem made0 (z : SO) : fin2 (zap [.int 0] (h13 z)) = some (.str "no", some z) := by kernel_rfl
theorem made1 (z : SO) : fin2 (zap [.int 17] (h13 z)) = some (.str "no", some z) := by kernel_rfl
theorem made2 (z : SO) : fin2 (zap [.int (-1)] (h13 z)) = some (.str "no", some z) := by kernel_rfl
theorem made3 (z : SO) : fin2 (zap [.bl true] (h13 z)) = some (.str "no", some z) := by kernel_rfl
theorem made4 (z : SO) : fin2 (zap [.bl false] (h13 z)) = some (.str "no", some z) := by kernel_rfl
theorem made5 (z : SO) : fin2 (zap [.non] (h13 z)) = some (.str "no", some z) := by kernel_rfl
theorem made6 (z : SO) : fin2 (zap [.str "8"] (h13 z)) = some (.str "no", some z) := by kernel_rfl
theorem made7 (z : SO) : fin2 (zap [.int 100000000000000000000] (h13 z)) = some (.str "no", some z) := by kernel_rfl
theorem made8 (z : SO) : fin2 (zap [.int (-100000000000000000000)] (h13 z)) = some (.str "no", some z) := by kernel_rfl
theorem made9 (z : SO) : fin2 (zap [.ref 1] (h13 z)) = some (.str "no", some z) := by kernel_rfl
theorem made10 (z : SO) : fin2 (zap [.ref 2] (h13 z)) = some (.str "no", some z) := by kernel_rfl
theorem made11 (z : SO) : fin2 (zap [.int 16] (h13 z)) = some (.int 16, some z) := by kernel_rfl
theorem made12 (z : SO) : fin2 (zap [.int 1] (h13 z)) = some (.int 1, some z) := by kernel_rfl
end K54
namespace K54
open HL
open PySem (Str)
structure Mx (T : Nat → Prop) (s : Sg) (h : Sh) (δ : Dl) : Prop where
  lt : ∀ i, T i → i < h.length
  ln : s.length = δ.length
  at_ : ∀ (i : Nat) (sl : Sl), δ[i]? = some sl → sl = .no ∨ ∃ p u, sl = .val p ∧ s[i]? = some (some u) ∧ Dn T h p u
section
variable {T T' : Nat → Prop} {s : Sg} {h h' l : Sh} {δ : Dl}
theorem no_ow {m : Nat} {i : Nat} : Tb T (List.replicate m []) i → T i := fun z => z.elim id fun y => (Ow.none y).elim
theorem Mx.env (M : Mx T s h δ) : Env ⟨h.length, fun _ => False, none⟩ T (List.replicate δ.length []) s h δ where
  le := Nat.le_refl _
  old := fun i t => ⟨M.lt i t, id⟩
  ls := M.ln
  lo := List.length_replicate
  one := fun i j a l m e1 e2 m1 m2 => by
    have := List.mem_of_getElem? e1
    rw [(List.mem_replicate.mp this).2] at m1; cases m1
  new := fun a x => (Ow.none x).elim
  at_ := fun i sl e => by
    have hi : i < δ.length := (List.getElem?_eq_some_iff.mp e).1
    have eo : ((List.replicate δ.length ([] : List Nat))[i]?).getD [] = [] := by rw [List.getElem?_replicate, if_pos hi]; rfl
    rw [eo]
    rcases M.at_ i sl e with rfl | ⟨p, u, rfl, g, d⟩
    · rfl
    · exact ⟨rfl, u, by rw [g]; rfl, d.weak fun i t => no_ow t⟩
  self := fun c fs w e m => by cases m
theorem Mx.e {d : DE} {p : PE} {r : P} (k : Pe d p) (M : Mx T s h δ) (e : p δ = some r) : ∃ w l, d s h = .ok w (h ++ l) ∧ Dn T (h ++ l) r w := by
  obtain ⟨w, l, a, b⟩ := k _ _ _ _ _ _ _ M.env e
  exact ⟨w, l, a, b.weak fun i t => .inl t⟩
theorem Mx.o {d : DE} {p : Dl → Option (List P)} {r : List P} (k : Po d p) (M : Mx T s h δ) (e : p δ = some r) : ∃ a l us, d s h = .ok (.ref a) (h ++ l) ∧ h.length ≤ a ∧ (h ++ l)[a]? = some (.lst us) ∧ Dns (fun i => T i ∨ i = a) (h ++ l) r us := by
  obtain ⟨a, l, us, e1, e2, e3, e4⟩ := k _ _ _ _ _ _ _ M.env e
  exact ⟨a, l, us, e1, e2, e3, e4.weak fun i t => t.elim (fun z => .inl (.inl z)) .inr⟩
theorem Mx.t {d : DT} {p : PT} {r : Bool} (k : Pt d p) (M : Mx T s h δ) (e : p δ = some r) : ∃ l, d s h = .ok r (h ++ l) := k _ _ _ _ _ _ _ M.env e
theorem Mx.mv (M : Mx T s h δ) (k : ∀ (i : Nat) (u : SO), ¬ T i → h[i]? = some u → h'[i]? = some u ∧ ¬ T' i) (lt : ∀ i, T' i → i < h'.length) : Mx T' s h' δ :=
  ⟨lt, M.ln, fun i sl e => (M.at_ i sl e).imp id fun ⟨p, u, a, b, d⟩ => ⟨p, u, a, b, Dn.mono k p u d⟩⟩
theorem Mx.app (M : Mx T s h δ) : Mx T s (h ++ l) δ := M.mv (fun i u t e => ⟨zax e, t⟩) fun i t => by rw [List.length_append]; have := M.lt i t; omega
theorem Mx.set (M : Mx T s h δ) (i : Nat) {p : P} {w : W} (d : Dn T h p w) : Mx T (s.set i (some w)) h (δ.set i (.val p)) :=
  ⟨M.lt, by rw [List.length_set, List.length_set, M.ln], fun j sl e => by
    rw [List.getElem?_set] at e
    split at e
    · rename_i z; subst z
      split at e
      · rename_i z; cases e
        exact .inr ⟨p, w, rfl, by rw [List.getElem?_set]; simp only [if_true, M.ln, z], d⟩
      · cases e
    · rename_i z
      rw [List.getElem?_set_ne z]; exact M.at_ j sl e⟩
theorem Mx.no (M : Mx T s h δ) (i : Nat) {w : Option W} : Mx T (s.set i w) h (δ.set i .no) :=
  ⟨M.lt, by rw [List.length_set, List.length_set, M.ln], fun j sl e => by
    rw [List.getElem?_set] at e
    split at e
    · split at e
      · cases e; exact .inl rfl
      · cases e
    · rename_i z
      rw [List.getElem?_set_ne z]; exact M.at_ j sl e⟩
theorem Mx.sset {i : Nat} {d : DE} {p : PE} {r : P} (k : Pe d p) (M : Mx T s h δ) (e : p δ = some r) : ∃ w l, zaE i d s h = .nx (s.set i (some w)) (h ++ l) ∧ Mx T (s.set i (some w)) (h ++ l) (δ.set i (.val r)) ∧ Dn T (h ++ l) r w := by
  obtain ⟨w, l, a, b⟩ := M.e k e
  exact ⟨w, l, by unfold zaE; rw [a], M.app.set i b, b⟩
theorem Mx.start {m : Nat} {ps : List P} {ws : List W} (lt : ∀ i, T i → i < h.length) (d : Dns T h ps ws) : Mx T (start m ws) h (zb2 m ps) := by
  have E := zgp (m := m) lt d
  refine ⟨lt, E.ls, fun i sl e => ?_⟩
  have := E.at_ i sl e
  cases sl with
  | no => exact .inl rfl
  | val p =>
    obtain ⟨_, u, g, d⟩ := this
    refine .inr ⟨p, u, rfl, ?_, d.weak fun i t => .inl t⟩
    cases q : (HL.start m ws)[i]? with
    | none => rw [q] at g; cases g
    | some z => rw [q] at g; exact congrArg some g
  | own xs =>
    exfalso
    have := List.mem_of_getElem? e
    simp [zb2] at this
  | obj c fs =>
    exfalso
    have := List.mem_of_getElem? e
    simp [zb2] at this
theorem zgv {c : DT} {a b : DS} {s s' : Sg} {h h1 h2 : Sh} (e : c s h = .ok false h1) (k : b s h1 = .nx s' h2) : sIf c a b s h = .nx s' h2 := by unfold sIf; rw [e]; exact k
theorem sIf_t {c : DT} {a b : DS} {s s' : Sg} {h h1 h2 : Sh} (e : c s h = .ok true h1) (k : a s h1 = .nx s' h2) : sIf c a b s h = .nx s' h2 := by unfold sIf; rw [e]; exact k
theorem zjm {e : DE} {s : Sg} {h h1 : Sh} {v : W} (k : e s h = .ok v h1) : zd4 e s h = .nx s h1 := by unfold zd4; rw [k]
theorem zdF {i : Nat} {e : DE} {s : Sg} {h h1 : Sh} {v : W} (k : e s h = .ok v h1) : zaE i e s h = .nx (s.set i (some v)) h1 := by unfold zaE; rw [k]
theorem zkF {e : DE} {s : Sg} {h h1 : Sh} {v : W} (k : e s h = .ok v h1) : za5 e s h = .rt v h1 := by unfold za5; rw [k]
end
def gH (g e : Nat) (ws : List W) : List (Nat × SO) := [(g, .ins "Guesses" [("entries", .ref e)]), (e, .lst ws)]
section
variable {T T' : Nat → Prop} {s : Sg} {h h' l : Sh} {δ : Dl} {g e : Nat} {ws : List W} {t : List zaU}
theorem zh4 (H : Has h (gH g e ws)) : zaL [.ref g] h = .ok (.ref h.length) (h ++ [.tup ws]) := by
  have g1 : h[g]? = some (.ins "Guesses" [("entries", .ref e)]) := H.get (List.mem_cons_self ..)
  have g2 : h[e]? = some (.lst ws) := H.get (List.mem_cons_of_mem _ (List.mem_cons_self ..))
  have f1 : ziT ["Guesses"] "entries" (.ref g) h = some (.ref e) := zg2 g1 (by decide) rfl
  refine zjM rfl (zkF ?_)
  simp only [dB, zaa, zad, zf4, zac, start, List.map_cons, List.map_nil, List.cons_append, List.nil_append, List.getElem?_cons_zero, R.bind, f1, zds, lstW, g2, OR.fin]
theorem gnum_ok (H : Has h (gH g e ws)) (pl : Int) (h0 : 0 < ws.length) : zaC [.ref g, .int pl] h = .ok (.int (pl % (ws.length : Int))) h := by
  have g1 : h[g]? = some (.ins "Guesses" [("entries", .ref e)]) := H.get (List.mem_cons_self ..)
  have g2 : h[e]? = some (.lst ws) := H.get (List.mem_cons_of_mem _ (List.mem_cons_self ..))
  have f1 : ziT ["Guesses"] "entries" (.ref g) h = some (.ref e) := zg2 g1 (by decide) rfl
  have d1 : decide ((0 : Int) < (ws.length : Int)) = true := decide_eq_true (by omega)
  refine zjM rfl (zkF ?_)
  simp only [dOp, dB, zaa, zad, zf4, zac, start, List.map_cons, List.map_nil, List.cons_append, List.nil_append, List.getElem?_cons_zero, List.getElem?_cons_succ, R.bind, f1, zc7, zd0, lstW, g2, OR.fin, Option.or, zbb, zgk, d1, if_true]
theorem zjJ {A B : List (Nat × SO)} (lt : ∀ i, T i → i < h.length) (H : Has h (A ++ gH g e ws ++ B)) (te : T e) (d : Dns T h (t.map sP) ws) (h0 : 0 < t.length) (pl go : Int) :
    ∃ h' ws', za0 [.ref g, .int pl, .int go] h = .ok .non h' ∧ Has h' (A ++ gH g e ws' ++ B) ∧ Dns T h' ((t.set (kx t pl) (lrn (at_ t pl) pl go)).map sP) ws' ∧ h.length ≤ h'.length ∧ ∀ i o, ¬ T i → h[i]? = some o → h'[i]? = some o := by
  have Hg : Has h (gH g e ws) := H.sub ((List.sublist_append_right A _).trans (List.sublist_append_left _ B))
  have g1 : h[g]? = some (.ins "Guesses" [("entries", .ref e)]) := Hg.get (List.mem_cons_self ..)
  have g2 : h[e]? = some (.lst ws) := Hg.get (List.mem_cons_of_mem _ (List.mem_cons_self ..))
  have lw : ws.length = t.length := by rw [d.length, List.length_map]
  have nm := gnum_ok Hg pl (by omega)
  have m0 := Int.emod_nonneg pl (show (t.length : Int) ≠ 0 by omega)
  have m1 := Int.emod_lt_of_pos pl (show (0 : Int) < (t.length : Int) by omega)
  have hk : kx t pl < t.length := by unfold kx; omega
  have hx : t[kx t pl]? = some (at_ t pl) := by
    unfold at_
    show _ = some ((t[kx t pl]?).getD none)
    rw [List.getElem?_eq_getElem hk]; rfl
  obtain ⟨u, eu, du⟩ := d.get (i := kx t pl) (p := sP (at_ t pl)) (by rw [List.getElem?_map, hx]; rfl)
  have f1 : ∀ l, ziT ["Guesses"] "entries" (.ref g) (h ++ l) = some (.ref e) := fun l => zg2 (zax g1) (by decide) rfl
  have f0 : ziT ["Guesses"] "entries" (.ref g) h = some (.ref e) := zg2 g1 (by decide) rfl
  obtain ⟨w, l, e1, r1⟩ := zm4 T h [u, .int pl, .int go] [sP (at_ t pl), .int pl, .int go] _ lt (by simp only [Dns, Dn]; exact ⟨_, _, rfl, du, _, _, rfl, rfl, _, _, rfl, rfl, rfl⟩) (zlQ (at_ t pl) pl go)
  have ix : ixW ws.length (pl % (t.length : Int)) = some (kx t pl) := by
    unfold ixW
    rw [lw, if_pos m0, if_pos m1]; rfl
  have aw : atW ws (pl % (t.length : Int)) = some u := by unfold atW; rw [ix]; exact eu
  rw [lw] at nm
  have fm : zeV zcq "slot_number" (.ref g) h = some zaC := by rw [zd8 g1 rfl]; rfl
  refine ⟨(h ++ l).set e (.lst (ws.set (kx t pl) w)), ws.set (kx t pl) w, ?_, ?_, ?_, ?_, ?_⟩
  · refine fn_nx (s' := [some (.ref g), some (.int pl), some (.int go), some (.int (pl % (t.length : Int)))]) rfl ?_
    unfold zcg
    rw [zar (s' := [some (.ref g), some (.int pl), some (.int go), some (.int (pl % (t.length : Int)))]) (h' := h) (by
      simp only [zaE, zaK, zaa, zad, zac, start, List.map_cons, List.map_nil, List.length_cons, List.length_nil, List.replicate, List.cons_append, List.nil_append, List.getElem?_cons_zero, List.getElem?_cons_succ, R.bind, fm, nm, List.set_cons_succ, List.set_cons_zero])]
    simp only [zdh, zav, zaa, zad, dOp, zf4, zac, List.getElem?_cons_zero, List.getElem?_cons_succ, R.bind, f0, oIx, zd0, lstW, g2, Option.or, aw, OR.fin, e1, f1, zax g2, ix]
  · have : A ++ gH g e ws ++ B = (A ++ [(g, .ins "Guesses" [("entries", .ref e)])]) ++ (e, .lst ws) :: B := by simp [gH]
    rw [this] at H
    have H2 := (H.app l).upd (o' := .lst (ws.set (kx t pl) w))
    have : A ++ gH g e (ws.set (kx t pl) w) ++ B = (A ++ [(g, .ins "Guesses" [("entries", .ref e)])]) ++ (e, .lst (ws.set (kx t pl) w)) :: B := by simp [gH]
    rw [this]; exact H2
  · rw [List.map_set]
    refine Dns.setB te ?_
    exact Dns.set (by simpa only [ResD] using r1) _ d.app
  · rw [List.length_set, List.length_append]; omega
  · intro i o ti ei
    exact zbE (zax ei) fun z => ti (z ▸ te)
end
end K54
namespace K54
open HL
open PySem (Str)
section
variable {T T' : Nat → Prop} {s : Sg} {h h' l : Sh} {δ : Dl} {g e : Nat} {ws : List W} {t : List zaU}
theorem zle {g e : Nat} {a b : SO} (ne : g ≠ e) (h1 : h[g]? = some a) (h2 : h[e]? = some b) : Has h [(g, a), (e, b)] := by
  refine ⟨?_, fun x hx => ?_⟩
  · simp [ne]
  · simp only [List.mem_cons, List.not_mem_nil, or_false] at hx
    rcases hx with rfl | rfl
    · exact h1
    · exact h2
theorem zkH {cs : List Str} {f : Str} {o e : DE} {s : Sg} {h h1 h3 : Sh} {v x : W} (he : e s h = .ok v h1) (ho : o s h1 = .ok x h1) (hs : setF cs f x v h1 = .ok .non h3) : zhb cs f o e s h = .nx s h3 := by
  unfold zhb; rw [he]; simp only [R.bind, ho, hs]
theorem sNo_nx {d : DS} {s s' : Sg} {h h1 : Sh} (e : d s h = .nx s' h1) : sNo d s h = .nx s' h1 := by unfold sNo; rw [e]
theorem piR {a : PE} {δ : Dl} {j : Int} (b : -(2 ^ 62) ≤ j ∧ j < 2 ^ 62) (e : a δ = some (.int j)) : zcT a δ = some (zfG 0 j.toNat) := by
  unfold zcT
  rw [e]
  simp only [b, and_self, if_true]
theorem zlX (n : Nat) (h2 : n ≤ 16) : zfx (zcT (zaj 1)) 1 [] (zcw 0) zep (pC .non) [.no, .val (.int n)] = some ((List.replicate n (none : zaU)).map sP) := by
  have b : -(2 ^ 62) ≤ (n : Int) ∧ (n : Int) < 2 ^ 62 := by omega
  have r : zcT (zaj 1) [.no, .val (.int n)] = some (zfG 0 n) := by
    exact (piR b rfl).trans (congrArg (fun m => some (zfG 0 m)) (Int.toNat_natCast n))
  unfold zfx
  rw [r]
  show zfb (zcw 0) zep (pC .non) (zfG 0 n) (.no :: []) [] = _
  unfold zfG
  rw [ziX (fun (k : Nat) => P.int (0 + (k : Int))) (fun _ => P.non) (List.range n) .no (fun _ _ => rfl) (by rw [List.length_range]; omega)]
  rw [List.map_replicate, List.map_const', List.length_range]; rfl
theorem ziR (lt : ∀ i, T i → i < h.length) (n : Nat) (h1 : 1 ≤ n) (h2 : n ≤ 16) :
    ∃ e ws h', zan [.ref h.length, .int n] (h ++ [.ins "Guesses" []]) = .ok .non h' ∧ Has h' (gH h.length e ws) ∧ h.length < e ∧ (∀ (i : Nat) (o : SO), h[i]? = some o → h'[i]? = some o) ∧ Dns (fun i => T i ∨ i = h.length ∨ i = e) h' ((List.replicate n (none : zaU)).map sP) ws := by
  have lt2 : ∀ i, (T i ∨ i = h.length) → i < (h ++ [SO.ins "Guesses" []]).length := fun i z => by
    rw [List.length_append]; simp only [List.length_cons, List.length_nil]
    rcases z with z | z
    · have := lt i z; omega
    · omega
  have M : Mx (fun i => T i ∨ i = h.length) (HL.start 2 [.ref h.length, .int n]) (h ++ [.ins "Guesses" []]) [.no, .val (.int n)] :=
    ⟨lt2, rfl, fun i sl e => by
      match i, e with
      | 0, e => exact .inl (by cases e; rfl)
      | 1, e => cases e; exact .inr ⟨_, .int n, rfl, rfl, by simp only [Dn]⟩⟩
  have pe := zlX n h2
  obtain ⟨a, l, us, e1, e2, e3, e4⟩ := M.o (ziI (zmM (zae 1)) (zhy 0) zj3 zeX) pe
  rw [List.length_append] at e2
  simp only [List.length_cons, List.length_nil] at e2
  have gg : (h ++ [SO.ins "Guesses" []] ++ l)[h.length]? = some (.ins "Guesses" []) := zax (by rw [List.getElem?_append_right (Nat.le_refl _), Nat.sub_self]; rfl)
  have lg : h.length < (h ++ [SO.ins "Guesses" []] ++ l).length := (List.getElem?_eq_some_iff.mp gg).1
  have sf : setF ["Guesses"] "entries" (.ref h.length) (.ref a) (h ++ [SO.ins "Guesses" []] ++ l) = .ok .non ((h ++ [SO.ins "Guesses" []] ++ l).set h.length (.ins "Guesses" [("entries", .ref a)])) := zkB gg (by decide) (by simp only [List.length_cons, List.length_nil]; omega)
  have w1 := zlx n 1 16 (h ++ [SO.ins "Guesses" []]) (by omega) (by omega)
  refine ⟨a, us, (h ++ [SO.ins "Guesses" []] ++ l).set h.length (.ins "Guesses" [("entries", .ref a)]), ?_, ?_, by omega, ?_, ?_⟩
  · refine fn_nx (s' := HL.start 2 [.ref h.length, .int n]) rfl ?_
    unfold zbo
    rw [zar (s' := HL.start 2 [.ref h.length, .int n]) (h' := h ++ [SO.ins "Guesses" []]) ?_]
    · exact sNo_nx (zkH e1 rfl sf)
    · have : tNo (zem (dT (zav zbS (zaa (zac 1) (zaa (dC (.int 1)) (zaa (dC (.int 16)) zad)))))) (HL.start 2 [.ref h.length, .int n]) (h ++ [SO.ins "Guesses" []]) = .ok false (h ++ [SO.ins "Guesses" []]) := by
        have : zav zbS (zaa (zac 1) (zaa (dC (.int 1)) (zaa (dC (.int 16)) zad))) (HL.start 2 [.ref h.length, .int n]) (h ++ [SO.ins "Guesses" []]) = .ok (.bl true) (h ++ [SO.ins "Guesses" []]) := w1
        simp only [tNo, zem, dT, this, R.bind, zco, Bool.not_true]
      exact zgv this rfl
  · refine zle (by omega) (by rw [List.getElem?_set_self lg]) ?_
    rw [List.getElem?_set_ne (by omega)]; exact e3
  · intro i o ei
    have := (List.getElem?_eq_some_iff.mp ei).1
    rw [List.getElem?_set_ne (by omega), List.append_assoc]; exact zax ei
  · refine Dns.mono (fun i o ti ei => ⟨?_, fun z => ti (by rcases z with z | z | z; exact .inl (.inl z); exact .inl (.inr z); exact .inr z)⟩) _ _ e4
    rw [List.getElem?_set_ne (fun z => ti (.inl (.inr z.symm)))]; exact ei
theorem zhr {as : DA} {h1 : Sh} {n : Int} (ha : as s h = .ok [.int n] h1) (hi : zan [.ref h1.length, .int n] (h1 ++ [.ins "Guesses" []]) = .ok .non h') : zeI "Guesses" zan [] as s h = .ok (.ref h1.length) h' := by
  unfold zeI
  rw [ha]
  simp only [R.bind, List.append_nil, hi, if_true]
theorem zkr (lt : ∀ i, T i → i < h.length) {p : P} {w : W} (d : Dn T h p w) {φ : zaU → P} (hp : zfs p = some (t.map φ)) (hl : zge [p] = some (.int (t.length : Nat))) (hφ : ∀ x, za4 [φ x] = some (.v (sP x))) (h1 : 1 ≤ t.length) (h2 : t.length ≤ 16) :
    ∃ g e ws h', zaS [w] h = .ok (.ref g) h' ∧ Has h' (gH g e ws) ∧ h.length ≤ g ∧ h.length ≤ e ∧ (∀ (i : Nat) (o : SO), h[i]? = some o → h'[i]? = some o) ∧ Dns (fun i => T i ∨ i = g ∨ i = e) h' (t.map sP) ws := by
  have M0 : Mx T (HL.start 2 [w]) h [.val p, .no] := Mx.start (m := 2) (ps := [p]) lt (Dns.one d)
  obtain ⟨v, l, e1, d1⟩ := M0.e (e_b zh9 (zaM (zae 0).b zbp)) (r := .int (t.length : Nat)) hl
  simp only [Dn] at d1
  subst d1
  have M1 : Mx T (HL.start 2 [w]) (h ++ l) [.val p, .no] := M0.app
  obtain ⟨e0, ws0, h3, i1, i2, i3, i4, i5⟩ := ziR M1.lt t.length h1 h2
  have n1 := zhr (s := HL.start 2 [w]) (h := h) (as := zaa (dB zc7 (zaa (zac 0) zad)) zad) (by show ((dB zc7 (zaa (zac 0) zad)) (HL.start 2 [w]) h).bind _ = _; rw [e1]; rfl) i1
  generalize hg : (h ++ l).length = g at *
  have gl : h.length ≤ g := by rw [← hg, List.length_append]; omega
  have lg3 : g < h3.length := i2.lt (List.mem_cons_self ..)
  have le3 : e0 < h3.length := i2.lt (List.mem_cons_of_mem _ (List.mem_cons_self ..))
  have M2 : Mx (fun i => T i ∨ i = g ∨ i = e0) [some w, some (.ref g)] h3 [.val p, .no] := by
    have := (M1.no 1 (w := some (.ref g)))
    refine Mx.mv (T := T) (h := h ++ l) this (fun i u ti ei => ⟨i4 i u ei, fun z => ?_⟩) fun i z => ?_
    · have := (List.getElem?_eq_some_iff.mp ei).1
      rcases z with z | z | z
      · exact ti z
      · omega
      · omega
    · rcases z with z | z | z
      · have := lt i z; omega
      · omega
      · omega
  have pe : zfx (zgx (zaj 0)) 1 [] (zcw 0) zep (zjC za4 (zah (zaj 0) zaX)) [.val p, .no] = some (t.map sP) := by
    unfold zfx
    show (zfs p).bind _ = _
    rw [hp]
    exact ziX φ sP t .no (fun b _ => by show ((za4 [φ b]).map RF.val) = _; rw [hφ b]; rfl) (by omega)
  obtain ⟨a, l2, us, c1, c2, c3, c4⟩ := M2.o (ziI (zld (zae 0)) (zhy 0) zj3 (zgq zhU (zam (zae 0) zbq))) pe
  have gg : (h3 ++ l2)[g]? = some (.ins "Guesses" [("entries", .ref e0)]) := zax (i2.get (List.mem_cons_self ..))
  have lg : g < (h3 ++ l2).length := (List.getElem?_eq_some_iff.mp gg).1
  have sf : setF ["Guesses"] "entries" (.ref g) (.ref a) (h3 ++ l2) = .ok .non ((h3 ++ l2).set g (.ins "Guesses" [("entries", .ref a)])) := zkB gg (by decide) (by simp only [List.length_cons, List.length_nil]; omega)
  have st2 : zhb ["Guesses"] "entries" (zac 1) (ze8 (zgR (zac 0)) 1 [] (zck 0) zfO (zav zb6 (zaa (zac 0) zad))) [some w, some (.ref g)] h3 = .nx [some w, some (.ref g)] ((h3 ++ l2).set g (.ins "Guesses" [("entries", .ref a)])) := by
    exact zkH c1 rfl sf
  refine ⟨g, a, us, (h3 ++ l2).set g (.ins "Guesses" [("entries", .ref a)]), ?_, ?_, gl, by omega, ?_, ?_⟩
  · refine zjM rfl ?_
    unfold zdj
    rw [zar (s' := [some w, some (.ref g)]) (h' := h3) (zdF n1), zar st2]
    rfl
  · refine zle (by omega) (by rw [List.getElem?_set_self lg]) ?_
    rw [List.getElem?_set_ne (by omega)]; exact c3
  · intro i o ei
    have := (List.getElem?_eq_some_iff.mp ei).1
    rw [List.getElem?_set_ne (by omega)]
    exact zax (i4 i o (zax ei))
  · refine Dns.mono (fun i o ti ei => ⟨?_, fun z => ti (by rcases z with z | z | z; exact .inl (.inl z); exact .inl (.inr (.inl z)); exact .inr z)⟩) _ _ c4
    rw [List.getElem?_set_ne (fun z => ti (.inl (.inr (.inl z.symm))))]; exact ei
end
end K54
namespace K54
open HL
open PySem (Str)
theorem zkE {o i e : DE} {s : Sg} {h h1 : Sh} {v : W} {p j : Nat} {k : Int} {xs : List W} (he : e s h = .ok v h1) (ho : o s h1 = .ok (.ref p) h1) (hi : i s h1 = .ok (.int k) h1) (hl : h1[p]? = some (.lst xs)) (hx : ixW xs.length k = some j) : zdh o i e s h = .nx s (h1.set p (.lst (xs.set j v))) := by
  unfold zdh; rw [he]; simp only [R.bind, ho, hi, hl, hx]
theorem zkg {α : Type} (A B : List α) (x : α) : ixW (A ++ x :: B).length (A.length : Int) = some A.length := by
  unfold ixW
  rw [if_pos (by omega), if_pos (by rw [List.length_append, List.length_cons]; omega), Int.toNat_natCast]
theorem zkA {α : Type} (A B : List α) (x y : α) : (A ++ x :: B).set A.length y = A ++ y :: B := by
  rw [List.set_append_right _ _ (Nat.le_refl _), Nat.sub_self]; rfl
theorem at_mid {α : Type} (A B : List α) (x : α) : (A ++ x :: B)[A.length]? = some x := by
  rw [List.getElem?_append_right (Nat.le_refl _), Nat.sub_self]; rfl
structure Gu where
  g : Nat
  e : Nat
  ws : List W
  v : W
  t : List zaU
  u : List zaU
def Gu.objs (x : Gu) : List (Nat × SO) := gH x.g x.e x.ws
structure Good (T : Nat → Prop) (h : Sh) (x : Gu) : Prop where
  dw : Dns T h (x.t.map sP) x.ws
  dv : Dn T h (.lst (x.u.map sP)) x.v
  len : x.t.length = x.u.length
  l1 : 0 < x.u.length
  l2 : x.u.length ≤ 16
  ok : ∀ y ∈ x.u, Ok y
  tg : T x.g
  te : T x.e
structure Inv (T : Nat → Prop) (h : Sh) (G S : Nat) (L : List Gu) : Prop where
  has : Has h ((G, .lst (L.map fun x => .ref x.g)) :: (S, .lst (L.map fun x => x.v)) :: L.flatMap Gu.objs)
  lt : ∀ i, T i → i < h.length
  tG : T G
  tS : T S
  good : ∀ x ∈ L, Good T h x
def zdl (T : Nat → Prop) (h : Sh) (T' : Nat → Prop) (h' : Sh) : Prop := ∀ (i : Nat) (o : SO), ¬ T i → h[i]? = some o → h'[i]? = some o ∧ ¬ T' i
section
variable {T T' : Nat → Prop} {s : Sg} {h h' l : Sh} {δ : Dl} {G S : Nat} {A B L : List Gu} {x : Gu} {i j : Nat}
theorem zdl.trans {T2 : Nat → Prop} {h2 : Sh} (a : zdl T h T' h') (b : zdl T' h' T2 h2) : zdl T h T2 h2 := fun i o t e => b i o (a i o t e).2 (a i o t e).1
theorem zdl.app : zdl T h T (h ++ l) := fun i o t e => ⟨zax e, t⟩
theorem zdl.dn {p : P} {w : W} (k : zdl T h T' h') (d : Dn T h p w) : Dn T' h' p w := Dn.mono k p w d
theorem Good.mv (k : zdl T h T' h') (tt : ∀ i, T i → T' i) (G : Good T h x) : Good T' h' x := ⟨Dns.mono k _ _ G.dw, Dn.mono k _ _ G.dv, G.len, G.l1, G.l2, G.ok, tt _ G.tg, tt _ G.te⟩
theorem Inv.app (I : Inv T h G S L) : Inv T (h ++ l) G S L := ⟨I.has.app l, fun i t => by rw [List.length_append]; have := I.lt i t; omega, I.tG, I.tS, fun x m => (I.good x m).mv zdl.app fun _ t => t⟩
theorem zfJ : (A ++ x :: B).flatMap Gu.objs = A.flatMap Gu.objs ++ x.objs ++ B.flatMap Gu.objs := by
  rw [List.flatMap_append, List.flatMap_cons, List.append_assoc]
theorem Inv.atG (I : Inv T h G S L) : h[G]? = some (.lst (L.map fun x => .ref x.g)) := I.has.get (List.mem_cons_self ..)
theorem Inv.atS (I : Inv T h G S L) : h[S]? = some (.lst (L.map fun x => x.v)) := I.has.get (List.mem_cons_of_mem _ (List.mem_cons_self ..))
theorem Inv.atx (I : Inv T h G S (A ++ x :: B)) : Has h (gH x.g x.e x.ws) := by
  refine I.has.sub (List.Sublist.cons _ (List.Sublist.cons _ ?_))
  rw [zfJ]
  exact (List.sublist_append_right _ _).trans (List.sublist_append_left _ _)
theorem Inv.gx (I : Inv T h G S (A ++ x :: B)) : Good T h x := I.good x (List.mem_append_right _ (List.mem_cons_self ..))
theorem zaQ {w : W} (e : s[i]? = some (some w)) : zac i s h = .ok w h := by unfold zac; rw [e]
theorem zlu (A B : List W) (x : W) : atW (A ++ x :: B) (A.length : Int) = some x := by
  unfold atW; rw [zkg]; exact at_mid A B x
theorem Inv.ixG (I : Inv T h G S (A ++ x :: B)) (hi : s[i]? = some (some (.ref G))) (hj : s[j]? = some (some (.int A.length))) : dOp oIx (zac i) (zac j) s h = .ok (.ref x.g) h := by
  have e := zlu (A.map fun x => .ref x.g) (B.map fun x => .ref x.g) (.ref x.g)
  rw [List.length_map] at e
  have g := I.atG
  rw [List.map_append, List.map_cons] at g
  simp only [dOp, zaQ hi, zaQ hj, R.bind, oIx, zd0, lstW, g, Option.or, e, OR.fin]
theorem Inv.ixS (I : Inv T h G S (A ++ x :: B)) (hi : s[i]? = some (some (.ref S))) (hj : s[j]? = some (some (.int A.length))) : dOp oIx (zac i) (zac j) s h = .ok x.v h := by
  have e := zlu (A.map fun x => x.v) (B.map fun x => x.v) x.v
  rw [List.length_map] at e
  have g := I.atS
  rw [List.map_append, List.map_cons] at g
  simp only [dOp, zaQ hi, zaQ hj, R.bind, oIx, zd0, lstW, g, Option.or, e, OR.fin]
theorem Inv.slots (I : Inv T h G S (A ++ x :: B)) (hi : s[i]? = some (some (.ref G))) (hj : s[j]? = some (some (.int A.length))) : zaK zaW "slots" (dOp oIx (zac i) (zac j)) zad s h = .ok (.ref h.length) (h ++ [.tup x.ws]) ∧ Dn T (h ++ [.tup x.ws]) (.tup (x.t.map sP)) (.ref h.length) := by
  have a := I.ixG hi hj
  have g1 : h[x.g]? = some (.ins "Guesses" [("entries", .ref x.e)]) := I.atx.get (List.mem_cons_self ..)
  have fm : zeV zaW "slots" (.ref x.g) h = some zaL := by rw [zd8 g1 rfl]; rfl
  constructor
  · unfold zaK
    rw [a]
    simp only [R.bind, fm, zad]
    exact zh4 I.atx
  · simp only [Dn]
    exact ⟨h.length, x.ws, rfl, fun t => absurd (I.lt _ t) (by omega), by rw [List.getElem?_append_right (Nat.le_refl _), Nat.sub_self]; rfl, I.gx.dw.app⟩
theorem Inv.learn (I : Inv T h G S (A ++ x :: B)) (pl go : Int) : ∃ h' ws', za0 [.ref x.g, .int pl, .int go] h = .ok .non h' ∧ Inv T h' G S (A ++ { x with ws := ws', t := x.t.set (kx x.t pl) (lrn (at_ x.t pl) pl go) } :: B) ∧ zdl T h T h' := by
  have H := I.has
  rw [zfJ] at H
  have X := I.gx
  have e1 : ∀ (z : List W), (G, SO.lst ((A ++ x :: B).map fun x => .ref x.g)) :: (S, .lst ((A ++ x :: B).map fun x => x.v)) :: (A.flatMap Gu.objs ++ gH x.g x.e z ++ B.flatMap Gu.objs) = ((G, SO.lst ((A ++ x :: B).map fun x => .ref x.g)) :: (S, .lst ((A ++ x :: B).map fun x => x.v)) :: A.flatMap Gu.objs) ++ gH x.g x.e z ++ B.flatMap Gu.objs := fun z => by simp only [List.cons_append]
  have H' : Has h (((G, SO.lst ((A ++ x :: B).map fun x => .ref x.g)) :: (S, .lst ((A ++ x :: B).map fun x => x.v)) :: A.flatMap Gu.objs) ++ gH x.g x.e x.ws ++ B.flatMap Gu.objs) := by rw [← e1]; exact H
  obtain ⟨h', ws', c1, c2, c3, c4, c5⟩ := zjJ I.lt H' X.te X.dw (by rw [X.len]; exact X.l1) pl go
  have st : zdl T h T h' := fun i o t e => ⟨c5 i o t e, t⟩
  refine ⟨h', ws', c1, ⟨?_, fun i t => Nat.lt_of_lt_of_le (I.lt i t) c4, I.tG, I.tS, fun y hy => ?_⟩, st⟩
  · rw [zfJ]
    have := c2
    rw [← e1] at this
    simp only [List.map_append, List.map_cons] at this ⊢
    exact this
  · rcases List.mem_append.mp hy with m | m
    · exact (I.good y (List.mem_append_left _ m)).mv st fun _ t => t
    · rcases List.mem_cons.mp m with rfl | m
      · exact ⟨c3, st.dn X.dv, by rw [List.length_set]; exact X.len, X.l1, X.l2, X.ok, X.tg, X.te⟩
      · exact (I.good y (List.mem_append_right _ (List.mem_cons_of_mem _ m))).mv st fun _ t => t
theorem Inv.meth (I : Inv T h G S (A ++ x :: B)) (hi : s[i]? = some (some (.ref G))) (hj : s[j]? = some (some (.int A.length))) {as : DA} {pl go : Int} (ha : as s h = .ok [.int pl, .int go] h) : ∃ h' ws', zd4 (zaK zcr "learn" (dOp oIx (zac i) (zac j)) as) s h = .nx s h' ∧ Inv T h' G S (A ++ { x with ws := ws', t := x.t.set (kx x.t pl) (lrn (at_ x.t pl) pl go) } :: B) ∧ zdl T h T h' := by
  obtain ⟨h', ws', c1, c2, c3⟩ := I.learn pl go
  have a := I.ixG hi hj
  have g1 : h[x.g]? = some (.ins "Guesses" [("entries", .ref x.e)]) := I.atx.get (List.mem_cons_self ..)
  have fm : zeV zcr "learn" (.ref x.g) h = some za0 := by rw [zd8 g1 rfl]; rfl
  refine ⟨h', ws', zjm (v := .non) ?_, c2, c3⟩
  unfold zaK
  rw [a]
  simp only [R.bind, fm, ha]
  exact c1
theorem Inv.again (I : Inv T h G S (A ++ x :: B)) {s : Sg} {k : Nat} (hi : s[i]? = some (some (.ref G))) (hj : s[j]? = some (some (.int A.length))) {w : W} (hk : s[k]? = some (some w)) {p : P} (d : Dn T h p w) {φ : zaU → P} {t : List zaU} (hp : zfs p = some (t.map φ)) (hl : zge [p] = some (.int (t.length : Nat))) (hφ : ∀ x, za4 [φ x] = some (.v (sP x))) (ht : t.length = x.u.length) :
    ∃ T' h' g e ws, zdh (zac i) (zac j) (zav zaS (zaa (zac k) zad)) s h = .nx s h' ∧ Inv T' h' G S (A ++ { x with g := g, e := e, ws := ws, t := t } :: B) ∧ zdl T h T' h' := by
  have X := I.gx
  obtain ⟨g, e, ws, h1, c1, c2, c3, c4, c5, c6⟩ := zkr I.lt d hp hl hφ (by rw [ht]; exact X.l1) (by rw [ht]; exact X.l2)
  have lg : g < h1.length := c2.lt (List.mem_cons_self ..)
  have le : e < h1.length := c2.lt (List.mem_cons_of_mem _ (List.mem_cons_self ..))
  have hh : h.length ≤ h1.length := by omega
  have st : zdl T h (fun i => T i ∨ i = g ∨ i = e) h1 := fun i o t ei => ⟨c5 i o ei, fun z => by
    have := (List.getElem?_eq_some_iff.mp ei).1
    rcases z with z | z | z
    · exact t z
    · omega
    · omega⟩
  have H := I.has
  rw [zfJ] at H
  have H1 : Has h1 (gH g e ws ++ ((G, SO.lst ((A ++ x :: B).map fun x => .ref x.g)) :: (S, .lst ((A ++ x :: B).map fun x => x.v)) :: (A.flatMap Gu.objs ++ x.objs ++ B.flatMap Gu.objs))) := by
    refine ⟨?_, fun y hy => ?_⟩
    · rw [List.map_append, List.nodup_append]
      refine ⟨c2.1, H.1, fun a ha b hb => ?_⟩
      obtain ⟨y, hy, rfl⟩ := List.mem_map.mp hb
      have := H.lt (i := y.1) (o := y.2) hy
      simp only [gH, List.map_cons, List.map_nil, List.mem_cons, List.not_mem_nil, or_false] at ha
      rcases ha with rfl | rfl <;> omega
    · rcases List.mem_append.mp hy with m | m
      · exact c2.2 y m
      · exact c5 _ _ (H.2 y m)
  have H2 : Has h1 ((G, SO.lst ((A ++ x :: B).map fun x => .ref x.g)) :: (S, .lst ((A ++ x :: B).map fun x => x.v)) :: (A.flatMap Gu.objs ++ gH g e ws ++ B.flatMap Gu.objs)) := by
    have := H1.sub (L' := gH g e ws ++ ((G, SO.lst ((A ++ x :: B).map fun x => .ref x.g)) :: (S, .lst ((A ++ x :: B).map fun x => x.v)) :: (A.flatMap Gu.objs ++ B.flatMap Gu.objs))) (List.Sublist.append_left (List.Sublist.cons_cons _ (List.Sublist.cons_cons _ (by rw [List.append_assoc]; exact List.Sublist.append_left (List.sublist_append_right _ _) _))) _)
    refine this.perm ?_
    refine (List.perm_append_comm).trans ?_
    simp only [List.cons_append]
    refine List.Perm.cons _ (List.Perm.cons _ ?_)
    rw [List.append_assoc, List.append_assoc]
    exact List.Perm.append_left _ List.perm_append_comm
  have sG : zdh (zac i) (zac j) (zav zaS (zaa (zac k) zad)) s h = .nx s (h1.set G (.lst (((A ++ x :: B).map fun x => W.ref x.g).set A.length (.ref g)))) := by
    refine zkE (k := A.length) ?_ (zaQ hi) (zaQ hj) (H2.get (List.mem_cons_self ..)) ?_
    · show ((zaa (zac k) zad) s h).bind _ = _
      have : (zaa (zac k) zad) s h = .ok [w] h := by simp only [zaa, zaQ hk, R.bind, zad]
      rw [this]; exact c1
    · have := zkg (A.map fun x => W.ref x.g) (B.map fun x => W.ref x.g) (W.ref x.g)
      rw [List.length_map] at this
      rw [List.map_append, List.map_cons]; exact this
  have eS : ((A ++ x :: B).map fun x => W.ref x.g).set A.length (.ref g) = (A ++ { x with g := g, e := e, ws := ws, t := t } :: B).map fun x => W.ref x.g := by
    have := zkA (A.map fun x => W.ref x.g) (B.map fun x => W.ref x.g) (W.ref x.g) (.ref g)
    rw [List.length_map] at this
    rw [List.map_append, List.map_cons, this, List.map_append, List.map_cons]
  rw [eS] at sG
  have st2 : zdl (fun i => T i ∨ i = g ∨ i = e) h1 (fun i => T i ∨ i = g ∨ i = e) (h1.set G (.lst ((A ++ { x with g := g, e := e, ws := ws, t := t } :: B).map fun x => W.ref x.g))) := fun i o ti ei => ⟨zbE ei fun z => ti (.inl (z ▸ I.tG)), ti⟩
  refine ⟨_, _, g, e, ws, sG, ⟨?_, fun i z => ?_, .inl I.tG, .inl I.tS, fun y hy => ?_⟩, st.trans st2⟩
  · rw [zfJ]
    have := H2.set (o' := .lst ((A ++ { x with g := g, e := e, ws := ws, t := t } :: B).map fun x => W.ref x.g))
    simp only [List.map_append, List.map_cons] at this ⊢
    exact this
  · rw [List.length_set]
    rcases z with z | z | z
    · have := I.lt i z; omega
    · omega
    · omega
  · rcases List.mem_append.mp hy with m | m
    · exact (I.good y (List.mem_append_left _ m)).mv (st.trans st2) fun _ t => .inl t
    · rcases List.mem_cons.mp m with rfl | m
      · exact ⟨Dns.mono st2 _ _ c6, (st.trans st2).dn X.dv, ht, X.l1, X.l2, X.ok, .inr (.inl rfl), .inr (.inr rfl)⟩
      · exact (I.good y (List.mem_append_right _ (List.mem_cons_of_mem _ m))).mv (st.trans st2) fun _ t => .inl t
theorem ok_at {u : List zaU} (hu : ∀ y ∈ u, Ok y) (pl : Int) : Ok (at_ u pl) := by
  unfold at_
  cases q : u[(pl % (u.length : Int)).toNat]? with
  | none => exact trivial
  | some z => exact hu z (List.mem_of_getElem? q)
theorem Inv.own (I : Inv T h G S (A ++ x :: B)) (hi : s[i]? = some (some (.ref S))) (hj : s[j]? = some (some (.int A.length))) {a b : Nat} {pl go : Int} (ha : s[a]? = some (some (.int pl))) (hb : s[b]? = some (some (.int go))) :
    ∃ h' v, zdh (zac i) (zac j) (zav zbg (zaa (dOp oIx (zac i) (zac j)) (zaa (zac a) (zaa (zac b) zad)))) s h = .nx s h' ∧ Inv T h' G S (A ++ { x with v := v, u := x.u.set (kx x.u pl) (lrn (at_ x.u pl) pl go) } :: B) ∧ zdl T h T h' := by
  have X := I.gx
  obtain ⟨w, l, e1, r1⟩ := zhV T h [x.v, .int pl, .int go] [.lst (x.u.map sP), .int pl, .int go] _ I.lt (by simp only [Dns]; exact ⟨_, _, rfl, X.dv, _, _, rfl, by simp only [Dn], _, _, rfl, by simp only [Dn], rfl⟩) (zkf x.u pl go X.l1 (ok_at X.ok pl))
  obtain ⟨c, us, rfl, ge, g, ds⟩ := r1
  have I1 := I.app (l := l)
  have sS : zdh (zac i) (zac j) (zav zbg (zaa (dOp oIx (zac i) (zac j)) (zaa (zac a) (zaa (zac b) zad)))) s h = .nx s ((h ++ l).set S (.lst (((A ++ x :: B).map fun x => x.v).set A.length (.ref c)))) := by
    refine zkE (k := A.length) ?_ (zaQ hi) (zaQ hj) I1.atS ?_
    · have : (zaa (dOp oIx (zac i) (zac j)) (zaa (zac a) (zaa (zac b) zad))) s h = .ok [x.v, .int pl, .int go] h := by simp only [zaa, I.ixS hi hj, zaQ ha, zaQ hb, R.bind, zad]
      unfold zav
      rw [this]; exact e1
    · have := zkg (A.map fun x => x.v) (B.map fun x => x.v) x.v
      rw [List.length_map] at this
      rw [List.map_append, List.map_cons]; exact this
  have eS : ((A ++ x :: B).map fun x => x.v).set A.length (.ref c) = (A ++ { x with v := .ref c, u := x.u.set (kx x.u pl) (lrn (at_ x.u pl) pl go) } :: B).map fun x => x.v := by
    have := zkA (A.map fun x => x.v) (B.map fun x => x.v) x.v (.ref c)
    rw [List.length_map] at this
    rw [List.map_append, List.map_cons, this, List.map_append, List.map_cons]
  rw [eS] at sS
  have st : zdl T (h ++ l) T ((h ++ l).set S (.lst ((A ++ { x with v := .ref c, u := x.u.set (kx x.u pl) (lrn (at_ x.u pl) pl go) } :: B).map fun x => x.v))) := fun i o ti ei => ⟨zbE ei fun z => ti (z ▸ I.tS), ti⟩
  have st' := (zdl.app (T := T) (h := h) (l := l)).trans st
  refine ⟨_, .ref c, sS, ⟨?_, fun i z => ?_, I.tG, I.tS, fun y hy => ?_⟩, st'⟩
  · rw [zfJ]
    have H := I1.has
    rw [zfJ] at H
    have := (H.upd (A := [(G, SO.lst ((A ++ x :: B).map fun x => .ref x.g))]) (o' := .lst ((A ++ { x with v := .ref c, u := x.u.set (kx x.u pl) (lrn (at_ x.u pl) pl go) } :: B).map fun x => x.v)))
    simp only [List.map_append, List.map_cons, List.cons_append, List.nil_append] at this ⊢
    exact this
  · rw [List.length_set]; exact I1.lt i z
  · rcases List.mem_append.mp hy with m | m
    · exact (I.good y (List.mem_append_left _ m)).mv st' fun _ t => t
    · rcases List.mem_cons.mp m with rfl | m
      · refine ⟨Dns.mono st' _ _ X.dw, st.dn ?_, by rw [List.length_set]; exact X.len, by rw [List.length_set]; exact X.l1, by rw [List.length_set]; exact X.l2, fun y hy => ?_, X.tg, X.te⟩
        · simp only [Dn]
          exact ⟨c, us, rfl, fun t => absurd (I.lt _ t) (by omega), g, ds.weak fun i t => .inl t⟩
        · rcases List.mem_or_eq_of_mem_set hy with q | q
          · exact X.ok y q
          · rw [q]; exact lrn_ok (ok_at X.ok pl)
      · exact (I.good y (List.mem_append_right _ (List.mem_cons_of_mem _ m))).mv st' fun _ t => t
end
end K54
namespace K54
open HL
open PySem (Str)
theorem zg6 {α : Type} : ∀ (L : List α) (i : Nat), i < L.length → ∃ A x B, L = A ++ x :: B ∧ A.length = i
  | a :: L, 0, _ => ⟨[], a, L, rfl, rfl⟩
  | a :: L, i + 1, h => by
    obtain ⟨A, x, B, e, l⟩ := zg6 L i (by simpa using h)
    exact ⟨a :: A, x, B, by rw [e]; rfl, by rw [List.length_cons, l]⟩
theorem zdR {f : O2} {a b : DE} {s : Sg} {h h1 h2 h3 : Sh} {x y r : W} (ha : a s h = .ok x h1) (hb : b s h1 = .ok y h2) (hf : (f x y h2).fin h2 = .ok r h3) : dOp f a b s h = .ok r h3 := by
  unfold dOp; rw [ha]; simp only [R.bind, hb, hf]
def mask : List Bool → Dl → Dl
  | true :: ms, x :: δ => x :: mask ms δ
  | false :: ms, _ :: δ => .no :: mask ms δ
  | _, δ => δ
theorem zht : ∀ (ms : List Bool) (δ : Dl), (mask ms δ).length = δ.length
  | true :: ms, x :: δ => by simp only [mask, List.length_cons, zht ms δ]
  | false :: ms, _ :: δ => by simp only [mask, List.length_cons, zht ms δ]
  | [], δ => by cases δ <;> rfl
  | _ :: _, [] => by rename_i b _; cases b <;> rfl
theorem ziO : ∀ (ms : List Bool) (δ : Dl) (i : Nat) (sl : Sl), (mask ms δ)[i]? = some sl → sl = .no ∨ δ[i]? = some sl
  | true :: ms, x :: δ, 0, sl, e => .inr e
  | true :: ms, x :: δ, i + 1, sl, e => ziO ms δ i sl e
  | false :: ms, x :: δ, 0, sl, e => .inl (by cases e; rfl)
  | false :: ms, x :: δ, i + 1, sl, e => ziO ms δ i sl e
  | [], δ, i, sl, e => .inr (by cases δ <;> exact e)
  | b :: _, [], i, sl, e => by cases b <;> cases e
section
variable {T T' : Nat → Prop} {s : Sg} {h h' l : Sh} {δ : Dl} {G S : Nat} {A B L : List Gu} {x : Gu} {i j : Nat}
theorem Mx.mask (M : Mx T s h δ) (ms : List Bool) : Mx T s h (mask ms δ) := ⟨M.lt, by rw [zht]; exact M.ln, fun i sl e => by
  rcases ziO ms δ i sl e with q | q
  · exact .inl q
  · exact M.at_ i sl q⟩
theorem Mx.stay (M : Mx T s h δ) (k : zdl T h T' h') (lt : ∀ i, T' i → i < h'.length) : Mx T' s h' δ := M.mv k lt
theorem Good.gP (H : Has h (gH x.g x.e x.ws)) (X : Good T h x) : Dn (fun i => T i ∧ i ≠ x.g ∧ i ≠ x.e) h (gP x.t) (.ref x.g) := by
  have d := X.dw.weak (T' := fun i => T i ∧ i ≠ x.g ∧ i ≠ x.e) fun i t => t.1
  unfold K54.gP
  simp only [Dn, Dnf]
  exact ⟨x.g, _, rfl, fun t => t.2.1 rfl, H.get (List.mem_cons_self ..), _, _, rfl, ⟨x.e, x.ws, rfl, fun t => t.2.2 rfl, H.get (List.mem_cons_of_mem _ (List.mem_cons_self ..)), d⟩, rfl⟩
theorem Inv.guess (I : Inv T h G S (A ++ x :: B)) (hi : s[i]? = some (some (.ref G))) (hj : s[j]? = some (some (.int A.length))) {k : Nat} {pl : Int} (hk : s[k]? = some (some (.int pl))) : ∃ l, zaK zdZ "guess" (dOp oIx (zac i) (zac j)) (zaa (zac k) zad) s h = .ok (.int (gsV x.t pl)) (h ++ l) := by
  have X := I.gx
  obtain ⟨w, l, e1, r1⟩ := zgU (fun i => T i ∧ i ≠ x.g ∧ i ≠ x.e) h [.ref x.g, .int pl] [gP x.t, .int pl] _ (fun i t => I.lt i t.1) (by simp only [Dns]; exact ⟨_, _, rfl, X.gP I.atx, _, _, rfl, by simp only [Dn], rfl⟩) (zmO x.t pl (by rw [X.len]; exact X.l1))
  simp only [ResD, Dn] at r1
  subst r1
  have a := I.ixG hi hj
  have g1 : h[x.g]? = some (.ins "Guesses" [("entries", .ref x.e)]) := I.atx.get (List.mem_cons_self ..)
  have fm : zeV zdZ "guess" (.ref x.g) h = some zbB := by rw [zd8 g1 rfl]; rfl
  refine ⟨l, ?_⟩
  unfold zaK
  rw [a]
  simp only [R.bind, fm, zaa, zaQ hk, zad]
  exact e1
theorem Inv.kept (I : Inv T h G S (A ++ x :: B)) (hi : s[i]? = some (some (.ref G))) (hj : s[j]? = some (some (.int A.length))) {k : Nat} (hk : s[k]? = some (some (.ref S))) (ht : x.t = x.u) : ∃ l, zav zbT (zaa (dOp oIx (zac i) (zac j)) (zaa (dOp oIx (zac k) (zac j)) zad)) s h = .ok (.bl true) (h ++ l) := by
  have X := I.gx
  obtain ⟨w, l, e1, r1⟩ := zjY (fun i => T i ∧ i ≠ x.g ∧ i ≠ x.e) h [.ref x.g, x.v] [gP x.t, .lst (x.t.map sP)] _ (fun i t => I.lt i t.1) (by simp only [Dns]; exact ⟨_, _, rfl, X.gP I.atx, _, _, rfl, by rw [ht]; exact X.dv.weak fun i t => t.1, rfl⟩) (kept_ok x.t)
  simp only [ResD, Dn] at r1
  subst r1
  have a : (zaa (dOp oIx (zac i) (zac j)) (zaa (dOp oIx (zac k) (zac j)) zad)) s h = .ok [.ref x.g, x.v] h := by simp only [zaa, I.ixG hi hj, I.ixS hk hj, R.bind, zad]
  refine ⟨l, ?_⟩
  unfold zav
  rw [a]
  exact e1
theorem Inv.due (I : Inv T h G S (A ++ x :: B)) (hj : s[j]? = some (some (.int A.length))) {k m : Nat} (hk : s[k]? = some (some (.ref S))) {pl : Int} (hm : s[m]? = some (some (.int pl))) : ∃ l, zav zby (zaa (dOp oIx (zac k) (zac j)) (zaa (zac m) zad)) s h = .ok (.int (gsV x.u pl)) (h ++ l) := by
  have X := I.gx
  obtain ⟨w, l, e1, r1⟩ := zi4 T h [x.v, .int pl] [.lst (x.u.map sP), .int pl] _ I.lt (by simp only [Dns]; exact ⟨_, _, rfl, X.dv, _, _, rfl, by simp only [Dn], rfl⟩) (zlP x.u pl X.l1)
  simp only [ResD, Dn] at r1
  subst r1
  have a : (zaa (dOp oIx (zac k) (zac j)) (zaa (zac m) zad)) s h = .ok [x.v, .int pl] h := by simp only [zaa, I.ixS hk hj, zaQ hm, R.bind, zad]
  refine ⟨l, ?_⟩
  unfold zav
  rw [a]
  exact e1
theorem zgO {i k : Nat} {v : Option W} (ne : k ≠ i) : (s.set k v)[i]? = s[i]? := List.getElem?_set_ne ne
theorem look_ok (I : Inv T h G S (A ++ x :: B)) (ln : s.length = 18) (h5 : s[5]? = some (some (.ref G))) (h6 : s[6]? = some (some (.ref S))) (h16 : s[16]? = some (some (.int A.length))) {pl : Int} (h10 : s[10]? = some (some (.int pl))) (ht : x.t = x.u) :
    ∃ l w, zaq (zaE 17 (zav zby (zaa (dOp oIx (zac 6) (zac 16)) (zaa (zac 10) zad))))
    (sIf (tOr (zem (dT (zav zbT (zaa (dOp oIx (zac 5) (zac 16)) (zaa (dOp oIx (zac 6) (zac 16)) zad))))) (dT (dOp oNe (zaK zdZ "guess" (dOp oIx (zac 5) (zac 16)) (zaa (zac 10) zad)) (zac 17)))) (za5 (dC (.bl false))) sNx) s h = .nx (s.set 17 w) (h ++ l) := by
  obtain ⟨l1, e1⟩ := I.due h16 h6 h10
  have I1 := I.app (l := l1)
  have h5' : (s.set 17 (some (.int (gsV x.u pl))))[5]? = some (some (.ref G)) := by rw [zgO (by decide)]; exact h5
  have h6' : (s.set 17 (some (.int (gsV x.u pl))))[6]? = some (some (.ref S)) := by rw [zgO (by decide)]; exact h6
  have h16' : (s.set 17 (some (.int (gsV x.u pl))))[16]? = some (some (.int A.length)) := by rw [zgO (by decide)]; exact h16
  have h10' : (s.set 17 (some (.int (gsV x.u pl))))[10]? = some (some (.int pl)) := by rw [zgO (by decide)]; exact h10
  have h17' : (s.set 17 (some (.int (gsV x.u pl))))[17]? = some (some (.int (gsV x.u pl))) := by rw [List.getElem?_set_self (by omega)]
  obtain ⟨l2, e2⟩ := I1.kept h5' h16' h6' ht
  have I2 := I1.app (l := l2)
  obtain ⟨l3, e3⟩ := I2.guess h5' h16' h10'
  refine ⟨l1 ++ l2 ++ l3, some (.int (gsV x.u pl)), ?_⟩
  rw [zar (zdF e1)]
  refine zgv (h1 := h ++ (l1 ++ l2 ++ l3)) ?_ rfl
  simp only [tOr, zem, dT, e2, R.bind, zco, Bool.not_true, Bool.false_eq_true, if_false]
  have : dOp oNe (zaK zdZ "guess" (dOp oIx (zac 5) (zac 16)) (zaa (zac 10) zad)) (zac 17) (s.set 17 (some (.int (gsV x.u pl)))) (h ++ l1 ++ l2) = .ok (.bl false) (h ++ l1 ++ l2 ++ l3) := by
    refine zdR e3 (zaQ h17') ?_
    simp only [oNe, eqH, ht, decide_true, Bool.not_true, OR.fin]
  rw [this]
  simp only [R.bind, zco, List.append_assoc]
end
end K54
namespace K54
open HL
open PySem (Str)
def k1_0 : DS := (zaE 12 (zaK zaW "slots" (dOp oIx (zac 5) (zac 9)) zad))
def k1_1 : DS := (zaE 1 (dB zbs (zaa (zac 12) (zaa (dB zcA (zaa (zac 12) zad)) (zaa (ze8 (zgR (zac 12)) 1 [] (zck 0) zfO (dOp oIx (dB zbs (zaa (zac 0) (zaa (dB zcA (zaa (dOrT (zac 0) (dB zeJ zad)) zad)) zad))) (dB zev (zaa (dOp zcH (zac 0) (dC .non)) zad)))) zad)))))
def k1_2 : DS := (zaE 13 (dOp oIx (zac 1) (dOp zbb (dOp zcU (zac 8) (dC (.int 128))) (dC (.int 3)))))
def k1_3 : DS := (zaE 14 (dB zcA (zaa (zac 13) zad)))
def k1_4 : DS := (zdh (zac 5) (zac 9) (zav zaS (zaa (zac 13) zad)))
def k1_5 : DS := (zd4 (zaK zcr "learn" (dOp oIx (zac 5) (zac 9)) (zaa (zac 10) (zaa (dOp zbc (zac 11) (dC (.int 9))) zad))))
def k1_6 : DS := (sIf (dT (dOp oNe (dB zcA (zaa (zac 13) zad)) (zac 14))) (za5 (dC (.bl false))) sNx)
def k1_7 : DS := (zdh (zac 5) (zac 9) (zav zaS (zaa (zac 13) zad)))
def k1_8 : DS := (sIf (dT (dOp oNe (zaK zaW "slots" (dOp oIx (zac 5) (zac 9)) zad) (zac 12))) (za5 (dC (.bl false))) sNx)
def blk1 : DS := (zaq k1_0 (zaq k1_1 (zaq k1_2 (zaq k1_3 (zaq k1_4 (zaq k1_5 (zaq k1_6 (zaq k1_7 k1_8))))))))
def k2_0 : DS := (zaE 15 (zav zaS (zaa (zaK zaW "slots" (dOp oIx (zac 5) (zac 9)) zad) zad)))
def k2_1 : DS := (zd4 (zaK zcr "learn" (zac 15) (zaa (zac 10) (zaa (dOp zbc (zac 11) (dC (.int 5))) zad))))
def blk2 : DS := (zaq k2_0 k2_1)
def chkB : DS := (zaq (zaE 17 (zav zby (zaa (dOp oIx (zac 6) (zac 16)) (zaa (zac 10) zad))))
    (sIf (tOr (zem (dT (zav zbT (zaa (dOp oIx (zac 5) (zac 16)) (zaa (dOp oIx (zac 6) (zac 16)) zad))))) (dT (dOp oNe (zaK zdZ "guess" (dOp oIx (zac 5) (zac 16)) (zaa (zac 10) zad)) (zac 17)))) (za5 (dC (.bl false))) sNx))
def st_0 : DS := (zaE 8 (zav zaB (zaa (zac 0) (zaa (dOp zbc (dC (.int 10)) (zac 7)) zad))))
def st_1 : DS := (zaE 9 (dOp zbb (zac 8) (dC (.int 2))))
def st_2 : DS := (zaE 10 (zav zbA (zaa (dOp zcU (zac 8) (dC (.int 2))) zad)))
def st_3 : DS := (zaE 11 (zav zbU (zaa (dOp zcU (zac 8) (dC (.int 64))) (zaa (zac 10) zad))))
def st_4 : DS := (sIf (dT (dOp oEq (dOp zbb (dOp zcU (zac 8) (dC (.int 16))) (dC (.int 8))) (dC (.int 1)))) blk1 sNx)
def st_5 : DS := (sIf (dT (dOp oEq (dOp zbb (dOp zcU (zac 8) (dC (.int 16))) (dC (.int 8))) (dC (.int 2)))) blk2 sNx)
def st_6 : DS := (zd4 (zaK zcr "learn" (dOp oIx (zac 5) (zac 9)) (zaa (zac 10) (zaa (zac 11) zad))))
def st_7 : DS := (zdh (zac 6) (zac 9) (zav zbg (zaa (dOp oIx (zac 6) (zac 9)) (zaa (zac 10) (zaa (zac 11) zad)))))
def st_8 : DS := (zgJ (zdi (dC (.int 2))) (zck 16) chkB)
def zls : DS := (zaq st_0 (zaq st_1 (zaq st_2 (zaq st_3 (zaq st_4 (zaq st_5 (zaq st_6 (zaq st_7 st_8))))))))
def top_0 : DS := (zaE 1 (dB zbs (zaa (dC (.int 0)) (zaa (dC (.int 17)) (zaa (dUn ziJ (dC (.int 1))) (zaa (dC (.bl true)) (zaa (dC (.bl false)) (zaa (dC .non) (zaa (dC (.str "8")) (zaa (dOp oPow (dC (.int 10)) (dC (.int 20))) (zaa (dUn ziJ (dOp oPow (dC (.int 10)) (dC (.int 20)))) (zaa (dB zeJ (zaa (dC (.int 8)) zad)) (zaa (dB zbs (zaa (dC (.int 8)) zad)) (zaa (dC (.int 16)) (zaa (dC (.int 1)) zad)))))))))))))))
def zkw : DS := (zaE 2 (dOp oIx (zac 1) (dOp zbb (zav zaB (zaa (zac 0) (zaa (dC (.int 0)) zad))) (dC (.int 13)))))
def zkv : DS := (zaE 3 (ziW (dB (zdT zeL) (zaa (zac 2) (zaa (dC (.ty "int")) zad))) (ziW (dNot (dB (zdT zeL) (zaa (zac 2) (zaa (dC (.ty "bool")) zad)))) (ze9 oLe oLe (dC (.int 1)) (zac 2) (dC (.int 16))))))
def zhX : DS := (sIf (dT (dOp oNe (zav zap (zaa (zac 2) zad)) (dOp oIx (dB zbs (zaa (dC (.str "no")) (zaa (zac 2) zad))) (dB zev (zaa (zac 3) zad))))) (za5 (dC (.bl false))) sNx)
def top_4 : DS := (zaE 4 (dOp zbc (dC (.int 1)) (dOp zbb (zav zaB (zaa (zac 0) (zaa (dC (.int 1)) zad))) (dC (.int 16)))))
def top_5 : DS := (zaE 5 (dB zbs (zaa (zeI "Guesses" zan [] (zaa (zac 4) zad)) (zaa (zeI "Guesses" zan [] (zaa (dOp zbc (dC (.int 1)) (dOp zbb (zav zaB (zaa (zac 0) (zaa (dC (.int 2)) zad))) (dC (.int 16)))) zad)) zad))))
def top_6 : DS := (zaE 6 (dB zbs (zaa (dOp zcE (dB zbs (zaa (dC .non) zad)) (zac 4)) (zaa (dOp zcE (dB zbs (zaa (dC .non) zad)) (dB zc7 (zaa (zaK zaW "slots" (dOp oIx (zac 5) (dC (.int 1))) zad) zad))) zad))))
def top_7 : DS := (zgJ (zdi (dC (.int 24))) (zck 7) zls)
def top_8 : DS := (za5 (dC (.bl true)))
theorem law_eq : zlt = (zaq top_0 (zaq zkw (zaq zkv (zaq zhX (zaq top_4 (zaq top_5 (zaq top_6 (zaq top_7 top_8)))))))) := rfl
structure Lp (T : Nat → Prop) (s : Sg) (h : Sh) (G S : Nat) (L : List Gu) (δ : Dl) : Prop where
  mx : Mx T s h δ
  h5 : s[5]? = some (some (.ref G))
  h6 : s[6]? = some (some (.ref S))
  inv : Inv T h G S L
section
variable {T T' : Nat → Prop} {s : Sg} {h h' l : Sh} {δ : Dl} {G S : Nat} {A B L : List Gu} {x : Gu} {i j : Nat}
theorem Inv.ext (I : Inv T h G S L) (k : ∀ (i : Nat) (o : SO), h[i]? = some o → h'[i]? = some o) : Inv T h' G S L := by
  have st : zdl T h T h' := fun i o t e => ⟨k i o e, t⟩
  refine ⟨⟨I.has.1, fun x hx => k _ _ (I.has.2 x hx)⟩, fun i t => ?_, I.tG, I.tS, fun y hy => (I.good y hy).mv st fun _ t => t⟩
  have := k i _ (List.getElem?_eq_getElem (I.lt i t))
  exact (List.getElem?_eq_some_iff.mp this).1
theorem Lp.app (P : Lp T s h G S L δ) : Lp T s (h ++ l) G S L δ := ⟨P.mx.app, P.h5, P.h6, P.inv.app⟩
theorem Lp.set (P : Lp T s h G S L δ) (i : Nat) {p : HL.P} {w : W} (d : Dn T h p w) (n5 : i ≠ 5 := by decide) (n6 : i ≠ 6 := by decide) : Lp T (s.set i (some w)) h G S L (δ.set i (.val p)) :=
  ⟨P.mx.set i d, by rw [zgO n5]; exact P.h5, by rw [zgO n6]; exact P.h6, P.inv⟩
theorem Lp.no (P : Lp T s h G S L δ) (i : Nat) {w : Option W} (n5 : i ≠ 5 := by decide) (n6 : i ≠ 6 := by decide) : Lp T (s.set i w) h G S L (δ.set i .no) :=
  ⟨P.mx.no i, by rw [zgO n5]; exact P.h5, by rw [zgO n6]; exact P.h6, P.inv⟩
theorem Lp.sset {d : DE} {p : PE} {r : HL.P} (P : Lp T s h G S L δ) (i : Nat) (k : Pe d p) (e : p δ = some r) (n5 : i ≠ 5 := by decide) (n6 : i ≠ 6 := by decide) : ∃ w l, zaE i d s h = .nx (s.set i (some w)) (h ++ l) ∧ Lp T (s.set i (some w)) (h ++ l) G S L (δ.set i (.val r)) := by
  obtain ⟨w, l, a, b⟩ := P.mx.e k e
  exact ⟨w, l, zdF a, P.app.set i b n5 n6⟩
theorem Lp.mask (P : Lp T s h G S L δ) (ms : List Bool) : Lp T s h G S L (mask ms δ) := ⟨P.mx.mask ms, P.h5, P.h6, P.inv⟩
theorem Lp.val (P : Lp T s h G S L δ) (i : Nat) {p : HL.P} (e : δ[i]? = some (.val p)) : ∃ u, s[i]? = some (some u) ∧ Dn T h p u := by
  rcases P.mx.at_ i _ e with q | ⟨p', u, q, a, b⟩
  · cases q
  · cases q; exact ⟨u, a, b⟩
theorem Lp.int (P : Lp T s h G S L δ) (i : Nat) {k : Int} (e : δ[i]? = some (.val (.int k))) : s[i]? = some (some (.int k)) := by
  obtain ⟨u, a, b⟩ := P.val i e
  simp only [Dn] at b
  rw [a, b]
def d18 (scr : HL.P) (m a pl go : Int) : Dl := [.val scr, .no, .no, .no, .no, .no, .no, .no, .val (.int m), .val (.int a), .val (.int pl), .val (.int go), .no, .no, .no, .no, .no, .no]
theorem pL_of {o : Dl → Option (List HL.P)} {xs : List HL.P} (e : o δ = some xs) : pL o δ = some (.lst xs) := by unfold pL; rw [e]; rfl
theorem lst3 {a b c : PE} {δ : Dl} {x y z : HL.P} (h1 : a δ = some x) (h2 : b δ = some y) (h3 : c δ = some z) : pL (pO zeQ (zah a (zah b (zah c zaX)))) δ = some (.lst [x, y, z]) := by
  have e : zah a (zah b (zah c zaX)) δ = some [x, y, z] := by unfold zah; rw [h1, h2, h3]; rfl
  unfold pL pO; rw [e]; rfl
theorem sL_get (x : zaU) : pOp qIx (pL (pO zeQ (zah (zaj 0) (zah (pB zh0 (zah (pOrT (zaj 0) (pB zft zaX)) zaX)) zaX)))) (pB zkR (zah (pOp (qIs true) (zaj 0) (pC .non)) zaX)) [.val (sP x)] = some (sL x) := by
  cases x with
  | none => rfl
  | some z => obtain ⟨a, b, c⟩ := z; rfl
theorem dat_P (t : List zaU) : zbG zdv (.lst (t.map sP)) = some (.lst (t.map sD)) := by
  show (zbK (zbG 7) (t.map sP)).map D.lst = _
  rw [zfp 7 sP sD (dat_s 6) t]; rfl
theorem dat_T (t : List zaU) : zbG zdv (.tup (t.map sP)) = some (.tup (t.map sD)) := by
  show (zbK (zbG 7) (t.map sP)).map D.tup = _
  rw [zfp 7 sP sD (dat_s 6) t]; rfl
def sDL : zaU → D
  | none => .non
  | some (a, b, c) => .lst [.int a, .int b, .int c]
theorem dat_L (t : List zaU) : zbG zdv (.lst (t.map sL)) = some (.lst (t.map sDL)) := by
  show (zbK (zbG 7) (t.map sL)).map D.lst = _
  rw [zfp 7 sL sDL (fun x => by cases x with | none => rfl | some z => obtain ⟨a, b, c⟩ := z; rfl) t]; rfl
theorem three (t : List zaU) (m : Int) : ∃ p φ d, qIx (.lst [.tup (t.map sP), .lst (t.map sP), .lst (t.map sL)]) (.int (m / 128 % 3)) = some p ∧ zfs p = some (t.map φ) ∧ zge [p] = some (.int (t.length : Nat)) ∧ (∀ x, za4 [φ x] = some (.v (sP x))) ∧ zh0 [p] = some (.lst (t.map φ)) ∧ zbG zdv (.lst (t.map φ)) = some d := by
  have l : ∀ φ : zaU → HL.P, some (HL.P.int ((t.map φ).length : Nat)) = some (.int (t.length : Nat)) := fun φ => by rw [List.length_map]
  obtain e | e | e : m / 128 % 3 = 0 ∨ m / 128 % 3 = 1 ∨ m / 128 % 3 = 2 := by omega
  · rw [e]; exact ⟨_, sP, _, rfl, rfl, l sP, zhE, rfl, dat_P t⟩
  · rw [e]; exact ⟨_, sP, _, rfl, rfl, l sP, zhE, rfl, dat_P t⟩
  · rw [e]; exact ⟨_, sL, _, rfl, rfl, l sL, zmV, rfl, dat_L t⟩
theorem blk1_ok {scr : HL.P} {m pl go : Int} (P : Lp T s h G S (A ++ x :: B) (d18 scr m A.length pl go)) (ht : x.t = x.u) :
    ∃ T' s' h' y, blk1 s h = .nx s' h' ∧ Lp T' s' h' G S (A ++ y :: B) (d18 scr m A.length pl go) ∧ y.t = y.u ∧ y.u = x.u := by
  -- told
  obtain ⟨a0, b0⟩ := P.inv.slots P.h5 (P.int 9 rfl)
  have P0 := (P.app (l := [.tup x.ws])).set 12 b0
  have e0 : k1_0 s h = .nx (s.set 12 (some (.ref h.length))) (h ++ [.tup x.ws]) := zdF a0
  generalize s.set 12 (some (W.ref h.length)) = s0 at P0 e0
  generalize h ++ [SO.tup x.ws] = h0 at P0 e0
  -- some
  obtain ⟨w1, l1, e1, P1⟩ := P0.sset 1 (e_l (zfz (zam (zae 12) (zam (e_b zhC (zaM (zae 12).b zbp)) (zam (e_l (ziI (zld (zae 12)) (zhy 0) zj3 (zao zcI (e_l (zfz (zam (zae 0) (zam (e_b zhC (zaM (e_orT (zae 0) (zf2 zbq)).b zbp)) zbq)))).b (e_b d_int1 (zaM (zao zg4 (zae 0).b zeX.b).b zbp)).b))) zbq))))) (r := .lst [.tup (x.t.map sP), .lst (x.t.map sP), .lst (x.t.map sL)]) (by
      have c : zfx (zgx (zaj 12)) 1 [] (zcw 0) zep (pOp qIx (pL (pO zeQ (zah (zaj 0) (zah (pB zh0 (zah (pOrT (zaj 0) (pB zft zaX)) zaX)) zaX)))) (pB zkR (zah (pOp (qIs true) (zaj 0) (pC .non)) zaX))) ((d18 scr m A.length pl go).set 12 (.val (.tup (x.t.map sP)))) = some (x.t.map sL) := by
        show zfb (zcw 0) zep _ (x.t.map sP) [.no] [] = _
        exact ziX sP sL x.t .no (fun b _ => sL_get b) (by rw [P.inv.gx.len]; have := P.inv.gx.l2; omega)
      exact lst3 rfl rfl (pL_of c))
  have e1 : k1_1 s0 h0 = _ := e1
  generalize s0.set 1 (some w1) = s1 at P1 e1
  generalize h0 ++ l1 = h1 at P1 e1
  -- handed
  obtain ⟨p, φ, dd, q1, q2, q3, q4, q5, q6⟩ := three x.t m
  obtain ⟨w2, l2, e2, P2⟩ := P1.sset 13 (zao zcI (zae 1).b (zao zb0 (zao zea (zae 8).b (zal 128).b).b (zal 3).b).b) (r := p) (zaw (x := .lst [.tup (x.t.map sP), .lst (x.t.map sP), .lst (x.t.map sL)]) (y := .int (m / 128 % 3)) rfl (zaw (x := .int (m / 128)) rfl rfl (zaR _ 3 (by decide))) q1)
  have e2 : k1_2 s1 h1 = _ := e2
  generalize s1.set 13 (some w2) = s2 at P2 e2
  generalize h1 ++ l2 = h2 at P2 e2
  -- before
  obtain ⟨w3, l3, e3, P3⟩ := P2.sset 14 (e_b zhC (zaM (zae 13).b zbp)) (r := .lst (x.t.map φ)) q5
  have e3 : k1_3 s2 h2 = _ := e3
  generalize s2.set 14 (some w3) = s3 at P3 e3
  generalize h2 ++ l3 = h3 at P3 e3
  -- with_slots
  obtain ⟨u13, g13, d13⟩ := P3.val 13 (p := p) rfl
  obtain ⟨T4, h4, g4, e4, ws4, f4, I4, st4⟩ := P3.inv.again P3.h5 (P3.int 9 rfl) g13 d13 q2 q3 q4 P3.inv.gx.len
  have f4 : k1_4 s3 h3 = _ := f4
  have P4 : Lp T4 s3 h4 G S _ _ := ⟨P3.mx.stay st4 I4.lt, P3.h5, P3.h6, I4⟩
  -- learn
  obtain ⟨h5, ws5, f5, I5, st5⟩ := P4.inv.meth P4.h5 (P4.int 9 rfl) (as := zaa (zac 10) (zaa (dOp zbc (zac 11) (dC (.int 9))) zad)) (pl := pl) (go := go + 9) (by
    simp only [zaa, dOp, zaQ (P4.int 10 rfl), zaQ (P4.int 11 rfl), R.bind, dC, zbc, OR.fin, zad])
  have f5 : k1_5 s3 h4 = _ := f5
  have P5 : Lp T4 s3 h5 G S _ _ := ⟨P4.mx.stay st5 I5.lt, P4.h5, P4.h6, I5⟩
  -- list(handed) stays
  obtain ⟨l6, f6⟩ := P5.mx.t (t_e (zao zjS (e_b zhC (zaM (zae 13).b zbp)).b (zae 14).b).b) (r := false) (zk3 (zaw (x := .lst (x.t.map φ)) (y := .lst (x.t.map φ)) q5 rfl (zhj true q6)) rfl)
  have e6 : k1_6 s3 h5 = .nx s3 (h5 ++ l6) := zgv f6 rfl
  have P6 := P5.app (l := l6)
  generalize h5 ++ l6 = h6 at P6 e6
  -- with_slots again
  obtain ⟨u13', g13', d13'⟩ := P6.val 13 (p := p) rfl
  obtain ⟨T7, h7, g7, e7, ws7, f7, I7, st7⟩ := P6.inv.again P6.h5 (P6.int 9 rfl) g13' d13' q2 q3 q4 P3.inv.gx.len
  have f7 : k1_7 s3 h6 = _ := f7
  have P7 : Lp T7 s3 h7 G S _ _ := ⟨P6.mx.stay st7 I7.lt, P6.h5, P6.h6, I7⟩
  -- slots() are told
  obtain ⟨a8, b8⟩ := P7.inv.slots P7.h5 (P7.int 9 rfl)
  obtain ⟨u12, g12, d12⟩ := P7.val 12 (p := .tup (x.t.map sP)) rfl
  have e8 : k1_8 s3 h7 = .nx s3 (h7 ++ [.tup ws7]) := by
    refine zgv (h1 := h7 ++ [.tup ws7]) ?_ rfl
    have : dOp oNe (zaK zaW "slots" (dOp oIx (zac 5) (zac 9)) zad) (zac 12) s3 h7 = .ok (.bl false) (h7 ++ [.tup ws7]) := by
      refine zdR a8 (zaQ g12) ?_
      have := d_eqH (T := T7) (h := h7 ++ [.tup ws7]) (.inl b8) (.inl d12.app) (b := true) (by
        have := zhj false (dat_T x.t)
        unfold qEq at this
        cases q : eqP (.tup (x.t.map sP)) (.tup (x.t.map sP)) with
        | none => rw [q] at this; cases this
        | some k => rw [q] at this; cases k with
          | true => rfl
          | false => cases this)
      simp only [oNe, this, OR.fin, Bool.not_true]
    simp only [dT, this, R.bind, zco]
  have P8 := P7.app (l := [.tup ws7])
  refine ⟨T7, s3, _, _, ?_, P8.mask [true, false, true, true, true, true, true, true, true, true, true, true, false, false, false, true, true, true], ht, rfl⟩
  unfold blk1
  rw [zar e0, zar e1, zar e2, zar e3, zar f4, zar f5, zar e6, zar f7, e8]
end
end K54
namespace K54
open HL
open PySem (Str)
section
variable {T T' : Nat → Prop} {s : Sg} {h h' l : Sh} {δ : Dl} {G S : Nat} {A B L : List Gu} {x : Gu} {i j : Nat}
theorem blk2_ok {scr : HL.P} {m pl go : Int} (P : Lp T s h G S (A ++ x :: B) (d18 scr m A.length pl go)) :
    ∃ s' h', blk2 s h = .nx s' h' ∧ Lp T s' h' G S (A ++ x :: B) (d18 scr m A.length pl go) := by
  have X := P.inv.gx
  obtain ⟨a0, b0⟩ := P.inv.slots P.h5 (P.int 9 rfl)
  have P0 := P.app (l := [.tup x.ws])
  obtain ⟨g, e, ws, h1, c1, c2, c3, c4, c5, c6⟩ := zkr (t := x.t) P0.inv.lt b0 rfl (by show some (HL.P.int ((x.t.map sP).length : Nat)) = _; rw [List.length_map]) zhE (by rw [X.len]; exact X.l1) (by rw [X.len]; exact X.l2)
  have e0 : k2_0 s h = .nx (s.set 15 (some (.ref g))) h1 := by
    refine zdF ?_
    have : (zaa (zaK zaW "slots" (dOp oIx (zac 5) (zac 9)) zad) zad) s h = .ok [.ref h.length] (h ++ [.tup x.ws]) := by
      unfold zaa; rw [a0]; rfl
    unfold zav
    rw [this]
    exact c1
  have st1 : zdl T (h ++ [.tup x.ws]) T h1 := fun i o t ei => ⟨c5 i o ei, t⟩
  have P1 : Lp T (s.set 15 (some (.ref g))) h1 G S (A ++ x :: B) (d18 scr m A.length pl go) := (Lp.no ⟨P0.mx.stay st1 (P0.inv.ext c5).lt, P0.h5, P0.h6, P0.inv.ext c5⟩ 15)
  have lg : g < h1.length := c2.lt (List.mem_cons_self ..)
  have le : e < h1.length := c2.lt (List.mem_cons_of_mem _ (List.mem_cons_self ..))
  obtain ⟨h2, ws', f1, f2, f3, f4, f5⟩ := zjJ (T := fun i => i = g ∨ i = e) (h := h1) (A := []) (B := []) (fun i z => by rcases z with z | z <;> omega) c2 (.inr rfl) (c6.weak fun i z => .inr z) (by rw [X.len]; exact X.l1) pl (go + 5)
  have g15 : (s.set 15 (some (.ref g)))[15]? = some (some (.ref g)) := by rw [List.getElem?_set_self (by rw [P.mx.ln]; show _ < 18; omega)]
  have e1 : k2_1 (s.set 15 (some (.ref g))) h1 = .nx (s.set 15 (some (.ref g))) h2 := by
    have g1 : h1[g]? = some (.ins "Guesses" [("entries", .ref e)]) := c2.get (List.mem_cons_self ..)
    have fm : zeV zcr "learn" (.ref g) h1 = some za0 := by rw [zd8 g1 rfl]; rfl
    refine zjm (v := .non) ?_
    unfold zaK
    rw [zaQ g15]
    simp only [R.bind, fm, zaa, dOp, zaQ (P1.int 10 rfl), zaQ (P1.int 11 rfl), dC, zbc, OR.fin, zad]
    exact f1
  have k2 : ∀ (i : Nat) (o : SO), (h ++ [.tup x.ws])[i]? = some o → h2[i]? = some o := fun i o ei => f5 i o (fun z => by
    have := (List.getElem?_eq_some_iff.mp ei).1
    rcases z with z | z <;> omega) (c5 i o ei)
  have st2 : zdl T (h ++ [.tup x.ws]) T h2 := fun i o t ei => ⟨k2 i o ei, t⟩
  refine ⟨s.set 15 (some (.ref g)), h2, ?_, (Lp.no ⟨P0.mx.stay st2 (P0.inv.ext k2).lt, P0.h5, P0.h6, P0.inv.ext k2⟩ 15)⟩
  unfold blk2
  rw [zar e0, e1]
theorem ziU {t : It} {i : Nat} {b : DS} (I : Sg → Sh → Prop) (ht : ∀ h, t.stays h) : ∀ (xs : List HL.W), (∀ x ∈ xs, ∀ s h, I s h → ∃ s' h', b (s.set i (some x)) h = .nx s' h' ∧ I s' h') → ∀ s h, I s h → ∃ s' h', zhQ t (zck i) b xs s h = .nx s' h' ∧ I s' h'
  | [], _, s, h, H => ⟨s, h, rfl, H⟩
  | x :: xs, st, s, h, H => by
    obtain ⟨s1, h1, e, H1⟩ := st x (List.mem_cons_self ..) s h H
    obtain ⟨s2, h2, e2, H2⟩ := ziU I ht xs (fun y hy => st y (List.mem_cons_of_mem _ hy)) s1 h1 H1
    refine ⟨s2, h2, ?_, H2⟩
    rw [zhQ]
    simp only [zck, e, ht h1, if_true]
    exact e2
theorem zkG {i : DI} {g : DG} {b : DS} {s : Sg} {h h1 : Sh} {t : It} {c : C} (hi : i s h = .ok t h1) (hc : zhQ t g b t.items s h1 = c) : zgJ i g b s h = c := by
  unfold zgJ
  rw [hi]
  exact hc
def zgH (ns : List Int) : HL.P := .rol (ns.map .int)
def d0 (ns : List Int) : Dl := [.val (zgH ns), .no, .no, .no, .no, .no, .no, .no, .no, .no, .no, .no, .no, .no, .no, .no, .no, .no]
def zi5 (ns : List Int) (G S : Nat) (s : Sg) (h : Sh) : Prop := ∃ T L, Lp T s h G S L (d0 ns) ∧ L.length = 2 ∧ ∀ x ∈ L, x.t = x.u
theorem zmJ {scr : HL.P} {m a pl go : Int} (P : Lp T s h G S L (d18 scr m a pl go)) (l2 : L.length = 2) (ht : ∀ x ∈ L, x.t = x.u) : ∃ s' h', st_8 s h = .nx s' h' ∧ Lp T s' h' G S L (d18 scr m a pl go) := by
  obtain ⟨s', h', e, Q⟩ := ziU (t := .fix (zcv 0 2)) (i := 16) (b := chkB) (fun s h => Lp T s h G S L (d18 scr m a pl go)) (fun _ => trivial) (zcv 0 2) (fun w hw s h P => by
    obtain ⟨k, hk, rfl⟩ := List.mem_map.mp hw
    rw [List.mem_range] at hk
    obtain ⟨A, x, B, rfl, rfl⟩ := zg6 L k (by omega)
    have P1 : Lp T (s.set 16 (some (.int (A.length : Int)))) h G S (A ++ x :: B) (d18 scr m a pl go) := P.no 16
    have g16 : (s.set 16 (some (W.int (A.length : Int))))[16]? = some (some (.int A.length)) := by rw [List.getElem?_set_self (by rw [P.mx.ln]; show _ < 18; omega)]
    rw [Int.zero_add]
    obtain ⟨l, w, e⟩ := look_ok P1.inv (by rw [P1.mx.ln]; rfl) P1.h5 P1.h6 g16 (P1.int 10 rfl) (ht x (List.mem_append_right _ (List.mem_cons_self ..)))
    exact ⟨_, _, e, (P1.app (l := l)).no 17⟩) s h P
  exact ⟨s', h', zkG (t := .fix (zcv 0 2)) rfl e, Q⟩
theorem turn_ok {ns : List Int} (hl : ns.length ≤ 63) {k : Nat} (hk : k < 24) (t : zi5 ns G S s h) : ∃ s' h', zls (s.set 7 (some (.int (k : Int)))) h = .nx s' h' ∧ zi5 ns G S s' h' := by
  obtain ⟨T, L, P, l2, ht⟩ := t
  have P := P.set 7 (p := .int (k : Int)) (w := .int (k : Int)) (by simp only [Dn])
  generalize s.set 7 (some (W.int (k : Int))) = s at P ⊢
  have m0 := zlZ ns (10 + k)
  obtain ⟨w0, l0, e0, P0⟩ := P.sset 8 (zgq zfe (zam (zae 0) (zam (zao zdc (zal 10).b (zae 7).b) zbq))) (r := .int (zdd ns (10 + k))) (by
    show ((zbQ [zgH ns, .int (10 + (k : Int))]).map RF.val) = _
    unfold zgH
    rw [ziY ns (10 + k) hl (by omega) (by omega)]; rfl)
  have e0 : st_0 s h = _ := e0
  generalize s.set 8 (some w0) = s0 at P0 e0
  generalize h ++ l0 = h0 at P0 e0
  generalize zdd ns (10 + k) = m at P0 m0
  obtain ⟨w1, l1, e1, P1⟩ := P0.sset 9 (zao zb0 (zae 8).b (zal 2).b) (r := .int (m % 2)) (zaw rfl rfl (zaR m 2 (by decide)))
  have e1 : st_1 s0 h0 = _ := e1
  generalize s0.set 9 (some w1) = s1 at P1 e1
  generalize h0 ++ l1 = h1 at P1 e1
  obtain ⟨pl, pl0, hpl⟩ := zmm (m / 2) (by omega)
  obtain ⟨w2, l2', e2, P2⟩ := P1.sset 10 (zgq zgS (zam (zao zea (zae 8).b (zal 2).b) zbq)) (r := .int pl) (by
    show ((zc4 [.int (m / 2)]).map RF.val) = _
    rw [hpl]; rfl)
  have e2 : st_2 s1 h1 = _ := e2
  generalize s1.set 10 (some w2) = s2 at P2 e2
  generalize h1 ++ l2' = h2 at P2 e2
  obtain ⟨go, go0, hgo⟩ := goal_ok (m / 64) pl pl0
  obtain ⟨w3, l3, e3, P3⟩ := P2.sset 11 (zgq zhI (zam (zao zea (zae 8).b (zal 64).b) (zam (zae 10) zbq))) (r := .int go) (by
    show ((zdn [.int (m / 64), .int pl]).map RF.val) = _
    rw [hgo]; rfl)
  have e3 : st_3 s2 h2 = _ := e3
  generalize s2.set 11 (some w3) = s3 at P3 e3
  generalize h2 ++ l3 = h3 at P3 e3
  obtain ⟨A, x, B, rfl, ha⟩ := zg6 L (m % 2).toNat (by omega)
  have ha' : m % 2 = (A.length : Int) := by omega
  rw [ha'] at P3
  have P3 : Lp T s3 h3 G S (A ++ x :: B) (d18 (zgH ns) m A.length pl go) := P3.mask [true, true, true, true, true, true, true, false]
  have hx : x.t = x.u := ht x (List.mem_append_right _ (List.mem_cons_self ..))
  -- the first block
  have tst : ∀ (c : Int) (T : Nat → Prop) (s : Sg) (h : Sh) (L : List Gu), Lp T s h G S L (d18 (zgH ns) m A.length pl go) → ∃ l, dT (dOp oEq (dOp zbb (dOp zcU (zac 8) (dC (.int 16))) (dC (.int 8))) (dC (.int c))) s h = .ok (decide (m / 16 % 8 = c)) (h ++ l) := fun c T s h L P => P.mx.t (t_e (zao d_eq (zao zb0 (zao zea (zae 8).b (zal 16).b).b (zal 8).b).b (zal c).b).b) (zk3 (p := .bl (decide (m / 16 % 8 = c))) (zaw (x := .int (m / 16 % 8)) (zaw (x := .int (m / 16)) rfl rfl (zaR _ 8 (by decide))) rfl (by rw [zfo]; simp)) rfl)
  have B4 : ∃ T' s' h' y, st_4 s3 h3 = .nx s' h' ∧ Lp T' s' h' G S (A ++ y :: B) (d18 (zgH ns) m A.length pl go) ∧ y.t = y.u ∧ y.u = x.u := by
    obtain ⟨l, et⟩ := tst 1 T s3 h3 _ P3
    by_cases z : m / 16 % 8 = 1
    · rw [decide_eq_true z] at et
      obtain ⟨T', s', h', y, f, Q, a, b⟩ := blk1_ok (P3.app (l := l)) hx
      exact ⟨T', s', h', y, sIf_t et f, Q, a, b⟩
    · rw [decide_eq_false z] at et
      exact ⟨T, s3, _, x, zgv et rfl, P3.app, hx, rfl⟩
  obtain ⟨T4, s4, h4, y, e4, P4, hy, hu⟩ := B4
  have B5 : ∃ s' h', st_5 s4 h4 = .nx s' h' ∧ Lp T4 s' h' G S (A ++ y :: B) (d18 (zgH ns) m A.length pl go) := by
    obtain ⟨l, et⟩ := tst 2 T4 s4 h4 _ P4
    by_cases z : m / 16 % 8 = 2
    · rw [decide_eq_true z] at et
      obtain ⟨s', h', f, Q⟩ := blk2_ok (P4.app (l := l))
      exact ⟨s', h', sIf_t et f, Q⟩
    · rw [decide_eq_false z] at et
      exact ⟨s4, _, zgv et rfl, P4.app⟩
  obtain ⟨s5, h5, e5, P5⟩ := B5
  obtain ⟨h6, ws6, e6, I6, st6⟩ := P5.inv.meth P5.h5 (P5.int 9 rfl) (as := zaa (zac 10) (zaa (zac 11) zad)) (pl := pl) (go := go) (by
    simp only [zaa, zaQ (P5.int 10 rfl), zaQ (P5.int 11 rfl), R.bind, zad])
  have e6 : st_6 s5 h5 = _ := e6
  have P6 : Lp T4 s5 h6 G S _ _ := ⟨P5.mx.stay st6 I6.lt, P5.h5, P5.h6, I6⟩
  obtain ⟨h7, v7, e7, I7, st7⟩ := P6.inv.own P6.h6 (P6.int 9 rfl) (P6.int 10 rfl) (P6.int 11 rfl)
  have e7 : st_7 s5 h6 = _ := e7
  have P7 : Lp T4 s5 h7 G S _ _ := ⟨P6.mx.stay st7 I7.lt, P6.h5, P6.h6, I7⟩
  have ht7 : ∀ z ∈ (A ++ ({ g := y.g, e := y.e, ws := ws6, v := v7, t := y.t.set (kx y.t pl) (lrn (at_ y.t pl) pl go), u := y.u.set (kx y.u pl) (lrn (at_ y.u pl) pl go) } : Gu) :: B), z.t = z.u := fun z hz => by
    rcases List.mem_append.mp hz with q | q
    · exact ht z (List.mem_append_left _ q)
    · rcases List.mem_cons.mp q with rfl | q
      · simp only [hy]
      · exact ht z (List.mem_append_right _ (List.mem_cons_of_mem _ q))
  have l7 : (A ++ ({ g := y.g, e := y.e, ws := ws6, v := v7, t := y.t.set (kx y.t pl) (lrn (at_ y.t pl) pl go), u := y.u.set (kx y.u pl) (lrn (at_ y.u pl) pl go) } : Gu) :: B).length = 2 := by
    rw [← l2]; simp
  obtain ⟨s8, h8, e8, P8⟩ := zmJ P7 l7 ht7
  refine ⟨s8, h8, ?_, T4, _, P8.mask [true, true, true, true, true, true, true, true, false, false, false, false], l7, ht7⟩
  unfold zls
  rw [zar e0, zar e1, zar e2, zar e3, zar e4, zar e5, zar e6, zar e7, e8]
end
end K54
namespace K54
open HL
open PySem (Str)
section
variable {T T' : Nat → Prop} {s : Sg} {h h' l : Sh} {δ : Dl} {G S : Nat} {A B L : List Gu} {x : Gu} {i j : Nat}
theorem zlh {r : R W} {v : W} {z : SO} (e : fin2 r = some (v, some z)) : ∃ h', r = .ok v h' ∧ h'[0]? = some z := by
  cases r with
  | ok a h => simp only [fin2, Option.some.injEq, Prod.mk.injEq] at e; exact ⟨h, by rw [e.1], e.2⟩
  | ex a h => cases e
  | er => cases e
theorem zcx {odd : W} {z : SO} (h2 : s[2]? = some (some odd)) (h3 : s[3]? = some (some (.bl false))) (e : fin2 (zap [odd] h) = some (.str "no", some z)) : ∃ h', zhX s h = .nx s h' ∧ h'[0]? = some z := by
  obtain ⟨h1, e1, z1⟩ := zlh e
  have a1 : zav zap (zaa (zac 2) zad) s h = .ok (.str "no") h1 := by
    unfold zav
    simp only [zaa, zaQ h2, R.bind, zad]; exact e1
  have a2 : dOp oIx (dB zbs (zaa (dC (.str "no")) (zaa (zac 2) zad))) (dB zev (zaa (zac 3) zad)) s h1 = .ok (.str "no") (h1 ++ [.lst [.str "no", odd]]) := by
    refine zdR (x := .ref h1.length) (y := .int 0) (h1 := h1 ++ [.lst [.str "no", odd]]) (h2 := h1 ++ [.lst [.str "no", odd]]) ?_ ?_ ?_
    · simp only [dB, zaa, dC, zaQ h2, R.bind, zad, zbs, List.length_cons, List.length_nil, show (0 + 1 + 1 : Nat) ≤ LIM by decide, if_true, OR.fin]
    · simp only [dB, zaa, zaQ h3, R.bind, zad, zev, OR.fin, Bool.false_eq_true, if_false]
    · have g : (h1 ++ [SO.lst [.str "no", odd]])[h1.length]? = some (.lst [.str "no", odd]) := by rw [List.getElem?_append_right (Nat.le_refl _), Nat.sub_self]; rfl
      simp only [oIx, zd0, lstW, g, Option.or]
      rfl
  refine ⟨h1 ++ [.lst [.str "no", odd]], ?_, zax z1⟩
  refine zgv (h1 := h1 ++ [.lst [.str "no", odd]]) ?_ rfl
  have : dOp oNe (zav zap (zaa (zac 2) zad)) (dOp oIx (dB zbs (zaa (dC (.str "no")) (zaa (zac 2) zad))) (dB zev (zaa (zac 3) zad))) s h = .ok (.bl false) (h1 ++ [.lst [.str "no", odd]]) := by
    refine zdR a1 a2 ?_
    simp only [oNe, eqH, decide_true, Bool.not_true, OR.fin]
  simp only [dT, this, R.bind, zco]
theorem zjE {k : Int} {z : SO} (h2 : s[2]? = some (some (.int k))) (h3 : s[3]? = some (some (.bl true))) (e : fin2 (zap [.int k] h) = some (.int k, some z)) : ∃ h', zhX s h = .nx s h' ∧ h'[0]? = some z := by
  obtain ⟨h1, e1, z1⟩ := zlh e
  have a1 : zav zap (zaa (zac 2) zad) s h = .ok (.int k) h1 := by
    unfold zav
    simp only [zaa, zaQ h2, R.bind, zad]; exact e1
  have a2 : dOp oIx (dB zbs (zaa (dC (.str "no")) (zaa (zac 2) zad))) (dB zev (zaa (zac 3) zad)) s h1 = .ok (.int k) (h1 ++ [.lst [.str "no", .int k]]) := by
    refine zdR (x := .ref h1.length) (y := .int 1) (h1 := h1 ++ [.lst [.str "no", .int k]]) (h2 := h1 ++ [.lst [.str "no", .int k]]) ?_ ?_ ?_
    · simp only [dB, zaa, dC, zaQ h2, R.bind, zad, zbs, List.length_cons, List.length_nil, show (0 + 1 + 1 : Nat) ≤ LIM by decide, if_true, OR.fin]
    · simp only [dB, zaa, zaQ h3, R.bind, zad, zev, OR.fin, if_true]
    · have g : (h1 ++ [SO.lst [.str "no", .int k]])[h1.length]? = some (.lst [.str "no", .int k]) := by rw [List.getElem?_append_right (Nat.le_refl _), Nat.sub_self]; rfl
      simp only [oIx, zd0, lstW, g, Option.or]
      rfl
  refine ⟨h1 ++ [.lst [.str "no", .int k]], ?_, zax z1⟩
  refine zgv (h1 := h1 ++ [.lst [.str "no", .int k]]) ?_ rfl
  have : dOp oNe (zav zap (zaa (zac 2) zad)) (dOp oIx (dB zbs (zaa (dC (.str "no")) (zaa (zac 2) zad))) (dB zev (zaa (zac 3) zad))) s h = .ok (.bl false) (h1 ++ [.lst [.str "no", .int k]]) := by
    refine zdR a1 a2 ?_
    simp only [oNe, eqH, decide_true, Bool.not_true, OR.fin]
  simp only [dT, this, R.bind, zco]
def sA (odd : W) : Sg := [some (.ref 0), some (.ref 3), some odd, none, none, none, none, none, none, none, none, none, none, none, none, none, none, none]
def sB (odd : W) (b : Bool) : Sg := [some (.ref 0), some (.ref 3), some odd, some (.bl b), none, none, none, none, none, none, none, none, none, none, none, none, none, none]
theorem first (z : SO) : top_0 (start 18 [.ref 0]) [z] = .nx [some (.ref 0), some (.ref 3), none, none, none, none, none, none, none, none, none, none, none, none, none, none, none, none] [z, .tup [.int 8], .lst [.int 8], .lst zdP] := rfl
theorem pre_ok (ns : List Int) (hl : ns.length ≤ 63) : ∃ s h, zaq top_0 (zaq zkw (zaq zkv zhX)) (start 18 [.ref 0]) [.rol (ns.map .int)] = .nx s h ∧ s.length = 18 ∧ s[0]? = some (some (.ref 0)) ∧ h[0]? = some (.rol (ns.map .int)) := by
  rw [zar (first _)]
  obtain ⟨v, ev, v0, _⟩ := zmY (h := [.rol (ns.map .int), .tup [.int 8], .lst [.int 8], .lst zdP]) (ns := ns) rfl hl 0 (by decide)
  have ev : zav zaB (zaa (zac 0) (zaa (dC (.int 0)) zad)) [some (.ref 0), some (.ref 3), none, none, none, none, none, none, none, none, none, none, none, none, none, none, none, none] [.rol (ns.map .int), .tup [.int 8], .lst [.int 8], .lst zdP] = .ok (.int v) (h13 (.rol (ns.map .int))) := ev
  have one : ∀ (k : Nat) (odd : W), v % 13 = (k : Int) → atW zdP (k : Int) = some odd → zkw [some (.ref 0), some (.ref 3), none, none, none, none, none, none, none, none, none, none, none, none, none, none, none, none] [.rol (ns.map .int), .tup [.int 8], .lst [.int 8], .lst zdP] = .nx (sA odd) (h13 (.rol (ns.map .int))) := fun k odd hk ho => by
    have : dOp oIx (zac 1) (dOp zbb (zav zaB (zaa (zac 0) (zaa (dC (.int 0)) zad))) (dC (.int 13))) [some (.ref 0), some (.ref 3), none, none, none, none, none, none, none, none, none, none, none, none, none, none, none, none] [.rol (ns.map .int), .tup [.int 8], .lst [.int 8], .lst zdP] = .ok odd (h13 (.rol (ns.map .int))) := by
      refine zdR (x := .ref 3) (y := .int (k : Int)) (h2 := h13 (.rol (ns.map .int))) rfl (zdR ev rfl ?_) ?_
      · rw [← hk]; rfl
      · show (match atW zdP (k : Int) with | some v => OR.val v | none => .er).fin _ = _
        rw [ho]; rfl
    exact zdF this
  have go : ∀ (k : Nat) (odd : W) (b : Bool), v % 13 = (k : Int) → atW zdP (k : Int) = some odd → zkv (sA odd) (h13 (.rol (ns.map .int))) = .nx (sB odd b) (h13 (.rol (ns.map .int))) → (∃ h', zhX (sB odd b) (h13 (.rol (ns.map .int))) = .nx (sB odd b) h' ∧ h'[0]? = some (.rol (ns.map .int))) → ∃ s h, zaq zkw (zaq zkv zhX) [some (.ref 0), some (.ref 3), none, none, none, none, none, none, none, none, none, none, none, none, none, none, none, none] [.rol (ns.map .int), .tup [.int 8], .lst [.int 8], .lst zdP] = .nx s h ∧ s.length = 18 ∧ s[0]? = some (some (.ref 0)) ∧ h[0]? = some (.rol (ns.map .int)) := fun k odd b hk ho h2 h3 => by
    obtain ⟨h', e3, z3⟩ := h3
    refine ⟨sB odd b, h', ?_, rfl, rfl, z3⟩
    rw [zar (one k odd hk ho), zar h2, e3]
  obtain e | e | e | e | e | e | e | e | e | e | e | e | e : v % 13 = (0 : Nat) ∨ v % 13 = (1 : Nat) ∨ v % 13 = (2 : Nat) ∨ v % 13 = (3 : Nat) ∨ v % 13 = (4 : Nat) ∨ v % 13 = (5 : Nat) ∨ v % 13 = (6 : Nat) ∨ v % 13 = (7 : Nat) ∨ v % 13 = (8 : Nat) ∨ v % 13 = (9 : Nat) ∨ v % 13 = (10 : Nat) ∨ v % 13 = (11 : Nat) ∨ v % 13 = (12 : Nat) := by omega
  · exact go 0 _ false e rfl rfl (zcx rfl rfl (made0 _))
  · exact go 1 _ false e rfl rfl (zcx rfl rfl (made1 _))
  · exact go 2 _ false e rfl rfl (zcx rfl rfl (made2 _))
  · exact go 3 _ false e rfl rfl (zcx rfl rfl (made3 _))
  · exact go 4 _ false e rfl rfl (zcx rfl rfl (made4 _))
  · exact go 5 _ false e rfl rfl (zcx rfl rfl (made5 _))
  · exact go 6 _ false e rfl rfl (zcx rfl rfl (made6 _))
  · exact go 7 _ false e rfl rfl (zcx rfl rfl (made7 _))
  · exact go 8 _ false e rfl rfl (zcx rfl rfl (made8 _))
  · exact go 9 _ false e rfl rfl (zcx rfl rfl (made9 _))
  · exact go 10 _ false e rfl rfl (zcx rfl rfl (made10 _))
  · exact go 11 _ true e rfl rfl (zjE rfl rfl (made11 _))
  · exact go 12 _ true e rfl rfl (zjE rfl rfl (made12 _))
end
end K54
namespace K54
open HL
open PySem (Str)
section
variable {T T' : Nat → Prop} {s : Sg} {h h' l : Sh} {δ : Dl} {G S : Nat} {A B L : List Gu} {x : Gu} {i j : Nat}
theorem zh7 : ∀ ns : List Int, Dns T h (ns.map HL.P.int) (ns.map W.int)
  | [] => by simp only [List.map_nil, Dns]
  | a :: r => by simp only [List.map_cons, Dns]; exact ⟨_, _, rfl, by simp only [Dn], zh7 r⟩
theorem zkp (ln : s.length = 18) (lt : ∀ i, T i → i < h.length) {ns : List Int} (h0 : s[0]? = some (some (.ref 0))) (hs : h[0]? = some (.rol (ns.map .int))) (t0 : ¬ T 0) : Mx T s h (d0 ns) := by
  refine ⟨lt, ln, fun i sl e => ?_⟩
  cases i with
  | zero =>
    cases e
    refine .inr ⟨_, .ref 0, rfl, h0, ?_⟩
    unfold zgH
    simp only [Dn]
    exact ⟨0, _, rfl, t0, hs, zh7 ns⟩
  | succ k =>
    left
    have := List.mem_of_getElem? (show [Sl.no, .no, .no, .no, .no, .no, .no, .no, .no, .no, .no, .no, .no, .no, .no, .no, .no][k]? = some sl from e)
    simpa using this
theorem zmd (n : Nat) (h2 : n ≤ 16) : zfT (.lst [.non]) (.int (n : Int)) = some (.lst ((List.replicate n (none : zaU)).map sP)) := by
  have e : (List.replicate n [HL.P.non]).flatten = (List.replicate n (none : zaU)).map sP := by
    rw [List.map_replicate]
    show (List.replicate n [HL.P.non]).flatten = List.replicate n HL.P.non
    induction n with
    | zero => rfl
    | succ n ih => rw [List.replicate_succ, List.flatten_cons, ih (by omega), List.replicate_succ]; rfl
  have c : (n : Int) < 2 ^ 20 ∧ -(2 ^ 20) < (n : Int) ∧ [HL.P.non].length * (n : Int).toNat ≤ LIM := by
    refine ⟨by omega, by omega, ?_⟩
    rw [Int.toNat_natCast]; show 1 * n ≤ LIM; unfold LIM; omega
  rw [← e]
  unfold zfT
  simp only
  rw [if_pos c, Int.toNat_natCast]
theorem zeb {a : DE} {r : DA} {s : Sg} {h h1 h2 : Sh} {x : W} {xs : List W} (ha : a s h = .ok x h1) (hr : r s h1 = .ok xs h2) : zaa a r s h = .ok (x :: xs) h2 := by
  unfold zaa; rw [ha]; simp only [R.bind, hr]
theorem dB_of {f : List W → Sh → OR} {as : DA} {s : Sg} {h h1 : Sh} {xs : List W} {r : R W} (ha : as s h = .ok xs h1) (hf : (f xs h1).fin h1 = r) : dB f as s h = r := by
  unfold dB; rw [ha]; exact hf
theorem new2 {h : Sh} (o : SO) : (h ++ [o])[h.length]? = some o := by rw [List.getElem?_append_right (Nat.le_refl _), Nat.sub_self]; rfl
theorem zkj {T T2 : Nat → Prop} {h h2 : Sh} : ∀ {n : Nat} {us : List W}, Dns T h (List.replicate n (sP none)) us → Dns T2 h2 (List.replicate n (sP none)) us
  | 0, us, x => by simpa only [List.replicate_zero, Dns] using x
  | n + 1, us, x => by
    rw [List.replicate_succ] at x ⊢
    simp only [Dns] at x ⊢
    obtain ⟨u, r, e, d, ds⟩ := x
    exact ⟨u, r, e, by simpa only [sP, Dn] using d, zkj ds⟩
theorem rest_ok (ns : List Int) (hl : ns.length ≤ 63) (ln : s.length = 18) (h0 : s[0]? = some (some (.ref 0))) (hs : h[0]? = some (.rol (ns.map .int))) :
    ∃ s' h' G S, zaq top_4 (zaq top_5 top_6) s h = .nx s' h' ∧ zi5 ns G S s' h' := by
  have M0 : Mx (fun _ => False) s h (d0 ns) := zkp ln (fun _ z => z.elim) h0 hs id
  -- the first size
  obtain ⟨w4, l4, e4, M4, _⟩ := M0.sset (i := 4) (zao zdc (zal 1).b (zao zb0 (zgq zfe (zam (zae 0) (zam (zal 1) zbq))).b (zal 16).b).b) (r := .int (1 + zdd ns 1 % 16)) (zaw (x := .int 1) (y := .int (zdd ns 1 % 16)) rfl (zaw (x := .int (zdd ns 1)) (by
    show ((zbQ [zgH ns, .int 1]).map RF.val) = _
    unfold zgH
    rw [ziY ns 1 hl (by omega) (by omega)]; rfl) rfl (zaR _ 16 (by decide))) rfl)
  have c1 : ∃ n : Nat, 1 + zdd ns 1 % 16 = (n : Int) ∧ 1 ≤ n ∧ n ≤ 16 := ⟨(1 + zdd ns 1 % 16).toNat, by omega, by omega, by omega⟩
  obtain ⟨n1, q1, a1, b1⟩ := c1
  rw [q1] at M4
  have e4 : top_4 s h = _ := e4
  have h0' : (s.set 4 (some w4))[0]? = some (some (.ref 0)) := by rw [zgO (by decide)]; exact h0
  have ln' : (s.set 4 (some w4)).length = 18 := by rw [List.length_set]; exact ln
  have g4 : (s.set 4 (some w4))[4]? = some (some (.int n1)) := by
    rcases M4.at_ 4 (.val (.int n1)) rfl with q | ⟨p, u, q, a, b⟩
    · cases q
    · cases q; simp only [Dn] at b; rw [a, b]
  have hs4 : (h ++ l4)[0]? = some (.rol (ns.map .int)) := zax hs
  generalize s.set 4 (some w4) = s4 at e4 M4 h0' ln' g4
  generalize h ++ l4 = h4 at e4 M4 hs4
  -- the first guesses
  obtain ⟨ea, wa, h5, i1, i2, i3, i4, i5⟩ := ziR (T := fun _ => False) (h := h4) (fun _ z => z.elim) n1 a1 b1
  have f1 := zhr (s := s4) (h := h4) (as := zaa (zac 4) zad) (by simp only [zaa, zaQ g4, R.bind, zad]) i1
  have pos4 : 0 < h4.length := (List.getElem?_eq_some_iff.mp hs4).1
  generalize hga : h4.length = ga at *
  have hs5 : h5[0]? = some (.rol (ns.map .int)) := i4 0 _ hs4
  have lga : ga < h5.length := i2.lt (List.mem_cons_self ..)
  have lea : ea < h5.length := i2.lt (List.mem_cons_of_mem _ (List.mem_cons_self ..))
  have M5 : Mx (fun i => i = ga ∨ i = ea) s4 h5 (d0 ns) := zkp ln' (fun i z => by rcases z with z | z <;> omega) h0' hs5 (fun z => by rcases z with z | z <;> omega)
  obtain ⟨w6, l6, e6, d6⟩ := M5.e (zao zdc (zal 1).b (zao zb0 (zgq zfe (zam (zae 0) (zam (zal 2) zbq))).b (zal 16).b).b) (r := .int (1 + zdd ns 2 % 16)) (zaw (x := .int 1) (y := .int (zdd ns 2 % 16)) rfl (zaw (x := .int (zdd ns 2)) (by
    show ((zbQ [zgH ns, .int 2]).map RF.val) = _
    unfold zgH
    rw [ziY ns 2 hl (by omega) (by omega)]; rfl) rfl (zaR _ 16 (by decide))) rfl)
  have c2 : ∃ n : Nat, 1 + zdd ns 2 % 16 = (n : Int) ∧ 1 ≤ n ∧ n ≤ 16 := ⟨(1 + zdd ns 2 % 16).toNat, by omega, by omega, by omega⟩
  obtain ⟨n2, q2, a2, b2⟩ := c2
  rw [q2] at d6
  simp only [Dn] at d6
  subst d6
  have hs6 : (h5 ++ l6)[0]? = some (.rol (ns.map .int)) := zax hs5
  have i2' : Has (h5 ++ l6) (gH ga ea wa) := i2.app l6
  have i5' : Dns (fun i => i = ga ∨ i = ea) (h5 ++ l6) ((List.replicate n1 (none : zaU)).map sP) wa := (i5.weak fun i z => .inr z).app
  have l56 : h5.length ≤ (h5 ++ l6).length := by rw [List.length_append]; omega
  generalize h5 ++ l6 = h6 at e6 hs6 i2' i5' l56
  obtain ⟨eb, wb, h7, j1, j2, j3, j4, j5⟩ := ziR (T := fun i => i = ga ∨ i = ea) (h := h6) (fun i z => by rcases z with z | z <;> omega) n2 a2 b2
  have f2 := zhr (s := s4) (h := h5) (as := zaa (dOp zbc (dC (.int 1)) (dOp zbb (zav zaB (zaa (zac 0) (zaa (dC (.int 2)) zad))) (dC (.int 16)))) zad) (zeb e6 rfl) j1
  generalize hgb : h6.length = gb at *
  have k2 : Has h7 (gH ga ea wa) := ⟨i2'.1, fun y hy => j4 _ _ (i2'.2 y hy)⟩
  have k5 : Dns (fun i => i = ga ∨ i = ea) h7 ((List.replicate n1 (none : zaU)).map sP) wa := Dns.mono (fun i o t e => ⟨j4 i o e, t⟩) _ _ i5'
  have lgb : gb < h7.length := j2.lt (List.mem_cons_self ..)
  have leb : eb < h7.length := j2.lt (List.mem_cons_of_mem _ (List.mem_cons_self ..))
  have hs7 := j4 0 _ hs6
  have e5 : top_5 s4 h4 = .nx (s4.set 5 (some (.ref h7.length))) (h7 ++ [.lst [.ref ga, .ref gb]]) := by
    refine zdF ?_
    have : (zaa (zeI "Guesses" zan [] (zaa (zac 4) zad)) (zaa (zeI "Guesses" zan [] (zaa (dOp zbc (dC (.int 1)) (dOp zbb (zav zaB (zaa (zac 0) (zaa (dC (.int 2)) zad))) (dC (.int 16)))) zad)) zad)) s4 h4 = .ok [.ref ga, .ref gb] h7 := by
      exact zeb f1 (zeb f2 rfl)
    unfold dB
    rw [this]
    rfl
  -- all that is made
  have nb : ∀ i, (i = ga ∨ i = ea) → i ≠ gb ∧ i ≠ eb := fun i z => by rcases z with z | z <;> constructor <;> omega
  have H8 : Has (h7 ++ [.lst [.ref ga, .ref gb]]) ((h7.length, .lst [.ref ga, .ref gb]) :: (gH ga ea wa ++ gH gb eb wb)) := by
    refine Has.new (L := gH ga ea wa ++ gH gb eb wb) ⟨?_, fun y hy => ?_⟩ _
    · rw [List.map_append, List.nodup_append]
      refine ⟨k2.1, j2.1, fun a ha b hb => ?_⟩
      simp only [gH, List.map_cons, List.map_nil, List.mem_cons, List.not_mem_nil, or_false] at ha hb
      rcases hb with rfl | rfl
      · exact (nb a ha).1
      · exact (nb a ha).2
    · rcases List.mem_append.mp hy with m | m
      · exact k2.2 y m
      · exact j2.2 y m
  -- the law's own slots
  let TT : Nat → Prop := fun i => i = ga ∨ i = ea ∨ i = gb ∨ i = eb ∨ i = h7.length
  have pos7 : 0 < h7.length := by omega
  have M8 : Mx TT (s4.set 5 (some (.ref h7.length))) (h7 ++ [.lst [.ref ga, .ref gb]]) ((d0 ns).set 4 (.val (.int n1))) := by
    have A0 : Mx TT (s4.set 5 (some (.ref h7.length))) (h7 ++ [.lst [.ref ga, .ref gb]]) (d0 ns) := zkp (by rw [List.length_set]; exact ln') (fun i z => by
      rw [List.length_append]; simp only [List.length_cons, List.length_nil]
      rcases z with z | z | z | z | z <;> omega) (by rw [zgO (by decide)]; exact h0') (zax hs7) (fun z => by rcases z with z | z | z | z | z <;> omega)
    have := A0.set 4 (p := .int n1) (w := .int n1) (by simp only [Dn])
    have e : (s4.set 5 (some (.ref h7.length))).set 4 (some (W.int n1)) = s4.set 5 (some (.ref h7.length)) := by
      apply List.ext_getElem?
      intro k
      rw [List.getElem?_set]
      split
      · rename_i z; subst z
        have : 4 < (s4.set 5 (some (.ref h7.length))).length := by rw [List.length_set, ln']; omega
        rw [if_pos this, zgO (by decide), g4]
      · rfl
    rw [e] at this; exact this
  have h5a : (s4.set 5 (some (.ref h7.length)))[5]? = some (some (.ref h7.length)) := by rw [List.getElem?_set_self (by rw [ln']; omega)]
  generalize s4.set 5 (some (W.ref h7.length)) = s8 at e5 M8 h5a
  have dwa : Dns TT (h7 ++ [.lst [.ref ga, .ref gb]]) ((List.replicate n1 (none : zaU)).map sP) wa := by
    rw [List.map_replicate] at k5 ⊢
    exact zkj k5
  have dwb : Dns TT (h7 ++ [.lst [.ref ga, .ref gb]]) ((List.replicate n2 (none : zaU)).map sP) wb := by
    rw [List.map_replicate] at j5 ⊢
    exact zkj j5
  have lt8 := M8.lt
  generalize hh8 : h7 ++ [SO.lst [.ref ga, .ref gb]] = h8 at e5 H8 M8 dwa dwb lt8
  have hs8 : h8[0]? = some (.rol (ns.map .int)) := by rw [← hh8]; exact zax hs7
  have l8 : h8.length = h7.length + 1 := by rw [← hh8, List.length_append]; rfl
  -- the first list
  obtain ⟨v9, l9, e9, d9⟩ := M8.e (zao zfB (e_l (zfz (zam zeX zbq))).b (zae 4).b) (r := .lst ((List.replicate n1 (none : zaU)).map sP)) (zaw (x := .lst [.non]) (y := .int n1) rfl rfl (zmd n1 b1))
  have H9 := H8.app l9
  have M9 := M8.app (l := l9)
  -- the second one
  have H10 := H9.app [SO.lst [.non]]
  have X10 : Has (h8 ++ l9 ++ [SO.lst [.non]]) (gH gb eb wb) := H10.sub (List.Sublist.cons _ (List.sublist_append_right _ _))
  have G10 : (h8 ++ l9 ++ [SO.lst [.non]])[h7.length]? = some (.lst [.ref ga, .ref gb]) := H10.get (List.mem_cons_self ..)
  have e10 : dB zbs (zaa (dC .non) zad) s8 (h8 ++ l9) = .ok (.ref (h8 ++ l9).length) (h8 ++ l9 ++ [SO.lst [.non]]) := rfl
  have e11 : zaK zaW "slots" (dOp oIx (zac 5) (dC (.int 1))) zad s8 (h8 ++ l9 ++ [SO.lst [.non]]) = .ok (.ref (h8 ++ l9 ++ [SO.lst [.non]]).length) (h8 ++ l9 ++ [SO.lst [.non]] ++ [SO.tup wb]) := by
    have a : dOp oIx (zac 5) (dC (.int 1)) s8 (h8 ++ l9 ++ [SO.lst [.non]]) = .ok (.ref gb) (h8 ++ l9 ++ [SO.lst [.non]]) := by
      refine zdR (zaQ h5a) rfl ?_
      simp only [oIx, zd0, lstW, G10, Option.or]
      rfl
    have g1 : (h8 ++ l9 ++ [SO.lst [.non]])[gb]? = some (.ins "Guesses" [("entries", .ref eb)]) := X10.get (List.mem_cons_self ..)
    have fm : zeV zaW "slots" (.ref gb) (h8 ++ l9 ++ [SO.lst [.non]]) = some zaL := by rw [zd8 g1 rfl]; rfl
    unfold zaK
    rw [a]
    simp only [R.bind, fm, zad]
    exact zh4 X10
  have lwb : wb.length = n2 := by rw [dwb.length, List.length_map, List.length_replicate]
  have e12 : dB zc7 (zaa (zaK zaW "slots" (dOp oIx (zac 5) (dC (.int 1))) zad) zad) s8 (h8 ++ l9 ++ [SO.lst [.non]]) = .ok (.int n2) (h8 ++ l9 ++ [SO.lst [.non]] ++ [SO.tup wb]) := by
    refine dB_of (zeb e11 rfl) ?_
    simp only [zc7, zd0, lstW, zcR, new2, Option.or, OR.fin, lwb]
  have M12 : Mx TT s8 (h8 ++ l9 ++ [SO.lst [.non]] ++ [SO.tup wb]) _ := (M9.app (l := [SO.lst [.non]])).app (l := [.tup wb])
  have d12 : Dn TT (h8 ++ l9 ++ [SO.lst [.non]] ++ [SO.tup wb]) (.lst [.non]) (.ref (h8 ++ l9).length) := by
    simp only [Dn]
    refine ⟨_, [.non], rfl, fun z => ?_, zax (new2 _), by simp only [Dns, Dn]; exact ⟨_, _, rfl, rfl, rfl⟩⟩
    have := M9.lt _ z
    omega
  obtain ⟨v13, l13, e13, d13⟩ := zlg M12.lt (zfB TT _ _ _ _ (.int n2) _ (.inl d12) (.inl (by simp only [Dn])) (zmd n2 b2))
  have e14 : top_6 s8 h8 = .nx (s8.set 6 (some (.ref (h8 ++ l9 ++ [SO.lst [.non]] ++ [SO.tup wb] ++ l13).length))) (h8 ++ l9 ++ [SO.lst [.non]] ++ [SO.tup wb] ++ l13 ++ [.lst [v9, v13]]) := by
    refine zdF (dB_of (zeb e9 (zeb (zdR e10 e12 e13) rfl)) ?_)
    rfl
  have H13 := ((H10.app [.tup wb]).app l13)
  have d9' : Dn TT (h8 ++ l9 ++ [SO.lst [.non]] ++ [SO.tup wb] ++ l13) (.lst ((List.replicate n1 (none : zaU)).map sP)) v9 := d9.app.app.app
  have M13 := M12.app (l := l13)
  have dwa' : Dns TT (h8 ++ l9 ++ [SO.lst [.non]] ++ [SO.tup wb] ++ l13) ((List.replicate n1 (none : zaU)).map sP) wa := dwa.app.app.app.app
  have dwb' : Dns TT (h8 ++ l9 ++ [SO.lst [.non]] ++ [SO.tup wb] ++ l13) ((List.replicate n2 (none : zaU)).map sP) wb := dwb.app.app.app.app
  have hs13 : (h8 ++ l9 ++ [SO.lst [.non]] ++ [SO.tup wb] ++ l13)[0]? = some (.rol (ns.map .int)) := zax (zax (zax (zax hs8)))
  generalize h8 ++ l9 ++ [SO.lst [.non]] ++ [SO.tup wb] ++ l13 = hz at *
  have H14 := (H13.new (.lst [v9, v13]))
  let T4 : Nat → Prop := fun i => TT i ∨ i = hz.length
  have st : zdl TT hz T4 (hz ++ [.lst [v9, v13]]) := fun i o t e => ⟨zax e, fun z => by
    rcases z with z | z
    · exact t z
    · have := (List.getElem?_eq_some_iff.mp e).1; omega⟩
  have lt4 : ∀ i, T4 i → i < (hz ++ [SO.lst [v9, v13]]).length := fun i z => by
    rw [List.length_append]; simp only [List.length_cons, List.length_nil]
    rcases z with z | z
    · have := M13.lt i z; omega
    · omega
  have g0 : ∀ (n : Nat) (y : zaU), y ∈ List.replicate n (none : zaU) → Ok y := fun n y hy => by rw [(List.mem_replicate.mp hy).2]; exact trivial
  refine ⟨s8.set 6 (some (.ref hz.length)), hz ++ [SO.lst [v9, v13]], h7.length, hz.length, ?_, T4, [⟨ga, ea, wa, v9, List.replicate n1 none, List.replicate n1 none⟩, ⟨gb, eb, wb, v13, List.replicate n2 none, List.replicate n2 none⟩], ⟨?_, ?_, ?_, ⟨?_, lt4, .inl (.inr (.inr (.inr (.inr rfl)))), .inr rfl, fun y hy => ?_⟩⟩, rfl, fun y hy => ?_⟩
  · rw [zar e4, zar e5, e14]
  · have := ((M13.no 6 (w := some (.ref hz.length))).mv st lt4).mask [true, true, true, true, false]
    exact this
  · rw [zgO (by decide)]; exact h5a
  · rw [List.getElem?_set_self (by rw [M13.ln]; show 6 < 18; omega)]
  · refine H14.perm ?_
    simp only [List.map_cons, List.map_nil, List.flatMap_cons, List.flatMap_nil, Gu.objs, List.append_nil]
    exact List.Perm.swap ..
  · simp only [List.mem_cons, List.not_mem_nil, or_false] at hy
    rcases hy with rfl | rfl
    · exact ⟨Dns.mono st _ _ dwa', st.dn d9', rfl, by simp only [List.length_replicate]; omega, by simp only [List.length_replicate]; omega, g0 _, .inl (.inl rfl), .inl (.inr (.inl rfl))⟩
    · exact ⟨Dns.mono st _ _ dwb', st.dn d13, rfl, by simp only [List.length_replicate]; omega, by simp only [List.length_replicate]; omega, g0 _, .inl (.inr (.inr (.inl rfl))), .inl (.inr (.inr (.inr (.inl rfl))))⟩
  · simp only [List.mem_cons, List.not_mem_nil, or_false] at hy
    rcases hy with rfl | rfl <;> rfl
theorem zfQ {a b : DS} {s s' : Sg} {h h' : Sh} (k : zaq a b s h = .nx s' h') : ∃ s1 h1, a s h = .nx s1 h1 ∧ b s1 h1 = .nx s' h' := by
  unfold zaq at k
  cases q : a s h with
  | nx s1 h1 => rw [q] at k; exact ⟨s1, h1, rfl, k⟩
  | _ => rw [q] at k; cases k
theorem good (ns : List Int) (hl : ns.length ≤ 63) : ∃ h', zlj [.ref zfa.length] (zfa ++ [.rol (ns.map HL.W.int)]) = .ok (.bl true) h' := by
  show ∃ h', zlj [.ref 0] [.rol (ns.map HL.W.int)] = .ok (.bl true) h'
  obtain ⟨s, h, e1, ln, h0, hs⟩ := pre_ok ns hl
  obtain ⟨s2, h2, G, S, e2, t2⟩ := rest_ok ns hl ln h0 hs
  obtain ⟨s3, h3, e3, t3⟩ := ziU (t := .fix (zcv 0 24)) (i := 7) (b := zls) (zi5 ns G S) (fun _ => trivial) (zcv 0 24) (fun w hw s h t => by
    obtain ⟨k, hk, rfl⟩ := List.mem_map.mp hw
    rw [List.mem_range] at hk
    rw [Int.zero_add]
    exact turn_ok hl hk t) s2 h2 t2
  refine ⟨h3, zjM rfl ?_⟩
  rw [law_eq]
  obtain ⟨_, _, x1, e1⟩ := zfQ e1
  obtain ⟨_, _, x2, e1⟩ := zfQ e1
  obtain ⟨_, _, x3, x4⟩ := zfQ e1
  obtain ⟨_, _, x5, e2⟩ := zfQ e2
  obtain ⟨_, _, x6, x7⟩ := zfQ e2
  rw [zar x1, zar x2, zar x3, zar x4, zar x5, zar x6, zar x7]
  rw [zar (show top_7 s2 h2 = _ from zkG (t := .fix (zcv 0 24)) rfl e3)]
  rfl
end
end K54
namespace K54
open PySem L2
def zii (zek zaZ zbX zej zcL zei zfq zcK zeh zeg zdm zcn zef zc0 zee zed zec zgu : Addr) : List (Str × Addr × List HL.W) := [("BadRow", zek, [.gl "BadRow", .gl "MillError", .ty "ValueError"]), ("Guesses", zaZ, [.gl "Guesses"]), ("MillError", zbX, [.gl "MillError", .ty "ValueError"]), ("NoCall", zej, [.gl "NoCall", .gl "MillError", .ty "ValueError"]), ("NoInputs", zcL, [.gl "NoInputs", .gl "MillError", .ty "ValueError"]), ("NoLine", zei, [.gl "NoLine", .gl "MillError", .ty "ValueError"]), ("NoLog", zfq, [.gl "NoLog", .gl "MillError", .ty "ValueError"]), ("NoMemory", zcK, [.gl "NoMemory", .gl "MillError", .ty "ValueError"]), ("NoMill", zeh, [.gl "NoMill", .gl "MillError", .ty "ValueError"]), ("NoName", zeg, [.gl "NoName", .gl "MillError", .ty "ValueError"]), ("NoPlace", zdm, [.gl "NoPlace", .gl "MillError", .ty "ValueError"]), ("NoProgram", zcn, [.gl "NoProgram", .gl "MillError", .ty "ValueError"]), ("NoSets", zef, [.gl "NoSets", .gl "MillError", .ty "ValueError"]), ("NoSize", zc0, [.gl "NoSize", .gl "MillError", .ty "ValueError"]), ("NoStep", zee, [.gl "NoStep", .gl "MillError", .ty "ValueError"]), ("NoText", zed, [.gl "NoText", .gl "MillError", .ty "ValueError"]), ("NoWord", zec, [.gl "NoWord", .gl "MillError", .ty "ValueError"]), ("Shut", zgu, [.gl "Shut", .gl "MillError", .ty "ValueError"])]
theorem all1 {P : Program} {w : World} {K : PySem.W.Frag} {mg : Str → Option Value} {zek zaZ zbX zej zcL zei zfq zcK zeh zeg zdm zcn zef zc0 zee zed zec zgu : Addr} (ze6 : mg "BadRow" = some (.ref zek)) (zbn : mg "Guesses" = some (.ref zaZ)) (zcl : mg "MillError" = some (.ref zbX)) (ze5 : mg "NoCall" = some (.ref zej)) (zdq : mg "NoInputs" = some (.ref zcL)) (ze4 : mg "NoLine" = some (.ref zei)) (zf3 : mg "NoLog" = some (.ref zfq)) (zdp : mg "NoMemory" = some (.ref zcK)) (ze3 : mg "NoMill" = some (.ref zeh)) (ze2 : mg "NoName" = some (.ref zeg)) (zd9 : mg "NoPlace" = some (.ref zdm)) (zcW : mg "NoProgram" = some (.ref zcn)) (ze1 : mg "NoSets" = some (.ref zef)) (zdo : mg "NoSize" = some (.ref zc0)) (ze0 : mg "NoStep" = some (.ref zee)) (zeZ : mg "NoText" = some (.ref zed)) (zeY : mg "NoWord" = some (.ref zec)) (zhA : mg "Shut" = some (.ref zgu)) (zcp : mg "ValueError" = none) (zfC : mg "bool" = none) (zfN : mg "int" = none) (zaz : mg "isinstance" = none) (zdX : mg "len" = none) (zdO : mg "list" = none) (zi8 : mg "max" = none) (zi7 : mg "min" = none) (zel : mg "range" = none) (zdz : mg "tuple" = none) (hi : ∀ p ∈ zii zek zaZ zbX zej zcL zei zfq zcK zeh zeg zdm zcn zef zc0 zee zed zec zgu, p.2.2.contains (.ty "ValueError") = false → zlv K p.2.1) (hx : ∀ p ∈ zii zek zaZ zbX zej zcL zei zfq zcK zeh zeg zdm zcn zef zc0 zee zed zec zgu, p.2.2.contains (.ty "ValueError") = true → zih K p.2.1) (hb : isiX K (zii zek zaZ zbX zej zcL zei zfq zcK zeh zeg zdm zcn zef zc0 zee zed zec zgu) = true) (zay : Cls K zaZ) (zbx : MkC K mg "Guesses" zaZ) (zci : zew K zaZ "entries") (zbZ : ∃ u, mg "LEAST_SURE" = some u ∧ zaV (.int 0) u) (zcm : ∃ u, mg "MOST_SURE" = some u ∧ zaV (.int 3) u) (zbh : ∃ u, mg "NEW_SURE" = some u ∧ zaV (.int 2) u) (exm_MillError_NoSize : PySem.W.exmOne K (.ref zc0) (.ref zbX) = some true) (zdY : Exc0 K mg "NoSize" zc0) (zfk : zaG K mg "_law_cell" zdE) (zfh : zaG K mg "is_number" zdB) (zfg : zaG K mg "is_within" zdA) (zcC : zb8 K zaZ "__init__" "Guesses.__init__" zbO ["self", "size"]) (zc9 : zb8 K zaZ "slots" "Guesses.slots" zcb ["self"]) (zfi : zaG K mg "_law_made" zdC) (zc8 : zaG K mg "_law_place_by" zca) (zdu : zaG K mg "_law_goal_by" zcu) (zdU : zaG K mg "slot_copied" zcM) (zex : zaG K mg "with_slots" zdf) (zbI : zb8 K zaZ "slot_number" "Guesses.slot_number" za7 ["self", "place"]) (zhK : zaG K mg "learnt" zfR) (zda : zb8 K zaZ "learn" "Guesses.learn" zcc ["self", "place", "goal"]) (zdV : zaG K mg "_law_learnt" zcN) (zey : zaG K mg "_law_guess" zdg) (zdb : zb8 K zaZ "guess" "Guesses.guess" zcd ["self", "place"]) (zfj : zaG K mg "_law_kept" zdD) (F_law : zaG K mg "law" zkD) : LawR P w K mg 6 :=
  all (γ := gm mg) (ρ := fun _ => 0) ⟨zcp,
    zfC,
    zfN,
    zaz,
    zdX,
    zdO,
    zi8,
    zi7,
    zel,
    zdz,
    zlS (by intro p hp; simp only [zii, List.mem_cons, List.not_mem_nil, or_false] at hp; rcases hp with rfl | rfl | rfl | rfl | rfl | rfl | rfl | rfl | rfl | rfl | rfl | rfl | rfl | rfl | rfl | rfl | rfl | rfl <;> (first | exact zaF ze6 | exact zaF zbn | exact zaF zcl | exact zaF ze5 | exact zaF zdq | exact zaF ze4 | exact zaF zf3 | exact zaF zdp | exact zaF ze3 | exact zaF ze2 | exact zaF zd9 | exact zaF zcW | exact zaF ze1 | exact zaF zdo | exact zaF ze0 | exact zaF zeZ | exact zaF zeY | exact zaF zhA)) hi hx hb,
    (by rw [zaF zbn]; exact zay),
    (by rw [zaF zbn]; exact zbx),
    (by rw [zaF ze6]; exact ze6),
    (by rw [zaF zcl]; exact zcl),
    (by rw [zaF ze5]; exact ze5),
    (by rw [zaF zdq]; exact zdq),
    (by rw [zaF ze4]; exact ze4),
    (by rw [zaF zf3]; exact zf3),
    (by rw [zaF zdp]; exact zdp),
    (by rw [zaF ze3]; exact ze3),
    (by rw [zaF ze2]; exact ze2),
    (by rw [zaF zd9]; exact zd9),
    (by rw [zaF zcW]; exact zcW),
    (by rw [zaF ze1]; exact ze1),
    (by rw [zaF zdo]; exact zdo),
    (by rw [zaF ze0]; exact ze0),
    (by rw [zaF zeZ]; exact zeZ),
    (by rw [zaF zeY]; exact zeY),
    (by rw [zaF zhA]; exact zhA),
    (by intro c hc; rw [List.mem_singleton.mp hc, zaF zbn]; exact ⟨zay, zci⟩),
    zbZ,
    zcm,
    zbh,
    (by intro c hc; simp only [List.contains_cons, List.contains_nil, Bool.or_false, beq_iff_eq] at hc; subst hc; rw [zaF zcl, zaF zdo]; exact exm_MillError_NoSize),
    (by rw [zaF zdo]; exact zdY)⟩ zfM.nil zfk
    zfh
    zfg
    (by rw [zaF zbn]; exact zcC)
    (by rw [zaF zbn]; exact zc9)
    zfi
    zc8
    zdu
    zdU
    zex
    (by rw [zaF zbn]; exact zbI)
    zhK
    (by rw [zaF zbn]; exact zda)
    zdV
    zey
    (by rw [zaF zbn]; exact zdb)
    zfj
    F_law good
end K54
open PySem PySem.W PyProof.Rows
set_option maxRecDepth 100000 in
set_option maxHeartbeats 0 in
theorem PySem.Challenge.cw_rowmill_k54_sizes_and_slots_holds : PySem.Challenge.rw_rowmill_k54_sizes_and_slots.Holds := by
  w_on; o_law; k_head; (case hw => w_witness2)
  k_fill
  refine L2.zly (l := PySem.Challenge.rw_rowmill_k54_sizes_and_slots) (k := 6) rfl rfl ⟨rfl, by decide, by decide⟩ (fun w h Y => PySem.W.kIn_of Y) rfl ?F
  case F =>
    intro w mg h KX G
    refine' K54.all1 ?ze6 ?zbn ?zcl ?ze5 ?zdq ?ze4 ?zf3 ?zdp ?ze3 ?ze2 ?zd9 ?zcW ?ze1 ?zdo ?ze0 ?zeZ ?zeY ?zhA ?zcp ?zfC ?zfN ?zaz ?zdX ?zdO ?zi8 ?zi7 ?zel ?zdz ?hi ?hx ?hb ?zay ?zbx ?zci ?zbZ ?zcm ?zbh ?exm_MillError_NoSize ?zdY (L2.zbj KX G ?a0 ?l0 ?c0 ?k0) (L2.zbj KX G ?a1 ?l1 ?c1 ?k1) (L2.zbj KX G ?a2 ?l2 ?c2 ?k2) (L2.zeU ?a3 ?l3 ?c3 ?k3 ?n3 ?b3) (L2.zeU ?a4 ?l4 ?c4 ?k4 ?n4 ?b4) (L2.zbj KX G ?a5 ?l5 ?c5 ?k5) (L2.zbj KX G ?a6 ?l6 ?c6 ?k6) (L2.zbj KX G ?a7 ?l7 ?c7 ?k7) (L2.zbj KX G ?a8 ?l8 ?c8 ?k8) (L2.zbj KX G ?a9 ?l9 ?c9 ?k9) (L2.zeU ?a10 ?l10 ?c10 ?k10 ?n10 ?b10) (L2.zbj KX G ?a11 ?l11 ?c11 ?k11) (L2.zeU ?a12 ?l12 ?c12 ?k12 ?n12 ?b12) (L2.zbj KX G ?a13 ?l13 ?c13 ?k13) (L2.zbj KX G ?a14 ?l14 ?c14 ?k14) (L2.zeU ?a15 ?l15 ?c15 ?k15 ?n15 ?b15) (L2.zbj KX G ?a16 ?l16 ?c16 ?k16) (L2.zbj KX G ?a17 ?l17 ?c17 ?k17)
    case ze6 | zbn | zcl | ze5 | zdq | ze4 | zf3 | zdp | ze3 | ze2 | zd9 | zcW | ze1 | zdo | ze0 | zeZ | zeY | zhA => exact PySem.W.mg_of KX G (by k_is)
    case zcp | zfC | zfN | zaz | zdX | zdO | zi8 | zi7 | zel | zdz => exact PySem.W.mg_none_of KX G (by k_is)
    case hi => intro p hp hv; simp only [K54.zii, List.mem_cons, List.not_mem_nil, or_false] at hp; rcases hp with rfl | rfl | rfl | rfl | rfl | rfl | rfl | rfl | rfl | rfl | rfl | rfl | rfl | rfl | rfl | rfl | rfl | rfl <;> first | (exfalso; revert hv; decide) | exact ⟨⟨by k_is, by k_is, by k_is, by k_is⟩, by k_is, by k_is, by k_is, by k_is⟩
    case hx => intro p hp hv; simp only [K54.zii, List.mem_cons, List.not_mem_nil, or_false] at hp; rcases hp with rfl | rfl | rfl | rfl | rfl | rfl | rfl | rfl | rfl | rfl | rfl | rfl | rfl | rfl | rfl | rfl | rfl | rfl <;> first | (exfalso; revert hv; decide) | exact { cl := by kernel_rfl, sa := by k_is, ga := by k_is, gt := by k_is, ha := by k_is, hn := by k_is, htk := by k_is }
    case hb | exm_MillError_NoSize => kernel_rfl
    case zay => exact ⟨by k_is, by k_is, by k_is, by k_is⟩
    case zbx => exact ⟨PySem.W.mg_of KX G (by k_is), by k_is, by k_is⟩
    case zci => unfold L2.zew; k_is
    case zbZ | zcm | zbh => exact ⟨_, PySem.W.mg_of KX G (by k_is), _, rfl⟩
    case zdY => exact ⟨PySem.W.mg_of KX G (by k_is), by kernel_rfl, by k_is⟩
    case a0 | l0 | c0 | k0 | a1 | l1 | c1 | k1 | a2 | l2 | c2 | k2 | a3 | l3 | c3 | k3 | n3 | a4 | l4 | c4 | k4 | n4 | a5 | l5 | c5 | k5 | a6 | l6 | c6 | k6 | a7 | l7 | c7 | k7 | a8 | l8 | c8 | k8 | a9 | l9 | c9 | k9 | a10 | l10 | c10 | k10 | n10 | a11 | l11 | c11 | k11 | a12 | l12 | c12 | k12 | n12 | a13 | l13 | c13 | k13 | a14 | l14 | c14 | k14 | a15 | l15 | c15 | k15 | n15 | a16 | l16 | c16 | k16 | a17 | l17 | c17 | k17 => k_is
    case b3 | b10 | b15 => exact fun s us X hl => match us, hl with | [_, _], _ => PySem.W.kp_binds X (fun S => by kernel_rfl)
    case b4 => exact fun s us X hl => match us, hl with | [_], _ => PySem.W.kp_binds X (fun S => by kernel_rfl)
    case b12 => exact fun s us X hl => match us, hl with | [_, _, _], _ => PySem.W.kp_binds X (fun S => by kernel_rfl)
